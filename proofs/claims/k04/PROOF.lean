import PyProof.Rows.All
import Wide.All
import OpenK.AllK
import Wide.FinOn
import PyProof.EqAt
import PyProof.EqKinds
import PyProof.TupleCall
import PyProof.NoPylong
import PyProof.StrReplace2
import KE.KOpsOwn
import KE.GoesMore
import KE.GoesEnum
import HandS.ForMost
import HandS.ForExc
import HandS.IsInst
import HandS.Wide
import HandS.EndBits
import HandS.Style
import HandS.Zip
import HandS.Walk
import HandS.Defaults
import KE.KExcIs
import HandS.ExcInit
import HandS.More
import KE.KNestM
import HandS.HotCalls
import HandS.ExcIs
import HandS.Lambda
import HandS.EndTab
import HandS.Text
import HandS.StrMore
import HandS.RevTup
import HandS.Rev
import PySem.Challenge.RW_surelevels_k04_number_texts
set_option Elab.async false
set_option linter.all false
set_option maxRecDepth 100000
set_option maxHeartbeats 4000000
/-! Lay0: what every law of this program leans on, beside the library: own operators, great numbers, enumerate of a tuple. -/
namespace PySem.W
open PySem PySem.Calls PyProof.Rows
section
variable {prog : Program} {w : World} {A : Around} {E : Value → Shared → Prop} {s : Shared} {K : Frag} {x C L f : Addr} {h₀ : Heap} {m : Str → Option Value} {ox : Obj} {od : Option Obj} {nm T : String}

/-- x op b, x an own instance, b of a built-in type that the heap may tell -/
theorem gy_binT {op : Operator} {b : Value} {fo ro rc : Option Value} {Q : Value → Shared → Prop} (F : Fr h₀ L s.heap m) (X₀ : K.In h₀) (I : InstAt s.heap x ox C od) (hb : Looks (model prog w) s.heap (typeOf b) (.type T)) (hc : selfFirst K C = true)
    (hs : findIn K (.ref C) (PySem.dunder op.info.2) = some (some (.ref f))) (hf : isFn K (.ref f) = true) (hr : findIn K (.ref C) (dunderR op.info.2) = some rc) (hp : rc = none ∨ ∃ g : Addr, rc = some (.ref g))
    (h1 : findIn K (.type T) (PySem.dunder op.info.2) = some fo) (h2 : findIn K (.type T) (dunderR op.info.2) = some ro) (hsub : subIn K (.type T) (.ref C) = some false)
    (h : wpAny (model prog w) A (call (.ref f) [.ref x, b]) (CmpBack Q) E s) : wpAny (model prog w) A (binaryOp op (.ref x) b) Q E s := by
  have X := X₀.keeps F.keep
  obtain ⟨cd, rest, hcd, hm⟩ := ksp_first hc
  rcases hi : op.info with ⟨sym, nm'⟩
  rw [hi] at hs hr h1 h2
  dsimp only at hs hr h1 h2
  have one := ksp_try X I hs hf h
  obtain ⟨hh, g, d, tt, os⟩ := s
  have L1 : Looks (model prog w) hh (typeOf (.ref x)) (.ref C) := I.type
  have L2 : Looks (model prog w) hh (typeOf b) (.type T) := hb
  have L3 : Looks (model prog w) hh (fillsNumberSlot (.ref C) nm') true := fills_K X hcd hm hs
  have L4 : Looks (model prog w) hh (fillsNumberSlot (.type T) nm') ((fo.isSome && !isSeqSlot fo) || (ro.isSome && !isSeqSlot ro)) := ksp_fillsT X h1 h2
  have L5 : Looks (model prog w) hh (isSubtype (.type T) (.ref C)) false := looks_subIn X hsub
  have L6 : Looks (model prog w) hh (numberSlotInPython (.ref C) nm') true := ksp_inPy X hs hr hp
  have L7 : Looks (model prog w) hh (numberSlotInPython (.type T) nm') false := Looks.of_pure rfl
  have L8 : Looks (model prog w) hh (typeLookup (.type T) (dunderR nm')) ro := looks_findIn X h2
  generalize ((fo.isSome && !isSeqSlot fo) || (ro.isSome && !isSeqSlot ro)) = right at L4
  have hne : (Value.ref C == Value.type T) = false := Bool.eq_false_iff.mpr fun q => by cases beq_iff_eq.mp q
  simp only [binaryOp, hi]
  refine wpAny_holding (wpAny_bind ?_)
  unfold binaryOp1
  refine wpAny_bind (L1.at (wpAny_bind (L2.at (wpAny_bind (L3.at ?_)))))
  simp only [hne, Bool.false_eq_true, if_false]
  cases right with
  | false =>
    ksp_lk
    refine wpAny_mono one (fun r s' hr' => ?_) fun _ _ e => e
    obtain ⟨v, rfl, hq⟩ := hr'
    ksp_lk
    exact hq
  | true =>
    ksp_lk
    refine wpAny_mono one (fun r s' hr' => ?_) fun _ _ e => e
    obtain ⟨v, rfl, hq⟩ := hr'
    ksp_lk
    exact hq

/-- the class of x fills the slot by its reflected method -/
theorem gy_fillsR {M : Model} {h : Heap} {cd : ClassData} {rest : List Value} {fd : Option Value} (X : K.In h) (hc : clsIn K C = some cd) (hm : cd.mro = .ref C :: rest) (hd : findIn K (.ref C) (PySem.dunder nm) = some fd) (hp : fd = none ∨ ∃ g : Addr, fd = some (.ref g))
    (hs : findIn K (.ref C) (dunderR nm) = some (some (.ref f))) : Looks M h (fillsNumberSlot (.ref C) nm) true := by
  rcases hp with rfl | ⟨g, rfl⟩
  · intro A Q E s k q
    unfold fillsNumberSlot
    refine wpAny_bind ((looks_clsIn X hc).andThen (f := fun cd => pure cd.mro) .now A _ E s k ?_)
    rw [hm, List.anyM_cons]
    refine wpAny_bind ?_
    show wpAny M A (List.anyM _ [PySem.dunder nm, dunderR nm]) _ _ _
    rw [List.anyM_cons]
    refine wpAny_bind (wpAny_bind (looks_findIn X hd A _ E s k ?_))
    dsimp only
    refine wpAny_pure ?_
    rw [if_neg (by decide), List.anyM_cons]
    refine wpAny_bind (wpAny_bind (looks_findIn X hs A _ E s k ?_))
    dsimp only
    rw [if_pos (show (!ownNameWrapper (.ref f) (dunderR nm)) = true from rfl)]
    refine wpAny_pure ?_
    rw [if_pos rfl]
    refine wpAny_pure ?_
    rw [if_pos rfl]
    exact wpAny_pure q
  · exact fills_K X hc hm hd

/-- b op x, b of a built-in type whose own slot (if it is a number's) declines, x an own instance with the reflected method at f -/
theorem gy_binR {op : Operator} {b : Value} {fd fo ro : Option Value} {Q : Value → Shared → Prop} (F : Fr h₀ L s.heap m) (X₀ : K.In h₀) (I : InstAt s.heap x ox C od) (hb : Looks (model prog w) s.heap (typeOf b) (.type T)) (hc : selfFirst K C = true)
    (hd : findIn K (.ref C) (PySem.dunder op.info.2) = some fd) (hp : fd = none ∨ ∃ g : Addr, fd = some (.ref g))
    (hs : findIn K (.ref C) (dunderR op.info.2) = some (some (.ref f))) (hf : isFn K (.ref f) = true)
    (h1 : findIn K (.type T) (PySem.dunder op.info.2) = some fo) (h2 : findIn K (.type T) (dunderR op.info.2) = some ro) (hsub : subIn K (.ref C) (.type T) = some false)
    (hdec : ((fo.isSome && !isSeqSlot fo) || (ro.isSome && !isSeqSlot ro)) = true → ∀ P : Option Value → Shared → Prop, P none s → wpAny (model prog w) A (tryMethod b (PySem.dunder op.info.2) (.ref x)) P E s)
    (h : wpAny (model prog w) A (call (.ref f) [.ref x, b]) (CmpBack Q) E s) : wpAny (model prog w) A (binaryOp op b (.ref x)) Q E s := by
  have X := X₀.keeps F.keep
  obtain ⟨cd, rest, hcd, hm⟩ := ksp_first hc
  rcases hi : op.info with ⟨sym, nm'⟩
  rw [hi] at hs hd h1 h2 hdec
  dsimp only at hs hd h1 h2 hdec
  have one := ksp_try X I hs hf h
  obtain ⟨hh, g, d, tt, os⟩ := s
  have L1 : Looks (model prog w) hh (typeOf (.ref x)) (.ref C) := I.type
  have L2 : Looks (model prog w) hh (typeOf b) (.type T) := hb
  have L3 : Looks (model prog w) hh (fillsNumberSlot (.ref C) nm') true := gy_fillsR X hcd hm hd hp hs
  have L4 : Looks (model prog w) hh (fillsNumberSlot (.type T) nm') ((fo.isSome && !isSeqSlot fo) || (ro.isSome && !isSeqSlot ro)) := ksp_fillsT X h1 h2
  have L5 : Looks (model prog w) hh (isSubtype (.ref C) (.type T)) false := looks_subIn X hsub
  have L7 : Looks (model prog w) hh (numberSlotInPython (.type T) nm') false := Looks.of_pure rfl
  generalize ((fo.isSome && !isSeqSlot fo) || (ro.isSome && !isSeqSlot ro)) = left at L4 hdec
  have hne : (Value.type T == Value.ref C) = false := Bool.eq_false_iff.mpr fun q => by cases beq_iff_eq.mp q
  simp only [binaryOp, hi]
  refine wpAny_holding (wpAny_bind ?_)
  unfold binaryOp1
  refine wpAny_bind (L2.at (wpAny_bind (L1.at (wpAny_bind (L4.at ?_)))))
  simp only [hne, Bool.false_eq_true, if_false]
  cases left with
  | false =>
    ksp_lk
    refine wpAny_mono one (fun r s' hr' => ?_) fun _ _ e => e
    obtain ⟨v, rfl, hq⟩ := hr'
    ksp_lk
    exact hq
  | true =>
    ksp_lk
    refine hdec rfl _ ?_
    ksp_lk
    refine wpAny_mono one (fun r s' hr' => ?_) fun _ _ e => e
    obtain ⟨v, rfl, hq⟩ := hr'
    ksp_lk
    exact hq
end
end PySem.W

namespace PySem.GyDec
open PySem PySem.W
section
variable {C dx x : Addr} (a : Int) (t : Tok)
theorem add_dec : GivesAt (fun s => s.heap.get? x = some (instObj C dx)) (Builtin.«int.__add__» ⟨[.int a t, .ref x], []⟩) (.val .notImplemented) := fun prog w A R s hP h => by
  obtain ⟨hp, g, d, tk, os⟩ := s
  have hl : Heap.get? (Shared.heap ⟨hp, g, d, tk, os⟩) x = some (instObj C dx) := hP
  wp_walk using AutoSeq1.wpAny_loadPart' hl
  exact h
theorem sub_dec : GivesAt (fun s => s.heap.get? x = some (instObj C dx)) (Builtin.«int.__sub__» ⟨[.int a t, .ref x], []⟩) (.val .notImplemented) := fun prog w A R s hP h => by
  obtain ⟨hp, g, d, tk, os⟩ := s
  have hl : Heap.get? (Shared.heap ⟨hp, g, d, tk, os⟩) x = some (instObj C dx) := hP
  wp_walk using AutoSeq1.wpAny_loadPart' hl
  exact h
theorem mul_dec : GivesAt (fun s => s.heap.get? x = some (instObj C dx)) (Builtin.«int.__mul__» ⟨[.int a t, .ref x], []⟩) (.val .notImplemented) := fun prog w A R s hP h => by
  obtain ⟨hp, g, d, tk, os⟩ := s
  have hl : Heap.get? (Shared.heap ⟨hp, g, d, tk, os⟩) x = some (instObj C dx) := hP
  wp_walk using AutoSeq1.wpAny_loadPart' hl
  exact h
end
section
variable {prog : Program} {w : World} {A : Around} {E : Value → Shared → Prop} {s : Shared} {C dx x : Addr} {a : Int} {t : Tok} {P : Option Value → Shared → Prop}
theorem try_dec {name : Str} {id : String} {B : Builtin} (slot : Slot "int" name id) (entry : entryFor table id = some B) (args : argsOk id ⟨[.int a t, .ref x], []⟩)
    (g : GivesAt (fun s => s.heap.get? x = some (instObj C dx)) (B ⟨[.int a t, .ref x], []⟩) (.val .notImplemented)) (hx : s.heap.get? x = some (instObj C dx)) (h : P none s) : wpAny (model prog w) A (tryMethod (.int a t) name (.ref x)) P E s :=
  wpAny_tryMethod_declines (typeIs_int s a t) slot (call_givesAt slot (typeIs_int s a t) entry args g hx ⟨rfl, h⟩)
theorem try_add (hx : s.heap.get? x = some (instObj C dx)) (h : P none s) : wpAny (model prog w) A (tryMethod (.int a t) (PySem.dunder Operator.Add.info.2) (.ref x)) P E s :=
  try_dec (name := PySem.dunder Operator.Add.info.2) (id := "int.__add__") (B := Builtin.«int.__add__») F.slot_int_add F.entry_int_add (F.args_int_add_2 _ _) (add_dec a t) hx h
theorem try_sub (hx : s.heap.get? x = some (instObj C dx)) (h : P none s) : wpAny (model prog w) A (tryMethod (.int a t) (PySem.dunder Operator.Sub.info.2) (.ref x)) P E s :=
  try_dec (name := PySem.dunder Operator.Sub.info.2) (id := "int.__sub__") (B := Builtin.«int.__sub__») F.slot_int_sub F.entry_int_sub (F.args_int_sub_2 _ _) (sub_dec a t) hx h
theorem try_mul (hx : s.heap.get? x = some (instObj C dx)) (h : P none s) : wpAny (model prog w) A (tryMethod (.int a t) (PySem.dunder Operator.Mult.info.2) (.ref x)) P E s :=
  try_dec (name := PySem.dunder Operator.Mult.info.2) (id := "int.__mul__") (B := Builtin.«int.__mul__») F.slot_int_mul F.entry_int_mul (F.args_int_mul_2 _ _) (mul_dec a t) hx h
end
end PySem.GyDec

namespace L2
open PySem PySem.Spec PyProof.Rows
/-! ### an own class's operators -/
/-- what the text says of the class at C for the operator op: its method at g, its reflected one at r -/
structure GyOp (K : PySem.W.Frag) (C : Addr) (op : Operator) (g r : Addr) : Prop where
  sf : PySem.W.selfFirst K C = true
  d : PySem.W.findIn K (.ref C) (PySem.dunder op.info.2) = some (some (.ref g))
  df : PySem.W.isFn K (.ref g) = true
  rm : PySem.W.findIn K (.ref C) (dunderR op.info.2) = some (some (.ref r))
  rf : PySem.W.isFn K (.ref r) = true
  i1 : ∃ fo, PySem.W.findIn K (.type "int") (PySem.dunder op.info.2) = some fo
  i2 : ∃ ro, PySem.W.findIn K (.type "int") (dunderR op.info.2) = some ro
  up : PySem.W.subIn K (.type "int") (.ref C) = some false
  dn : PySem.W.subIn K (.ref C) (.type "int") = some false
theorem gy_back {P : Value → Shared → Prop} {z : V} {v : Value} {s' : Shared} (r : RelV z v) (h : P v s') : PySem.W.CmpBack P v s' := by
  cases z with
  | non => cases (show v = Value.none from r); exact h
  | bl b => cases (show v = Value.bool b from r); exact h
  | int i => obtain ⟨t, e⟩ := (show ∃ t, v = Value.int i t from r); cases e; exact h
  | str x => obtain ⟨t, e⟩ := (show ∃ t, v = Value.str x t from r); cases e; exact h
  | byt b => obtain ⟨t, e⟩ := (show ∃ t, v = Value.bytes b t from r); cases e; exact h
  | flt b => obtain ⟨t, e⟩ := (show ∃ t, v = Value.float b t from r); cases e; exact h
  | ref a => cases (show v = Value.ref a from r); exact h
  | ty n => cases (show v = Value.type n from r); exact h
section
variable {X : Cx} {CX : CXT} {pins : List (Addr × Obj)} {σ : St} {H : Hp} {s : Shared} {a C dx g r : Addr} {fs : List (Str × V)} {k : Nat} {fd : FuncData} {ps : List Str} {sp : Sp} {E : XK}
theorem ins_at (I : Inv X pins σ H s) (h : H a = some (.ins C dx fs)) : ∃ od, PySem.W.InstAt s.heap a (PySem.W.instObj C dx) C (some od) ∧ s.heap.get? a = some (PySem.W.instObj C dx) := by
  obtain ⟨mA, O, _⟩ := ins_get I.hok h
  obtain ⟨od, J, _⟩ := O.look
  exact ⟨od, J, J.at_⟩
/-- x op y, x an instance, y an instance or an int -/
def rGyD (C : Addr) (sp : Sp) (E : XK) : R2 := fun x y H Q => ∃ a dx fs, x = .ref a ∧ H a = some (.ins C dx fs) ∧ ((∃ b dy gs, y = .ref b ∧ H b = some (.ins C dy gs)) ∨ ∃ i, y = .int i) ∧ sp [x, y] H Q E
theorem op_gyD {op : Operator} (D : GyOp X.K C op g r) (F : FnOk X.prog X.w X.K X.mg X.base CX k g fd ps sp) (hr : Room k X.A) (hb : Binds X.K fd ps []) (hx : Passes CX X E) : OpR X (binaryOp op) (rGyD C sp E) := by
  intro pins s σ H x y v u Q I rx ry h
  obtain ⟨a, dx, fs, rfl, ha, hy, q⟩ := h
  obtain rfl : v = Value.ref a := rx
  obtain ⟨od, J, _⟩ := ins_at I ha
  obtain ⟨m, hF⟩ := I.fr
  have q' : sp ([.ref a, y] ++ []) H Q E := q
  have go : wpAny (model X.prog X.w) X.A (call (.ref g) [.ref a, u]) (PySem.W.CmpBack (EP X pins σ Q)) X.xe s :=
    wpAny_mono (run_fn (us := [.ref a, u]) (vs := [.ref a, y]) F hr hb .nil hx I (.cons rfl (.cons ry .nil)) q') (fun w s' z => by
      obtain ⟨z', H', I', rz, qz⟩ := z
      exact gy_back rz ⟨z', H', I', rz, qz⟩) fun _ _ e => e
  rcases hy with ⟨b, dy, gs, rfl, hb'⟩ | ⟨i, rfl⟩
  · obtain rfl : u = Value.ref b := ry
    obtain ⟨od', J', _⟩ := ins_at I hb'
    exact PySem.W.binop_K hF I.ok.mod.kin J J'.type D.sf D.d D.df go
  · obtain ⟨t, rfl⟩ := ry
    obtain ⟨fo, h1⟩ := D.i1
    obtain ⟨ro, h2⟩ := D.i2
    exact PySem.W.gy_binT hF I.ok.mod.kin J (PySem.W.Looks.of_pure rfl) D.sf D.d D.df D.rm (.inr ⟨r, rfl⟩) h1 h2 D.up go
/-- n op y, n an int, y an instance: its reflected method -/
def rGyR (C : Addr) (sp : Sp) (E : XK) : R2 := fun x y H Q => ∃ i b dy gs, x = .int i ∧ y = .ref b ∧ H b = some (.ins C dy gs) ∧ sp [y, x] H Q E
theorem op_gyR {op : Operator} (D : GyOp X.K C op g r) (dec : ∀ (A : Around) (E : Value → Shared → Prop) (s : Shared) (C dx x : Addr) (a : Int) (t : Tok) (P : Option Value → Shared → Prop), s.heap.get? x = some (PySem.W.instObj C dx) → P none s →
      wpAny (model X.prog X.w) A (tryMethod (.int a t) (PySem.dunder op.info.2) (.ref x)) P E s)
    (F : FnOk X.prog X.w X.K X.mg X.base CX k r fd ps sp) (hr : Room k X.A) (hb : Binds X.K fd ps []) (hx : Passes CX X E) : OpR X (binaryOp op) (rGyR C sp E) := by
  intro pins s σ H x y v u Q I rx ry h
  obtain ⟨i, b, dy, gs, rfl, rfl, hb', q⟩ := h
  obtain ⟨t, rfl⟩ := rx
  obtain rfl : u = Value.ref b := ry
  obtain ⟨od, J, hg⟩ := ins_at I hb'
  obtain ⟨m, hF⟩ := I.fr
  obtain ⟨fo, h1⟩ := D.i1
  obtain ⟨ro, h2⟩ := D.i2
  have q' : sp ([.ref b, .int i] ++ []) H Q E := q
  have go : wpAny (model X.prog X.w) X.A (call (.ref r) [.ref b, .int i t]) (PySem.W.CmpBack (EP X pins σ Q)) X.xe s :=
    wpAny_mono (run_fn (us := [.ref b, .int i t]) (vs := [.ref b, .int i]) F hr hb .nil hx I (.cons rfl (.cons ⟨t, rfl⟩ .nil)) q') (fun w s' z => by
      obtain ⟨z', H', I', rz, qz⟩ := z
      exact gy_back rz ⟨z', H', I', rz, qz⟩) fun _ _ e => e
  exact PySem.W.gy_binR hF I.ok.mod.kin J (PySem.W.Looks.of_pure rfl) D.sf D.d (.inr ⟨g, rfl⟩) D.rm D.rf h1 h2 D.dn (fun _ P hp => dec X.A _ s C dy b i t P hg hp) go
theorem op_gyRadd (D : GyOp X.K C .Add g r) (F : FnOk X.prog X.w X.K X.mg X.base CX k r fd ps sp) (hr : Room k X.A) (hb : Binds X.K fd ps []) (hx : Passes CX X E) : OpR X (binaryOp .Add) (rGyR C sp E) :=
  op_gyR D (fun A E s C dx x a t P hx hp => GyDec.try_add hx hp) F hr hb hx
theorem op_gyRsub (D : GyOp X.K C .Sub g r) (F : FnOk X.prog X.w X.K X.mg X.base CX k r fd ps sp) (hr : Room k X.A) (hb : Binds X.K fd ps []) (hx : Passes CX X E) : OpR X (binaryOp .Sub) (rGyR C sp E) :=
  op_gyR D (fun A E s C dx x a t P hx hp => GyDec.try_sub hx hp) F hr hb hx
theorem op_gyRmul (D : GyOp X.K C .Mult g r) (F : FnOk X.prog X.w X.K X.mg X.base CX k r fd ps sp) (hr : Room k X.A) (hb : Binds X.K fd ps []) (hx : Passes CX X E) : OpR X (binaryOp .Mult) (rGyR C sp E) :=
  op_gyR D (fun A E s C dx x a t P hx hp => GyDec.try_mul hx hp) F hr hb hx
/-- -x of an instance -/
def rGyN (C : Addr) (sp : Sp) (E : XK) : V → Hp → VK → Prop := fun x H Q => ∃ a dx fs, x = .ref a ∧ H a = some (.ins C dx fs) ∧ sp [x] H Q E
theorem un_gyN (hs : PySem.W.findIn X.K (.ref C) "__neg__" = some (some (.ref g))) (hf : PySem.W.isFn X.K (.ref g) = true) (F : FnOk X.prog X.w X.K X.mg X.base CX k g fd ps sp) (hr : Room k X.A) (hb : Binds X.K fd ps []) (hx : Passes CX X E) :
    UnR X (unaryOp .USub) (rGyN C sp E) := by
  intro pins s σ H x v Q I rx h
  obtain ⟨a, dx, fs, rfl, ha, q⟩ := h
  obtain rfl : v = Value.ref a := rx
  obtain ⟨od, J, _⟩ := ins_at I ha
  obtain ⟨m, hF⟩ := I.fr
  have q' : sp ([.ref a] ++ []) H Q E := q
  exact PySem.W.ksp_neg hF I.ok.mod.kin J hs hf (run_fn (us := [.ref a]) (vs := [.ref a]) F hr hb .nil hx I (.cons rfl .nil) q')
end
/-! ### great numbers -/
section
variable {X : Cx}
def GDiv (_ j : Int) : Prop := j ≠ 0 ∧ j.natAbs.log2 < 9000
theorem op_mulG : OpR X (binaryOp .Mult) (rI IntMulOk fun i j => .int (i * j)) := opI fun _ _ _ _ _ _ _ hc q => mul_int q hc
theorem op_fdivG : OpR X (binaryOp .FloorDiv) (rI GDiv fun i j => .int (i.fdiv j)) := opI fun _ _ _ _ _ _ _ hc q => floordiv_int hc.1 q (.inl (PyProof.noPylong_of_log2 hc.2))
end
theorem gDiv_lt {i j : Int} {b : Nat} (h : j ≠ 0) (hb : j.natAbs < 2 ^ b) (h0 : 0 < b) (h9 : b ≤ 9000) : GDiv i j := ⟨h, Nat.lt_of_lt_of_le (PySem.Flt.log2_lt_of h0 hb) h9⟩
end L2

namespace PySem
open PySem.W PyProof.Rows AutoSeq1
theorem gy_enum_new (l : Addr) (items : Array Value) (o : Obj) (n : Nat) (ho : o.cls = .type "tuple" ∧ o.data = .seq items n) :
    Meets (Builtin.«enumerate.__new__» ⟨[.type "enumerate", .ref l], []⟩) (fun _ R s => s.heap.get? l = some o ∧
      R (.ok (.ret (.ref (s.heap.push { cls := .type "tuple_iterator", data := .fields #[.ref l, .int 0 0] }).objs.size)))
        { s with heap := (s.heap.push { cls := .type "tuple_iterator", data := .fields #[.ref l, .int 0 0] }).push { cls := .type "enumerate", data := .fields #[.none, .bool false, .ref s.heap.objs.size, rawInt 0, .none, .none] } }) :=
  .of_wp fun prog w A R s h => by
    obtain ⟨hp, g, d, tk, os⟩ := s
    obtain ⟨hl, h⟩ := h
    have hsub := sub_enumerate
    have hL : Heap.IsTuple (Shared.heap ⟨hp, g, d, tk, os⟩) l items := ⟨_, hl, ho.1, n, ho.2⟩
    wp_walk using wpAny_loadPart' hl
    refine wpAny_stack_any fun st => wpAny_pure ?_
    split
    · rename_i c _ _ _ _ _
      cases (c == Value.type "enumerate")
      · wp_walk using wpAny_loadPart' hl, wpAny_pyIter_tuple hL
        exact ⟨_, rfl, h⟩
      · wp_walk using wpAny_loadPart' hl, wpAny_pyIter_tuple hL
        exact ⟨_, rfl, h⟩
    · wp_walk using wpAny_loadPart' hl, wpAny_pyIter_tuple hL
      exact ⟨_, rfl, h⟩
section
variable {prog : Program} {w : World} {A : Around} {E : Value → Shared → Prop} {s : Shared}
theorem gy_call_enum {l : Addr} {items : Array Value} {Q : Value → Shared → Prop} (hL : IsTup s.heap l items)
    (h : ∀ h', IsEnum h' (s.heap.objs.size + 1) s.heap.objs.size 0 .none → h'.IsTupleIter s.heap.objs.size l 0 → h'.objs.size = s.heap.objs.size + 2 →
      (∀ b o, s.heap.get? b = some o → h'.get? b = some o) → Q (.ref (s.heap.objs.size + 1)) { s with heap := h' }) :
    wpAny (model prog w) A (call (.type "enumerate") [.ref l]) Q E s := by
  obtain ⟨o, hl, hc, n, hd⟩ := hL
  refine callType_new F.called_enumerate (by decide) (F.typeCall_enumerate_1 _) (F.newCall_enumerate_1 _) (fun obj => F.args_object_init_2 obj _) F.entry_enumerate_new
    (gy_enum_new l items o n ⟨hc, hd⟩) ⟨hl, ?_⟩
  have hz : (s.heap.push { cls := .type "tuple_iterator", data := .fields #[.ref l, .int 0 0] }).objs.size = s.heap.objs.size + 1 := Heap.size_push ..
  show _ ∧ _
  rw [hz]
  have he : IsEnum ((s.heap.push { cls := .type "tuple_iterator", data := .fields #[.ref l, .int 0 0] }).push
      { cls := .type "enumerate", data := .fields #[.none, .bool false, .ref s.heap.objs.size, rawInt 0, .none, .none] }) (s.heap.objs.size + 1) s.heap.objs.size 0 .none := by
    have := Heap.get?_push_size (s.heap.push { cls := .type "tuple_iterator", data := .fields #[.ref l, .int 0 0] })
      (o := { cls := .type "enumerate", data := .fields #[.none, .bool false, .ref s.heap.objs.size, rawInt 0, .none, .none] }) rfl
    rw [hz] at this; exact this
  refine ⟨⟨_, he, rfl⟩, h _ he ⟨_, Heap.get?_push_of_some _ (Heap.get?_push_size _ rfl), rfl, rfl⟩ (by rw [Heap.size_push, hz]) fun b o x => Heap.get?_push_of_some _ (Heap.get?_push_of_some _ x)⟩
end
end PySem
namespace L2
open PySem PySem.Spec PyProof.Rows
/-! ### enumerate of a tuple -/
def IteT (K : PySem.W.Frag) (a : Addr) : It :=
  ⟨fun i H => ∃ (xs : List V) (x : V), SqT K H a xs ∧ xs[i]? = some x, fun i H v H' => ∃ T x, v = .ref T ∧ H T = none ∧ H' = upd H T (.tup [.int (i : Nat), x]) ∧ ∀ xs, SqT K H a xs → xs[i]? = some x, fun i H => ∃ xs : List V, SqT K H a xs ∧ xs.length ≤ i⟩
theorem turn_enumT {P : Program} {w : World} {K : PySem.W.Frag} {elts : List Expr} {kk : Nat} {tpos : Pos} (a e it : Addr) :
    Turn P w K (.Tuple elts kk tpos) (IteT K a) [e, it] e (fun i h => (∃ old, IsEnum h e it ((i : Nat) : Int) old) ∧ h.IsTupleIter it a i ∧ e ≠ it) where
  mem := by simp
  obj := fun i h st b hb => by
    obtain ⟨⟨old, he⟩, ⟨o, ho, hc, hd⟩, _⟩ := st
    have e' : b = e ∨ b = it := by simpa using hb
    rcases e' with z | z
    · rw [z]; exact ⟨_, he, fun v q => nomatch q⟩
    · rw [z]; exact ⟨o, ho, fun v q => by rw [hd] at q; cases q⟩
  keep := fun i h h' st k => let ⟨⟨old, he⟩, hi, hne⟩ := st; ⟨⟨old, k e (by simp) _ he⟩, hi.at fun o q => k it (by simp) o q, hne⟩
  item := by
    intro X hP hw hK hc i pins s σ H E I hf st hg
    subst hP hw hK
    obtain ⟨⟨old, he⟩, hit, hne⟩ := st
    obtain ⟨xs, x, hq, hx⟩ := hg
    obtain ⟨its, rv, p, hz⟩ := I.tuple hq
    obtain ⟨u, hu, ru⟩ := rv.get hx
    have hel : e < s.heap.objs.size := Heap.lt_size he
    have hil : it < s.heap.objs.size := by obtain ⟨_, q, _⟩ := hit; exact Heap.lt_size q
    have pa : s.heap.IsTuple a its.toArray := p
    have ha_it : a ≠ it := by
      intro z
      obtain ⟨o, h1, h2, _⟩ := p
      obtain ⟨o', h3, h4, _⟩ := hit
      rw [z, h3] at h1
      cases h1
      rw [h2] at h4
      exact absurd (Value.type.inj h4) (by decide)
    have ha_e : a ≠ e := by
      intro z
      obtain ⟨o, h1, h2, _⟩ := p
      have h3 := he
      unfold IsEnum at h3
      rw [z, h3] at h1
      cases h1
      exact absurd (Value.type.inj h2) (by decide)
    have hhd : X.A.in1.handled = none := I.ok.hd hc
    have hlt : i < its.toArray.size := by
      have := (List.getElem?_eq_some_iff.mp hu).1
      simpa using this
    refine wpAny_pyNext_enum_itemD (Draws.tuple (prog := X.prog) (w := X.w) hhd it a ha_it its.toArray) he ⟨hit, pa⟩ hlt hne (by simp [hne, ha_e.symm]) fun y h' tk hy ho hst hT hsz hk => ?_
    have hyu : y = u := by
      have h1 : its.toArray[i]? = some y := hy
      have h2 : its[i]? = some y := by simpa using h1
      rw [hu] at h2
      exact (Option.some.inj h2).symm
    subst hyu
    refine ⟨_, rfl, wpAny_letOwnedTupleGo_enum (s := { s with heap := h', toks := tk + 1 }) ho fun h'' he' sb => ?_⟩
    have hT2 : h''.get? s.heap.objs.size = some { cls := .type "tuple", data := .seq #[.int i tk, y] } := (sb.2 _ (Nat.ne_of_gt hel)).trans hT
    have new : ObjOk X.prog X.w (upd H s.heap.objs.size (.tup [.int (i : Nat), x])) h'' s.heap.objs.size (.tup [.int (i : Nat), x]) :=
      ⟨by show 2 ≤ sizeLine; decide, [.int i tk, y], .cons ⟨_, rfl⟩ (.cons ru .nil), ⟨_, hT2, rfl, _, rfl⟩⟩
    have I1 : Inv X pins σ (upd H s.heap.objs.size (.tup [.int (i : Nat), x])) { s with heap := h'', toks := tk + 1 } :=
      I.turnedNew (ch := [e, it]) (fun b ob hb q => (sb.2 b (fun z => hb (by simp [z]))).trans (hk b ob (fun z => hb (by simp [z])) (fun z => hb (by simp [z])) q)) hf (Nat.le_refl _) new
    refine ⟨.ref s.heap.objs.size, _, I1, rfl, ⟨_, x, rfl, I.hok.fresh (Nat.le_refl _), rfl, fun ys hy => by rw [I.tuple_inj hy hq]; exact hx⟩, ⟨⟨y, ?_⟩, hst.1.at fun o q => (sb.2 it (Ne.symm hne)).trans q, hne⟩, fun b hb => ?_⟩
    · have e1 : ((i + 1 : Nat) : Int) = (i : Int) + 1 := by omega
      rw [e1]; exact he'
    · have hb' : b < s.heap.objs.size := by
        have e' : b = e ∨ b = it := by simpa using hb
        rcases e' with z | z
        · rw [z]; exact hel
        · rw [z]; exact hil
      rw [upd_ne (Nat.ne_of_lt hb')]
      exact (hf b hb).1
  done := by
    intro X hP hw hK hc i pins s σ H E I hf st hg
    subst hP hw hK
    obtain ⟨⟨old, he⟩, hit, hne⟩ := st
    obtain ⟨xs, hq, hx⟩ := hg
    obtain ⟨its, rv, p, hz⟩ := I.tuple hq
    obtain ⟨f0, f1, f2, f3, f4, f5⟩ := hf it (by simp)
    have hl := rv.length
    have pa : s.heap.IsTuple a its.toArray := p
    have ha_it : a ≠ it := by
      intro z
      obtain ⟨o, h1, h2, _⟩ := p
      obtain ⟨o', h3, h4, _⟩ := hit
      rw [z, h3] at h1
      cases h1
      rw [h2] at h4
      exact absurd (Value.type.inj h4) (by decide)
    have hhd : X.A.in1.handled = none := I.ok.hd hc
    have hT : s.TypeIs (.ref e) "enumerate" := ⟨_, he, rfl⟩
    unfold pyNext
    refine wpAny_bind (wpAny_attempt (wpAny_callSpecial?_slot (name := Str.ofString "__next__") hT F.slot_enumerate_next
      (wpAny_call_entry F.slot_enumerate_next hT F.entry_enumerate_next ?_ (F.args_enumerate_next_1 _))))
    show wpAny _ _ (field (.ref e) 2 >>= _) _ _ _
    refine wpAny_bind (wpAny_field he rfl (x := .ref it) rfl ?_)
    refine wpAny_bind (wpAny_nextOf_tuple_end hhd hit pa (by simp; omega) fun h' x he' hx' => ?_)
    obtain ⟨o, ho, hcl⟩ := hx'
    refine wpAny_bind (wpAny_isInstance (T := "StopIteration") (b := true) ⟨o, ho, hcl⟩ isSubtype_stop ?_)
    exact wpAny_pure ⟨rfl, I.turned (t' := s.toks) (fun b o hb q => he' b o hb q) f0 f1 f3 f4 f5⟩
  self := fun A i s Q E st h => let ⟨⟨_, he⟩, _⟩ := st; wpAny_pyIter_enum he h
def iEnumT (K : PySem.W.Frag) (ta : TA) : TI := fun σ H R => ta σ H fun vs H1 => ∃ a xs, vs = [.ref a] ∧ SqT K H1 a xs ∧ R (IteT K a) H1
theorem pi_enumT {X : Cx} {e : Expr} {ta : TA} {p pos tpos : Pos} {elts : List Expr} {kk : Nat} (hg : Gl X "enumerate") (hm : X.mg "enumerate" = none) (ha : PA X [e] ta) (hs : starEach [e] X.env = [(false, eval e X.env)] := by rfl) :
    PI X (.Tuple elts kk tpos) (.Call (.Name "enumerate" p) [e] [] pos) (iEnumT X.K ta) := by
  refine ⟨fun pins s σ H R I h => ?_⟩
  refine Call_ (ld_blt I hg hm boot_enumerate (PyProof.Rows.callWith_type1 (thn (ha.run pos pins s σ H _ I h) fun us s1 ⟨vs, H1, I1, r1, q1⟩ => ?_) hs rfl))
  obtain ⟨a, xs, ex, hq, q⟩ := q1
  subst ex
  cases r1 with
  | cons r rr =>
    cases rr
    cases r
    obtain ⟨its, rv, p', hz⟩ := I1.tuple hq
    refine gy_call_enum p' fun h' he hit hsz hk => wpAny_pyIter_enum he ?_
    have I2 : Inv X pins σ H1 { s1 with heap := h' } := I1.kept (t' := s1.toks) hk
    refine ⟨s1.heap.objs.size + 1, [s1.heap.objs.size + 1, s1.heap.objs.size], _, _, H1, rfl, I2, turn_enumT a (s1.heap.objs.size + 1) s1.heap.objs.size, ⟨⟨.none, he⟩, hit, Nat.succ_ne_self _⟩, fun b hb => ?_, q⟩
    have e' : b = s1.heap.objs.size + 1 ∨ b = s1.heap.objs.size := by simpa using hb
    have hle : s1.heap.objs.size ≤ b := by
      rcases e' with z | z
      · rw [z]; exact Nat.le_add_right _ _
      · rw [z]; exact Nat.le_refl _
    exact I1.fpOk hle (I1.hok.fresh hle)
/-- over enumerate of a tuple that stands still: the pair stands in a new tuple at T -/
theorem for_enumT {K : PySem.W.Frag} {a : Addr} {xs : List V} {g : TG} {tb : TS} {D : Ends} {σ : St} {H : Hp} (Pv : Nat → St → Hp → Prop) (h0 : Pv 0 σ H) (hl : ∀ i σ H, i ≤ xs.length → Pv i σ H → SqT K H a xs)
    (hs : ∀ i x σ H T, xs[i]? = some x → Pv i σ H → H T = none → g (.ref T) σ (upd H T (.tup [.int (i : Nat), x])) fun σ2 H2 => tb { D with nx := Pv (i + 1), ct := Pv (i + 1), bk := D.nx } σ2 H2) (hd : ∀ σ H, Pv xs.length σ H → D.nx σ H) :
    ∃ W : Nat → Nat → St → Hp → Prop, (∃ m, W 0 m σ H) ∧ ∀ i m σ H, W i m σ H →
      ((IteT K a).stop i H ∧ D.nx σ H) ∨ ((IteT K a).go i H ∧ ∃ N : St → Hp → Prop, (∀ σ' H', N σ' H' → ∃ m', m' < m ∧ W (i + 1) m' σ' H') ∧ ∀ x H', (IteT K a).yld i H x H' → g x σ H' fun σ2 H2 => tb { D with nx := N, ct := N, bk := D.nx } σ2 H2) := by
  refine ⟨fun i m σ H => m = xs.length - i ∧ i ≤ xs.length ∧ Pv i σ H, ⟨xs.length, by simp, Nat.zero_le _, h0⟩, ?_⟩
  rintro i m σ H ⟨rfl, hi, p⟩
  have q := hl i σ H hi p
  by_cases hlt : i < xs.length
  · refine .inr ⟨⟨xs, xs[i], q, by simp [hlt]⟩, Pv (i + 1), fun σ' H' p' => ⟨xs.length - (i + 1), by omega, rfl, hlt, p'⟩, fun x H' y => ?_⟩
    obtain ⟨T, z, rfl, hT, e, y⟩ := y
    subst e
    exact hs i z σ H T (y xs q) p hT
  · have e : i = xs.length := by omega
    subst e
    exact .inl ⟨⟨xs, q, Nat.le_refl _⟩, hd σ H p⟩
end L2

set_option Elab.async false
set_option linter.all false
set_option maxRecDepth 100000
set_option maxHeartbeats 4000000
/-! Lay1: heaps from one moment to the next, reduced fractions, sizes. -/
namespace Gy
open PySem L2

/-! ### heaps -/
/-- a new object, its heap by a name of its own -/
theorem alloc {H : Hp} {o : HO} {Q : V → Hp → Prop} (h : ∀ p H1, H p = none → Same H H1 → H1 p = some o → Q (.ref p) H1) : ∀ p, H p = none → Q (.ref p) (upd H p o) := fun p hp =>
  h p _ hp (fun b u e => by rw [upd_ne (ne_of_none e hp)]; exact e) upd_same
/-- all but the object at st is as it was -/
def Keep (st : Addr) (H H' : Hp) : Prop := ∀ b o, H b = some o → b ≠ st → H' b = some o
theorem Keep.refl (st : Addr) (H : Hp) : Keep st H H := fun _ _ e _ => e
theorem Keep.trans {st : Addr} {H H1 H2 : Hp} (a : Keep st H H1) (b : Keep st H1 H2) : Keep st H H2 := fun c o e n => b c o (a c o e n) n
theorem Same.keep {st : Addr} {H H1 : Hp} (a : Same H H1) : Keep st H H1 := fun c o e _ => a c o e
theorem keep_upd {st : Addr} {H : Hp} {o : HO} : Keep st H (upd H st o) := fun b u e n => by rw [upd_ne n]; exact e
theorem same_upd {p : Addr} {H : Hp} {o : HO} (h : H p = none) : Same H (upd H p o) := fun b u e => by rw [upd_ne (ne_of_none e h)]; exact e
/-- an instance that is being made -/
theorem made {H : Hp} {x dx C : Addr} (nx : H x = none) (nd : H dx = none) (ne : dx ≠ x) : Same H (upd (upd H dx (.own x)) x (.ins C dx [])) := fun b o e => by
  rw [upd_ne (ne_of_none e nx), upd_ne (ne_of_none e nd)]
  exact e

/-- the state of the draws at st: its cells are the ints ns -/
def StAt (H : Hp) (st c : Addr) (ns : List Int) : Prop := (∃ nth left mx, H st = some (.lst [.ref c, .int nth, .int left, .bl mx])) ∧ H c = some (.lst (ns.map V.int)) ∧ c ≠ st
theorem StAt.same {H H' : Hp} {st c : Addr} {ns : List Int} (h : StAt H st c ns) (e : Same H H') : StAt H' st c ns :=
  ⟨let ⟨a, b, d, z⟩ := h.1; ⟨a, b, d, e _ _ z⟩, e _ _ h.2.1, h.2.2⟩
theorem StAt.upd {H : Hp} {st c : Addr} {ns : List Int} {nth left : Int} {mx : Bool} (h : StAt H st c ns) : StAt (upd H st (.lst [.ref c, .int nth, .int left, .bl mx])) st c ns :=
  ⟨⟨nth, left, mx, upd_same⟩, by rw [upd_ne h.2.2]; exact h.2.1, h.2.2⟩

/-! ### sizes -/
theorem mulOk {a b : Int} {m n : Nat} (ha : a.natAbs < 2 ^ m) (hb : b.natAbs < 2 ^ n) (h0 : 0 < m) (h1 : 0 < n) (h : m + n ≤ 1000000) : IntMulOk a b := (wide_mul ha hb h0 h1 h).ok
theorem mulOk_l {a b : Int} (h : -(2 ^ 64) < a ∧ a < 2 ^ 64) : IntMulOk a b := (show CMul a b from .inl h).ok
theorem mulOk_r {a b : Int} (h : -(2 ^ 64) < b ∧ b < 2 ^ 64) : IntMulOk a b := (show CMul a b from .inr h).ok
theorem sz_mul {a b : Int} {m n : Nat} (ha : a.natAbs < 2 ^ m) (hb : b.natAbs < 2 ^ n) : (a * b).natAbs < 2 ^ (m + n) := wide_lt ha hb
theorem sz_add {a b : Int} {m : Nat} (ha : a.natAbs < 2 ^ m) (hb : b.natAbs < 2 ^ m) : (a + b).natAbs < 2 ^ (m + 1) := by
  rw [Nat.pow_succ]
  omega
theorem sz_sub {a b : Int} {m : Nat} (ha : a.natAbs < 2 ^ m) (hb : b.natAbs < 2 ^ m) : (a - b).natAbs < 2 ^ (m + 1) := by
  rw [Nat.pow_succ]
  omega
theorem sz_neg {a : Int} {m : Nat} (ha : a.natAbs < 2 ^ m) : (-a).natAbs < 2 ^ m := by
  rw [Int.natAbs_neg]
  exact ha
theorem sz_up {a : Int} {m n : Nat} (ha : a.natAbs < 2 ^ m) (h : m ≤ n) : a.natAbs < 2 ^ n := Nat.lt_of_lt_of_le ha (Nat.pow_le_pow_right (by decide) h)

/-! ### fractions -/
/-- what reduces a over b: their greatest common part, with b's sign -/
def red_w (a b : Int) : Int := if b < 0 then -(Int.gcd a b : Int) else (Int.gcd a b : Int)
def red (a b : Int) : Int × Int := (a.fdiv (red_w a b), b.fdiv (red_w a b))
/-- a reduced pair -/
def Rd (p : Int × Int) : Prop := 0 < p.2 ∧ Int.gcd p.1 p.2 = 1
theorem red_w_ne {a b : Int} (h : b ≠ 0) : red_w a b ≠ 0 := by
  have g : (Int.gcd a b) ≠ 0 := by
    intro z
    exact h (Int.gcd_eq_zero_iff.mp z).2
  unfold red_w
  split <;> omega
theorem gcd_le {a b : Int} (h : b ≠ 0) : Int.gcd a b ≤ b.natAbs := Nat.le_of_dvd (Int.natAbs_pos.mpr h) (by rw [Int.gcd]; exact Nat.gcd_dvd_right _ _)
theorem red_w_abs {a b : Int} : (red_w a b).natAbs = Int.gcd a b := by
  unfold red_w
  split <;> simp
theorem red_w_dvd {a b : Int} : red_w a b ∣ a ∧ red_w a b ∣ b := by
  have h1 : (Int.gcd a b : Int) ∣ a := Int.gcd_dvd_left ..
  have h2 : (Int.gcd a b : Int) ∣ b := Int.gcd_dvd_right ..
  unfold red_w
  split
  · exact ⟨Int.neg_dvd.mpr h1, Int.neg_dvd.mpr h2⟩
  · exact ⟨h1, h2⟩
/-- the two parts, times what was taken out -/
theorem red_mul {a b : Int} : (red a b).1 * red_w a b = a ∧ (red a b).2 * red_w a b = b := by
  obtain ⟨h1, h2⟩ := red_w_dvd (a := a) (b := b)
  unfold red
  exact ⟨Int.fdiv_mul_cancel h1, Int.fdiv_mul_cancel h2⟩
theorem red_rd {a b : Int} (h : b ≠ 0) : Rd (red a b) := by
  obtain ⟨e1, e2⟩ := red_mul (a := a) (b := b)
  have w0 := red_w_ne (a := a) h
  have wa := red_w_abs (a := a) (b := b)
  generalize hp : (red a b).1 = p at e1
  generalize hq : (red a b).2 = q at e2
  generalize hw : red_w a b = w at *
  refine ⟨?_, ?_⟩
  · rw [hq]
    -- b and w have the same sign
    have hs : (b < 0 → w < 0) ∧ (0 < b → 0 < w) := by
      unfold red_w at hw
      have g : 0 < Int.gcd a b := Nat.pos_of_ne_zero fun z => h (Int.gcd_eq_zero_iff.mp z).2
      constructor
      · intro hb
        rw [if_pos hb] at hw
        omega
      · intro hb
        rw [if_neg (by omega)] at hw
        omega
    rcases Int.lt_or_gt_of_ne h with hb | hb
    · have hw0 := hs.1 hb
      rcases Int.lt_trichotomy q 0 with z | z | z
      · have := Int.mul_pos_of_neg_of_neg z hw0
        omega
      · rw [z] at e2
        omega
      · exact z
    · have hw0 := hs.2 hb
      rcases Int.lt_trichotomy q 0 with z | z | z
      · have := Int.mul_neg_of_neg_of_pos z hw0
        omega
      · rw [z] at e2
        omega
      · exact z
  · rw [hp, hq]
    have e : Int.gcd a b = Int.gcd p q * w.natAbs := by rw [← e1, ← e2, Int.gcd_mul_right]
    rw [wa] at e
    have g : 0 < Int.gcd a b := Nat.pos_of_ne_zero fun z => h (Int.gcd_eq_zero_iff.mp z).2
    have : 1 * Int.gcd a b = Int.gcd p q * Int.gcd a b := by rw [Nat.one_mul]; exact e
    exact (Nat.eq_of_mul_eq_mul_right g this).symm
/-- a reduced pair made larger by a factor is what it was -/
theorem red_scale {p : Int × Int} (h : Rd p) {s : Int} (hs : s ≠ 0) : red (p.1 * s) (p.2 * s) = p := by
  obtain ⟨h1, h2⟩ := h
  have eg : Int.gcd (p.1 * s) (p.2 * s) = s.natAbs := by rw [Int.gcd_mul_right, h2, Nat.one_mul]
  have ew : red_w (p.1 * s) (p.2 * s) = s := by
    unfold red_w
    rw [eg]
    rcases Int.lt_or_gt_of_ne hs with z | z
    · rw [if_pos (Int.mul_neg_of_pos_of_neg h1 z)]
      omega
    · rw [if_neg (by have := Int.mul_pos h1 z; omega)]
      omega
  unfold red
  rw [ew]
  exact Prod.ext (Int.mul_fdiv_cancel _ hs) (Int.mul_fdiv_cancel _ hs)
theorem red_self {p : Int × Int} (h : Rd p) : red p.1 p.2 = p := by
  have := red_scale h (s := 1) (by decide)
  rwa [Int.mul_one, Int.mul_one] at this
theorem rd_int (n : Int) : Rd (n, 1) := ⟨(by decide : (0 : Int) < 1), Int.gcd_one_right ..⟩
theorem red_neg {p : Int × Int} (h : Rd p) : red (-p.1) p.2 = (-p.1, p.2) := red_self (p := (-p.1, p.2)) ⟨h.1, by show Int.gcd (-p.1) p.2 = 1; rw [Int.neg_gcd]; exact h.2⟩
theorem rd_neg {p : Int × Int} (h : Rd p) : Rd (-p.1, p.2) := ⟨h.1, by show Int.gcd (-p.1) p.2 = 1; rw [Int.neg_gcd]; exact h.2⟩
/-- parts are no larger than what they come from -/
theorem red_sz {a b : Int} {m n : Nat} (h : b ≠ 0) (ha : a.natAbs < 2 ^ m) (hb : b.natAbs < 2 ^ n) : (red a b).1.natAbs < 2 ^ m ∧ (red a b).2.natAbs < 2 ^ n := by
  obtain ⟨e1, e2⟩ := red_mul (a := a) (b := b)
  have w1 : 1 ≤ (red_w a b).natAbs := Int.natAbs_pos.mpr (red_w_ne h)
  have f : ∀ x w : Int, 1 ≤ w.natAbs → x.natAbs ≤ (x * w).natAbs := fun x w hw => by
    rw [Int.natAbs_mul]
    exact Nat.le_mul_of_pos_right _ hw
  exact ⟨Nat.lt_of_le_of_lt (Nat.le_trans (f _ _ w1) (Nat.le_of_eq (congrArg Int.natAbs e1))) ha, Nat.lt_of_le_of_lt (Nat.le_trans (f _ _ w1) (Nat.le_of_eq (congrArg Int.natAbs e2))) hb⟩
theorem red_w_sz {a b : Int} {n : Nat} (h : b ≠ 0) (hb : b.natAbs < 2 ^ n) : (red_w a b).natAbs < 2 ^ n := by
  rw [red_w_abs]
  exact Nat.lt_of_le_of_lt (gcd_le h) hb
/-- a step of Euclid -/
theorem gcd_step (a b : Int) : Int.gcd b (a.fmod b) = Int.gcd a b := by
  have e : a = b * a.fdiv b + a.fmod b := (Int.mul_fdiv_add_fmod a b).symm
  rw [Int.gcd_comm a b]
  conv => rhs; rw [e]
  rw [Int.add_comm, Int.gcd_add_mul_left_right]
theorem fmod_lt {a b : Int} (h : b ≠ 0) : (a.fmod b).natAbs < b.natAbs := by
  rcases Int.lt_or_gt_of_ne h with z | z
  · have e := Int.neg_fmod_neg a b
    have h1 := Int.fmod_nonneg_of_pos (-a) (b := -b) (by omega)
    have h2 := Int.fmod_lt_of_pos (-a) (b := -b) (by omega)
    omega
  · have h1 := Int.fmod_nonneg_of_pos a z
    have h2 := Int.fmod_lt_of_pos a z
    omega
end Gy
namespace Gy
open PySem L2
/-- a while whose test only reads: W by a measure that is not 0 where the body runs -/
theorem while_any {c : TT} {tb : TS} {D : Ends} {σ : L2.St} {H : Hp} (W : Nat → L2.St → Hp → Prop) (h0 : ∃ m, W m σ H)
    (test : ∀ m σ H (Q : Bool → Hp → Prop), W m σ H → (m ≠ 0 → Q true H) → Q false H → c σ H Q)
    (turn : ∀ m σ H, m ≠ 0 → W m σ H → tb { D with nx := fun σ' H' => ∃ m', m' < m ∧ W m' σ' H', ct := fun σ' H' => ∃ m', m' < m ∧ W m' σ' H', bk := D.nx } σ H) (done : ∀ m σ H, W m σ H → D.nx σ H) : tWhile c tb D σ H :=
  ⟨W, h0, fun m σ H w => test m σ H _ w (fun hm => iteT ⟨fun σ' H' => ∃ m', m' < m ∧ W m' σ' H', fun _ _ z => z, turn m σ H hm w⟩) (iteF (done m σ H w))⟩
end Gy
namespace Gy
open PySem L2
theorem walk_zipT {K : PySem.W.Frag} {a b : Addr} {xs ys : List V} {n : Nat} (hn : n = min xs.length ys.length) : Walk (RZ.ItzT K a b) n (fun H => SqT K H a xs ∧ SqT K H b ys) (YPair (fun i => xs[i]?) (fun i => ys[i]?)) := by
  refine ⟨fun i H hi hq => ?_, fun H hq => ?_, fun i H x H' _ hq y => ?_⟩
  · have h1 : i < xs.length := by omega
    have h2 : i < ys.length := by omega
    exact ⟨xs, ys, xs[i], ys[i], hq.1, hq.2, List.getElem?_eq_getElem h1, List.getElem?_eq_getElem h2⟩
  · refine ⟨xs, ys, hq.1, hq.2, ?_⟩
    omega
  · obtain ⟨T, u, v, rfl, nT, e, h1, h2⟩ := y
    exact ⟨T, u, v, rfl, nT, e, h1 xs hq.1, h2 ys hq.2⟩
end Gy
namespace Gy
open PySem L2
/-- a comprehension without a test keeps each item -/
theorem yes_of {σ : L2.St} {H : Hp} {A B : Hp → Prop} (h : A H) : tYes σ H fun b H3 => if b = true then A H3 else B H3 := by
  show (if true = true then A H else B H)
  exact iteT h
end Gy
namespace L2
open PySem PySem.Spec PyProof.Rows
/-- a def with defaults that lets nothing out -/
theorem FunD.ok0 {P : Program} {w : World} {K : PySem.W.Frag} {mg : Str → Option Value} {base : Heap} {x qual : Str} {params : Arguments} {body : List Stmt} {scope : Scope} {dvs : List V} {kws : List (Str × V)} {f : Addr} {fd : FuncData} {N ps : List Str} {k : Nat} {sp : Sp}
    (F : FunD K x qual params body scope dvs kws f fd) (S : FnScope N ps scope) (len : ∀ vs H Q E, sp vs H Q E → vs.length = ps.length)
    (hbody : ∀ (cdv : Value) (A : Around) (outer : List Env) (s : Shared) (H : Hp) (vs : List V) (Q : VK) (E : XK), Room k (A.deeper (envOfC qual scope s.heap.objs.size f cdv)) → sp vs H Q E →
      ∃ t, PSs (cxOf CX0 P w K mg base N qual scope f cdv A outer s H E).nox body t ∧ t { nx := fun _ H' => Q .non H', rt := Q } (start N vs) H) : FnOk P w K mg base CX0 (k + 1) f fd ps sp :=
  F.ok S len fun cdv A outer s H vs Q E hr h => let ⟨t, a, b⟩ := hbody cdv A outer s H vs Q E hr h; ⟨t, a.nox, b⟩
end L2
namespace Gy
open PySem L2
/-! ### isinstance against an own class, of an own class -/
theorem kit_self {K : PySem.W.Frag} {C : Addr} : PySem.W.kitOne K (.ref C) (.ref C) = some true := by
  unfold PySem.W.kitOne
  rw [if_pos (beq_iff_eq.mpr rfl)]
theorem kit_to {K : PySem.W.Frag} {C : Addr} {t : String} {b : Bool} (ic : PySem.W.isClsIn K C = true) (ty : PySem.W.typeIn K (.ref C) = some (.type "type")) (up : PySem.W.subIn K (.type t) (.ref C) = some b) : PySem.W.kitOne K (.type t) (.ref C) = some b := by
  unfold PySem.W.kitOne
  rw [if_neg (fun q => by cases beq_iff_eq.mp q)]
  unfold PySem.W.kitCls
  have h : ((PySem.W.clsIn K C).isSome && PySem.W.typeIn K (.ref C) == some (.type "type")) = true := by
    rw [ty, show (PySem.W.clsIn K C).isSome = true from ic]
    rfl
  show (if ((PySem.W.clsIn K C).isSome && PySem.W.typeIn K (.ref C) == some (.type "type")) = true then PySem.W.subIn K (.type t) (.ref C) else none) = some b
  rw [if_pos h]
  exact up
theorem kit_of_to {K : PySem.W.Frag} {C D : Addr} {b : Bool} (ne : C ≠ D) (ic : PySem.W.isClsIn K D = true) (ty : PySem.W.typeIn K (.ref D) = some (.type "type")) (up : PySem.W.subIn K (.ref C) (.ref D) = some b) : PySem.W.kitOne K (.ref C) (.ref D) = some b := by
  unfold PySem.W.kitOne
  rw [if_neg (fun q => ne (Value.ref.inj (beq_iff_eq.mp q)))]
  have h : ((PySem.W.clsIn K D).isSome && PySem.W.typeIn K (.ref D) == some (.type "type")) = true := by
    rw [ty, show (PySem.W.clsIn K D).isSome = true from ic]
    rfl
  show (if ((PySem.W.clsIn K D).isSome && PySem.W.typeIn K (.ref D) == some (.type "type")) = true then PySem.W.subIn K (.ref C) (.ref D) else none) = some b
  rw [if_pos h]
  exact up
theorem kit_ob {K : PySem.W.Frag} {C : Addr} {t : String} {b : Bool} (m : PySem.W.kitMeta t = true) (dn : PySem.W.subIn K (.ref C) (.type t) = some b) : PySem.W.kitOne K (.ref C) (.type t) = some b := by
  unfold PySem.W.kitOne
  rw [if_neg (fun q => by cases beq_iff_eq.mp q)]
  show (if PySem.W.kitMeta t = true then PySem.W.subIn K (.ref C) (.type t) else none) = some b
  rw [if_pos m]
  exact dn
end Gy

set_option Elab.async false
set_option linter.all false
set_option maxRecDepth 100000
set_option maxHeartbeats 4000000
/-! Lay2: comparisons of an own class: by its methods, turned about, and != by ==. -/
namespace PySem.GyDec
open PySem PySem.W AutoSeq1
section
variable {C dx x : Addr} (a : Int) (t : Tok)
abbrev GyAt (x C dx : Addr) : Shared → Prop := fun s => s.heap.get? x = some (instObj C dx)
theorem lt_dec : GivesAt (GyAt x C dx) (Builtin.«int.__lt__» ⟨[.int a t, .ref x], []⟩) (.val .notImplemented) := fun prog w A R s hP h => by
  obtain ⟨hp, g, d, tk, os⟩ := s
  have hl : Heap.get? (Shared.heap ⟨hp, g, d, tk, os⟩) x = some (instObj C dx) := hP
  wp_walk using wpAny_loadPart' hl
  exact h
theorem le_dec : GivesAt (GyAt x C dx) (Builtin.«int.__le__» ⟨[.int a t, .ref x], []⟩) (.val .notImplemented) := fun prog w A R s hP h => by
  obtain ⟨hp, g, d, tk, os⟩ := s
  have hl : Heap.get? (Shared.heap ⟨hp, g, d, tk, os⟩) x = some (instObj C dx) := hP
  wp_walk using wpAny_loadPart' hl
  exact h
theorem gt_dec : GivesAt (GyAt x C dx) (Builtin.«int.__gt__» ⟨[.int a t, .ref x], []⟩) (.val .notImplemented) := fun prog w A R s hP h => by
  obtain ⟨hp, g, d, tk, os⟩ := s
  have hl : Heap.get? (Shared.heap ⟨hp, g, d, tk, os⟩) x = some (instObj C dx) := hP
  wp_walk using wpAny_loadPart' hl
  exact h
theorem ge_dec : GivesAt (GyAt x C dx) (Builtin.«int.__ge__» ⟨[.int a t, .ref x], []⟩) (.val .notImplemented) := fun prog w A R s hP h => by
  obtain ⟨hp, g, d, tk, os⟩ := s
  have hl : Heap.get? (Shared.heap ⟨hp, g, d, tk, os⟩) x = some (instObj C dx) := hP
  wp_walk using wpAny_loadPart' hl
  exact h
theorem eq_dec : GivesAt (GyAt x C dx) (Builtin.«int.__eq__» ⟨[.int a t, .ref x], []⟩) (.val .notImplemented) := fun prog w A R s hP h => by
  obtain ⟨hp, g, d, tk, os⟩ := s
  have hl : Heap.get? (Shared.heap ⟨hp, g, d, tk, os⟩) x = some (instObj C dx) := hP
  wp_walk using wpAny_loadPart' hl
  exact h
theorem beq_dec (b : Bool) : GivesAt (GyAt x C dx) (Builtin.«int.__eq__» ⟨[.bool b, .ref x], []⟩) (.val .notImplemented) := fun prog w A R s hP h => by
  obtain ⟨hp, g, d, tk, os⟩ := s
  have hl : Heap.get? (Shared.heap ⟨hp, g, d, tk, os⟩) x = some (instObj C dx) := hP
  wp_walk using wpAny_loadPart' hl
  exact h
theorem seq_dec (y : Str) : GivesAt (GyAt x C dx) (Builtin.«str.__eq__» ⟨[.str y t, .ref x], []⟩) (.val .notImplemented) := fun prog w A R s hP h => by
  obtain ⟨hp, g, d, tk, os⟩ := s
  have hl : Heap.get? (Shared.heap ⟨hp, g, d, tk, os⟩) x = some (instObj C dx) := hP
  wp_walk using wpAny_loadPart' hl
  exact h
theorem neq_dec : GivesAt (GyAt x C dx) (Builtin.«NoneType.__eq__» ⟨[.none, .ref x], []⟩) (.val .notImplemented) := fun prog w A R s hP h => by
  obtain ⟨hp, g, d, tk, os⟩ := s
  have hl : Heap.get? (Shared.heap ⟨hp, g, d, tk, os⟩) x = some (instObj C dx) := hP
  wp_walk using wpAny_loadPart' hl
  exact h
end
section
variable {prog : Program} {w : World} {A : Around} {E : Value → Shared → Prop} {s : Shared} {C dx x : Addr} {a : Int} {t : Tok} {P : Option Value → Shared → Prop}
theorem tryC_dec {b : Value} {T : String} {name : Str} {id : String} {B : Builtin} (hT : s.TypeIs b T) (slot : Slot T name id) (entry : entryFor table id = some B) (args : argsOk id ⟨[b, .ref x], []⟩)
    (g : GivesAt (GyAt x C dx) (B ⟨[b, .ref x], []⟩) (.val .notImplemented)) (hx : s.heap.get? x = some (instObj C dx)) (h : P none s) : wpAny (model prog w) A (tryCompare b name (.ref x)) P E s :=
  wpAny_tryCompare_declines hT slot (call_givesAt slot hT entry args g hx ⟨rfl, h⟩)
theorem tryC_lt (hx : s.heap.get? x = some (instObj C dx)) (h : P none s) : wpAny (model prog w) A (tryCompare (.int a t) (cmpInfo .Lt).2.1 (.ref x)) P E s :=
  tryC_dec (T := "int") (name := (cmpInfo .Lt).2.1) (id := "int.__lt__") (B := Builtin.«int.__lt__») (typeIs_int s a t) F.slot_int_lt F.entry_int_lt (F.args_int_lt_2 _ _) (lt_dec a t) hx h
theorem tryC_le (hx : s.heap.get? x = some (instObj C dx)) (h : P none s) : wpAny (model prog w) A (tryCompare (.int a t) (cmpInfo .LtE).2.1 (.ref x)) P E s :=
  tryC_dec (T := "int") (name := (cmpInfo .LtE).2.1) (id := "int.__le__") (B := Builtin.«int.__le__») (typeIs_int s a t) F.slot_int_le F.entry_int_le (F.args_int_le_2 _ _) (le_dec a t) hx h
theorem tryC_gt (hx : s.heap.get? x = some (instObj C dx)) (h : P none s) : wpAny (model prog w) A (tryCompare (.int a t) (cmpInfo .Gt).2.1 (.ref x)) P E s :=
  tryC_dec (T := "int") (name := (cmpInfo .Gt).2.1) (id := "int.__gt__") (B := Builtin.«int.__gt__») (typeIs_int s a t) F.slot_int_gt F.entry_int_gt (F.args_int_gt_2 _ _) (gt_dec a t) hx h
theorem tryC_ge (hx : s.heap.get? x = some (instObj C dx)) (h : P none s) : wpAny (model prog w) A (tryCompare (.int a t) (cmpInfo .GtE).2.1 (.ref x)) P E s :=
  tryC_dec (T := "int") (name := (cmpInfo .GtE).2.1) (id := "int.__ge__") (B := Builtin.«int.__ge__») (typeIs_int s a t) F.slot_int_ge F.entry_int_ge (F.args_int_ge_2 _ _) (ge_dec a t) hx h
theorem tryC_eq (hx : s.heap.get? x = some (instObj C dx)) (h : P none s) : wpAny (model prog w) A (tryCompare (.int a t) (cmpInfo .Eq).2.1 (.ref x)) P E s :=
  tryC_dec (T := "int") (name := (cmpInfo .Eq).2.1) (id := "int.__eq__") (B := Builtin.«int.__eq__») (typeIs_int s a t) F.slot_int_eq F.entry_int_eq (F.args_int_eq_2 _ _) (eq_dec a t) hx h
theorem tryC_beq {b : Bool} (hx : s.heap.get? x = some (instObj C dx)) (h : P none s) : wpAny (model prog w) A (tryCompare (.bool b) (cmpInfo .Eq).2.1 (.ref x)) P E s :=
  tryC_dec (T := "bool") (name := (cmpInfo .Eq).2.1) (id := "int.__eq__") (B := Builtin.«int.__eq__») rfl F.slot_bool_eq F.entry_int_eq (F.args_int_eq_2 _ _) (beq_dec b) hx h
theorem tryC_seq {y : Str} (hx : s.heap.get? x = some (instObj C dx)) (h : P none s) : wpAny (model prog w) A (tryCompare (.str y t) (cmpInfo .Eq).2.1 (.ref x)) P E s :=
  tryC_dec (T := "str") (name := (cmpInfo .Eq).2.1) (id := "str.__eq__") (B := Builtin.«str.__eq__») (typeIs_str s y t) F.slot_str_eq F.entry_str_eq (F.args_str_eq_2 _ _) (seq_dec t y) hx h
theorem tryC_neq (hx : s.heap.get? x = some (instObj C dx)) (h : P none s) : wpAny (model prog w) A (tryCompare .none (cmpInfo .Eq).2.1 (.ref x)) P E s :=
  tryC_dec (T := "NoneType") (name := (cmpInfo .Eq).2.1) (id := "NoneType.__eq__") (B := Builtin.«NoneType.__eq__») rfl F.slot_NoneType_eq F.entry_NoneType_eq (F.args_NoneType_eq_2 _ _) neq_dec hx h
end
end PySem.GyDec
namespace PySem.W
open PySem PySem.Calls PyProof.Rows
section
variable {prog : Program} {w : World} {A : Around} {E : Value → Shared → Prop} {s : Shared} {K : Frag} {x C L f : Addr} {h₀ : Heap} {m : Str → Option Value} {ox : Obj} {od : Option Obj} {T : String}
/-- b op x, b of a built-in type whose own comparison declines: x's turned one is asked -/
theorem gy_cmpR {op : CmpOp} {b : Value} {Q : Value → Shared → Prop} (hu : A.units < cLine) (F : Fr h₀ L s.heap m) (X₀ : K.In h₀) (I : InstAt s.heap x ox C od) (hb : s.TypeIs b T) (hL : Looks (model prog w) s.heap (typeOf b) (.type T))
    (hs : findIn K (.ref C) (cmpInfo op).2.2 = some (some (.ref f))) (hf : isFn K (.ref f) = true) (dn : subIn K (.ref C) (.type T) = some false)
    (hdec : ∀ P : Option Value → Shared → Prop, P none s → wpAny (model prog w) A (tryCompare b (cmpInfo op).2.1 (.ref x)) P E s)
    (h : wpAny (model prog w) A (call (.ref f) [.ref x, b]) (CmpBack Q) E s) : wpAny (model prog w) A (richCompare op b (.ref x)) Q E s := by
  have X := X₀.keeps F.keep
  have one : wpAny (model prog w) A (tryCompare (.ref x) (cmpInfo op).2.2 b) (fun r s' => ∃ v, r = some v ∧ Q v s') E s := by
    unfold tryCompare
    refine wpAny_bind (ifBound_K X I hs hf (wpAny_mono h (fun v s' hv => ?_) fun _ _ e => e))
    cases v <;> first | exact hv.elim | exact wpAny_pure ⟨_, rfl, hv⟩
  have hne : (Value.type T != Value.ref C) = true := by
    rw [bne, Bool.not_eq_true', Bool.eq_false_iff]
    intro q
    cases beq_iff_eq.mp q
  unfold richCompare
  simp only [hb.oneThing_none]
  refine wpAny_holding (wpAny_bind (wpAny_cRoomFor hu ?_))
  refine wpAny_bind (hL.here (wpAny_bind (I.type.here ?_)))
  rw [if_pos hne]
  refine wpAny_bind ((looks_subIn X dn).here ?_)
  simp only [Bool.false_eq_true, if_false]
  refine wpAny_bind (hdec _ ?_)
  simp only [Bool.not_false, if_true]
  refine wpAny_bind (wpAny_mono one (fun r s' z => ?_) fun _ _ e => e)
  obtain ⟨v, rfl, hq⟩ := z
  exact wpAny_pure hq
end
end PySem.W
namespace PySem.W
open PySem PySem.Calls PyProof.Rows
section
variable {prog : Program} {w : World} {A : Around} {E : Value → Shared → Prop} {s : Shared} {K : Frag} {x C L f : Addr} {h₀ : Heap} {m : Str → Option Value} {ox : Obj} {od : Option Obj} {t : Value}
theorem gy_neObj {b : Value} {Q : Fin → Shared → Prop} (hu : A.units < cLine) (X : K.In s.heap) (I : InstAt s.heap x ox C od) (heq : findIn K (.ref C) "__eq__" = some (some (.ref f))) (hf : isFn K (.ref f) = true)
    (h : wpAny (model prog w) A (call (.ref f) [.ref x, b]) (fun v s' => ∃ c, v = .bool c ∧ Q (.done (.ret (.bool (!c)))) s') E s) : wpAny (model prog w) A (Builtin.«object.__ne__» ⟨[.ref x, b], []⟩) Q E s := by
  obtain ⟨hp, g, d, tk, os⟩ := s
  unfold Builtin.«object.__ne__»
  repeat (first
    | with_reducible refine wpAny_cRoomFor hu ?_
    | (refine wpAny_bind (m := callSpecialIfBound? (.ref x) (Str.ofString "__eq__") [b])
        (ifBound_K X I heq hf (wpAny_mono h (fun r s' hr => by
          obtain ⟨c, rfl, hq⟩ := hr
          repeat (first | exact hq | exact wpAny_pure hq | exact wpAny_truthy_bool hq | (refine wpAny_bind (m := truthy (.bool _)) (wpAny_truthy_bool ?_)) | wp_step)) fun _ _ e => e)))
    | wp_step)
theorem gy_ne {b : Value} {Q : Value → Shared → Prop} (hu : A.units + 1 < cLine) (FF : Fr h₀ L s.heap m) (X₀ : K.In h₀) (I : InstAt s.heap x ox C od) (hL : Looks (model prog w) s.heap (typeOf b) t) (hn : notFirst K C t = true)
    (hne : findIn K (.ref C) "__ne__" = some (some (.builtin "object.__ne__"))) (heq : findIn K (.ref C) "__eq__" = some (some (.ref f))) (hf : isFn K (.ref f) = true) (ho : mroIn K C (.type "object") = some true)
    (h : wpAny (model prog w) A.in1 (call (.ref f) [.ref x, b]) (fun v s' => ∃ c, v = .bool c ∧ Q (.bool (!c)) s') E s) : wpAny (model prog w) A (richCompare .NotEq (.ref x) b) Q E s := by
  have X := X₀.keeps FF.keep
  have hi : Looks (model prog w) s.heap (isInstance (.ref x) (.type "object")) true := I.type.andThen (looks_mroIn X ho)
  have cal : wpAny (model prog w) A (call (.builtin "object.__ne__") [.ref x, b]) (fun v s' => ∃ c, v = .bool c ∧ Q (.bool c) s') E s := by
    refine wpAny_call (codeAny_call_builtin F.slot_object_ne.plain F.entry_object_ne (check_slot (owner := "object") (n := "__ne__") (by decide +kernel) (by decide +kernel) hi (F.args_object_ne_2 _ _) ?_))
    refine gy_neObj (A := A.in1) (by have := hu; exact this) X I heq hf (wpAny_mono h (fun v s' hv => ?_) fun _ _ e => e)
    obtain ⟨c, rfl, hq⟩ := hv
    exact ⟨c, rfl, _, rfl, hq⟩
  have one : wpAny (model prog w) A (tryCompare (.ref x) (cmpInfo .NotEq).2.1 b) (fun r s' => ∃ v, r = some v ∧ Q v s') E s := by
    unfold tryCompare
    refine wpAny_bind (m := callSpecialIfBound? (.ref x) (Str.ofString "__ne__") [b]) ?_
    simp only [callSpecialIfBound?, bindSpecialIfBound?]
    refine wpAny_holding (wpAny_bind (wpAny_bind (wpAny_bind (I.type.here ((looks_findIn X hne).here ?_)))))
    refine wpAny_bind (wpAny_askSetting (wpAny_ite ?_))
    have fin : wpAny (model prog w) A (call (.builtin "object.__ne__") ([.ref x] ++ [b]) >>= fun v => pure (some v)) (fun a s' => wpAny (model prog w) A (match a with | some .notImplemented | none => pure none | some v => pure (some v)) (fun r s' => ∃ v, r = some v ∧ Q v s') E s') E s := by
      refine wpAny_bind (wpAny_mono cal (fun v s' hv => ?_) fun _ _ e => e)
      obtain ⟨c, rfl, hq⟩ := hv
      exact wpAny_pure (wpAny_pure ⟨_, rfl, hq⟩)
    simp only [F.slot_object_ne.bind]
    split
    · exact wpAny_bind (wpAny_pure (wpAny_pure (by exact fin)))
    · exact wpAny_tryCatch (wpAny_bind (wpAny_pure (wpAny_pure (by exact fin))))
  unfold richCompare
  simp only [oneThing_ref]
  refine wpAny_holding (wpAny_bind (wpAny_cRoomFor (Nat.lt_of_succ_lt hu) ?_))
  refine wpAny_bind (I.type.here (wpAny_bind (hL.here ?_)))
  split
  · rename_i q
    have e : subIn K t (.ref C) = some false := by
      rcases Bool.or_eq_true_iff.mp hn with e | e
      · rw [beq_iff_eq.mp e] at q; simp at q
      · exact beq_iff_eq.mp e
    refine wpAny_bind ((looks_subIn X e).here ?_)
    simp only [Bool.false_eq_true, if_false]
    refine wpAny_bind (wpAny_mono one (fun r s' z => ?_) fun _ _ e => e)
    obtain ⟨v, rfl, hq⟩ := z
    exact wpAny_pure hq
  · refine wpAny_bind (wpAny_pure ?_)
    simp only [Bool.false_eq_true, if_false]
    refine wpAny_bind (wpAny_mono one (fun r s' z => ?_) fun _ _ e => e)
    obtain ⟨v, rfl, hq⟩ := z
    exact wpAny_pure hq
end
end PySem.W
namespace PySem.GyDec
open PySem PySem.W AutoSeq1
section
variable {C dx x l : Addr} {n : Nat} {vs : List Value} {ol : Obj}
abbrev GyTwo (T : String) (l : Addr) (ol : Obj) (x C dx : Addr) : Shared → Prop := fun s => s.heap.get? l = some ol ∧ s.heap.get? x = some (instObj C dx) ∧ ∀ prog w, Looks (model prog w) s.heap (isSubtype (.ref C) (.type T)) false
theorem list_dec (dd : Option Addr) (a : Array Value) (nn : Nat) (sl : Array (Option Value)) : GivesAt (GyTwo "list" l ⟨.type "list", dd, .seq a nn, sl⟩ x C dx) (Builtin.«list.__eq__» ⟨[.ref l, .ref x], []⟩) (.val .notImplemented) := fun prog w A R s hP h => by
  obtain ⟨hp, g, d, tk, os⟩ := s
  obtain ⟨h1, h2, h3⟩ := hP
  have hl : Heap.get? (Shared.heap ⟨hp, g, d, tk, os⟩) l = some ⟨.type "list", dd, .seq a nn, sl⟩ := h1
  have hx : Heap.get? (Shared.heap ⟨hp, g, d, tk, os⟩) x = some (instObj C dx) := h2
  wp_walk using wpAny_loadPart' hl, wpAny_loadPart' hx
  refine (h3 prog w).here ?_
  simp only [Bool.not_false, if_true]
  wp_walk using wpAny_loadPart' hl
  exact h
theorem tup_dec {ol : Obj} (hc : ol.cls = .type "tuple") : GivesAt (GyTwo "tuple" l ol x C dx) (Builtin.«tuple.__eq__» ⟨[.ref l, .ref x], []⟩) (.val .notImplemented) := fun prog w A R s hP h => by
  obtain ⟨hp, g, d, tk, os⟩ := s
  obtain ⟨h1, h2, h3⟩ := hP
  obtain ⟨c, od, pl, sl⟩ := ol
  obtain rfl : c = .type "tuple" := hc
  have hl : Heap.get? (Shared.heap ⟨hp, g, d, tk, os⟩) l = some ⟨.type "tuple", od, pl, sl⟩ := h1
  have hx : Heap.get? (Shared.heap ⟨hp, g, d, tk, os⟩) x = some (instObj C dx) := h2
  wp_walk using wpAny_loadPart' hl, wpAny_loadPart' hx
  refine (h3 prog w).here ?_
  simp only [Bool.not_false, if_true]
  wp_walk using wpAny_loadPart' hl
  exact h
theorem dict_dec {ol : Obj} (hc : ol.cls = .type "dict") : GivesAt (GyTwo "dict" l ol x C dx) (Builtin.«dict.__eq__» ⟨[.ref l, .ref x], []⟩) (.val .notImplemented) := fun prog w A R s hP h => by
  obtain ⟨hp, g, d, tk, os⟩ := s
  obtain ⟨h1, h2, h3⟩ := hP
  obtain ⟨c, od, pl, sl⟩ := ol
  obtain rfl : c = .type "dict" := hc
  have hl : Heap.get? (Shared.heap ⟨hp, g, d, tk, os⟩) l = some ⟨.type "dict", od, pl, sl⟩ := h1
  have hx : Heap.get? (Shared.heap ⟨hp, g, d, tk, os⟩) x = some (instObj C dx) := h2
  wp_walk using wpAny_loadPart' hl, wpAny_loadPart' hx
  refine (h3 prog w).here ?_
  simp only [Bool.not_false, if_true]
  wp_walk using wpAny_loadPart' hl
  exact h
end
end PySem.GyDec
namespace L2
open PySem PySem.Spec PyProof.Rows
section
variable {X : Cx} {CX : CXT} {pins : List (Addr × Obj)} {σ : St} {H : Hp} {s : Shared} {a C dx g r : Addr} {fs : List (Str × V)} {k : Nat} {fd : FuncData} {ps : List Str} {sp : Sp} {E : XK}
theorem run_fn1 {Q : VK} {us : List Value} {vs : List V} (F : FnOk X.prog X.w X.K X.mg X.base CX k g fd ps sp) (hr : Room (k + 1) X.A) (hb : Binds X.K fd ps []) (hx : Passes CX X E)
    (I : Inv X pins σ H s) (r : Vals vs us) (h : sp vs H Q E) : wpAny (model X.prog X.w) X.A.in1 (call (.ref g) us) (EP X pins σ Q) X.xe s := by
  have hl : us.length = ps.length := by rw [← r.length]; exact F.len _ _ _ _ h
  have b := hb s us I.kIn (by rw [List.append_nil]; exact hl)
  rw [List.append_nil] at b
  refine wpAny_call (codeAny_mono (F.run X.A.in1 X.stack s H ⟨us, []⟩ us vs Q E hr.in1 I.env0.in1 b r h) fun r s' hq => ?_)
  cases r with
  | error e => exact hx pins σ H s e s' I hq
  | ok fl =>
    cases fl with
    | ret u => exact I.after hq
    | next => exact False.elim hq
    | brk => exact False.elim hq
    | cont => exact False.elim hq
/-- x op y, x an instance: its own method; y's type is no subclass -/
def rGyC (K : PySem.W.Frag) (C : Addr) (sp : Sp) (E : XK) : R2 := fun x y H Q => ∃ a dx fs t, x = .ref a ∧ H a = some (.ins C dx fs) ∧ TyX K H y t ∧ PySem.W.notFirst K C t = true ∧ sp [x, y] H Q E
theorem op_gyC {op : CmpOp} (ho : ∀ a b, compareOp op a b = richCompare op a b) (hs : PySem.W.findIn X.K (.ref C) (cmpInfo op).2.1 = some (some (.ref g))) (hf : PySem.W.isFn X.K (.ref g) = true)
    (F : FnOk X.prog X.w X.K X.mg X.base CX k g fd ps sp) (hr : Room k X.A) (hb : Binds X.K fd ps []) (hx : Passes CX X E) : OpR X (compareOp op) (rGyC X.K C sp E) := by
  intro pins s σ H x y v u Q I rx ry h
  obtain ⟨a, dx, fs, t, rfl, ha, ty, hn, q⟩ := h
  obtain rfl : v = Value.ref a := rx
  obtain ⟨od, J, _⟩ := ins_at I ha
  obtain ⟨m, hF⟩ := I.fr
  obtain ⟨P, kx, hP, _⟩ := kit_of I ry ty
  have q' : sp ([.ref a, y] ++ []) H Q E := q
  have go : wpAny (model X.prog X.w) X.A (call (.ref g) [.ref a, u]) (PySem.W.CmpBack (EP X pins σ Q)) X.xe s :=
    wpAny_mono (run_fn (us := [.ref a, u]) (vs := [.ref a, y]) F hr hb .nil hx I (.cons rfl (.cons ry .nil)) q') (fun w s' z => by
      obtain ⟨z', H', I', rz, qz⟩ := z
      exact gy_back rz ⟨z', H', I', rz, qz⟩) fun _ _ e => e
  rw [ho]
  exact PySem.W.cmp_K hr.units0 hF I.ok.mod.kin J (kx.ty _ _ I.kIn hP) hn hs hf go
/-- x != y by object's, through the own == -/
def rGyNe (K : PySem.W.Frag) (C : Addr) (sp : Sp) (E : XK) : R2 := fun x y H Q => ∃ a dx fs t, x = .ref a ∧ H a = some (.ins C dx fs) ∧ TyX K H y t ∧ PySem.W.notFirst K C t = true ∧ sp [x, y] H (fun v H' => ∃ c, v = .bl c ∧ Q (.bl (!c)) H') E
theorem op_gyNe (hne : PySem.W.findIn X.K (.ref C) "__ne__" = some (some (.builtin "object.__ne__"))) (hs : PySem.W.findIn X.K (.ref C) "__eq__" = some (some (.ref g))) (hf : PySem.W.isFn X.K (.ref g) = true) (hm : PySem.W.mroIn X.K C (.type "object") = some true)
    (F : FnOk X.prog X.w X.K X.mg X.base CX k g fd ps sp) (hr : Room (k + 1) X.A) (hb : Binds X.K fd ps []) (hx : Passes CX X E) : OpR X (compareOp .NotEq) (rGyNe X.K C sp E) := by
  intro pins s σ H x y v u Q I rx ry h
  obtain ⟨a, dx, fs, t, rfl, ha, ty, hn, q⟩ := h
  obtain rfl : v = Value.ref a := rx
  obtain ⟨od, J, _⟩ := ins_at I ha
  obtain ⟨m, hF⟩ := I.fr
  obtain ⟨P, kx, hP, _⟩ := kit_of I ry ty
  exact PySem.W.gy_ne (f := g) hr.in1.units0 hF I.ok.mod.kin J (kx.ty _ _ I.kIn hP) hn hne hs hf hm
    (wpAny_mono (run_fn1 (us := [.ref a, u]) (vs := [.ref a, y]) F hr hb hx I (.cons rfl (.cons ry .nil)) q) (fun w s' z => by
      obtain ⟨z', H', I', rz, c, rfl, qz⟩ := z
      cases (show w = Value.bool c from rz)
      exact ⟨c, rfl, .bl (!c), H', I', rfl, qz⟩) fun _ _ e => e)
/-- x's own comparison with an instance of C declines -/
def Turns (X : Cx) (C : Addr) (op : CmpOp) (x : V) (H : Hp) : Prop := ∀ (pins : List (Addr × Obj)) (σ : St) (s : Shared) (v : Value) (b dy : Addr) (gs : List (Str × V)), Inv X pins σ H s → RelV x v → H b = some (.ins C dy gs) →
  ∃ T, s.TypeIs v T ∧ PySem.W.Looks (model X.prog X.w) s.heap (typeOf v) (.type T) ∧ PySem.W.subIn X.K (.ref C) (.type T) = some false ∧
    ∀ (A : Around) (E : Value → Shared → Prop) (P : Option Value → Shared → Prop), P none s → wpAny (model X.prog X.w) A (tryCompare v (cmpInfo op).2.1 (.ref b)) P E s
/-- x op y, y an instance, x's own comparison declines: y's turned one -/
def rGyCR (X : Cx) (op : CmpOp) (C : Addr) (sp : Sp) (E : XK) : R2 := fun x y H Q => ∃ b dy gs, y = .ref b ∧ H b = some (.ins C dy gs) ∧ Turns X C op x H ∧ sp [y, x] H Q E
theorem op_gyCR {op : CmpOp} (ho : ∀ a b, compareOp op a b = richCompare op a b) (hs : PySem.W.findIn X.K (.ref C) (cmpInfo op).2.2 = some (some (.ref g))) (hf : PySem.W.isFn X.K (.ref g) = true)
    (F : FnOk X.prog X.w X.K X.mg X.base CX k g fd ps sp) (hr : Room k X.A) (hb : Binds X.K fd ps []) (hx : Passes CX X E) : OpR X (compareOp op) (rGyCR X op C sp E) := by
  intro pins s σ H x y v u Q I rx ry h
  obtain ⟨b, dy, gs, rfl, hb', tn, q⟩ := h
  obtain rfl : u = Value.ref b := ry
  obtain ⟨od, J, _⟩ := ins_at I hb'
  obtain ⟨m, hF⟩ := I.fr
  obtain ⟨T, t1, t2, t3, t4⟩ := tn pins σ s v b dy gs I rx hb'
  have q' : sp ([.ref b, x] ++ []) H Q E := q
  have go : wpAny (model X.prog X.w) X.A (call (.ref g) [.ref b, v]) (PySem.W.CmpBack (EP X pins σ Q)) X.xe s :=
    wpAny_mono (run_fn (us := [.ref b, v]) (vs := [.ref b, x]) F hr hb .nil hx I (.cons rfl (.cons rx .nil)) q') (fun w s' z => by
      obtain ⟨z', H', I', rz, qz⟩ := z
      exact gy_back rz ⟨z', H', I', rz, qz⟩) fun _ _ e => e
  rw [ho]
  exact PySem.W.gy_cmpR hr.units0 hF I.ok.mod.kin J t1 t2 hs hf t3 (fun P hp => t4 _ _ P hp) go
theorem turns_lt {i : Int} (hs : PySem.W.subIn X.K (.ref C) (.type "int") = some false) : Turns X C .Lt (.int i) H := fun pins σ s v b dy gs I rv hb => by
  obtain ⟨t, rfl⟩ := rv
  exact ⟨"int", typeIs_int s i t, PySem.W.Looks.of_pure rfl, hs, fun A E P hp => GyDec.tryC_lt (ins_at I hb).choose_spec.2 hp⟩
theorem turns_le {i : Int} (hs : PySem.W.subIn X.K (.ref C) (.type "int") = some false) : Turns X C .LtE (.int i) H := fun pins σ s v b dy gs I rv hb => by
  obtain ⟨t, rfl⟩ := rv
  exact ⟨"int", typeIs_int s i t, PySem.W.Looks.of_pure rfl, hs, fun A E P hp => GyDec.tryC_le (ins_at I hb).choose_spec.2 hp⟩
theorem turns_gt {i : Int} (hs : PySem.W.subIn X.K (.ref C) (.type "int") = some false) : Turns X C .Gt (.int i) H := fun pins σ s v b dy gs I rv hb => by
  obtain ⟨t, rfl⟩ := rv
  exact ⟨"int", typeIs_int s i t, PySem.W.Looks.of_pure rfl, hs, fun A E P hp => GyDec.tryC_gt (ins_at I hb).choose_spec.2 hp⟩
theorem turns_ge {i : Int} (hs : PySem.W.subIn X.K (.ref C) (.type "int") = some false) : Turns X C .GtE (.int i) H := fun pins σ s v b dy gs I rv hb => by
  obtain ⟨t, rfl⟩ := rv
  exact ⟨"int", typeIs_int s i t, PySem.W.Looks.of_pure rfl, hs, fun A E P hp => GyDec.tryC_ge (ins_at I hb).choose_spec.2 hp⟩
theorem turns_eq {i : Int} (hs : PySem.W.subIn X.K (.ref C) (.type "int") = some false) : Turns X C .Eq (.int i) H := fun pins σ s v b dy gs I rv hb => by
  obtain ⟨t, rfl⟩ := rv
  exact ⟨"int", typeIs_int s i t, PySem.W.Looks.of_pure rfl, hs, fun A E P hp => GyDec.tryC_eq (ins_at I hb).choose_spec.2 hp⟩
theorem turns_beq {c : Bool} (hs : PySem.W.subIn X.K (.ref C) (.type "bool") = some false) : Turns X C .Eq (.bl c) H := fun pins σ s v b dy gs I rv hb => by
  cases (show v = Value.bool c from rv)
  exact ⟨"bool", rfl, PySem.W.Looks.of_pure rfl, hs, fun A E P hp => GyDec.tryC_beq (ins_at I hb).choose_spec.2 hp⟩
theorem turns_seq {x : Str} (hs : PySem.W.subIn X.K (.ref C) (.type "str") = some false) : Turns X C .Eq (.str x) H := fun pins σ s v b dy gs I rv hb => by
  obtain ⟨t, rfl⟩ := rv
  exact ⟨"str", typeIs_str s x t, PySem.W.Looks.of_pure rfl, hs, fun A E P hp => GyDec.tryC_seq (ins_at I hb).choose_spec.2 hp⟩
theorem turns_neq (hs : PySem.W.subIn X.K (.ref C) (.type "NoneType") = some false) : Turns X C .Eq .non H := fun pins σ s v b dy gs I rv hb => by
  cases (show v = Value.none from rv)
  exact ⟨"NoneType", rfl, PySem.W.Looks.of_pure rfl, hs, fun A E P hp => GyDec.tryC_neq (ins_at I hb).choose_spec.2 hp⟩
end
end L2
namespace L2
open PySem PySem.Spec PyProof.Rows
section
variable {X : Cx} {CX : CXT} {pins : List (Addr × Obj)} {σ : St} {H : Hp} {s : Shared} {a C dx g r : Addr} {fs : List (Str × V)} {k : Nat} {fd : FuncData} {ps : List Str} {sp : Sp} {E : XK}
theorem turns_ref {T : String} {l : Addr} {op : CmpOp} {id : String} {B : Builtin} (hs : PySem.W.subIn X.K (.ref C) (.type T) = some false) (slot : Slot T (cmpInfo op).2.1 id) (entry : entryFor table id = some B) (args : ∀ a b, argsOk id ⟨[a, b], []⟩)
    (get : ∀ (pins : List (Addr × Obj)) (σ : St) (s : Shared), Inv X pins σ H s → ∃ ol, s.heap.get? l = some ol ∧ ol.cls = .type T ∧ ∀ b dy, GivesAt (PySem.GyDec.GyTwo T l ol b C dy) (B ⟨[.ref l, .ref b], []⟩) (.val .notImplemented)) : Turns X C op (.ref l) H := fun pins σ s v b dy gs I rv hb => by
  cases (show v = Value.ref l from rv)
  obtain ⟨ol, h1, h2, gv⟩ := get pins σ s I
  have hT : s.TypeIs (.ref l) T := ⟨ol, h1, h2⟩
  refine ⟨T, hT, ?_, hs, fun A E P hp => ?_⟩
  · exact PySem.W.kitAt_ty _ _ ⟨ol, h1, h2⟩
  · refine wpAny_tryCompare_declines hT slot (call_givesAt slot hT entry (args _ _) (gv b dy) ⟨h1, (ins_at I hb).choose_spec.2, fun prog w => PySem.W.looks_subIn I.kIn hs⟩ ⟨rfl, hp⟩)
theorem turns_list {l : Addr} {xs : List V} (h : H l = some (.lst xs)) (hs : PySem.W.subIn X.K (.ref C) (.type "list") = some false) : Turns X C .Eq (.ref l) H :=
  turns_ref (T := "list") (id := "list.__eq__") (B := Builtin.«list.__eq__») hs F.slot_list_eq F.entry_list_eq F.args_list_eq_2 fun pins σ s I => by
    obtain ⟨_, _, n, _, h1⟩ := (show ObjOk X.prog X.w H s.heap l (.lst xs) from I.hok l _ h)
    exact ⟨_, h1, rfl, fun b dy => PySem.GyDec.list_dec _ _ _ _⟩
theorem turns_tup {l : Addr} {xs : List V} (h : H l = some (.tup xs)) (hs : PySem.W.subIn X.K (.ref C) (.type "tuple") = some false) : Turns X C .Eq (.ref l) H :=
  turns_ref (T := "tuple") (id := "tuple.__eq__") (B := Builtin.«tuple.__eq__») hs F.slot_tuple_eq F.entry_tuple_eq F.args_tuple_eq_2 fun pins σ s I => by
    obtain ⟨_, _, _, o, h1, h2, _⟩ := (show ObjOk X.prog X.w H s.heap l (.tup xs) from I.hok l _ h)
    exact ⟨_, h1, h2, fun b dy => PySem.GyDec.tup_dec h2⟩
theorem turns_dK {l : Addr} {xs : List (Key × V)} (h : H l = some (.dK xs)) (hs : PySem.W.subIn X.K (.ref C) (.type "dict") = some false) : Turns X C .Eq (.ref l) H :=
  turns_ref (T := "dict") (id := "dict.__eq__") (B := Builtin.«dict.__eq__») hs F.slot_dict_eq F.entry_dict_eq F.args_dict_eq_2 fun pins σ s I => by
    obtain ⟨_, _, vs, _, o, es, ep, h1, h2, _⟩ := (show ObjOk X.prog X.w H s.heap l (.dK xs) from I.hok l _ h)
    exact ⟨_, h1, h2.1, fun b dy => PySem.GyDec.dict_dec h2.1⟩
end
end L2

set_option Elab.async false
set_option linter.all false
set_option maxRecDepth 100000
set_option maxHeartbeats 4000000
/-! Lay3: errors of the program's own as things: made (by place, by name), read, asked for their class. -/
namespace PySem.GyErr
open PySem PySem.W PySem.Calls PyProof.Rows PySem.HandSPX
/-- what a class object holds beside its line of bases -/
structure Pt where
  (nm q : Str) (N : Addr) (bs : List Value) (sn : List Str) (sub : List Value) (ab : Bool) (col : Option Bool) (dd : Option Addr)
  (k0 k1 k2 k3 k5 : Option Value)
abbrev Pt.ob (p : Pt) (C : Addr) (bm : List Value) : Obj :=
  excClassObj p.nm p.q C p.N p.bs bm true p.sn p.sub p.ab p.col p.dd p.k0 p.k1 p.k2 p.k3 p.k5 "ValueError.__new__"
section
variable {prog : Program} {w : World} {M : Model} {A : Around} {R : Result → Shared → Prop} {E : Value → Shared → Prop} {h : Heap}
  {g : Array GenState} {d : Drawn} {t : Nat} {os : OsState} {p : Pt} {C : Addr} {bm : List Value} {us : List Value} {kw : List (Str × Value)}
theorem new_args (v : Value) : Bind.checkArgs "ValueError.__new__"
    ⟨.any, "ValueError", "ValueError", .cls, [⟨"args", .varPos, false⟩, ⟨"kwargs", .varKw, false⟩]⟩ ⟨v :: us, kw⟩ = pure () := by kernel_rfl
theorem new_checked {Q : Unit → Shared → Prop} (hm : refsVE bm = true) (hC : h.get? C = some (p.ob C bm)) (hq : Q () ⟨h, g, d, t, os⟩) :
    wpAny M A (checkBuiltinCall "ValueError.__new__" ⟨.ref C :: us, kw⟩) Q E ⟨h, g, d, t, os⟩ := by
  have F := F.excBase_ValueError
  have has : (Value.ref C :: bm).contains (.type "ValueError") = true := by
    rw [List.contains_cons, refsVE_contains _ _ hm, show veTail.contains (.type "ValueError") = true by decide +kernel, Bool.or_true]
  have ha := new_args (us := us) (kw := kw) (.ref C)
  simp only [checkBuiltinCall, F.newKind, F.newSplit, F.newRow, ha]
  repeat (first
    | refine wpAny_loadPart_at hC ?_
    | (refine wpAny_isSubtype_exc hC ?_; rw [has])
    | refine wpAny_staticBase_exc hC ?_
    | refine wpAny_madeBy_exc hC ?_
    | simp only [bne_self_eq_false, Bool.false_eq_true, if_false]
    | wp_step)
  exact hq
theorem new_run (hm : refsVE bm = true) (hC : h.get? C = some (p.ob C bm)) (hl : us.length ≤ sizeLine)
    (hq : R (.ok (.ret (.ref (h.objs.size + 1)))) ⟨(h.push (kdv_tup us)).push (excO C h.objs.size), g, d, t, os⟩) :
    codeAny (model prog w) A (.builtin "ValueError.__new__" ⟨.ref C :: us, kw⟩) R ⟨h, g, d, t, os⟩ := by
  have F := F.excBase_ValueError
  have hends := F.ends
  have in_ : ∀ (T : String) (b : Bool), veTail.contains (.type T) = b → (Value.ref C :: bm).contains (.type T) = b := fun T b e => by
    rw [List.contains_cons, refsVE_contains _ _ hm, e]
    cases b <;> rfl
  have i1 := in_ "ValueError" true (by decide +kernel)
  have i2 := in_ "AttributeError" false (by decide +kernel)
  have i3 := in_ "NameError" false (by decide +kernel)
  refine codeAny_builtinAt F.entry ?_
  unfold Builtin.«BaseException.__new__»
  refine wpAt_bind ?_
  show wpAt _ _ _ (stack >>= _) _ _ _
  refine wpAt_bind (wpAt_stack fun p below => wpAt_of_wpAny ?_)
  wp_walk
  refine wpAt_of_wpAny ?_
  rw [F.owner]
  repeat (first
    | with_reducible refine wpAny_madeHere_exc F.canon hC ?_
    | with_reducible refine wpAny_loadPart_at hC ?_
    | (with_reducible refine wpAny_isSubtype_exc hC ?_; first | rw [i1] | rw [i2] | rw [i3])
    | wp_step)
  show R _ _
  rw [Heap.size_push]
  exact hq
/-- C(.., k = v, ..): the error is laid, then its __init__ -/
theorem call_err {fI : Addr} (hm : refsVE bm = true) (hC : h.get? C = some (p.ob C bm))
    (hi : W.Looks (model prog w) h (typeLookup (.ref C) "__init__") (some (.ref fI)))
    (hb : ∀ self, W.Looks (model prog w) h (bindSpecial (.ref fI) self) (.ref fI, [self])) (hl : us.length ≤ sizeLine)
    (hq : codeAny (model prog w) (A.under (.builtin "type.__call__" ⟨.ref C :: us, kw⟩)) (.call (.ref fI) ⟨.ref (h.objs.size + 1) :: us, kw⟩)
      (W.InitBack (h.objs.size + 1) R) ⟨(h.push (kdv_tup us)).push (excO C h.objs.size), g, d, t, os⟩) :
    codeAny (model prog w) A (.call (.ref C) ⟨us, kw⟩) R ⟨h, g, d, t, os⟩ := by
  have F := F.excBase_ValueError
  have f1 := tc_lookup
  have f2 := tc_bind (.ref C)
  have hTy : (⟨h, g, d, t, os⟩ : Shared).TypeIs (.ref C) "type" := ⟨_, hC, rfl⟩
  refine codeAny_of_tree ?_
  show wpAny _ _ (callAny (.ref C) _) _ _ _
  repeat (any_goals (first | assumption | with_reducible refine wpAny_loadPart_at hC ?_ | wp_step))
  refine ⟨rfl, ?_⟩
  have typ : Looks (model prog w) h (isInstance (.ref C) (.type "type")) true :=
    ((Looks.ld (part := none) hC).andThen .now).andThen (Looks.of_pure (by show isSubtype (.type "type") (.type "type") = pure true; rw [isSubtype_type]; kernel_rfl))
  refine codeAny_call_builtin_at (Code.quiet_builtin _ (by decide +kernel)) entry_typeCall
    (check_slot tc_kind tc_split typ (tc_args _ _ _) ?_)
  have k : ∀ b o, h.get? b = some o → ((h.push (kdv_tup us)).push (excO C h.objs.size)).get? b = some o := fun b o e =>
    Heap.get?_push_of_some _ (Heap.get?_push_of_some _ e)
  have hC1 := k _ _ hC
  have hx : ((h.push (kdv_tup us)).push (excO C h.objs.size)).get? (h.objs.size + 1) = some (excO C h.objs.size) := by heap_get
  have hcC : (Value.ref C :: bm).contains (.ref C) = true := by simp
  have i1 := hi.keeps k
  have b1 := (hb (.ref (h.objs.size + 1))).keeps k
  repeat (first | with_reducible refine wpAny_loadPart_at hC ?_ | with_reducible refine wpAny_madeBy_exc hC ?_ | wp_step)
  refine codeAny_call_builtin_code (Code.quiet_builtin _ F.quiet) (new_checked hm hC ?_)
  refine new_run hm hC hl ?_
  show wpAny _ _ _ _ _ _
  unfold isInstance
  repeat (first | with_reducible refine wpAny_loadPart_at hx ?_ | wp_step)
  show wpAny _ _ (isSubtype (.ref C) (.ref C)) _ _ _
  refine wpAny_isSubtype_exc hC1 ?_
  rw [hcC]
  repeat wp_step
  show wpAny _ _ (typeLookup (.ref C) _) _ _ _
  refine i1.at ?_
  refine wpAny_holding (wpAny_bind (b1.at ?_))
  refine wpAny_bind (wpAny_call (codeAny_mono hq fun r s' z => ?_))
  rcases r with e | (v | _ | _ | _) <;> first | exact z | exact z.elim | skip
  obtain ⟨rfl, z⟩ := z
  first
    | exact wpAny_pure (wpAny_pure z)
    | (wp_walk; exact z)
end
end PySem.GyErr
namespace Gy
open PySem L2
/-- an own error class at C: behind it stands L, but for L itself, then ValueError's line -/
structure ErrT (K : PySem.W.Frag) (L C : Addr) : Prop where
  line : ∃ (p : PySem.GyErr.Pt) (anc : List Value), (C = L ∧ anc = [] ∨ anc = [.ref L]) ∧ K.lookup C = some (p.ob C (anc ++ PySem.HandSPX.veTail))
  sa : PySem.W.findIn K (.ref C) "__setattr__" = some (some (.builtin "object.__setattr__"))
  ga : PySem.W.findIn K (.ref C) "__getattribute__" = some (some (.builtin "BaseException.__getattribute__"))
  gg : PySem.W.findIn K (.ref C) "__getattr__" = some none
  ca : PySem.W.findIn K (.ref C) "__class__" = some (some (.builtin "object.__class__"))
  ty : PySem.W.typeIn K (.ref C) = some (.type "type")
  kp : PySem.W.keepIn K (.ref C) = true
/-- how __class__ is read off such a thing -/
structure ErrG (K : PySem.W.Frag) : Prop where
  sp : PySem.W.specialIn K (.builtin "object.__class__") "__get__" = some (some (.builtin "getset_descriptor.__get__"))
  tk : PySem.W.takesIn K (.builtin "object.__class__") = some true
section
variable {K : PySem.W.Frag} {L C D : Addr}
theorem anc_refs {anc : List Value} (h : C = L ∧ anc = [] ∨ anc = [.ref L]) : PySem.HandSPX.refsVE (anc ++ PySem.HandSPX.veTail) = true := by
  rcases h with ⟨_, rfl⟩ | rfl
  · decide +kernel
  · show PySem.HandSPX.refsVE PySem.HandSPX.veTail = true
    decide +kernel
theorem ErrT.cd (T : ErrT K L C) : ∃ (cd : ClassData) (anc : List Value), PySem.W.clsIn K C = some cd ∧ (C = L ∧ anc = [] ∨ anc = [.ref L]) ∧ cd.mro = .ref C :: (anc ++ PySem.HandSPX.veTail) ∧ cd.hasDict = true := by
  obtain ⟨p, anc, ha, hl⟩ := T.line
  exact ⟨{ name := p.nm, bases := p.bs, mro := .ref C :: (anc ++ PySem.HandSPX.veTail), ns := p.N, qualname := p.q, hasDict := true, slotNames := p.sn, subclasses := p.sub, abstract := p.ab, collection := p.col, hasDel := false },
    anc, by unfold PySem.W.clsIn; rw [hl], ha, rfl, rfl⟩
theorem ErrT.mro (T : ErrT K L C) {base : Value} {b : Bool} (h : ∀ anc : List Value, (C = L ∧ anc = [] ∨ anc = [.ref L]) → (Value.ref C :: (anc ++ PySem.HandSPX.veTail)).contains base = b) : PySem.W.mroIn K C base = some b := by
  obtain ⟨cd, anc, hc, ha, hm, _⟩ := T.cd
  unfold PySem.W.mroIn
  rw [hc, Option.bind_some, hm]
  exact congrArg some (h anc ha)
theorem ErrT.subT (T : ErrT K L C) {t : String} {b : Bool} (e : PySem.HandSPX.veTail.contains (.type t) = b) : PySem.W.subIn K (.ref C) (.type t) = some b := T.mro fun anc ha => by
  rcases ha with ⟨_, rfl⟩ | rfl
  · rw [List.contains_cons, List.nil_append, e]
    cases b <;> rfl
  · rw [List.contains_cons, List.singleton_append, List.contains_cons, e]
    cases b <;> rfl
theorem tail_ref (a : Addr) : PySem.HandSPX.veTail.contains (.ref a) = false := by
  show ([Value.type "ValueError", .type "Exception", .type "BaseException", .type "object"] : List Value).contains (.ref a) = false
  simp
theorem ErrT.subL (T : ErrT K L C) : PySem.W.subIn K (.ref C) (.ref L) = some true := T.mro fun anc ha => by
  rcases ha with ⟨rfl, rfl⟩ | rfl <;> simp
theorem ErrT.subD (T : ErrT K L C) (h : D ≠ L) : PySem.W.subIn K (.ref C) (.ref D) = some (decide (C = D)) := T.mro fun anc ha => by
  have e : (Value.ref D == Value.ref C) = decide (C = D) := by
    by_cases z : C = D
    · rw [z, beq_self_eq_true, decide_eq_true rfl]
    · rw [decide_eq_false z]
      exact beq_eq_false_iff_ne.mpr fun q => z (Value.ref.inj q).symm
  have e2 : (Value.ref D == Value.ref L) = false := beq_eq_false_iff_ne.mpr fun q => h (Value.ref.inj q)
  rcases ha with ⟨_, rfl⟩ | rfl
  · rw [List.contains_cons, List.nil_append, tail_ref, e, Bool.or_false]
  · rw [List.contains_cons, List.singleton_append, List.contains_cons, tail_ref, e, e2, Bool.or_false, Bool.or_false]
theorem ErrT.isC (T : ErrT K L C) : PySem.W.isClsIn K C = true := by
  obtain ⟨cd, _, hc, _⟩ := T.cd
  unfold PySem.W.isClsIn
  rw [hc]
  rfl
theorem ErrT.hd (T : ErrT K L C) : PySem.W.hasDictIn K C = true := by
  obtain ⟨cd, _, hc, _, _, hh⟩ := T.cd
  unfold PySem.W.hasDictIn
  rw [hc]
  exact hh
theorem ErrT.oex (T : ErrT K L C) : OexC K C := by
  obtain ⟨p, anc, ha, hl⟩ := T.line
  exact ⟨⟨_, _, _, _, _, _, _, _, _, _, _, _, _, _, _, hl, anc_refs ha⟩, T.sa, T.subT (by decide +kernel), T.ty, T.kp⟩
/-- isinstance of such a thing -/
theorem ErrT.kitD (T : ErrT K L C) (U : ErrT K L D) (h : D ≠ L) : PySem.W.kitOne K (.ref C) (.ref D) = some (decide (C = D)) := by
  by_cases z : C = D
  · subst z
    rw [decide_eq_true rfl]
    exact kit_self
  · rw [decide_eq_false z]
    refine kit_of_to z U.isC U.ty ?_
    rw [T.subD h, decide_eq_false z]
theorem ErrT.kitL (T : ErrT K L C) (U : ErrT K L L) : PySem.W.kitOne K (.ref C) (.ref L) = some true := by
  by_cases z : C = L
  · subst z
    exact kit_self
  · exact kit_of_to z U.isC U.ty T.subL
theorem ErrT.kitT (T : ErrT K L C) {t : String} {b : Bool} (m : PySem.W.kitMeta t = true) (e : PySem.HandSPX.veTail.contains (.type t) = b) : PySem.W.kitOne K (.ref C) (.type t) = some b := kit_ob m (T.subT e)
end
/-! ### made -/
/-- C(..), a value: a new error, then its __init__ -/
def tErr (C : Addr) (sp : Sp) (E : XK) (t : TA) : TE := fun σ H Q => t σ H fun vs H1 => vs.length ≤ 1000 ∧ ∀ a, H1 a = none → sp (.ref a :: vs) (upd H1 a (exo a C none)) (fun v H2 => v = .non ∧ Q (.ref a) H2) E
section
variable {X : Cx} {CX : CXT} {k : Nat} {fI L C : Addr} {fd : FuncData} {ps : List Str} {sp : Sp} {E : XK} {x f : Str} {p pos kpos : Pos} {e : Expr} {es : List Expr} {t : TA} {te : TE}
theorem run_err {pins : List (Addr × Obj)} {σ : St} {H : Hp} {s : Shared} {Q : VK} {us gs : List Value} {kw : List (Str × Value)} {vs : List V} (T : ErrT X.K L C)
    (iC : PySem.W.findIn X.K (.ref C) "__init__" = some (some (.ref fI))) (tI : PySem.W.isFn X.K (.ref fI) = true) (F : FnOk X.prog X.w X.K X.mg X.base CX k fI fd ps sp) (hr : Room (k + 1) X.A)
    (hb : ∀ (s' : Shared) (u : Value), X.K.In s'.heap → (u :: gs).length = ps.length → BindsTo s' fd ⟨u :: us, kw⟩ (ps.zip (u :: gs))) (hx : Passes CX X E) (I : Inv X pins σ H s) (r : Vals vs gs) (hl : us.length ≤ gs.length) (hv : vs.length ≤ 1000)
    (h : ∀ a, H a = none → sp (.ref a :: vs) (upd H a (exo a C none)) (fun v H2 => v = .non ∧ Q (.ref a) H2) E) :
    wpAny (model X.prog X.w) X.A (call (.ref C) us kw) (EP X pins σ Q) X.xe s := by
  obtain ⟨p, anc, ha, hC⟩ := T.line
  obtain ⟨hp, g, dr, tk, os⟩ := s
  have above : hp.objs.size ≤ hp.objs.size + 1 := Nat.le_succ _
  have hq := h (hp.objs.size + 1) (I.hok.fresh above)
  have kept : ∀ b o, hp.get? b = some o → ((hp.push (PySem.W.kdv_tup us)).push (PySem.HandSPX.excO C hp.objs.size)).get? b = some o := fun b o z => Heap.get?_push_of_some _ (Heap.get?_push_of_some _ z)
  have new : ((hp.push (PySem.W.kdv_tup us)).push (PySem.HandSPX.excO C hp.objs.size)).get? (hp.objs.size + 1) = some (PySem.HandSPX.excO C hp.objs.size) := by heap_get
  have J : Inv X pins σ (upd H (hp.objs.size + 1) (exo (hp.objs.size + 1) C none)) ⟨(hp.push (PySem.W.kdv_tup us)).push (PySem.HandSPX.excO C hp.objs.size), g, dr, tk, os⟩ :=
    I.laid (t' := tk) kept above (exo_ok new)
  have rr : Vals (V.ref (hp.objs.size + 1) :: vs) (Value.ref (hp.objs.size + 1) :: gs) := .cons rfl r
  have ln : (Value.ref (hp.objs.size + 1) :: gs).length = ps.length := rr.length.symm.trans (F.len _ _ _ _ hq)
  have lu : us.length ≤ sizeLine := Nat.le_trans hl (Nat.le_trans (Nat.le_of_eq (Paired.length r).symm) (Nat.le_trans hv (by decide)))
  refine wpAny_call (PySem.GyErr.call_err (anc_refs ha) (I.kIn _ _ hC) (PySem.W.looks_findIn I.kIn iC) (fun u => PySem.W.bind_fn I.kIn u (beq_iff_eq.mp tI)) lu
    (codeAny_mono (F.run _ X.stack _ _ ⟨Value.ref (hp.objs.size + 1) :: us, kw⟩ _ _ _ E (hr.make C us kw) (J.env0.make C us kw) (hb _ _ J.kIn ln) rr hq) fun re s' z => ?_))
  cases re with
  | error er => exact hx pins σ _ _ er s' J z
  | ok fl =>
    cases fl with
    | ret u =>
      obtain ⟨v, H', I3, rv, ev, q3⟩ := J.after z
      subst ev
      exact ⟨rv, V.ref (hp.objs.size + 1), H', I3, rfl, q3⟩
    | next => exact z.elim
    | brk => exact z.elim
    | cont => exact z.elim
/-- C(e, ..) -/
theorem pe_err (T : ErrT X.K L C) (iC : PySem.W.findIn X.K (.ref C) "__init__" = some (some (.ref fI))) (tI : PySem.W.isFn X.K (.ref fI) = true) (F : FnOk X.prog X.w X.K X.mg X.base CX k fI fd ps sp) (hr : Room (k + 1) X.A) (hb : Binds X.K fd ps []) (hx : Passes CX X E)
    (hg : Gl X x) (hm : X.mg x = some (.ref C)) (ha : PA X (e :: es) t) (hd : (x == ("__debug__" : Str)) = false := by decide) (h1 : starEach (e :: es) X.env = (false, eval e X.env) :: starEach es X.env := by rfl)
    (h2 : (backTo pos (starEach es X.env)).any (·.1) = false := by rfl) : PE X (.Call (.Name x p) (e :: es) [] pos) (tErr C sp E t) := ⟨fun pins s σ H Q I h =>
  wpAny_Call_Name_kw (ld_glob I hg hm (PySem.W.callWith_K (h₀ := X.base) I.ok.mod.kin T.kp (thn (ha.run pos pins s σ H _ I h) fun us s1 ⟨vs, H1, I1, r, hv, q⟩ =>
    ⟨I1.kIn, run_err (gs := us) T iC tI F hr (fun s' u ki l => by have z := hb s' (u :: us) ki (by rw [List.append_nil]; exact l); rwa [List.append_nil] at z) hx I1 r (Nat.le_refl _) hv q⟩) h1 h2) hd)⟩
/-- C() -/
theorem pe_err0 (T : ErrT X.K L C) (iC : PySem.W.findIn X.K (.ref C) "__init__" = some (some (.ref fI))) (tI : PySem.W.isFn X.K (.ref fI) = true) (F : FnOk X.prog X.w X.K X.mg X.base CX k fI fd ps sp) (hr : Room (k + 1) X.A) (hb : Binds X.K fd ps []) (hx : Passes CX X E)
    (hg : Gl X x) (hm : X.mg x = some (.ref C)) (hd : (x == ("__debug__" : Str)) = false := by decide) : PE X (.Call (.Name x p) [] [] pos) (tErr C sp E tNil) := ⟨fun pins s σ H Q I h =>
  wpAny_Call_Name_kw (ld_glob I hg hm (PySem.W.callWith_K0 I.kIn T.kp (run_err (us := []) (gs := []) (vs := []) T iC tI F hr (fun s' u ki l => hb s' [u] ki l) hx I .nil (Nat.le_refl _) (by decide) h.2)) hd)⟩
/-- how C(f = e) binds -/
def KwB (K : PySem.W.Frag) (fd : FuncData) (ps : List Str) (f : Str) : Prop := ∀ (s : Shared) (u w : Value), K.In s.heap → BindsTo s fd ⟨[u], [(f, w)]⟩ (ps.zip [u, w])
theorem kw_binds {K : PySem.W.Frag} {y qual : Str} {st : Stmt} {a : Addr} (F : Fun K y qual st a fd) (h : ∀ (kV doc pm : Value) (an : Option Addr) (cdv ct u w : Value), bindArgs (PySem.W.fnOf y qual (defArgs st) (defBody st) (defScope st) .none kV doc pm an cdv ct) ⟨[u], [(f, w)]⟩ = pure (ps.zip [u, w])) : KwB K fd ps f := by
  obtain ⟨_, _, kV, doc, pm, an, cdv, ct, _, rfl, _, _⟩ := F.ex
  exact fun s u w _ => .of_eq (h kV doc pm an cdv ct u w)
/-- C(f = e) -/
theorem pe_errK (T : ErrT X.K L C) (iC : PySem.W.findIn X.K (.ref C) "__init__" = some (some (.ref fI))) (tI : PySem.W.isFn X.K (.ref fI) = true) (F : FnOk X.prog X.w X.K X.mg X.base CX k fI fd ps sp) (hr : Room (k + 1) X.A) (hb : KwB X.K fd ps f) (hx : Passes CX X E)
    (hg : Gl X x) (hm : X.mg x = some (.ref C)) (ha : PE X e te) (hd : (x == ("__debug__" : Str)) = false := by decide) : PE X (.Call (.Name x p) [] [⟨some f, e, kpos⟩] pos) (tErr C sp E (tCons te tNil)) := ⟨fun pins s σ H Q I h => by
  refine wpAny_Call_Name_kw (ld_glob I hg hm ?_ hd)
  refine PySem.W.callWith_KW0 (h₀ := X.base) I.ok.mod.kin T.kp (by rfl) ?_ (by rfl)
  show wpAny _ _ (evalAll [do let v ← eval e X.env; standAt pos; pure v]) _ _ s
  refine wpAny_evalAll_cons (wpAny_bind (thn (ha.run pins s σ H _ I h) fun u s1 ⟨v, H1, I1, r, hv, q⟩ => wpAny_bind (wpAny_standAt (wpAny_pure ?_))))
  exact wpAny_evalAll_nil ⟨I1.kIn, run_err (gs := [u]) T iC tI F hr (fun s' o ki _ => hb s' o u ki) hx I1 (.cons r .nil) (Nat.zero_le _) hv q⟩⟩
/-! ### read -/
/-- x.f of an error at a -/
def tXv (K : PySem.W.Frag) (f : Str) (te : TE) : TE := fun σ H Q => te σ H fun x H1 => ∃ (a C dd : Addr) (fs : List (Str × V)) (v : V), x = .ref a ∧ H1 a = some (exo a C (some dd)) ∧ H1 dd = some (exd dd fs) ∧ (∃ L, ErrT K L C) ∧ PySem.W.findIn K (.ref C) f = some none ∧ fs.lookup f = some v ∧ Q v H1
theorem pe_xv (he : PE X e te) (hb : attributeBase e f X.env (eval e X.env) = eval e X.env := by rfl) : PE X (.Attribute e f pos) (tXv X.K f te) := ⟨fun pins s σ H Q I h => attr_of hb (thn (he.run pins s σ H _ I h) fun u s1 ⟨x, H1, I1, rx, a, C, dd, fs, v, ex, ea, ed, ⟨L, T⟩, hno, l, q⟩ => by
  subst ex
  cases (show u = Value.ref a from rx)
  obtain ⟨t1, ho⟩ := exo_at I1.hok ea
  obtain ⟨mA, hns, hr⟩ := exd_at I1.hok ed
  obtain ⟨od, hod, hl⟩ := lookIn_ns hns
  obtain ⟨u, hu, ru⟩ := RelO.some_of (v := v) (o := mA f) (by rw [← l]; exact hr f)
  have J : PySem.W.InstAt s1.heap a { cls := .ref C, dict := some dd, data := .fields #[.ref t1, .none, .none, .none, .bool false, .none] } C (some od) := ⟨ho, rfl, rfl, hod⟩
  exact PySem.HandSPX.exc_get I1.kIn J T.ga T.gg (T.subT (by decide +kernel)) (PySem.W.findObj_own T.hd hno rfl (by rw [hl, hu])) (handed_of ru) ⟨v, H1, I1.tok _, ru, q⟩)⟩
/-! ### asked for its class -/
/-- an error of the class at C at a, whose fields are fs (none: it has no dict) -/
def ErrAt (H : Hp) (a C : Addr) : Option (List (Str × V)) → Prop
  | none => H a = some (exo a C none)
  | some fs => ∃ dd, H a = some (exo a C (some dd)) ∧ H dd = some (exd dd fs)
theorem ErrAt.same {H H' : Hp} {a C : Addr} {o : Option (List (Str × V))} (h : ErrAt H a C o) (s : Same H H') : ErrAt H' a C o := by
  cases o with
  | none => exact s _ _ h
  | some fs =>
    obtain ⟨dd, h1, h2⟩ := h
    exact ⟨dd, s _ _ h1, s _ _ h2⟩
def rIsV (K : PySem.W.Frag) : List V → Hp → VK → Prop := fun xs H Q => ∃ (a C L : Addr) (o : Option (List (Str × V))) (c : V) (cv : Value) (b : Bool), xs = [.ref a, c] ∧ ErrAt H a C o ∧ ErrT K L C ∧ ErrG K ∧ ClsV c cv ∧ PySem.W.kitOne K (.ref C) cv = some b ∧ Q (.bl b) H
theorem call_isV : CallR X (.builtin "isinstance") (rIsV X.K) := by
  intro pins s σ H xs us Q I r h
  obtain ⟨a, C, L, o, c, cv, b, rfl, ha, T, G, hc, e, q⟩ := h
  obtain ⟨u1, u2, rfl, r1, r2⟩ := vals2 r
  cases (show u1 = Value.ref a from r1)
  have e2 := hc.eq r2
  subst e2
  have J : ∃ (ox : Obj) (od : Option Obj), PySem.W.InstAt s.heap a ox C od := by
    cases o with
    | none =>
      obtain ⟨t1, ho⟩ := exo_at I.hok ha
      exact ⟨_, none, ho, rfl, rfl, True.intro⟩
    | some fs =>
      obtain ⟨dd, h1, h2⟩ := ha
      obtain ⟨t1, ho⟩ := exo_at I.hok h1
      obtain ⟨mA, hns, _⟩ := exd_at I.hok h2
      obtain ⟨od, hod, _⟩ := lookIn_ns hns
      exact ⟨_, some od, ho, rfl, rfl, hod⟩
  obtain ⟨ox, od, J⟩ := J
  exact PySem.W.kia_one (PySem.W.kitx_exc T.isC T.ga T.gg (T.subT (by decide +kernel)) T.ca G.sp G.tk (T.subT (t := "object") (by decide +kernel))) I.kIn J e (fun z => nomatch z) fun tk => ⟨.bl b, H, I.tok tk, rfl, q⟩
/-! ### what __init__ promises -/
def spErrF (C : Addr) (f : Str) : Sp := fun vs H Q _ => ∃ (a : Addr) (y : V), vs = [.ref a, y] ∧ H a = some (exo a C none) ∧ ∀ dx, H dx = none → dx ≠ a → Q .non (upd (upd H dx (exd dx [(f, y)])) a (exo a C (some dx)))
def spErr0 (K : PySem.W.Frag) : Sp := fun vs H Q _ => ∃ (a C L : Addr), vs = [.ref a] ∧ ErrT K L C ∧ H a = some (exo a C none) ∧ Q .non H
/-- an error with one field, made -/
theorem errF {H : Hp} {C : Addr} {f : Str} {y : V} {Q : Addr → Hp → Prop} {E : XK} (h : ∀ a H', H a = none → Same H H' → ErrAt H' a C (some [(f, y)]) → Q a H') :
    ∀ a, H a = none → spErrF C f (.ref a :: [y]) (upd H a (exo a C none)) (fun v H2 => v = .non ∧ Q a H2) E := fun a na => by
  refine ⟨a, y, rfl, upd_same, fun dx nd ne => ⟨rfl, h a _ na (fun b o e => ?_) ⟨dx, upd_same, ?_⟩⟩⟩
  · have nb : b ≠ a := ne_of_none e na
    have nd' : H dx = none := by rw [upd_ne ne] at nd; exact nd
    rw [upd_ne nb, upd_ne (ne_of_none e nd'), upd_ne nb]
    exact e
  · rw [upd_ne ne, upd_same]
theorem err0 {K : PySem.W.Frag} {L : Addr} {H : Hp} {C : Addr} {Q : Addr → Hp → Prop} {E : XK} (T : ErrT K L C) (h : ∀ a H', H a = none → Same H H' → ErrAt H' a C none → Q a H') :
    ∀ a, H a = none → spErr0 K (.ref a :: []) (upd H a (exo a C none)) (fun v H2 => v = .non ∧ Q a H2) E := fun a na =>
  ⟨a, C, L, rfl, T, upd_same, rfl, h a _ na (same_upd na) upd_same⟩
end
end Gy
namespace Gy
open PySem L2
/-! ### a text some times over -/
theorem fold_size {α : Type} (a : Array α) : ∀ (n : Nat) (acc : Array α), ((List.replicate n a).foldl (· ++ ·) acc).size = acc.size + n * a.size
  | 0, acc => by simp
  | n + 1, acc => by
    rw [List.replicate_succ, List.foldl_cons, fold_size a n, Array.size_append, Nat.succ_mul]
    omega
theorem op_repS {X : Cx} : OpR X (binaryOp .Mult) (fun x y H Q => ∃ (z : Str) (k : Int), x = .str z ∧ y = .int k ∧ 0 ≤ k ∧ k ≤ 1000 ∧ z.length ≤ 1000 ∧ ∀ r : Str, Q (.str r) H) := by
  intro pins s σ H x y v u Q I rx ry h
  obtain ⟨z, k, rfl, rfl, h0, h1, hz, q⟩ := h
  obtain ⟨t, rfl⟩ := rx
  obtain ⟨t2, rfl⟩ := ry
  have hm : z.length * k.toNat ≤ 1000 * 1000 := Nat.mul_le_mul hz (by omega)
  have sl : (1000 * 1000 : Nat) ≤ sizeLine := by decide
  refine PySem.P.mul_str (by rw [decide_eq_false (by omega), decide_eq_false (by omega)]; rfl) (fun hk _ => ?_) (fun _ _ => ?_) ?_
  · have : (z.length : Int) ≤ (2 ^ 63 - 1) / k := by
      refine Int.le_ediv_of_mul_le (by omega) ?_
      have e : ((z.length * k.toNat : Nat) : Int) = (z.length : Int) * k := by rw [Int.natCast_mul, Int.toNat_of_nonneg h0]
      omega
    omega
  · show decide (z.length * k.toNat > sizeLine) = false
    exact decide_eq_false (by omega)
  · split
    · exact ⟨by decide, .str _, H, I.tok _, ⟨_, rfl⟩, q _⟩
    · split
      · exact ⟨.str z, H, I, ⟨_, rfl⟩, q z⟩
      · refine ⟨?_, .str _, H, I.tok _, ⟨_, rfl⟩, q _⟩
        show ((List.replicate k.toNat z.cps).foldl (· ++ ·) #[]).size ≤ sizeLine
        rw [fold_size]
        have e : z.length = z.cps.size := rfl
        rw [e, Nat.mul_comm] at hm
        have e0 : (#[] : Array UInt32).size = 0 := rfl
        simp only [List.size_toArray, List.length_nil]
        omega
/-- the rest of a body, told once for several ways -/
theorem seq_ways {t u : TS} {D : Ends} {σ : St} {H : Hp} (J : St → Hp → Prop) (rest : ∀ σ' H', J σ' H' → u D σ' H') (main : ∀ D' : Ends, (∀ σ' H', J σ' H' → D'.nx σ' H') → t D' σ H) : tSeq t u D σ H := main _ rest
end Gy

set_option Elab.async false
set_option linter.all false
set_option maxRecDepth 100000
set_option maxHeartbeats 4000000
/-! Lay4: a deed is tried: lambdas handed to a def, the error that comes out of one, looked at by another def. -/
namespace Gy
open PySem L2
open L2H (RoomH PinOk cxH inv_startH roomH_of)
/-! ### defs that are called while an error is handled, and look at it -/
/-- what a def promises that gets the handled error: a its place, cls its class, d its dict -/
abbrev SpE := Addr → Value → Option Addr → Sp
structure FnP (P : Program) (w : World) (K : PySem.W.Frag) (mg : Str → Option Value) (base : Heap) (k : Nat) (f : Addr) (fd : FuncData) (ps : List Str) (sp : SpE) : Prop where
  len : ∀ a cls d vs H Q E, sp a cls d vs H Q E → vs.length = ps.length
  run : ∀ (A : Around) (outer : List Env) (s : Shared) (H : Hp) (args : Args) (us : List Value) (vs : List V) (Q : VK) (p : Addr × Obj) (cls : Value) (d : Option Addr), RoomH k A → PinOk outer H s p → Zc cls d p.2 → (∃ fs, p.2.data = .fields fs) →
    Env0 P w K mg base A outer s H → BindsTo s fd args (ps.zip us) → Vals vs us → sp p.1 cls d vs H Q E0 → codeAny (model P w) A (.call (.ref f) args) (CR CX0 outer P w H s Q E0) s
theorem Fun.okP {P : Program} {w : World} {K : PySem.W.Frag} {mg : Str → Option Value} {base : Heap} {k : Nat} {x qual : Str} {st : Stmt} {f : Addr} {fd : FuncData} {N ps : List Str} {sp : SpE} (F : Fun K x qual st f fd) (S : FnScope N ps (defScope st))
    (len : ∀ a cls d vs H Q E, sp a cls d vs H Q E → vs.length = ps.length)
    (body : ∀ (cdv : Value) (A : Around) (outer : List Env) (s : Shared) (H : Hp) (vs : List V) (Q : VK) (p : Addr × Obj) (cls : Value) (d : Option Addr), RoomH k (A.deeper (PyProof.Rows.envOfC qual (defScope st) s.heap.objs.size f cdv)) → Zc cls d p.2 → (∃ fs, p.2.data = .fields fs) → sp p.1 cls d vs H Q E0 →
      ∃ t, PSs (cxH CX0 P w K mg base N qual (defScope st) f cdv A outer s H E0 p).nox (defBody st) t ∧ t { nx := fun _ H' => Q .non H', rt := Q } (start N vs) H) : FnP P w K mg base (k + 1) f fd ps sp := by
  obtain ⟨oc, od, kV, doc, pm, an, cdv, ct, osl, rfl, lk, hcd⟩ := F.ex
  refine ⟨len, fun A outer s H args us vs Q p cls d hr hp hz hf e0 hb r h => ?_⟩
  have hl := len _ _ _ _ _ _ _ h
  have KX : K.In s.heap := e0.mod.kin.keeps fun b o e => (e0.bs b o e).1
  have kinds : ∀ y ∈ ps.zip us, (defScope st).names.lookup y.1 = some .local ∨ ((defScope st).names.lookup y.1 = some .cell ∧ ((cellsFrom (s.heap.objs.size + 1) (defScope st).names []).lookup y.1).isSome = true) := fun y hy =>
    (S.par y.1 (List.of_mem_zip hy).1).elim .inl fun q => .inr ⟨q, PySem.W.cellsFrom_some _ _ _ (.inl q)⟩
  refine codeAny_call_function hr.depth (KX _ _ lk) rfl S.co S.gen rfl (PySem.W.codeRec_of KX hcd) (hb _ _ _ _ (wpAny_newFunctionEnv_cells S.kind kinds fun env he s1 x => ?_))
  subst he
  refine ⟨(e0.mod.nolimit.keeps fun b o e => (e0.bs b o e).1).keeps x.toInCall.keep, codeAny_func ?_⟩
  obtain ⟨t, ht, hq⟩ := body cdv A outer s H vs Q p cls d (hr.deeper _) hz hf h
  refine wpAny_mono (ht.nox.run [] s1 (L2.start N vs) H _ (inv_startH S hp e0 hl r x) hq) (fun fl s' z => ?_) fun e s' z => z
  cases fl with
  | ret u =>
    obtain ⟨v, σ', H', J, rv, q⟩ := z
    exact ⟨v, H', J.os, J.bare, J.base, J.hok, rv, q⟩
  | next =>
    obtain ⟨σ', H', J, q⟩ := z
    exact ⟨.non, H', J.os, J.bare, J.base, J.hok, rfl, q⟩
  | brk =>
    obtain ⟨_, _, _, q⟩ := z
    exact q.elim
  | cont =>
    obtain ⟨_, _, _, q⟩ := z
    exact q.elim
/-- such a call -/
def tCallP (sp : SpE) (a : Addr) (cls : Value) (d : Option Addr) (t : TA) : TE := fun σ H Q => t σ H fun vs H1 => sp a cls d vs H1 Q E0
section
variable {X : Cx} {k : Nat} {f : Addr} {fd : FuncData} {ps : List Str} {sp : SpE} {x n : Str} {q pos : Pos} {e : Expr} {es : List Expr} {t : TA} {te : TE} {p : Addr × Obj} {cls : Value} {d : Option Addr}
theorem pe_callP (F : FnP X.prog X.w X.K X.mg X.base k f fd ps sp) (hr : RoomH k X.A) (hp : p ∈ X.pn) (hz : Zc cls d p.2) (hf : ∃ fs, p.2.data = .fields fs) (hg : Gl X x) (hm : X.mg x = some (.ref f)) (hk : PySem.W.keepIn X.K (.ref f) = true) (hb : Binds X.K fd ps [])
    (ha : PA X (e :: es) t) (hd : (x == ("__debug__" : Str)) = false := by decide) (h1 : starEach (e :: es) X.env = (false, eval e X.env) :: starEach es X.env := by rfl) (h2 : (backTo pos (starEach es X.env)).any (·.1) = false := by rfl) :
    PE X (.Call (.Name x q) (e :: es) [] pos) (tCallP sp p.1 cls d t) := ⟨fun pins s σ H Q I h =>
  wpAny_Call_Name_kw (ld_glob I hg hm (PySem.W.callWith_K (h₀ := X.base) I.ok.mod.kin hk (thn (ha.run pos pins s σ H _ I h) fun us s1 ⟨vs, H1, I1, r, q1⟩ => ⟨I1.kIn, by
    have P1 := I1.pin p (List.mem_append_left _ hp)
    have pin : PinOk X.stack H1 s1 p := ⟨P1.1, P1.2.1, fun hm => (List.mem_cons.mp (I1.stkSub p.1 hm)).elim P1.2.2.1 P1.2.2.2.1, P1.2.2.2.2⟩
    have b := hb s1 us I1.kIn (by rw [List.append_nil, ← r.length]; exact F.len _ _ _ _ _ _ _ q1)
    rw [List.append_nil] at b
    refine wpAny_call (codeAny_mono (F.run X.A X.stack s1 H1 ⟨us, []⟩ us vs Q p cls d hr pin hz hf I1.env0 b r q1) fun rs s' z => ?_)
    cases rs with
    | error er => exact (show False from z).elim
    | ok fl =>
      cases fl with
      | ret u => exact I1.after z
      | next => exact z.elim
      | brk => exact z.elim
      | cont => exact z.elim⟩) h1 h2) hd)⟩
/-- isinstance of the error that is looked at -/
def rIsP (K : PySem.W.Frag) (a C : Addr) (d : Option Addr) : List V → Hp → VK → Prop := fun xs H Q => ∃ (c : V) (cv : Value) (b : Bool), xs = [.ref a, c] ∧ (∀ dd, d = some dd → ∃ fs, H dd = some (.xd fs)) ∧ ClsV c cv ∧ PySem.W.kitOne K (.ref C) cv = some b ∧ Q (.bl b) H
theorem call_isP {L C : Addr} (T : ErrT X.K L C) (G : ErrG X.K) (hp : p ∈ X.pn) (hz : Zc (.ref C) d p.2) (hf : ∃ fs, p.2.data = .fields fs) : CallR X (.builtin "isinstance") (rIsP X.K p.1 C d) := by
  intro pins s σ H xs us Q I r h
  obtain ⟨c, cv, b, rfl, hd, hc, e, z⟩ := h
  obtain ⟨u1, u2, rfl, r1, r2⟩ := vals2 r
  cases (show u1 = Value.ref p.1 from r1)
  have e2 := hc.eq r2
  subst e2
  obtain ⟨hget, _⟩ := I.pin p (List.mem_append_left _ hp)
  obtain ⟨fs, hv⟩ := hf
  have nc : PySem.W.notCls p.2 = true := by
    unfold PySem.W.notCls
    rw [hv]
  obtain ⟨od, J⟩ : ∃ od, PySem.W.InstAt s.heap p.1 p.2 C od := by
    cases d with
    | none => exact ⟨none, hget, hz.1, nc, by rw [hz.2]; exact True.intro⟩
    | some dd =>
      obtain ⟨gs, hdd⟩ := hd dd rfl
      obtain ⟨mA, hns, _⟩ := (show ObjOk X.prog X.w H s.heap dd (.xd gs) from I.hok dd _ hdd)
      obtain ⟨od, ho, _⟩ := lookIn_ns hns
      exact ⟨some od, hget, hz.1, nc, by rw [hz.2]; exact ho⟩
  exact PySem.W.kia_one (PySem.W.kitx_exc T.isC T.ga T.gg (T.subT (by decide +kernel)) T.ca G.sp G.tk (T.subT (t := "object") (by decide +kernel))) I.kIn J e (fun z => nomatch z) fun tk => ⟨.bl b, H, I.tok tk, rfl, z⟩
/-- e.n of that error -/
def tXp (a : Addr) (d : Option Addr) (n : Str) (te : TE) : TE := fun σ H Q => te σ H fun x H1 => x = .ref a ∧ ∃ (dd : Addr) (fs : List (Str × V)) (v : V), d = some dd ∧ H1 dd = some (.xd fs) ∧ fs.lookup n = some v ∧ Q v H1
theorem pe_xp {L C : Addr} (T : ErrT X.K L C) (hno : PySem.W.findIn X.K (.ref C) n = some none) (hp : p ∈ X.pn) (hz : Zc (.ref C) d p.2) (hf : ∃ fs, p.2.data = .fields fs) (he : PE X e te) (hb : attributeBase e n X.env (eval e X.env) = eval e X.env := by rfl) :
    PE X (.Attribute e n pos) (tXp p.1 d n te) := ⟨fun pins s σ H Q I h => attr_of hb (thn (he.run pins s σ H _ I h) fun u s1 ⟨y, H1, I1, rx, ey, dd, fs, v, ed, ea, l, z⟩ => by
  subst ey ed
  cases (show u = Value.ref p.1 from rx)
  obtain ⟨hget, _⟩ := I1.pin p (List.mem_append_left _ hp)
  obtain ⟨gs, hv⟩ := hf
  obtain ⟨mA, hns, hr⟩ := (show ObjOk X.prog X.w H1 s1.heap dd (.xd fs) from I1.hok dd _ ea)
  obtain ⟨od, ho, hl⟩ := lookIn_ns hns
  obtain ⟨u, hu, ru⟩ := RelO.some_of (v := v) (o := mA n) (by rw [← l]; exact hr n)
  have J : PySem.W.InstAt s1.heap p.1 p.2 C (some od) := ⟨hget, hz.1, by unfold PySem.W.notCls; rw [hv], by rw [hz.2]; exact ho⟩
  exact PySem.HandSPX.exc_get I1.kIn J T.ga T.gg (T.subT (by decide +kernel)) (PySem.W.findObj_own T.hd hno rfl (by rw [hl, hu])) (handed_of ru) ⟨v, H1, I1.tok _, ru, z⟩)⟩
end
/-! ### tried: try: return ("told", deed()) / except L as e: return looker(e) -/
/-- tl: the deed's reading; hd: what is done of its error -/
def TTry (K : PySem.W.Frag) (L : Addr) (sp : SpE) : (XK → Hp → VK → Prop) → Hp → VK → Prop := fun tl H Q =>
  tl (fun cls d H' => PySem.W.exmOne K cls (.ref L) = some true ∧ ∀ a, H' a = none → sp a cls d [.ref a] H' Q E0) H fun v H' => 2 ≤ sizeLine ∧ ∀ p, H' p = none → Q (.ref p) (upd H' p (.tup [.str "told", v]))
theorem try_gives {X : Cx} {x a e y n q : Str} {sg : Scope} {g L fE : Addr} {cdg : Value} {j k kk : Nat} {fd : FuncData} {ps : List Str} {sp : SpE} {p1 p2 p3 p4 p5 p6 p7 p8 p9 p10 pb pc : Pos} (hnd : ([a, n] : List Str).Nodup) (hln : sg.names.lookup n = some .local)
    (hge : sg.names.lookup e = some .globalImplicit) (hme : X.mg e = some (.ref L)) (hde : (e == ("__debug__" : Str)) = false) (hk : sg.kind = .function)
    (F : FnP X.prog X.w X.K X.mg X.base k fE fd ps sp) (hr : ∀ s : Shared, Room k (X.A.deeper (PyProof.Rows.envOfC x sg s.heap.objs.size g cdg))) (hgy : sg.names.lookup y = some .globalImplicit) (hmy : X.mg y = some (.ref fE)) (hky : PySem.W.keepIn X.K (.ref fE) = true) (hb : Binds X.K fd ps [])
    (hdy : (y == ("__debug__" : Str)) = false) (hdn : (n == ("__debug__" : Str)) = false) (hcn : (n == ("__classdict__" : Str)) = false) :
    LamX.GivesTo X [a, n] x sg g cdg
      [.Try [.Return (some (.Tuple [.Constant (.str "told") j p1, .Call (.Name a p2) [] [] p3] kk p4)) p5]
        [.ExceptHandler (some (.Name e p6)) (some n) [.Return (some (.Call (.Name y p7) [.Name n p8] [] p9)) p10] pb] [] [] pc] a q (TTry X.K L sp) := by
  intro f c' s H Q tl act hc h
  refine ⟨_, pss_one (ps_try_as (X := (cxOf C8.CX0 X.prog X.w X.K X.mg X.base [a, n] x sg g cdg X.A X.stack s H C8.E0).nox) (i := 1) (c := .ref L)
      (ts := fun a cls d D σ H => (σ.length = 2 → σ[1]? = some (some (.ref a))) ∧ sp a cls d [.ref a] H D.rt E0)
      (tb := fun W D σ H => ∃ Ech : XK, (∀ cls d σ' H', Ech cls d H' → W cls d σ' H') ∧ σ[0]? = some (some (.ref f)) ∧ H c' = some (LamX.CodeO c' q) ∧ tl Ech H fun v H1 => 2 ≤ sizeLine ∧ ∀ p, H1 p = none → D.rt (.ref p) (upd H1 p (.tup [.str "told", v])))
      rfl rfl hnd rfl hln ⟨hge, hde, .inl hme⟩ LamX.takes0 (fun W pn xe tk _ => ?_) (fun b oe cls d pn hz hf => ?_)), ?_⟩
  · refine ⟨fun pins s' σ H' D I h' => ?_⟩
    obtain ⟨Ech, hW, h1, h2, h3⟩ := h'
    have hp := act W pn xe Ech p2 p3 tk hW
    have ht : PE ((cxOf C8.CX0 X.prog X.w X.K X.mg X.base [a, n] x sg g cdg X.A X.stack s H C8.E0).tr pn xe) (.Tuple [.Constant (.str "told") j p1, .Call (.Name a p2) [] [] p3] kk p4) _ := pe_tup (pa_cons pe_str (pa_cons hp pa_nil))
    have hq := pss_one (ps_ret (pos := p5) ht)
    exact hq.run pins s' σ H' D I ⟨h1, h2, h3⟩
  · refine ⟨fun pins s' σ H' D I h' => ?_⟩
    have hc' := pe_callP (X := (Cx.suite (cxOf C8.CX0 X.prog X.w X.K X.mg X.base [a, n] x sg g cdg X.A X.stack s H C8.E0).nox b ((b, oe) :: pn))) (p := (b, oe)) (q := p7) (pos := p9) F ⟨(hr s).dp, (hr s).un⟩ List.mem_cons_self hz hf hgy hmy hky hb (pa_cons (pe_var (i := 1) (pos := p8) rfl (.inl hln) hdn hcn) pa_nil) hdy
    exact (pss_one (ps_ret (pos := p10) hc')).run pins s' σ H' D I ⟨_, h'.1 I.len, h'.2⟩
  · refine ⟨fun cls d H' => PySem.W.exmOne X.K cls (.ref L) = some true ∧ ∀ a, H' a = none → sp a cls d [.ref a] H' Q E0, fun cls d σ' H' ⟨e1, e2⟩ => ⟨true, e1, fun _ a na => ⟨fun hl => ?_, e2 a na⟩, fun z => nomatch z⟩, rfl, hc, ?_⟩
    · rw [List.length_set] at hl
      rw [List.getElem?_set_self (by omega)]
    · exact h
end Gy
namespace PySem.GyDec
open PySem PySem.W
section
variable {C dx x : Addr} (a : Bool)
theorem addB_dec : GivesAt (fun s => s.heap.get? x = some (instObj C dx)) (Builtin.«int.__add__» ⟨[.bool a, .ref x], []⟩) (.val .notImplemented) := fun prog w A R s hP h => by
  obtain ⟨hp, g, d, tk, os⟩ := s
  have at_ : Heap.get? (Shared.heap ⟨hp, g, d, tk, os⟩) x = some (instObj C dx) := hP
  wp_walk using AutoSeq1.wpAny_loadPart' at_
  exact h
theorem subB_dec : GivesAt (fun s => s.heap.get? x = some (instObj C dx)) (Builtin.«int.__sub__» ⟨[.bool a, .ref x], []⟩) (.val .notImplemented) := fun prog w A R s hP h => by
  obtain ⟨hp, g, d, tk, os⟩ := s
  have at_ : Heap.get? (Shared.heap ⟨hp, g, d, tk, os⟩) x = some (instObj C dx) := hP
  wp_walk using AutoSeq1.wpAny_loadPart' at_
  exact h
theorem mulB_dec : GivesAt (fun s => s.heap.get? x = some (instObj C dx)) (Builtin.«int.__mul__» ⟨[.bool a, .ref x], []⟩) (.val .notImplemented) := fun prog w A R s hP h => by
  obtain ⟨hp, g, d, tk, os⟩ := s
  have at_ : Heap.get? (Shared.heap ⟨hp, g, d, tk, os⟩) x = some (instObj C dx) := hP
  wp_walk using AutoSeq1.wpAny_loadPart' at_
  exact h
end
section
variable {prog : Program} {w : World} {A : Around} {E : Value → Shared → Prop} {s : Shared} {C dx x : Addr} {a : Bool} {P : Option Value → Shared → Prop}
theorem tryB_dec {name : Str} {id : String} {B : Builtin} (slot : Slot "bool" name id) (entry : entryFor table id = some B) (args : argsOk id ⟨[.bool a, .ref x], []⟩)
    (g : GivesAt (fun s => s.heap.get? x = some (instObj C dx)) (B ⟨[.bool a, .ref x], []⟩) (.val .notImplemented)) (hx : s.heap.get? x = some (instObj C dx)) (h : P none s) : wpAny (model prog w) A (tryMethod (.bool a) name (.ref x)) P E s :=
  wpAny_tryMethod_declines (PyProof.Rows.typeIs_bool' s a) slot (call_givesAt slot (PyProof.Rows.typeIs_bool' s a) entry args g hx ⟨rfl, h⟩)
theorem tryB_add (hx : s.heap.get? x = some (instObj C dx)) (h : P none s) : wpAny (model prog w) A (tryMethod (.bool a) (PySem.dunder Operator.Add.info.2) (.ref x)) P E s :=
  tryB_dec (name := PySem.dunder Operator.Add.info.2) (id := "int.__add__") (B := Builtin.«int.__add__») F.slot_bool_add F.entry_int_add (F.args_int_add_2 _ _) (addB_dec a) hx h
theorem tryB_sub (hx : s.heap.get? x = some (instObj C dx)) (h : P none s) : wpAny (model prog w) A (tryMethod (.bool a) (PySem.dunder Operator.Sub.info.2) (.ref x)) P E s :=
  tryB_dec (name := PySem.dunder Operator.Sub.info.2) (id := "int.__sub__") (B := Builtin.«int.__sub__») F.slot_bool_sub F.entry_int_sub (F.args_int_sub_2 _ _) (subB_dec a) hx h
theorem tryB_mul (hx : s.heap.get? x = some (instObj C dx)) (h : P none s) : wpAny (model prog w) A (tryMethod (.bool a) (PySem.dunder Operator.Mult.info.2) (.ref x)) P E s :=
  tryB_dec (name := PySem.dunder Operator.Mult.info.2) (id := "int.__mul__") (B := Builtin.«int.__mul__») F.slot_bool_mul F.entry_int_mul (F.args_int_mul_2 _ _) (mulB_dec a) hx h
end
end PySem.GyDec
namespace Gy
open PySem L2
/-! ### an own class's operators beside what is no number -/
/-- a built-in type beside an operator: its own two slots are none of numbers, and it is no kin of C -/
structure OddT (K : PySem.W.Frag) (C : Addr) (op : Operator) (T : String) : Prop where
  s1 : ∃ fo ro, PySem.W.findIn K (.type T) (PySem.dunder op.info.2) = some fo ∧ PySem.W.findIn K (.type T) (dunderR op.info.2) = some ro ∧ (T ≠ "bool" → ((fo.isSome && !isSeqSlot fo) || (ro.isSome && !isSeqSlot ro)) = false)
  up : PySem.W.subIn K (.type T) (.ref C) = some false
  dn : PySem.W.subIn K (.ref C) (.type T) = some false
section
variable {X : Cx} {CX : CXT} {C g r : Addr} {k : Nat} {fd : FuncData} {ps : List Str} {sp : Sp} {E : XK}
/-- x op y, y odd -/
def rGyDO (K : PySem.W.Frag) (C : Addr) (op : Operator) (sp : Sp) (E : XK) : R2 := fun x y H Q => ∃ a dx fs T, x = .ref a ∧ H a = some (.ins C dx fs) ∧ TyX K H y (.type T) ∧ OddT K C op T ∧ sp [x, y] H Q E
theorem op_gyDO {op : Operator} (D : GyOp X.K C op g r) (F : FnOk X.prog X.w X.K X.mg X.base CX k g fd ps sp) (hr : Room k X.A) (hb : Binds X.K fd ps []) (hx : Passes CX X E) : OpR X (binaryOp op) (rGyDO X.K C op sp E) := by
  intro pins s σ H x y v u Q I rx ry h
  obtain ⟨a, dx, fs, T, rfl, ha, ty, O, q⟩ := h
  cases (show v = Value.ref a from rx)
  obtain ⟨od, J, _⟩ := ins_at I ha
  obtain ⟨m, hF⟩ := I.fr
  obtain ⟨P, Z, p, _⟩ := kit_of I ry ty
  obtain ⟨fo, ro, h1, h2, _⟩ := O.s1
  refine PySem.W.gy_binT hF I.ok.mod.kin J (Z.ty _ _ I.kIn p) D.sf D.d D.df D.rm (.inr ⟨r, rfl⟩) h1 h2 O.up ?_
  exact wpAny_mono (run_fn (us := [.ref a, u]) (vs := [.ref a, y]) F hr hb .nil hx I (.cons rfl (.cons ry .nil)) q) (fun w s' z => by
    obtain ⟨z', H', I', rz, qz⟩ := z
    exact gy_back rz ⟨z', H', I', rz, qz⟩) fun _ _ e => e
/-- x op y, x odd: y's turned method -/
def rGyRO (K : PySem.W.Frag) (C : Addr) (op : Operator) (sp : Sp) (E : XK) : R2 := fun x y H Q => ∃ b dy gs T, y = .ref b ∧ H b = some (.ins C dy gs) ∧ TyX K H x (.type T) ∧ OddT K C op T ∧ (T = "bool" → ∃ c, x = .bl c) ∧ sp [y, x] H Q E
theorem op_gyRO {op : Operator} (dec : ∀ (A : Around) (E : Value → Shared → Prop) (s : Shared) (C dx x : Addr) (a : Bool) (P : Option Value → Shared → Prop), s.heap.get? x = some (PySem.W.instObj C dx) → P none s →
      wpAny (model X.prog X.w) A (tryMethod (.bool a) (PySem.dunder op.info.2) (.ref x)) P E s)
    (D : GyOp X.K C op g r) (F : FnOk X.prog X.w X.K X.mg X.base CX k r fd ps sp) (hr : Room k X.A) (hb : Binds X.K fd ps []) (hx : Passes CX X E) : OpR X (binaryOp op) (rGyRO X.K C op sp E) := by
  intro pins s σ H x y v u Q I rx ry h
  obtain ⟨b, dy, gs, T, rfl, hb', ty, O, hB, q⟩ := h
  cases (show u = Value.ref b from ry)
  obtain ⟨od, J, hg⟩ := ins_at I hb'
  obtain ⟨m, hF⟩ := I.fr
  obtain ⟨P, Z, p, _⟩ := kit_of I rx ty
  obtain ⟨fo, ro, h1, h2, h3⟩ := O.s1
  refine PySem.W.gy_binR hF I.ok.mod.kin J (Z.ty _ _ I.kIn p) D.sf D.d (.inr ⟨g, rfl⟩) D.rm D.rf h1 h2 O.dn (fun e P hp => ?_) ?_
  · by_cases hT : T = "bool"
    · obtain ⟨c, rfl⟩ := hB hT
      cases (show v = Value.bool c from rx)
      exact dec X.A _ s C dy b c P hg hp
    · rw [h3 hT] at e
      cases e
  · exact wpAny_mono (run_fn (us := [.ref b, v]) (vs := [.ref b, x]) F hr hb .nil hx I (.cons rfl (.cons rx .nil)) q) (fun w s' z => by
      obtain ⟨z', H', I', rz, qz⟩ := z
      exact gy_back rz ⟨z', H', I', rz, qz⟩) fun _ _ e => e
theorem op_gyROadd (D : GyOp X.K C .Add g r) (F : FnOk X.prog X.w X.K X.mg X.base CX k r fd ps sp) (hr : Room k X.A) (hb : Binds X.K fd ps []) (hx : Passes CX X E) : OpR X (binaryOp .Add) (rGyRO X.K C .Add sp E) :=
  op_gyRO (fun A E s C dx x a P hx hp => PySem.GyDec.tryB_add hx hp) D F hr hb hx
theorem op_gyROsub (D : GyOp X.K C .Sub g r) (F : FnOk X.prog X.w X.K X.mg X.base CX k r fd ps sp) (hr : Room k X.A) (hb : Binds X.K fd ps []) (hx : Passes CX X E) : OpR X (binaryOp .Sub) (rGyRO X.K C .Sub sp E) :=
  op_gyRO (fun A E s C dx x a P hx hp => PySem.GyDec.tryB_sub hx hp) D F hr hb hx
theorem op_gyROmul (D : GyOp X.K C .Mult g r) (F : FnOk X.prog X.w X.K X.mg X.base CX k r fd ps sp) (hr : Room k X.A) (hb : Binds X.K fd ps []) (hx : Passes CX X E) : OpR X (binaryOp .Mult) (rGyRO X.K C .Mult sp E) :=
  op_gyRO (fun A E s C dx x a P hx hp => PySem.GyDec.tryB_mul hx hp) D F hr hb hx
end
/-- whether a type's two slots of an operator are those of no number, bool aside -/
def oddB (op : Operator) (T : String) : Bool := match PySem.W.findIn [] (.type T) (PySem.dunder op.info.2), PySem.W.findIn [] (.type T) (dunderR op.info.2) with
  | some fo, some ro => T == "bool" || !((fo.isSome && !isSeqSlot fo) || (ro.isSome && !isSeqSlot ro))
  | _, _ => false
theorem oddB_all : ([Operator.Add, .Sub, .Mult].all fun op => ["NoneType", "bool", "str", "list", "tuple", "dict"].all (oddB op)) = true := by kernel_rfl
theorem oddB_ok {K : PySem.W.Frag} {op : Operator} {T : String} (h : oddB op T = true) : ∃ fo ro, PySem.W.findIn K (.type T) (PySem.dunder op.info.2) = some fo ∧ PySem.W.findIn K (.type T) (dunderR op.info.2) = some ro ∧ (T ≠ "bool" → ((fo.isSome && !isSeqSlot fo) || (ro.isSome && !isSeqSlot ro)) = false) := by
  unfold oddB at h
  have e1 : PySem.W.findIn K (.type T) (PySem.dunder op.info.2) = PySem.W.findIn [] (.type T) (PySem.dunder op.info.2) := rfl
  have e2 : PySem.W.findIn K (.type T) (dunderR op.info.2) = PySem.W.findIn [] (.type T) (dunderR op.info.2) := rfl
  rw [e1, e2]
  split at h
  · rename_i fo ro h1 h2
    refine ⟨fo, ro, h1, h2, fun n => ?_⟩
    rw [beq_eq_false_iff_ne.mpr n, Bool.false_or] at h
    exact Bool.not_eq_true' _ ▸ h
  · cases h
/-- the built-in types that odd things have, beside + - * -/
theorem odd_T {K : PySem.W.Frag} {C : Addr} {op : Operator} {T : String} (ho : op ∈ [Operator.Add, .Sub, .Mult]) (hT : T ∈ ["NoneType", "bool", "str", "list", "tuple", "dict"]) (up : PySem.W.subIn K (.type T) (.ref C) = some false) (dn : PySem.W.subIn K (.ref C) (.type T) = some false) : OddT K C op T :=
  ⟨oddB_ok (List.all_eq_true.mp (List.all_eq_true.mp oddB_all op ho) T hT), up, dn⟩
end Gy
namespace Gy
open PySem L2
/-- where a code object's table stands -/
def codeAt (o : Obj) : Option Value := match o.data with
  | .fields vs => vs[11]?
  | _ => none
theorem pss_never {X : Cx} {sts : List Stmt} : PSs X sts tNever := ⟨fun _ _ _ _ _ _ h => h.elim⟩
/-- a heap without its tables -/
def noT (H : Hp) : Hp := fun b => match H b with
  | some (.tbl _) => none
  | o => o
theorem noT_le (H : Hp) : Same (noT H) H := fun b o e => by
  unfold noT at e
  split at e
  · cases e
  · exact e
theorem noT_tbl {H : Hp} {b : Addr} {o : HO} (e : noT H b = some o) : ∀ ps, o ≠ .tbl ps := fun ps z => by
  unfold noT at e
  split at e
  · cases e
  · rename_i h
    rw [z] at e
    exact h _ e
theorem noT_at {H : Hp} {b : Addr} {o : HO} (h : H b = some o) (n : ∀ ps, o ≠ .tbl ps) : noT H b = some o := by
  unfold noT
  rw [h]
  split
  · rename_i ps e
    cases e
    exact absurd rfl (n ps)
  · rfl
theorem noT_none {H : Hp} {b : Addr} (h : H b = none) : noT H b = none := by
  unfold noT
  rw [h]
theorem ext_noT {H H1 : Hp} {G : Hp} (s : Same (noT G) H) (e : LamX.ExtN H H1) : Same (noT G) H1 := fun b o z => e b o (s b o z) (noT_tbl z)
end Gy

set_option Elab.async false
set_option linter.all false
set_option maxRecDepth 100000
set_option maxHeartbeats 4000000
/-! Lay5: texts of numbers; a staticmethod called through its class; sep.join(reversed(a list)). -/
namespace Gy
open PySem L2 TL NumText

/-! ### digits -/
/-- one or more digits from 0 to 9 -/
def dig (l : List Nat) : Bool := !l.isEmpty && l.all fun c => decide (48 ≤ c) && decide (c ≤ 57)
theorem dig_iff {l : List Nat} : dig l = true ↔ l ≠ [] ∧ AllDigits l := by
  unfold dig AllDigits
  rw [Bool.and_eq_true, List.all_eq_true]
  constructor
  · rintro ⟨a, b⟩
    refine ⟨fun e => (by rw [e] at a; cases a), fun c hc => ?_⟩
    have := b c hc
    rw [Bool.and_eq_true] at this
    exact ⟨of_decide_eq_true this.1, of_decide_eq_true this.2⟩
  · rintro ⟨a, b⟩
    refine ⟨?_, fun c hc => ?_⟩
    · cases l with
      | nil => exact absurd rfl a
      | cons _ _ => rfl
    · obtain ⟨h1, h2⟩ := b c hc
      rw [decide_eq_true h1, decide_eq_true h2]
      rfl
/-- digits without a nought ahead -/
def nz (l : List Nat) : Bool := dig l && (decide (l = [48]) || decide (l.head? ≠ some 48))
theorem numL_head {n : Nat} (h : 0 < n) : ∃ c r, numL n = c :: r ∧ 49 ≤ c := by
  induction n using Nat.strongRecOn with
  | _ n ih =>
    by_cases h10 : n < 10
    · exact ⟨48 + n, [], numL_lt h10, by omega⟩
    · obtain ⟨c, r, e, h9⟩ := ih (n / 10) (by omega) (by omega)
      rw [numL_step (by omega), e]
      exact ⟨c, r ++ [48 + n % 10], rfl, h9⟩
theorem nz_num (n : Nat) : nz (numL n) = true := by
  unfold nz
  rw [dig_iff.mpr ⟨numL_ne n, numL_digits n⟩, Bool.true_and]
  by_cases h : n = 0
  · subst h
    rw [numL_lt (by decide)]
    rfl
  · obtain ⟨c, r, e, h9⟩ := numL_head (Nat.pos_of_ne_zero h)
    rw [e]
    have : decide ((c :: r).head? ≠ some 48) = true := decide_eq_true (by
      show some c ≠ some 48
      intro z
      cases z
      omega)
    rw [this, Bool.or_true]
theorem map_ofNat : ∀ {l : List Nat}, AllDigits l → (l.map Char.ofNat).map Char.toNat = l
  | [], _ => rfl
  | c :: r, h => by
    have hc := h.head
    rw [List.map_cons, List.map_cons, map_ofNat h.tail]
    have : (Char.ofNat c).toNat = c := by
      have : ∀ d : Nat, 48 ≤ d → d ≤ 57 → (Char.ofNat d).toNat = d := by
        intro d h1 h2
        have e : d = 48 + (d - 48) := by omega
        have f : ∀ k : Nat, k < 10 → (Char.ofNat (48 + k)).toNat = 48 + k := by decide
        rw [e]
        exact f _ (by omega)
      exact this c hc.1 hc.2
    rw [this]
theorem num_nz {l : List Nat} (h : nz l = true) : numL (digitsVal l) = l := by
  unfold nz at h
  rw [Bool.and_eq_true] at h
  obtain ⟨hd, hz⟩ := h
  obtain ⟨hne, had⟩ := dig_iff.mp hd
  have hn : l.length = (l.length - 1) + 1 := by
    have := List.length_pos_iff.mpr hne
    omega
  have hh : l.length - 1 = 0 ∨ ∃ c r, l = c :: r ∧ 49 ≤ c := by
    match l, hne, had with
    | c :: r, _, had =>
      rw [Bool.or_eq_true] at hz
      rcases hz with hz | hz
      · left
        have := of_decide_eq_true hz
        rw [this]
        rfl
      · right
        have := of_decide_eq_true hz
        have h8 := had.head
        refine ⟨c, r, rfl, ?_⟩
        have : c ≠ 48 := fun e => this (by rw [e]; rfl)
        omega
  have t := toDigits_digitsVal (l.length - 1) l hn had hh
  unfold numL
  rw [t, map_ofNat had]
theorem nz_val {l : List Nat} (h : nz l = true) : ∃ n, l = numL n := ⟨_, (num_nz h).symm⟩
theorem nz_dig {l : List Nat} (h : nz l = true) : dig l = true := by
  unfold nz at h
  rw [Bool.and_eq_true] at h
  exact h.1
theorem digitsVal_lt {l : List Nat} (h : AllDigits l) : digitsVal l < 10 ^ l.length := by
  have : ∀ (l : List Nat) (a : Nat), AllDigits l → l.foldl (fun acc c => acc * 10 + (c - 48)) a < (a + 1) * 10 ^ l.length := by
    intro l
    induction l with
    | nil => intro a _; show a < (a + 1) * 1; omega
    | cons c r ih =>
      intro a h
      have hc := h.head
      have := ih (a * 10 + (c - 48)) h.tail
      rw [List.foldl_cons, List.length_cons, Nat.pow_succ]
      refine Nat.lt_of_lt_of_le this ?_
      have e : (a + 1) * (10 ^ r.length * 10) = ((a + 1) * 10) * 10 ^ r.length := by
        rw [Nat.mul_comm (10 ^ r.length) 10, ← Nat.mul_assoc]
      rw [e]
      exact Nat.mul_le_mul_right _ (by omega)
  have := this l 0 h
  rw [Nat.zero_add, Nat.one_mul] at this
  exact this

/-! ### the text of a fraction -/
def signL (i : Int) : List Nat := if i < 0 then [45] else []
def underL (i : Int) : List Nat := if i = 1 then [] else 47 :: numL i.natAbs
def fracL (p : Int × Int) : List Nat := signL p.1 ++ (numL p.1.natAbs ++ underL p.2)
theorem tl_int (i : Int) : tl (Str.ofString (toString i)) = signL i ++ numL i.natAbs := by
  unfold signL
  cases i with
  | ofNat n =>
    rw [if_neg (by exact fun z => absurd z (Int.not_lt.mpr (Int.natCast_nonneg n)))]
    exact tl_num n
  | negSucc n =>
    rw [if_pos (Int.negSucc_lt_zero n)]
    have e1 : toString (Int.negSucc n) = "-" ++ toString (((n + 1 : Nat)) : Int) := rfl
    rw [e1, tl_ofString]
    have e2 := tl_num (n + 1)
    rw [tl_ofString] at e2
    rw [String.toList_append, List.map_append, e2]
    rfl
/-- cut at the first stroke -/
def cutA (l : List Nat) : List Nat := l.takeWhile (· != 47)
def cutB (l : List Nat) : List Nat := (l.dropWhile (· != 47)).tail
theorem cut_in {a r : List Nat} (h : 47 ∉ a) : cutA (a ++ 47 :: r) = a ∧ cutB (a ++ 47 :: r) = r := by
  have f : ∀ c ∈ a, (c != 47) = true := fun c hc => by
    rw [bne_iff_ne]
    exact fun e => h (e ▸ hc)
  unfold cutA cutB
  rw [List.takeWhile_append_of_pos f, List.dropWhile_append_of_pos f]
  constructor
  · show a ++ List.takeWhile (· != 47) (47 :: r) = a
    rw [List.takeWhile_cons_of_neg (by decide), List.append_nil]
  · show (List.dropWhile (· != 47) (47 :: r)).tail = r
    rw [List.dropWhile_cons_of_neg (by decide)]
    rfl

theorem cut_form {l : List Nat} (h : 47 ∈ l) : l = cutA l ++ 47 :: cutB l ∧ 47 ∉ cutA l := by
  induction l with
  | nil => cases h
  | cons c r ih =>
    by_cases e : c = 47
    · subst e
      unfold cutA cutB
      rw [List.takeWhile_cons_of_neg (by decide), List.dropWhile_cons_of_neg (by decide)]
      exact ⟨rfl, nofun⟩
    · have hr : 47 ∈ r := by
        rcases List.mem_cons.mp h with z | z
        · exact absurd z.symm e
        · exact z
      obtain ⟨h1, h2⟩ := ih hr
      have en : (c != 47) = true := bne_iff_ne.mpr e
      have ea : cutA (c :: r) = c :: cutA r := List.takeWhile_cons_of_pos en
      have eb : cutB (c :: r) = cutB r := congrArg List.tail (List.dropWhile_cons_of_pos en)
      rw [ea, eb]
      refine ⟨by rw [List.cons_append, ← h1], fun z => ?_⟩
      rcases List.mem_cons.mp z with z | z
      · exact e z.symm
      · exact h2 z
theorem cut_out {l : List Nat} (h : 47 ∉ l) : cutA l = l := by
  unfold cutA
  have := List.takeWhile_append_of_pos (p := (· != 47)) (l₁ := l) (l₂ := []) fun c hc => by
    rw [bne_iff_ne]
    exact fun e => h (e ▸ hc)
  rw [List.append_nil] at this
  rw [this]
  exact List.append_nil l
theorem par_cut (l : List Nat) : par [47] [] l = if 47 ∈ l then some (cutA l, cutB l) else none := by
  by_cases h : 47 ∈ l
  · rw [if_pos h]
    obtain ⟨e, n⟩ := cut_form h
    generalize cutA l = a at e n ⊢
    generalize cutB l = b at e ⊢
    subst e
    exact par_part1 n
  · rw [if_neg h]
    exact par_none1 h
/-- without a sign -/
def noSign (l : List Nat) : List Nat := if l.head? = some 45 then l.tail else l
def belowL (l : List Nat) : List Nat := if 47 ∈ l then cutB l else [49]
/-- what a text of that form is worth -/
def exN (l : List Nat) : Int × Int := red (if (cutA l).head? = some 45 then -(digitsVal (noSign (cutA l)) : Int) else (digitsVal (noSign (cutA l)) : Int)) (digitsVal (belowL l) : Int)
/-- the fraction with this text -/
def exOf (l : List Nat) : Option (Int × Int) :=
  if dig (noSign (cutA l)) = true ∧ dig (belowL l) = true ∧ digitsVal (belowL l) ≠ 0 then
    (if fracL (exN l) = l then some (exN l) else none)
  else none
/-- some reduced fraction has this text -/
def Canon (l : List Nat) : Prop := ∃ p, Rd p ∧ l = fracL p
theorem exOf_some {l : List Nat} {p : Int × Int} (h : exOf l = some p) : Rd p ∧ fracL p = l := by
  unfold exOf at h
  split at h
  · rename_i c
    split at h
    · rename_i e
      rw [← Option.some.inj h]
      exact ⟨red_rd (by have := c.2.2; omega), e⟩
    · cases h
  · cases h
theorem sign_free (i : Int) : 47 ∉ signL i ++ numL i.natAbs := fun h => by
  unfold signL at h
  rcases List.mem_append.mp h with h | h
  · split at h
    · rw [List.mem_singleton] at h
      cases h
    · cases h
  · exact numL_free (.inl (by decide)) h
theorem num_first (n : Nat) : (numL n).head? ≠ some 45 := fun h => by
  have hm : 45 ∈ numL n := List.mem_of_mem_head? h
  exact numL_free (.inl (by decide)) hm
theorem sign_no (i : Int) : noSign (signL i ++ numL i.natAbs) = numL i.natAbs ∧ ((signL i ++ numL i.natAbs).head? = some 45 ↔ i < 0) := by
  unfold signL noSign
  by_cases h : i < 0
  · rw [if_pos h]
    exact ⟨rfl, ⟨fun _ => h, fun _ => rfl⟩⟩
  · rw [if_neg h, List.nil_append, if_neg (num_first _)]
    exact ⟨rfl, ⟨fun e => absurd e (num_first _), fun e => absurd e h⟩⟩
theorem frac_cut {p : Int × Int} (h : 0 < p.2) : cutA (fracL p) = signL p.1 ++ numL p.1.natAbs ∧ digitsVal (belowL (fracL p)) = p.2.natAbs ∧ dig (belowL (fracL p)) = true := by
  unfold fracL underL belowL
  by_cases e : p.2 = 1
  · rw [if_pos e, List.append_nil, cut_out (sign_free _), if_neg (sign_free _), e]
    exact ⟨rfl, rfl, rfl⟩
  · rw [if_neg e, ← List.append_assoc]
    obtain ⟨h1, h2⟩ := cut_in (a := signL p.1 ++ numL p.1.natAbs) (r := numL p.2.natAbs) (sign_free _)
    have hm : 47 ∈ signL p.1 ++ numL p.1.natAbs ++ 47 :: numL p.2.natAbs := List.mem_append_right _ List.mem_cons_self
    rw [h1, if_pos hm, h2, numL_val]
    exact ⟨rfl, rfl, dig_iff.mpr ⟨numL_ne _, numL_digits _⟩⟩
theorem exOf_frac {p : Int × Int} (h : Rd p) : exOf (fracL p) = some p := by
  obtain ⟨e1, e2, e3⟩ := frac_cut h.1
  obtain ⟨s1, s2⟩ := sign_no p.1
  have h2 := h.1
  unfold exOf
  rw [e1, s1, e2]
  have c : dig (numL p.1.natAbs) = true ∧ dig (belowL (fracL p)) = true ∧ p.2.natAbs ≠ 0 := ⟨dig_iff.mpr ⟨numL_ne _, numL_digits _⟩, e3, by omega⟩
  rw [if_pos c]
  have e : (if (signL p.1 ++ numL p.1.natAbs).head? = some 45 then -(p.1.natAbs : Int) else (p.1.natAbs : Int)) = p.1 := by
    by_cases z : p.1 < 0
    · rw [if_pos (s2.mpr z)]
      omega
    · rw [if_neg (fun q => z (s2.mp q))]
      omega
  have e' : (p.2.natAbs : Int) = p.2 := by omega
  have en : exN (fracL p) = p := by
    unfold exN
    rw [e1, s1, e2, numL_val, e, e', red_self h]
  rw [en, if_pos rfl]
theorem exOf_iff {l : List Nat} {p : Int × Int} : exOf l = some p ↔ Rd p ∧ fracL p = l := ⟨exOf_some, fun ⟨h, e⟩ => e ▸ exOf_frac h⟩
theorem exOf_none {l : List Nat} : exOf l = none ↔ ¬ Canon l := by
  constructor
  · rintro h ⟨p, r, e⟩
    rw [e, exOf_frac r] at h
    cases h
  · intro h
    cases e : exOf l with
    | none => rfl
    | some p => exact absurd ⟨p, (exOf_some e).1, (exOf_some e).2.symm⟩ h
theorem fracL_inj {p q : Int × Int} (hp : Rd p) (hq : Rd q) (e : fracL p = fracL q) : p = q := by
  have := exOf_frac hp
  rw [e, exOf_frac hq] at this
  exact (Option.some.inj this).symm
/-! ### a text looked at another way: its parts between strokes -/
def isText (l : List Nat) : Bool :=
  match spl [47] 0 [] l with
  | [] => false
  | a :: r => ((noSign a) :: r).all nz && !(decide (r.length > 1) || decide (l.take 2 = [45, 48])) &&
    (match r with
     | [] => true
     | b :: _ => decide (1 < digitsVal b) && decide (Nat.gcd (digitsVal (noSign a)) (digitsVal b) = 1))
theorem isText_frac {p : Int × Int} (h : Rd p) : isText (fracL p) = true := by
  obtain ⟨h1, h2⟩ := h
  obtain ⟨s1, s2⟩ := sign_no p.1
  have tk : decide ((fracL p).take 2 = [45, 48]) = false := decide_eq_false fun z => by
    unfold fracL signL at z
    by_cases n : p.1 < 0
    · rw [if_pos n] at z
      obtain ⟨c, r, e, h9⟩ := numL_head (n := p.1.natAbs) (by omega)
      rw [e] at z
      have : [45, c] = [45, 48] := z
      cases this
      omega
    · rw [if_neg n, List.nil_append] at z
      obtain ⟨c, r, e⟩ := List.exists_cons_of_ne_nil (numL_ne p.1.natAbs)
      have hc := numL_digits p.1.natAbs c (by rw [e]; exact List.mem_cons_self)
      rw [e] at z
      have z' : (c :: (r ++ underL p.2)).take 2 = [45, 48] := z
      rw [List.take_succ_cons] at z'
      have := (List.cons.inj z').1
      omega
  unfold isText
  rw [tk]
  unfold fracL underL
  by_cases e : p.2 = 1
  · rw [if_pos e, List.append_nil, spl_last1 (sign_free _), List.nil_append]
    show (([noSign (signL p.1 ++ numL p.1.natAbs)] : List (List Nat)).all nz && _ && _) = true
    rw [s1]
    show ((nz (numL p.1.natAbs) && true) && !(decide (0 > 1) || false) && true) = true
    rw [nz_num]
    rfl
  · rw [if_neg e, ← List.append_assoc]
    have es : spl [47] 0 [] (signL p.1 ++ numL p.1.natAbs ++ 47 :: numL p.2.natAbs) = [signL p.1 ++ numL p.1.natAbs, numL p.2.natAbs] := by
      have := spl_part1 (s := 47) (S := []) (p := signL p.1 ++ numL p.1.natAbs) (rest := numL p.2.natAbs) (acc := []) (sign_free _)
      rw [spl_last1 (numL_free (.inl (by decide))), List.nil_append, List.nil_append] at this
      exact this
    rw [es]
    show ((noSign (signL p.1 ++ numL p.1.natAbs) :: [numL p.2.natAbs]).all nz && !(decide ([numL p.2.natAbs].length > 1) || false) && (decide (1 < digitsVal (numL p.2.natAbs)) && decide (Nat.gcd (digitsVal (noSign (signL p.1 ++ numL p.1.natAbs))) (digitsVal (numL p.2.natAbs)) = 1))) = true
    rw [s1, numL_val, numL_val]
    have g : Nat.gcd p.1.natAbs p.2.natAbs = 1 := h2
    rw [decide_eq_true g, decide_eq_true (by omega : 1 < p.2.natAbs)]
    show (nz (numL p.1.natAbs) && (nz (numL p.2.natAbs) && true) && _ && _) = true
    rw [nz_num, nz_num]
    rfl
theorem noSign_form (a : List Nat) : (a.head? = some 45 ∧ a = 45 :: noSign a) ∨ (a.head? ≠ some 45 ∧ a = noSign a) := by
  unfold noSign
  by_cases h : a.head? = some 45
  · left
    rw [if_pos h]
    cases a with
    | nil => cases h
    | cons c r => cases h; exact ⟨rfl, rfl⟩
  · right
    rw [if_neg h]
    exact ⟨h, rfl⟩
theorem signed_text {a : List Nat} {n : Nat} (e : noSign a = numL n) (hz : a.take 2 ≠ [45, 48] ) : ∃ i : Int, i.natAbs = n ∧ a = signL i ++ numL i.natAbs := by
  rcases noSign_form a with ⟨h, f⟩ | ⟨h, f⟩
  · rw [e] at f
    have hn : n ≠ 0 := fun z => hz (by rw [f, z]; rfl)
    refine ⟨-(n : Int), by omega, ?_⟩
    have e2 : (-(n : Int)).natAbs = n := by omega
    unfold signL
    rw [if_pos (by omega), e2]
    exact f
  · refine ⟨(n : Int), by omega, ?_⟩
    have e2 : ((n : Int)).natAbs = n := by omega
    unfold signL
    rw [if_neg (by omega), e2, ← e]
    exact f
theorem isText_canon {l : List Nat} (h : isText l = true) : Canon l := by
  unfold isText at h
  by_cases hm : 47 ∈ l
  · obtain ⟨e, hn⟩ := cut_form hm
    generalize cutA l = a at e hn
    generalize cutB l = b at e
    have es : spl [47] 0 [] l = a :: spl [47] 0 [] b := by
      rw [e]
      have := spl_part1 (s := 47) (S := []) (p := a) (rest := b) (acc := []) hn
      rw [List.nil_append] at this
      exact this
    rw [es] at h
    by_cases hb : 47 ∈ b
    · obtain ⟨e', hn'⟩ := cut_form hb
      generalize cutA b = a' at e' hn'
      generalize cutB b = b' at e'
      have es' : spl [47] 0 [] b = a' :: spl [47] 0 [] b' := by
        rw [e']
        have := spl_part1 (s := 47) (S := []) (p := a') (rest := b') (acc := []) hn'
        rw [List.nil_append] at this
        exact this
      have hne : spl [47] 0 [] b' ≠ [] := by
        by_cases hb' : 47 ∈ b'
        · obtain ⟨e2, n2⟩ := cut_form hb'
          rw [e2]
          have := spl_part1 (s := 47) (S := []) (p := cutA b') (rest := cutB b') (acc := []) n2
          intro z
          have y : spl [47] 0 [] (cutA b' ++ 47 :: cutB b') = [] ++ cutA b' :: spl [47] 0 [] (cutB b') := this
          rw [z] at y
          cases y
        · rw [spl_last1 hb']
          simp
      rw [es'] at h
      have : decide ((a' :: spl [47] 0 [] b').length > 1) = true := decide_eq_true (by
        rw [List.length_cons]
        have := List.length_pos_iff.mpr hne
        omega)
      dsimp only at h
      rw [this] at h
      simp at h
    · rw [spl_last1 hb, List.nil_append] at h
      dsimp only at h
      simp only [Bool.and_eq_true, List.all_cons, List.all_nil, Bool.and_true, decide_eq_true_eq, Bool.not_eq_true', Bool.or_eq_false_iff, decide_eq_false_iff_not] at h
      obtain ⟨⟨⟨ha, hb2⟩, _, ht⟩, hv, hg⟩ := h
      obtain ⟨m, em⟩ := nz_val ha
      obtain ⟨k, ek⟩ := nz_val hb2
      rw [ek, numL_val] at hv
      rw [em, ek, numL_val, numL_val] at hg
      have hta : a.take 2 ≠ [45, 48] := fun z => ht (by
        rw [e]
        have hl : 2 ≤ a.length := by
          have := congrArg List.length z
          rw [List.length_take] at this
          have e2 : ([45, 48] : List Nat).length = 2 := rfl
          rw [e2] at this
          omega
        rw [List.take_append_of_le_length hl]
        exact z)
      obtain ⟨i, hi, ea⟩ := signed_text em hta
      refine ⟨(i, (k : Int)), ⟨by show (0 : Int) < (k : Int); omega, ?_⟩, ?_⟩
      · show Nat.gcd i.natAbs (k : Int).natAbs = 1
        have : ((k : Int)).natAbs = k := by omega
        rw [this, hi]
        exact hg
      · show l = signL i ++ (numL i.natAbs ++ underL (k : Int))
        unfold underL
        have e2 : ((k : Int)).natAbs = k := by omega
        rw [if_neg (by omega), e, ea, ek, e2, List.append_assoc]
  · rw [spl_last1 hm, List.nil_append] at h
    dsimp only at h
    simp only [Bool.and_eq_true, List.all_cons, List.all_nil, Bool.and_true, decide_eq_true_eq, Bool.not_eq_true', Bool.or_eq_false_iff, decide_eq_false_iff_not] at h
    obtain ⟨ha, _, ht⟩ := h
    obtain ⟨m, em⟩ := nz_val ha
    obtain ⟨i, hi, ea⟩ := signed_text em ht
    refine ⟨(i, 1), rd_int i, ?_⟩
    show l = signL i ++ (numL i.natAbs ++ underL 1)
    unfold underL
    rw [if_pos rfl, List.append_nil]
    exact ea
theorem isText_iff {l : List Nat} : isText l = true ↔ Canon l := ⟨isText_canon, fun ⟨p, h, e⟩ => e ▸ isText_frac h⟩
theorem told_iff {l : List Nat} : (exOf l).isSome = isText l := by
  cases h : isText l with
  | true =>
    obtain ⟨p, r, e⟩ := isText_canon h
    rw [e, exOf_frac r]
    rfl
  | false =>
    cases e : exOf l with
    | none => rfl
    | some p =>
      obtain ⟨r, f⟩ := exOf_some e
      rw [← f, isText_frac r] at h
      cases h
end Gy

namespace L2
open PySem PySem.Spec PyProof.Rows
/-! ### C.m(..), m a staticmethod of the class at C -/
structure SMet (K : PySem.W.Frag) (C : Addr) (m : Str) (p f : Addr) : Prop where
  rd : PySem.W.readsIn K C (.type "type") = true
  ga : PySem.W.specialIn K (.ref C) "__getattribute__" = some (some (.builtin "type.__getattribute__"))
  at_ : PySem.W.findCls K (.ref C) (.type "type") m = some (.get (.builtin "staticmethod.__get__") (.ref p) .none (.ref C))
  rc : ∃ rest, PySem.W.recIn K p "staticmethod" = some (.ref f :: rest)
def tSMeth (C : Addr) (sp : Sp) (dvs : List V) (E : XK) (ta : TE) (t : TA) : TE := fun σ H Q => ta σ H fun x H1 => x = .ref C ∧ t σ H1 fun vs H2 => sp (vs ++ dvs) H2 Q E
theorem pe_smeth {X : Cx} {CX : CXT} {k : Nat} {C p f : Addr} {fd : FuncData} {ps : List Str} {ds : List Value} {dvs : List V} {sp : Sp} {E : XK} {o e : Expr} {es : List Expr} {m : Str} {pos apos : Pos} {ta : TE} {t : TA} {pl : Sem Bool}
    (he : PE X o ta) (c : SMet X.K C m p f) (F : FnOk X.prog X.w X.K X.mg X.base CX k f fd ps sp) (hr : Room k X.A) (hk : PySem.W.keepIn X.K (.ref f) = true) (hb : Binds X.K fd ps ds) (hd : Vals dvs ds) (hx : Passes CX X E) (ha : PA X (e :: es) t)
    (hst : starEach (e :: es) X.env = (false, eval e X.env) :: starEach es X.env := by rfl) (hpl : (backTo pos (starEach es X.env)).any (·.1) = false := by rfl)
    (ht : eval (.Call (.Attribute o m apos) (e :: es) [] pos) X.env = (do
      let ov ← eval o X.env
      standAt apos.atName
      let (f, first) ← holding [ov] (getMethod ov m pl)
      callWith pos f first (backTo pos (starEach (e :: es) X.env)) (backToKw pos (keywordEach [] X.env))) := by rfl) :
    PE X (.Call (.Attribute o m apos) (e :: es) [] pos) (tSMeth C sp dvs E ta t) := by
  refine ⟨fun pins s σ H Q I h => ?_⟩
  refine PySem.W.methodCall_KW (pl := pl) (thn (he.run pins s σ H _ I h) fun u s1 ⟨x, H1, I1, rx, ex, q⟩ => ?_) ht
  subst ex
  obtain rfl : u = Value.ref C := rx
  obtain ⟨rest, hp⟩ := c.rc
  refine PySem.W.method_cls I1.kIn c.ga (PySem.W.cls_bind I1.kIn c.rd c.at_ (wpAny_call (PySem.W.sm_get (s := { s1 with toks := s1.toks + 1 }) I1.kIn hp (PySem.W.handed_on rfl ?_))))
  exact PySem.W.callWith_K (h₀ := X.base) I.ok.mod.kin hk (thn (ha.run pos pins _ σ H1 _ (I1.tok _) q) fun us s3 ⟨vs, H2, I3, r, q2⟩ => ⟨I3.kIn, run_fn F hr hb hd hx I3 r q2⟩) hst hpl
end L2
namespace PySem.SC
open PySem PyProof.Rows Builtin Builtin.Str Builtin.Int
/-! ### sep.join(reversed(a list of texts)) -/
theorem joinRev {prog : Program} {w : World} {A : Around} {E : Value → Shared → Prop} {s : Shared} {x : Str} {t : Tok} {Q : Value → Shared → Prop} {it l : Addr} {items : Array Value} {ys : List Str}
    (hh : A.handled = none) (hit : s.heap.IsRevIter it l ((items.size : Int) - 1)) (hl : s.heap.IsList l items) (hne : l ≠ it) (hn : items.size ≤ sizeLine) (hlen : ys.length = items.size)
    (hs : ∀ (i : Nat) (v : Value), items[i]? = some v → ∃ y u, ys[i]? = some y ∧ v = Value.str y u) (hok : JoinOk x ys.reverse = true)
    (hq : ∀ (h' : Heap) (t' : Tok) (tk : Nat), (∀ b o, b ≠ it → s.heap.get? b = some o → h'.get? b = some o) → Q (.str (Txt.join x ys.reverse) t') { s with heap := h', toks := tk }) :
    wpAny (model prog w) A (call (.builtin "str.join") [.str x t, .ref it]) Q E s := by
  refine wpAny_call (codeAny_call_builtin F.slot_str_join.plain F.entry_str_join (F.slot_str_join.check _ _ _ _ _ _ _ _ (typeIs_str _ _ _) (F.args_str_join_2 _ _) ?_))
  rw [join_tree_other]
  refine wpAny_bind (wpAny_typeOf hit.typeIs ?_)
  show wpAny _ A.in1 ((pyIter (.ref it)).tryCatch _ >>= fun i => collect i >>= fun items => joinTail x items) _ _ s
  refine wpAny_bind (wpAny_tryCatch (wpAny_pyIter_revIter hit ?_))
  refine wpAny_bind (RT.collect_rev (A := A.in1) hh hit hl hne hn fun h' tk acc hk hacc => ?_)
  have el : acc.toList.length = ys.length := by rw [Array.length_toList, hacc.1, hlen]
  have hv : ∀ (j : Nat) (v : Value), acc.toList[j]? = some v → ∃ y u, ys.reverse[j]? = some y ∧ v = Value.str y u := fun j v e => by
    have hj : j < acc.toList.length := (List.getElem?_eq_some_iff.mp e).1
    obtain ⟨y, u, e1, e2⟩ := hs _ _ (hacc.2 j v (by rw [← Array.getElem?_toList]; exact e))
    refine ⟨y, u, ?_, e2⟩
    rw [List.getElem?_reverse (by omega), hlen]
    exact e1
  obtain ⟨l', hl'⟩ := exists_strValues acc.toList fun v hv' => by
    obtain ⟨j, hj⟩ := List.mem_iff_getElem?.mp hv'
    obtain ⟨y, u, _, e⟩ := hv j v hj
    exact ⟨y, u, e⟩
  have ej : l'.map (·.1) = ys.reverse := by
    refine List.ext_getElem? fun j => ?_
    have h9 : (strValues l')[j]? = acc.toList[j]? := by rw [hl']
    unfold strValues at h9
    rw [List.getElem?_map] at h9
    rw [List.getElem?_map]
    cases hj : l'[j]? with
    | none =>
      rw [hj] at h9
      have h8 : acc.toList[j]? = none := h9.symm
      rw [List.getElem?_eq_none_iff] at h8
      show none = ys.reverse[j]?
      rw [eq_comm, List.getElem?_eq_none_iff, List.length_reverse]
      omega
    | some p =>
      rw [hj] at h9
      obtain ⟨y, u, e1, e2⟩ := hv j _ h9.symm
      show some p.1 = ys.reverse[j]?
      rw [e1]
      injection e2 with e3
      rw [e3]
  rw [← hl']
  rw [← ej] at hok hq
  have hok' := hok
  unfold JoinOk at hok
  rw [Bool.not_eq_true'] at hok
  have g : Gives (joinTail x (strValues l')) (joinMade x l') := by
    have g0 := gives_joinTail x l' hok
    cases l' with
    | nil => exact g0
    | cons p r => cases r with
      | nil => exact g0
      | cons q r' => exact g0
  exact g prog w A (wants Q E) _ (post_join l' ⟨joinFit_length hok, fun t' k => hq h' t' k hk⟩)
end PySem.SC
namespace L2
open PySem PySem.Spec PyProof.Rows
def tJoinRev (K : PySem.W.Frag) (to te : TE) : TE := fun σ H Q => to σ H fun v H1 => ∃ sep : Str, v = .str sep ∧ te σ H1 fun u H2 => ∃ (a : Addr) (ws : List Str), u = .ref a ∧ SqL K H2 a (ws.map V.str) ∧ JoinOk sep ws.reverse = true ∧ Q (.str (Txt.join sep ws.reverse)) H2
theorem pe_joinRev {X : Cx} {o e : Expr} {to te : TE} {p2 apos cpos pos2 : Pos} (hc : X.calm = true) (hg2 : Gl X "reversed") (hm2 : X.mg "reversed" = none) (ho : PE X o to) (he : PE X e te)
    (hbase : attributeBase o "join" X.env (eval o X.env) = eval o X.env := by rfl)
    (hfew : ((backTo cpos (starEach [.Call (.Name "reversed" p2) [e] [] pos2] X.env)).all (fun x => !x.1) && (backToKw cpos (keywordEach [] X.env)).all (fun x => x.1.isSome)
      && decide (([.Call (.Name "reversed" p2) [e] [] pos2] : List Expr).length + ([] : List Keyword).length + (if ([] : List Keyword).isEmpty then 0 else 1) < 30)) = true := by rfl)
    (hline : (apos.endLine == cpos.line) = true := by rfl)
    (hs : starEach [e] X.env = (false, eval e X.env) :: starEach [] X.env := by rfl)
    (hs2 : starEach [.Call (.Name "reversed" p2) [e] [] pos2] X.env = (false, eval (.Call (.Name "reversed" p2) [e] [] pos2) X.env) :: starEach [] X.env := by rfl)
    (hplain : (backTo cpos (starEach [] X.env)).any (·.1) = false := by rfl) :
    PE X (.Call (.Attribute o "join" apos) [.Call (.Name "reversed" p2) [e] [] pos2] [] cpos) (tJoinRev X.K to te) := by
  refine ⟨fun pins s σ H Q I h => ?_⟩
  refine wpAny_Call_method_late hbase hfew hline rfl (thn (ho.run pins s σ H _ I h) fun v s1 ⟨x', H1, I1, r1, sep, ex, q1⟩ => ?_)
  subst ex
  obtain ⟨tk, rfl⟩ := (show ∃ t, v = Value.str sep t from r1)
  refine ⟨"str", _, PySem.F.plainAttrs_str, PySem.F.slot_str_join, PySem.F.type_str_join, typeIs_str _ _ _, (fun _ e => nomatch e), ?_⟩
  rw [hs2]
  refine Calls.callWith_builtin (by show (false || (backTo cpos (starEach [] X.env)).any (·.1)) = false; rw [hplain] <;> rfl) (Calls.evalArgs_plain ?_)
  show wpAny _ _ (spliced ((false, eval (.Call (.Name "reversed" p2) [e] [] pos2) X.env) :: backTo cpos (starEach [] X.env))) _ _ s1
  refine Calls.spliced_cons (Call_ (ld_blt I1 hg2 hm2 PyProof.Rows.boot_reversed (PyProof.Rows.callWith_type1 (args_cons (thn (he.run pins s1 σ H1 _ I1 q1) fun u s2 ⟨v, H2, I2, r2, q2⟩ => args_nil ?_) hs) hs rfl)))
  obtain ⟨a, ws, ev, hq, hj, q⟩ := q2
  subst ev
  obtain rfl : u = Value.ref a := r2
  obtain ⟨its, rv, p', hz⟩ := I2.list hq
  refine call_reversed_list p'.isList (Calls.spliced_nil ?_)
  have k0 : ∀ b o, s2.heap.get? b = some o → (s2.heap.push (revObj a ((its.toArray.size : Int) - 1))).get? b = some o := fun b o e => Heap.get?_push_of_some _ e
  have I3 : Inv X pins σ H2 { s2 with heap := s2.heap.push (revObj a ((its.toArray.size : Int) - 1)) } := I2.kept (t' := s2.toks) k0
  obtain ⟨f0, f1, f2, f3, f4, f5⟩ := I2.fpOk (H' := H2) (b := s2.heap.objs.size) (Nat.le_refl _) (I2.hok.fresh (Nat.le_refl _))
  have hl := p'.isList
  obtain ⟨ol, hol, _⟩ := id hl
  have hne : a ≠ s2.heap.objs.size := Nat.ne_of_lt (Heap.lt_size hol)
  have hlen : its.length = ws.length := by rw [← rv.length, List.length_map]
  have hn : its.toArray.size ≤ sizeLine := by rw [List.size_toArray, ← rv.length]; exact hz
  refine PySem.SC.joinRev (s := { s2 with heap := s2.heap.push (revObj a ((its.toArray.size : Int) - 1)) }) (ys := ws) (I2.ok.hd hc) ⟨_, Heap.get?_push_size _ rfl, rfl, rfl⟩ (hl.push _) hne hn (by rw [List.size_toArray, hlen]) (fun i v hv => ?_) hj fun h' t' tk' hk => ?_
  · have hv2 : its[i]? = some v := by simpa using hv
    have hi2 : i < its.length := (List.getElem?_eq_some_iff.mp hv2).1
    obtain ⟨b, ha⟩ : ∃ b, ws[i]? = some b := ⟨ws[i]'(by omega), List.getElem?_eq_getElem _⟩
    have hb : (ws.map V.str)[i]? = some (V.str b) := by rw [List.getElem?_map, ha] <;> rfl
    obtain ⟨u, hu, ru⟩ := rv.get hb
    rw [hv2] at hu
    cases hu
    obtain ⟨t, e⟩ := (show ∃ t, v = Value.str b t from ru)
    exact ⟨b, t, ha, e⟩
  · have I4 : Inv X pins σ H2 { s2 with heap := h', toks := tk' } := I3.turned (t' := tk') (fun b o hb e => hk b o hb e) f0 f1 f3 f4 f5
    exact ⟨.str _, H2, I4, ⟨t', rfl⟩, q⟩
end L2

/-! Texts of numbers. -/
namespace Gy
open PySem L2

def top (i : Nat) : Stmt := PySem.Challenge.pw_surelevels_k04_number_texts.main.body.getD i (.Pass ⟨0, 0, 0, 0⟩)
abbrev s_BadText_init : Stmt := (inClass (top 4) 0)
theorem sc_BadText_init : FnScope ["self", "line"] ["self", "line"] (defScope s_BadText_init) :=
  ⟨rfl, rfl, rfl, by decide +kernel, rfl, by decide +kernel, by decide +kernel⟩
abbrev s_is_whole : Stmt := (top 17)
theorem sc_is_whole : FnScope ["thing"] ["thing"] (defScope s_is_whole) :=
  ⟨rfl, rfl, rfl, by decide +kernel, rfl, by decide +kernel, by decide +kernel⟩
abbrev s_Exact_init : Stmt := (inClass (top 21) 0)
theorem sc_Exact_init : FnScope ["self", "over", "under", "part", "shared"] ["self", "over", "under"] (defScope s_Exact_init) :=
  ⟨rfl, rfl, rfl, by decide +kernel, rfl, by decide +kernel, by decide +kernel⟩
abbrev s_Exact_text : Stmt := (inClass (top 21) 14)
theorem sc_Exact_text : FnScope ["self"] ["self"] (defScope s_Exact_text) :=
  ⟨rfl, rfl, rfl, by decide +kernel, rfl, by decide +kernel, by decide +kernel⟩
abbrev s_Exact_of_text : Stmt := (inClass (top 21) 15)
theorem sc_Exact_of_text : FnScope ["text", "number"] ["text"] (defScope s_Exact_of_text) :=
  ⟨rfl, rfl, rfl, by decide +kernel, rfl, by decide +kernel, by decide +kernel⟩
abbrev s_divisor : Stmt := (top 22)
theorem sc_divisor : FnScope ["one", "other"] ["one", "other"] (defScope s_divisor) :=
  ⟨rfl, rfl, rfl, by decide +kernel, rfl, by decide +kernel, by decide +kernel⟩
abbrev s_parts : Stmt := (top 24)
theorem sc_parts : FnScope ["number"] ["number"] (defScope s_parts) :=
  ⟨rfl, rfl, rfl, by decide +kernel, rfl, by decide +kernel, by decide +kernel⟩
abbrev s_number_text : Stmt := (top 25)
theorem sc_number_text : FnScope ["number", "over", "under", "sign", "below"] ["number"] (defScope s_number_text) :=
  ⟨rfl, rfl, rfl, by decide +kernel, rfl, by decide +kernel, by decide +kernel⟩
abbrev s_exact_of : Stmt := (top 26)
theorem sc_exact_of : FnScope ["text", "above", "stroke", "below", "digits", "over", "under", "number"] ["text"] (defScope s_exact_of) :=
  ⟨rfl, rfl, rfl, by decide +kernel, rfl, by decide +kernel, by decide +kernel⟩
abbrev s_is_digits : Stmt := (top 27)
theorem sc_is_digits : FnScope ["text"] ["text"] (defScope s_is_digits) :=
  ⟨rfl, rfl, rfl, by decide +kernel, rfl, by decide +kernel, by decide +kernel⟩
abbrev s_digits_of : Stmt := (top 28)
theorem sc_digits_of : FnScope ["whole", "pieces", "last"] ["whole"] (defScope s_digits_of) :=
  ⟨rfl, rfl, rfl, by decide +kernel, rfl, by decide +kernel, by decide +kernel⟩
abbrev s_whole_of : Stmt := (top 29)
theorem sc_whole_of : FnScope ["digits", "first", "whole", "at"] ["digits"] (defScope s_whole_of) :=
  ⟨rfl, rfl, rfl, by decide +kernel, rfl, by decide +kernel, by decide +kernel⟩
abbrev s_law_fresh : Stmt := (top 31)
theorem sc_law_fresh : FnScope ["_law_script"] ["_law_script"] (defScope s_law_fresh) :=
  ⟨rfl, rfl, rfl, by decide +kernel, rfl, by decide +kernel, by decide +kernel⟩
abbrev s_law_fill : Stmt := (top 32)
theorem sc_law_fill : FnScope ["_law_state", "_law_cells", "_law_nth", "_law_seed", "_law_k", "_law_prime", "_law_far"] ["_law_state"] (defScope s_law_fill) :=
  ⟨rfl, rfl, rfl, by decide +kernel, rfl, by decide +kernel, by decide +kernel⟩
abbrev s_law_take : Stmt := (top 33)
theorem sc_law_take : FnScope ["_law_state", "_law_many", "_law_laps", "_law_digit"] ["_law_state", "_law_many"] (defScope s_law_take) :=
  ⟨rfl, rfl, rfl, by decide +kernel, rfl, by decide +kernel, by decide +kernel⟩
abbrev s_law_one : Stmt := (top 34)
theorem sc_law_one : FnScope ["_law_state", "_law_things"] ["_law_state", "_law_things"] (defScope s_law_one) :=
  ⟨rfl, rfl, rfl, by decide +kernel, rfl, by decide +kernel, by decide +kernel⟩
abbrev s_law_same : Stmt := (top 35)
theorem sc_law_same : FnScope ["_law_found", "_law_due", "_law_a", "_law_b"] ["_law_found", "_law_due"] (defScope s_law_same) :=
  ⟨rfl, rfl, rfl, by decide +kernel, rfl, by decide +kernel, by decide +kernel⟩
abbrev s_law_tried : Stmt := (top 36)
theorem sc_law_tried : FnScope ["_law_deed", "_law_e"] ["_law_deed"] (defScope s_law_tried) :=
  ⟨rfl, rfl, rfl, by decide +kernel, rfl, by decide +kernel, by decide +kernel⟩
abbrev s_law_error : Stmt := (top 37)
theorem sc_law_error : FnScope ["_law_e"] ["_law_e"] (defScope s_law_error) :=
  ⟨rfl, rfl, rfl, by decide +kernel, rfl, by decide +kernel, by decide +kernel⟩
abbrev s_law_gcd : Stmt := (top 39)
theorem sc_law_gcd : FnScope ["_law_a", "_law_b"] ["_law_a", "_law_b"] (defScope s_law_gcd) :=
  ⟨rfl, rfl, rfl, by decide +kernel, rfl, by decide +kernel, by decide +kernel⟩
abbrev s_law_frac : Stmt := (top 40)
theorem sc_law_frac : FnScope ["_law_over", "_law_under", "_law_whole"] ["_law_over", "_law_under"] (defScope s_law_frac) :=
  ⟨rfl, rfl, rfl, by decide +kernel, rfl, by decide +kernel, by decide +kernel⟩
abbrev s_law_some_frac : Stmt := (top 41)
theorem sc_law_some_frac : FnScope ["_law_state", "_law_top"] ["_law_state"] (defScope s_law_some_frac) :=
  ⟨rfl, rfl, rfl, by decide +kernel, rfl, by decide +kernel, by decide +kernel⟩
abbrev s_law_as_exact : Stmt := (top 42)
theorem sc_law_as_exact : FnScope ["_law_x"] ["_law_x"] (defScope s_law_as_exact) :=
  ⟨rfl, rfl, rfl, by decide +kernel, rfl, by decide +kernel, by decide +kernel⟩
abbrev s_law_text : Stmt := (top 43)
theorem sc_law_text : FnScope ["_law_a"] ["_law_a"] (defScope s_law_text) :=
  ⟨rfl, rfl, rfl, by decide +kernel, rfl, by decide +kernel, by decide +kernel⟩
abbrev s_law_is_text : Stmt := (top 44)
theorem sc_law_is_text : FnScope ["_law_text_here", "_law_parts", "_law_head", "_law_x", "_law_sign"] ["_law_text_here"] (defScope s_law_is_text) :=
  ⟨rfl, rfl, rfl, by decide +kernel, rfl, by decide +kernel, by decide +kernel⟩
abbrev s_law : Stmt := (top 45)
theorem sc_law : FnScope ["_law_script", "_law_state", "_law_turn", "_law_a", "_law_x", "_law_word", "_law_some", "_law_other", "_law_found"] ["_law_script"] (defScope s_law) :=
  ⟨rfl, rfl, rfl, by decide +kernel, rfl, by decide +kernel, by decide +kernel⟩
structure Tx (K : PySem.W.Frag) (mg : Str → Option Value) where
  LevelError_a : Addr
  LevelError_m : mg "LevelError" = some (.ref LevelError_a)
  LevelError_e : ErrT K LevelError_a LevelError_a
  BadPart_a : Addr
  BadPart_m : mg "BadPart" = some (.ref BadPart_a)
  BadPart_e : ErrT K LevelError_a BadPart_a
  BadPart_n_part : PySem.W.findIn K (.ref BadPart_a) "part" = some none
  BadText_a : Addr
  BadText_m : mg "BadText" = some (.ref BadText_a)
  BadText_e : ErrT K LevelError_a BadText_a
  BadText_n_line : PySem.W.findIn K (.ref BadText_a) "line" = some none
  E_g : ErrG K
  E_nd : List.Nodup [LevelError_a, BadPart_a, BadText_a]
  E_v : PySem.W.findCls K (.type "ValueError") (.type "type") "__init__" = some (.val (.builtin "ValueError.__init__"))
  Exact_a : Addr
  Exact_m : mg "Exact" = some (.ref Exact_a)
  Exact_cl : Cls K Exact_a
  Exact_n_over : NoAttr K Exact_a "over"
  Exact_n_under : NoAttr K Exact_a "under"
  Exact_i1 : PySem.W.findIn K (.ref Exact_a) "__class__" = some (some (.builtin "object.__class__"))
  Exact_i2 : PySem.W.specialIn K (.builtin "object.__class__") "__get__" = some (some (.builtin "getset_descriptor.__get__"))
  Exact_i3 : PySem.W.takesIn K (.builtin "object.__class__") = some true
  Exact_i4 : PySem.W.mroIn K Exact_a (.type "object") = some true
  Exact_k0 : PySem.W.kitOne K (.ref Exact_a) (.ref Exact_a) = some true
  Exact_kt_int : PySem.W.kitOne K (.type "int") (.ref Exact_a) = some false
  Exact_ko_int : PySem.W.kitOne K (.ref Exact_a) (.type "int") = some false
  c_PIECE_t : Tok
  c_PIECE : mg "PIECE" = some (.int 64 c_PIECE_t)
  c_ROUND_t : Tok
  c_ROUND : mg "ROUND" = some (.int 10000000000000000000000000000000000000000000000000000000000000000 c_ROUND_t)
  BadText_init_a : Addr
  BadText_init_d : FuncData
  BadText_init_F : Fun K "__init__" "BadText.__init__" s_BadText_init BadText_init_a BadText_init_d
  BadText_init_b : Binds K BadText_init_d ["self", "line"] []
  BadText_init_M : Meth K BadText_a "__init__" BadText_init_a
  BadText_init_kb : KwB K BadText_init_d ["self", "line"] "line"
  is_whole_a : Addr
  is_whole_d : FuncData
  is_whole_F : Fun K "is_whole" "is_whole" s_is_whole is_whole_a is_whole_d
  is_whole_b : Binds K is_whole_d ["thing"] []
  is_whole_m : mg "is_whole" = some (.ref is_whole_a)
  Exact_init_a : Addr
  Exact_init_d : FuncData
  Exact_init_F : FunD K "__init__" "Exact.__init__" (defArgs s_Exact_init) (defBody s_Exact_init) (defScope s_Exact_init) [V.int 1] [] Exact_init_a Exact_init_d
  Exact_init_b : Binds K Exact_init_d ["self", "over", "under"] []
  Exact_init_M : Meth K Exact_a "__init__" Exact_init_a
  Exact_mk : Mk K Exact_a Exact_init_a
  Exact_text_a : Addr
  Exact_text_d : FuncData
  Exact_text_F : Fun K "text" "Exact.text" s_Exact_text Exact_text_a Exact_text_d
  Exact_text_b : Binds K Exact_text_d ["self"] []
  Exact_text_M : Meth K Exact_a "text" Exact_text_a
  Exact_of_text_a : Addr
  Exact_of_text_d : FuncData
  Exact_of_text_F : Fun K "of_text" "Exact.of_text" s_Exact_of_text Exact_of_text_a Exact_of_text_d
  Exact_of_text_b : Binds K Exact_of_text_d ["text"] []
  Exact_of_text_p : Addr
  Exact_of_text_S : SMet K Exact_a "of_text" Exact_of_text_p Exact_of_text_a
  divisor_a : Addr
  divisor_d : FuncData
  divisor_F : Fun K "divisor" "divisor" s_divisor divisor_a divisor_d
  divisor_b : Binds K divisor_d ["one", "other"] []
  divisor_m : mg "divisor" = some (.ref divisor_a)
  parts_a : Addr
  parts_d : FuncData
  parts_F : Fun K "parts" "parts" s_parts parts_a parts_d
  parts_b : Binds K parts_d ["number"] []
  parts_m : mg "parts" = some (.ref parts_a)
  number_text_a : Addr
  number_text_d : FuncData
  number_text_F : Fun K "number_text" "number_text" s_number_text number_text_a number_text_d
  number_text_b : Binds K number_text_d ["number"] []
  number_text_m : mg "number_text" = some (.ref number_text_a)
  exact_of_a : Addr
  exact_of_d : FuncData
  exact_of_F : Fun K "exact_of" "exact_of" s_exact_of exact_of_a exact_of_d
  exact_of_b : Binds K exact_of_d ["text"] []
  exact_of_m : mg "exact_of" = some (.ref exact_of_a)
  is_digits_a : Addr
  is_digits_d : FuncData
  is_digits_F : Fun K "is_digits" "is_digits" s_is_digits is_digits_a is_digits_d
  is_digits_b : Binds K is_digits_d ["text"] []
  is_digits_m : mg "is_digits" = some (.ref is_digits_a)
  digits_of_a : Addr
  digits_of_d : FuncData
  digits_of_F : Fun K "digits_of" "digits_of" s_digits_of digits_of_a digits_of_d
  digits_of_b : Binds K digits_of_d ["whole"] []
  digits_of_m : mg "digits_of" = some (.ref digits_of_a)
  whole_of_a : Addr
  whole_of_d : FuncData
  whole_of_F : Fun K "whole_of" "whole_of" s_whole_of whole_of_a whole_of_d
  whole_of_b : Binds K whole_of_d ["digits"] []
  whole_of_m : mg "whole_of" = some (.ref whole_of_a)
  law_fresh_a : Addr
  law_fresh_d : FuncData
  law_fresh_F : Fun K "_law_fresh" "_law_fresh" s_law_fresh law_fresh_a law_fresh_d
  law_fresh_b : Binds K law_fresh_d ["_law_script"] []
  law_fresh_m : mg "_law_fresh" = some (.ref law_fresh_a)
  law_fill_a : Addr
  law_fill_d : FuncData
  law_fill_F : Fun K "_law_fill" "_law_fill" s_law_fill law_fill_a law_fill_d
  law_fill_b : Binds K law_fill_d ["_law_state"] []
  law_fill_m : mg "_law_fill" = some (.ref law_fill_a)
  law_take_a : Addr
  law_take_d : FuncData
  law_take_F : Fun K "_law_take" "_law_take" s_law_take law_take_a law_take_d
  law_take_b : Binds K law_take_d ["_law_state", "_law_many"] []
  law_take_m : mg "_law_take" = some (.ref law_take_a)
  law_one_a : Addr
  law_one_d : FuncData
  law_one_F : Fun K "_law_one" "_law_one" s_law_one law_one_a law_one_d
  law_one_b : Binds K law_one_d ["_law_state", "_law_things"] []
  law_one_m : mg "_law_one" = some (.ref law_one_a)
  law_same_a : Addr
  law_same_d : FuncData
  law_same_F : Fun K "_law_same" "_law_same" s_law_same law_same_a law_same_d
  law_same_b : Binds K law_same_d ["_law_found", "_law_due"] []
  law_same_m : mg "_law_same" = some (.ref law_same_a)
  law_tried_a : Addr
  law_tried_d : FuncData
  law_tried_F : Fun K "_law_tried" "_law_tried" s_law_tried law_tried_a law_tried_d
  law_tried_b : Binds K law_tried_d ["_law_deed"] []
  law_tried_m : mg "_law_tried" = some (.ref law_tried_a)
  law_error_a : Addr
  law_error_d : FuncData
  law_error_F : Fun K "_law_error" "_law_error" s_law_error law_error_a law_error_d
  law_error_b : Binds K law_error_d ["_law_e"] []
  law_error_m : mg "_law_error" = some (.ref law_error_a)
  law_gcd_a : Addr
  law_gcd_d : FuncData
  law_gcd_F : Fun K "_law_gcd" "_law_gcd" s_law_gcd law_gcd_a law_gcd_d
  law_gcd_b : Binds K law_gcd_d ["_law_a", "_law_b"] []
  law_gcd_m : mg "_law_gcd" = some (.ref law_gcd_a)
  law_frac_a : Addr
  law_frac_d : FuncData
  law_frac_F : Fun K "_law_frac" "_law_frac" s_law_frac law_frac_a law_frac_d
  law_frac_b : Binds K law_frac_d ["_law_over", "_law_under"] []
  law_frac_m : mg "_law_frac" = some (.ref law_frac_a)
  law_some_frac_a : Addr
  law_some_frac_d : FuncData
  law_some_frac_F : Fun K "_law_some_frac" "_law_some_frac" s_law_some_frac law_some_frac_a law_some_frac_d
  law_some_frac_b : Binds K law_some_frac_d ["_law_state"] []
  law_some_frac_m : mg "_law_some_frac" = some (.ref law_some_frac_a)
  law_as_exact_a : Addr
  law_as_exact_d : FuncData
  law_as_exact_F : Fun K "_law_as_exact" "_law_as_exact" s_law_as_exact law_as_exact_a law_as_exact_d
  law_as_exact_b : Binds K law_as_exact_d ["_law_x"] []
  law_as_exact_m : mg "_law_as_exact" = some (.ref law_as_exact_a)
  law_text_a : Addr
  law_text_d : FuncData
  law_text_F : Fun K "_law_text" "_law_text" s_law_text law_text_a law_text_d
  law_text_b : Binds K law_text_d ["_law_a"] []
  law_text_m : mg "_law_text" = some (.ref law_text_a)
  law_is_text_a : Addr
  law_is_text_d : FuncData
  law_is_text_F : Fun K "_law_is_text" "_law_is_text" s_law_is_text law_is_text_a law_is_text_d
  law_is_text_b : Binds K law_is_text_d ["_law_text_here"] []
  law_is_text_m : mg "_law_is_text" = some (.ref law_is_text_a)
  law_a : Addr
  law_d : FuncData
  law_F : Fun K "law" "law" s_law law_a law_d
  law_b : Binds K law_d ["_law_script"] []
  law_m : mg "law" = some (.ref law_a)
  law_c : Addr
  law_P : Addr
  law_lk : ∃ (oc : Value) (od : Option Addr) (kV doc pm : Value) (an : Option Addr) (ct : Value) (osl : Array (Option Value)), law_d = PySem.W.fnOf "law" "law" (defArgs s_law) (defBody s_law) (defScope s_law) .none kV doc pm an (.ref law_c) ct ∧ K.lookup law_a = some ⟨oc, od, .func law_d, osl⟩ ∧ PySem.W.codeIn K (.ref law_c) "law" = true
  z_abs : mg "abs" = none
  z_all : mg "all" = none
  z_bool : mg "bool" = none
  z_enumerate : mg "enumerate" = none
  z_int : mg "int" = none
  z_isinstance : mg "isinstance" = none
  z_len : mg "len" = none
  z_list : mg "list" = none
  z_range : mg "range" = none
  z_reversed : mg "reversed" = none
  z_str : mg "str" = none
  z_tuple : mg "tuple" = none
  z_zip : mg "zip" = none


section
variable {P : Program} {w : World} {K : PySem.W.Frag} {mg : Str → Option Value} {base : Heap}
/-! ### numbers: is_whole, parts, divisor, Exact -/
/-- an Exact's attributes -/
def exF (p q : V) : List (Str × V) := [(("over" : Str), p), (("under" : Str), q)]
/-- an Exact stands at v -/
def ExAt (C : Addr) (H : Hp) (v : V) (p : Int × Int) : Prop := ∃ a dx, v = .ref a ∧ H a = some (.ins C dx (exF (.int p.1) (.int p.2)))
/-- a number as it is passed -/
def NumAt (C : Addr) (H : Hp) (v : V) (p : Int × Int) : Prop := (v = .int p.1 ∧ p.2 = 1) ∨ ExAt C H v p
theorem ExAt.same {C : Addr} {H H' : Hp} {v : V} {p : Int × Int} (h : ExAt C H v p) (e : Same H H') : ExAt C H' v p := let ⟨a, dx, r, z⟩ := h; ⟨a, dx, r, e _ _ z⟩
theorem NumAt.same {C : Addr} {H H' : Hp} {v : V} {p : Int × Int} (h : NumAt C H v p) (e : Same H H') : NumAt C H' v p := h.elim .inl fun z => .inr (z.same e)
theorem fl_ne : ¬ (("over" : Str) = "under") := by decide +kernel
theorem fl_eq (p q : V) : putF "under" q (putF "over" p []) = exF p q := by
  show (if ("over" : Str) = "under" then [(("over" : Str), q)] else (("over" : Str), p) :: putF "under" q []) = ([(("over" : Str), p), (("under" : Str), q)] : List (Str × V))
  rw [if_neg fl_ne]
  all_goals rfl
theorem fl_over {x y : V} : (exF x y).lookup ("over" : Str) = some x := by
  rw [← fl_eq, lookup_putF, if_neg fl_ne, lookup_putF, if_pos rfl]
theorem fl_under {x y : V} : (exF x y).lookup ("under" : Str) = some y := by
  rw [← fl_eq, lookup_putF, if_pos rfl]
theorem fl_no {x y : V} {m : Str} (h1 : ¬ m = "over") (h2 : ¬ m = "under") : (exF x y).lookup m = none := by
  rw [← fl_eq, lookup_putF, if_neg h2, lookup_putF, if_neg h1]
  all_goals rfl
/-- no number -/
def NoNum (K : PySem.W.Frag) (C : Addr) (H : Hp) (v : V) : Prop := ∃ t b, TyX K H v t ∧ PySem.W.kitOne K t (.type "int") = some b ∧ (b = true → PySem.W.kitOne K t (.type "bool") = some true) ∧ PySem.W.kitOne K t (.ref C) = some false
/-- an int, an Exact, no number: whether it is an int -/
def spWhole (K : PySem.W.Frag) (C : Addr) : Sp := fun vs H Q _ => ∃ v, vs = [v] ∧ ((∃ i, v = .int i) ∧ Q (.bl true) H ∨ (∃ p, ExAt C H v p) ∧ Q (.bl false) H ∨ NoNum K C H v ∧ Q (.bl false) H)
theorem ok_is_whole (T : Tx K mg) : FnOk P w K mg base CX0 1 T.is_whole_a T.is_whole_d ["thing"] (spWhole K T.Exact_a) := by
  refine T.is_whole_F.ok sc_is_whole (fun vs H Q E h => ?_) (fun cdv A outer s H vs Q E hr h => ?_)
  · obtain ⟨v, rfl, _⟩ := h
    rfl
  · obtain ⟨v, rfl, h⟩ := h
    refine ⟨_, (pss_one (ps_ret (pe_and (pe_callB call_isi (by rfl) T.z_isinstance (by decide +kernel) (pa_cons (pv 0) (pa_cons (pe_bltn (v := .ty "int") (by rfl) T.z_int (by decide +kernel) rfl) pa_nil))) (pe_one (pe_not (pe_callB call_isi (by rfl) T.z_isinstance (by decide +kernel) (pa_cons (pv 0) (pa_cons (pe_bltn (v := .ty "bool") (by rfl) T.z_bool (by decide +kernel) rfl) pa_nil)))))))), ?_⟩
    rcases h with ⟨⟨i, rfl⟩, k⟩ | ⟨⟨p, a, dx, rfl, ha⟩, k⟩ | ⟨⟨t, b, ty, ki, kb, _⟩, k⟩
    · refine ⟨_, rfl, _, _, _, _, true, rfl, .ty "int", .base (.int i), kit_ty (by decide +kernel), true, rfl, ?_⟩
      refine iteT ?_
      refine ⟨_, rfl, _, _, _, _, false, rfl, .ty "bool", .base (.int i), kit_ty (by decide +kernel), false, rfl, k⟩
    · refine ⟨_, rfl, _, _, _, _, false, rfl, .ty "int", .base (.ins ha T.Exact_cl T.Exact_i1 T.Exact_i2 T.Exact_i3 T.Exact_i4), T.Exact_ko_int, false, rfl, ?_⟩
      exact iteF k
    · refine ⟨_, rfl, _, _, _, _, b, rfl, .ty "int", ty, ki, b, rfl, ?_⟩
      cases b with
      | false => exact iteF k
      | true =>
        refine iteT ?_
        exact ⟨_, rfl, _, _, _, _, true, rfl, .ty "bool", ty, kb rfl, true, rfl, k⟩
/-- the greatest common part of two ints that are not below 0 -/
def spDivisor : Sp := fun vs H Q _ => ∃ a b : Int, vs = [.int a, .int b] ∧ 0 ≤ a ∧ 0 ≤ b ∧ Q (.int (Int.gcd a b)) H
theorem ok_divisor (T : Tx K mg) : FnOk P w K mg base CX0 1 T.divisor_a T.divisor_d ["one", "other"] spDivisor := by
  refine T.divisor_F.ok sc_divisor (fun vs H Q E h => ?_) (fun cdv A outer s H vs Q E hr h => ?_)
  · obtain ⟨a, b, rfl, _⟩ := h
    rfl
  · obtain ⟨a, b, rfl, ha, hb, k⟩ := h
    refine ⟨_, (pss_cons (ps_while PassesOwn.never (pt_cmpR op_ne (pv 1) pe_int (nomark _))
  (pss_one (ps_par (i := 0) (j := 1) (by rfl) sc_divisor.nd rfl rfl (by decide) rfl rfl (pa_cons (pv 1) (pa_cons (pe_op (op_modN) (pv 0) (pv 1)) pa_nil)) (by rfl))))
  (pss_one (ps_ret (pv 0)))), ?_⟩
    refine ⟨fun m σ H' => ∃ x y : Int, σ = [some (.int x), some (.int y)] ∧ 0 ≤ x ∧ 0 ≤ y ∧ Int.gcd x y = Int.gcd a b ∧ m = y.toNat ∧ H' = H, ⟨_, a, b, rfl, ha, hb, rfl, rfl, rfl⟩, ?_⟩
    rintro m σ H' ⟨x, y, rfl, hx, hy, hg, rfl, rfl⟩
    refine ⟨_, rfl, rfl, _, rfl, ?_⟩
    by_cases h0 : y = 0
    · subst h0
      refine iteF ?_
      refine ⟨_, rfl, ?_⟩
      have e : x = (Int.gcd a b : Int) := by rw [← hg, Int.gcd_zero_right]; omega
      rw [e]
      exact k
    · rw [show (!decide (V.int y = V.int 0)) = true by simp [h0]]
      refine iteT ?_
      refine ⟨_, fun σ' H' z => z, ?_⟩
      refine ⟨_, rfl, _, rfl, _, rfl, _, _, rfl, rfl, h0, _, _, rfl, ?_⟩
      have h1 := Int.fmod_nonneg_of_pos x (b := y) (by omega)
      have h2 := Int.fmod_lt_of_pos x (b := y) (by omega)
      exact ⟨_, by omega, y, x.fmod y, rfl, hy, h1, (gcd_step x y).trans hg, rfl, rfl⟩
/-- Exact(a, b), b not 0 -/
def spExInit (C : Addr) : Sp := fun vs H Q _ => ∃ (x dx : Addr) (a b : Int), vs = [.ref x, .int a, .int b] ∧ b ≠ 0 ∧ b.natAbs < 2 ^ 8000 ∧ H x = some (.ins C dx []) ∧
  ∀ H', H' x = some (.ins C dx (exF (.int (red a b).1) (.int (red a b).2))) → (∀ c o, H c = some o → c ≠ x → H' c = some o) → Q .non H'
theorem ok_Exact_init (T : Tx K mg) : FnOk P w K mg base CX0 3 T.Exact_init_a T.Exact_init_d ["self", "over", "under"] (spExInit T.Exact_a) := by
  refine T.Exact_init_F.ok0 sc_Exact_init (fun vs H Q E h => ?_) (fun cdv A outer s H vs Q E hr h => ?_)
  · obtain ⟨x, dx, a, b, rfl, _⟩ := h
    rfl
  · obtain ⟨x, dx, a, b, rfl, hb, hz, hx, k⟩ := h
    refine ⟨_, (pss_cons (ps_for PassesOwn.never rfl (pi_tup (pe_tup (pa_cons (pv 1) (pa_cons (pv 2) pa_nil)))) (pg_name (i := 3) sc_Exact_init.nd rfl (Or.inl rfl))
  (pss_one (ps_if (pt_not (pt_val (pe_call (ok_is_whole T) (hr.mono (by decide)) rfl T.is_whole_m T.is_whole_F.kp T.is_whole_b .nil pass0 (pa_cons (pv 3) pa_nil))))
  (pss_one ps_never)
  pss_nil)))
  (pss_cons (ps_if (pt_cmpR op_eq (pv 2) pe_int (nomark _))
  (pss_one ps_never)
  pss_nil)
  (pss_cons (ps_set (i := 4) sc_Exact_init.nd rfl (Or.inl rfl) (pe_call (ok_divisor T) (hr.mono (by decide)) rfl T.divisor_m T.divisor_F.kp T.divisor_b .nil pass0 (pa_cons (pe_callB (call_abs) (by rfl) T.z_abs (by decide +kernel) (pa_cons (pv 1) pa_nil)) (pa_cons (pe_callB (call_abs) (by rfl) T.z_abs (by decide +kernel) (pa_cons (pv 2) pa_nil)) pa_nil))))
  (pss_cons (ps_if (pt_cmpR op_lt (pv 2) pe_int (nomark _))
  (pss_one (ps_set (i := 4) sc_Exact_init.nd rfl (Or.inl rfl) (pe_un (un_neg) (pv 4))))
  pss_nil)
  (pss_cons (ps_fld (pv 0) (pe_op (op_fdivG) (pv 1) (pv 4)) rfl)
  (pss_one (ps_fld (pv 0) (pe_op (op_fdivG) (pv 2) (pv 4)) rfl))))))), ?_⟩
    refine ⟨_, rfl, _, rfl, (by show 2 ≤ sizeLine; decide), fun t nt => ?_⟩
    have s1 : Same H (upd H t (.tup [.int a, .int b])) := same_upd nt
    have ht : (upd H t (.tup [.int a, .int b])) t = some (.tup [.int a, .int b]) := upd_same
    generalize upd H t (.tup [.int a, .int b]) = H1 at s1 ht ⊢
    refine ⟨t, rfl, ⟨_, .inl (.inl ht)⟩, for_tup (K := K) (a := t) (xs := [.int a, .int b]) (fun i σ H2 => (∃ v, σ = [some (.ref x), some (.int a), some (.int b), v, none]) ∧ H2 = H1) ⟨⟨none, rfl⟩, rfl⟩ (fun i σ H2 _ e => by rw [e.2]; exact .inl (.inl ht)) ?_ ?_⟩
    · rintro i y σ H2 hi ⟨⟨v, rfl⟩, rfl⟩
      have hy : ∃ n, y = V.int n := by
        match i, hi with
        | 0, hi => exact ⟨a, (Option.some.inj hi).symm⟩
        | 1, hi => exact ⟨b, (Option.some.inj hi).symm⟩
      obtain ⟨n, rfl⟩ := hy
      refine ⟨_, rfl, _, rfl, .inl ⟨⟨n, rfl⟩, true, rfl, ?_⟩⟩
      exact iteF ⟨⟨_, rfl⟩, rfl⟩
    · rintro σ H2 ⟨⟨v, rfl⟩, rfl⟩
      refine ⟨_, rfl, rfl, _, rfl, ?_⟩
      rw [show decide (V.int b = V.int 0) = false by simp [hb]]
      refine iteF ?_
      refine ⟨_, rfl, _, rfl, _, rfl, _, rfl, a.natAbs, b.natAbs, ?_, by omega, by omega, ?_⟩
      · show ([V.int _, V.int _] : List V) = [V.int _, V.int _]
        have f : ∀ z : Int, (if z < 0 then -z else z) = (z.natAbs : Int) := fun z => by split <;> omega
        rw [f, f]
      rw [show Int.gcd (a.natAbs : Int) (b.natAbs : Int) = Int.gcd a b from rfl]
      have hx2 := s1 _ _ hx
      -- the sign, then the two fields: both ways end alike
      have fin : ∀ w : Int, w = red_w a b → tSeq (sFld K (tVar 0) (tOp (rI GDiv fun i j => .int (i.fdiv j)) (tVar 1) (tVar 4)) "over") (sFld K (tVar 0) (tOp (rI GDiv fun i j => .int (i.fdiv j)) (tVar 2) (tVar 4)) "under")
          { nx := fun _ H' => Q .non H', rt := Q } [some (.ref x), some (.int a), some (.int b), v, some (.int w)] H2 := by
        rintro w rfl
        have gd : ∀ i, GDiv i (red_w a b) := fun i => gDiv_lt (red_w_ne hb) (red_w_sz hb hz) (by decide) (by decide)
        refine ⟨_, rfl, _, rfl, _, _, rfl, rfl, gd _, _, rfl, x, T.Exact_a, dx, _, rfl, hx2, T.Exact_cl, T.Exact_n_over, (by show 0 < 1000; decide), ?_⟩
        refine ⟨_, rfl, _, rfl, _, _, rfl, rfl, gd _, _, rfl, x, T.Exact_a, dx, _, rfl, upd_same, T.Exact_cl, T.Exact_n_under, (by show 1 < 1000; decide), ?_⟩
        refine k _ ?_ fun c o e hc => ?_
        · rw [upd_same]
          exact congrArg (fun l => some (HO.ins T.Exact_a dx l)) (fl_eq _ _)
        · rw [upd_ne hc, upd_ne hc]
          exact s1 _ _ e
      refine ⟨_, rfl, _, _, rfl, rfl, _, rfl, ?_⟩
      refine ite2 (fun hneg => ?_) (fun hneg => ?_)
      · have hneg : b < 0 := of_decide_eq_true hneg
        exact ⟨_, rfl, _, rfl, fin _ (by unfold red_w; rw [if_pos hneg])⟩
      · have hneg : ¬ b < 0 := fun z => hneg (decide_eq_true z)
        exact fin _ (by unfold red_w; rw [if_neg hneg])
/-- Exact(A, B) as a value -/
theorem mk_ex {C : Addr} {H1 : Hp} {Q : VK} {E : XK} {A B : Int} (hB : B ≠ 0) (hz : B.natAbs < 2 ^ 8000) (k : ∀ v H2, Same H1 H2 → ExAt C H2 v (red A B) → Q v H2) :
    ∀ x dx, H1 x = none → H1 dx = none → dx ≠ x → spExInit C (.ref x :: ([.int A, .int B] ++ [])) (upd (upd H1 dx (.own x)) x (.ins C dx [])) (fun v H2 => v = .non ∧ Q (.ref x) H2) E := fun x dx nx nd ne =>
  ⟨x, dx, A, B, rfl, hB, hz, upd_same, fun H2 hx kp => ⟨rfl, k _ H2 (Same.made nx nd kp) ⟨x, dx, rfl, hx⟩⟩⟩
/-- the same, where what follows is no letter -/
theorem mk_ex1 {C : Addr} {H1 : Hp} {Q : Hp → Prop} {E : XK} {A B : Int} {x dx : Addr} (nx : H1 x = none) (nd : H1 dx = none) (hB : B ≠ 0) (hz : B.natAbs < 2 ^ 8000) (k : ∀ H2, Same H1 H2 → ExAt C H2 (.ref x) (red A B) → Q H2) :
    spExInit C (.ref x :: ([.int A, .int B] ++ [])) (upd (upd H1 dx (.own x)) x (.ins C dx [])) (fun v H2 => v = .non ∧ Q H2) E :=
  ⟨x, dx, A, B, rfl, hB, hz, upd_same, fun H2 hx kp => ⟨rfl, k H2 (Same.made nx nd kp) ⟨x, dx, rfl, hx⟩⟩⟩
/-- a number that may be reckoned with -/
def Nm (p : Int × Int) : Prop := 0 < p.2 ∧ p.1.natAbs < 2 ^ 1000 ∧ p.2.natAbs < 2 ^ 1000
theorem ok1000 {a b : Int} (ha : a.natAbs < 2 ^ 1000) (hb : b.natAbs < 2 ^ 1000) : IntMulOk a b := mulOk ha hb (by decide) (by decide) (by decide)
theorem un_ok {a b : Int × Int} (ha : Nm a) (hb : Nm b) : a.2 * b.2 ≠ 0 ∧ (a.2 * b.2).natAbs < 2 ^ 8000 :=
  ⟨Int.ne_of_gt (Int.mul_pos ha.1 hb.1), sz_up (sz_mul ha.2.2 hb.2.2) (by decide)⟩
theorem NumAt.cases {C : Addr} {H : Hp} {v : V} {p : Int × Int} (h : NumAt C H v p) : (v = .int p.1 ∧ p.2 = 1) ∨ ∃ a dx, v = .ref a ∧ H a = some (.ins C dx (exF (.int p.1) (.int p.2))) := h
def spParts (C : Addr) : Sp := fun vs H Q _ => ∃ v p, vs = [v] ∧ NumAt C H v p ∧ ∀ t H', Same H H' → H' t = some (.tup [.int p.1, .int p.2]) → Q (.ref t) H'
theorem ok_parts (T : Tx K mg) : FnOk P w K mg base CX0 3 T.parts_a T.parts_d ["number"] (spParts T.Exact_a) := by
  refine T.parts_F.ok sc_parts (fun vs H Q E h => ?_) (fun cdv A outer s H vs Q E hr h => ?_)
  · obtain ⟨v, p, rfl, _⟩ := h
    rfl
  · obtain ⟨v, p, rfl, hv, k⟩ := h
    refine ⟨_, (pss_cons (ps_if (pt_val (pe_callB call_isi (by rfl) T.z_isinstance (by decide +kernel) (pa_cons (pv 0) (pa_cons (pe_glob (v := .ref T.Exact_a) rfl T.Exact_m rfl) pa_nil))))
  (pss_one (ps_ret (pe_tup (pa_cons (pe_fld (pv 0) rfl) (pa_cons (pe_fld (pv 0) rfl) pa_nil)))))
  pss_nil)
  (pss_cons (ps_if (pt_val (pe_call (ok_is_whole T) (hr.mono (by decide)) rfl T.is_whole_m T.is_whole_F.kp T.is_whole_b .nil pass0 (pa_cons (pv 0) pa_nil)))
  (pss_one (ps_ret (pe_tup (pa_cons (pv 0) (pa_cons pe_int pa_nil)))))
  pss_nil)
  (pss_one ps_never))), ?_⟩
    rcases hv.cases with ⟨rfl, h1⟩ | ⟨x, dx, rfl, hx⟩
    · refine ⟨_, rfl, _, _, _, _, false, rfl, .own _, .base (.int _), T.Exact_kt_int, false, rfl, ?_⟩
      refine iteF ?_
      refine ⟨_, rfl, _, rfl, .inl ⟨⟨_, rfl⟩, true, rfl, ?_⟩⟩
      refine iteT ?_
      refine ⟨_, rfl, (by show 2 ≤ sizeLine; decide), fun t nt => ?_⟩
      rw [← h1]
      exact k t _ (same_upd nt) upd_same
    · refine ⟨_, rfl, _, _, _, _, true, rfl, .own _, .base (.ins hx T.Exact_cl T.Exact_i1 T.Exact_i2 T.Exact_i3 T.Exact_i4), T.Exact_k0, true, rfl, ?_⟩
      refine iteT ?_
      refine ⟨_, rfl, x, _, dx, _, _, rfl, hx, T.Exact_cl, T.Exact_n_over, fl_over, _, rfl, x, _, dx, _, _, rfl, hx, T.Exact_cl, T.Exact_n_under, fl_under, (by show 2 ≤ sizeLine; decide), fun t nt => ?_⟩
      exact k t _ (same_upd nt) upd_same
def fAdd (a b : Int × Int) : Int × Int := (a.1 * b.2 + b.1 * a.2, a.2 * b.2)
def fSub (a b : Int × Int) : Int × Int := (a.1 * b.2 - b.1 * a.2, a.2 * b.2)
def fRsub (a b : Int × Int) : Int × Int := (b.1 * a.2 - a.1 * b.2, a.2 * b.2)
def fMul (a b : Int × Int) : Int × Int := (a.1 * b.1, a.2 * b.2)
def fBy (a b : Int × Int) : Int × Int := (a.1 * b.2, a.2 * b.1)

end


section
variable {P : Program} {w : World} {K : PySem.W.Frag} {mg : Str → Option Value} {base : Heap}
/-! ### the law's draws -/
theorem cut63 (ns : List Int) (h : ns.length ≤ 63) : cutV (ns.map V.int) none (some 63) = ns.map V.int := by
  have hl : (ns.map V.int).length = ns.length := List.length_map ..
  have e : HT.sIx (ns.map V.int).length (ns.map V.int).length (some (63 : Int)) = (ns.map V.int).length := by
    have := HT.sIx_nat (ns.map V.int).length (ns.map V.int).length 63
    rw [show (((63 : Nat) : Int)) = (63 : Int) from rfl] at this
    rw [this, hl]
    omega
  unfold cutV
  rw [e, HT.sIx_none, Nat.sub_zero, List.drop_zero, List.take_length]
def spFresh (K : PySem.W.Frag) : Sp := fun vs H Q _ => ∃ (a : Addr) (ns : List Int), vs = [.ref a] ∧ SqL K H a (ns.map V.int) ∧ ns.length ≤ 63 ∧ ∀ st c H', Same H H' → StAt H' st c ns → Q (.ref st) H'
theorem ok_law_fresh (T : Tx K mg) : FnOk P w K mg base CX0 1 T.law_fresh_a T.law_fresh_d ["_law_script"] (spFresh K) := by
  refine T.law_fresh_F.ok sc_law_fresh (fun vs H Q E h => ?_) (fun cdv A outer s H vs Q E hr h => ?_)
  · obtain ⟨a, ns, rfl, _⟩ := h
    rfl
  · obtain ⟨a, ns, rfl, hS, hl, k⟩ := h
    refine ⟨_, (pss_one (ps_ret (pe_lst (pa_cons (pe_slice sl_list (pv 0) po_none (po_some pe_int)) (pa_cons pe_int (pa_cons pe_int (pa_cons pe_bl pa_nil))))))), ?_⟩
    refine ⟨_, rfl, 63, rfl, a, _, rfl, hS, fun c nc => ?_⟩
    refine ⟨(by show 4 ≤ sizeLine; decide), fun st ns' => ?_⟩
    have hne : c ≠ st := ne_of_none upd_same ns'
    refine k st c _ (Same.trans (same_upd nc) (same_upd ns')) ⟨⟨0, 0, false, upd_same⟩, ?_, hne⟩
    rw [upd_ne hne, upd_same, cut63 ns hl]
theorem prime_at {i : Nat} {x : V} (h : ([.int 2147483647, .int 2147483629, .int 2147483587, .int 2147483579, .int 2147483563] : List V)[i]? = some x) : ∃ p : Int, x = .int p ∧ 0 < p ∧ p < 2 ^ 31 ∧ i < 5 := by
  match i, h with
  | 0, h => exact ⟨_, (Option.some.inj h).symm, by decide, by decide, by decide⟩
  | 1, h => exact ⟨_, (Option.some.inj h).symm, by decide, by decide, by decide⟩
  | 2, h => exact ⟨_, (Option.some.inj h).symm, by decide, by decide, by decide⟩
  | 3, h => exact ⟨_, (Option.some.inj h).symm, by decide, by decide, by decide⟩
  | 4, h => exact ⟨_, (Option.some.inj h).symm, by decide, by decide, by decide⟩
def spFill : Sp := fun vs H Q _ => ∃ (st c : Addr) (ns : List Int), vs = [.ref st] ∧ StAt H st c ns ∧ ns.length ≤ 63 ∧ ∀ H', StAt H' st c ns → Keep st H H' → Q .non H'
theorem ok_law_fill (T : Tx K mg) : FnOk P w K mg base CX0 1 T.law_fill_a T.law_fill_d ["_law_state"] spFill := by
  refine T.law_fill_F.ok sc_law_fill (fun vs H Q E h => ?_) (fun cdv A outer s H vs Q E hr h => ?_)
  · obtain ⟨st, c, ns, rfl, _⟩ := h
    rfl
  · obtain ⟨st, c, ns, rfl, ⟨⟨nth, left, mx, hL⟩, hc, hne⟩, hl, k⟩ := h
    refine ⟨_, (pss_cons (ps_par (i := 1) (j := 2) (by rfl) sc_law_fill.nd rfl rfl (by decide) rfl rfl (pa_cons (pe_ix ix_list (pv 0) pe_int (fun _ _ => rfl)) (pa_cons (pe_ix ix_list (pv 0) pe_int (fun _ _ => rfl)) pa_nil)) (by rfl))
  (pss_cons (ps_set (i := 3) sc_law_fill.nd rfl (Or.inl rfl) (pe_op (op_add) (pe_op (op_mulG) pe_int (pv 2)) pe_int))
  (pss_cons (ps_if (pt_cmpR op_gt (pe_callB (call_len_seq) (by rfl) T.z_len (by decide +kernel) (pa_cons (pv 1) pa_nil)) pe_int (nomark _))
  (pss_one (ps_set (i := 3) sc_law_fill.nd rfl (Or.inl rfl) (pe_op (op_add) (pe_op (op_mulG) pe_int (pe_op (op_fdivG) (pv 2) (pe_callB (call_len_seq) (by rfl) T.z_len (by decide +kernel) (pa_cons (pv 1) pa_nil)))) (pe_ix ix_list (pv 1) (pe_op (op_modN) (pe_callTy call_int1 (by rfl) T.z_int (by decide +kernel) (pa_cons (pv 2) pa_nil)) (pe_callB (call_len_seq) (by rfl) T.z_len (by decide +kernel) (pa_cons (pv 1) pa_nil))) (fun _ _ => rfl)))))
  pss_nil)
  (pss_cons (ps_asg (pe_op (op_add) (pv 2) pe_int) (pg_sub (pv 0) pe_int set_list))
  (pss_cons (ps_asg (pe_or (pe_cmpR op_ge (pv 2) (pe_callB (call_len_seq) (by rfl) T.z_len (by decide +kernel) (pa_cons (pv 1) pa_nil)) (nomark _)) (pe_one (pe_cmpR op_lt (pv 3) (pe_op (op_pow) pe_int pe_int) (nomark _)))) (pg_sub (pv 0) pe_int set_list))
  (pss_cons (ps_asg (pe_op (op_sub) (pv 3) (pe_op (op_pow) pe_int pe_int)) (pg_sub (pv 0) pe_int set_list))
  (pss_one (ps_if (pt_val (pe_ix ix_list (pv 0) pe_int (fun _ _ => rfl)))
  (pss_cons (ps_asg pe_int (pg_sub (pv 0) pe_int set_list))
  (pss_one (ps_for PassesOwn.never rfl (pi_enumT (by rfl) T.z_enumerate (pa_cons (pe_tup (pa_cons pe_int (pa_cons pe_int (pa_cons pe_int (pa_cons pe_int (pa_cons pe_int pa_nil)))))) pa_nil)) (pg_tup (by rfl) (pgs_cons (pg_name (i := 4) sc_law_fill.nd rfl (Or.inl rfl)) (pgs_cons (pg_name (i := 5) sc_law_fill.nd rfl (Or.inl rfl)) pgs_nil)))
  (pss_cons (ps_set (i := 6) sc_law_fill.nd rfl (Or.inl rfl) (pe_op (op_modN) (pe_callTy call_int1 (by rfl) T.z_int (by decide +kernel) (pa_cons (pe_op (op_mulG) (pe_op (op_add) (pe_op (op_add) (pv 3) (pe_op (op_mulG) (pe_op (op_mulG) pe_int (pv 4)) (pv 4))) (pe_op (op_mulG) pe_int (pv 4))) (pe_op (op_add) pe_int (pe_op (op_mulG) pe_int (pv 4)))) pa_nil)) (pv 5)))
  (pss_one (ps_asg (pe_op (op_add) (pe_op (op_mulG) (pe_ix ix_list (pv 0) pe_int (fun _ _ => rfl)) (pv 5)) (pe_op (op_modN) (pe_callTy call_int1 (by rfl) T.z_int (by decide +kernel) (pa_cons (pe_op (op_pow) (pv 6) pe_int) pa_nil)) (pv 5))) (pg_sub (pv 0) pe_int set_list)))))))
  pss_nil)))))))), ?_⟩
    refine ⟨_, rfl, st, _, _, _, rfl, rfl, .inl (.inl hL), rfl, _, rfl, st, _, _, _, rfl, rfl, .inl (.inl hL), rfl, _, _, rfl, ?_⟩
    refine ⟨_, rfl, _, _, rfl, rfl, mulOk_l ⟨by decide, by decide⟩, _, _, rfl, rfl, ?_⟩
    refine ⟨_, rfl, c, _, rfl, .inl (.inl (.inl hc)), _, _, rfl, rfl, _, rfl, ?_⟩
    have hcU : ∀ o, (upd H st o) c = some (.lst (ns.map V.int)) := fun o => by rw [upd_ne hne]; exact hc
    -- what comes behind the seed, whatever it is
    have tail : ∀ (mx' : Bool) (H1 : Hp), Keep st H H1 → (∃ left, H1 st = some (.lst [.ref c, .int (nth + 1), .int left, .bl mx'])) → Q .non H1 := fun mx' H1 kp ⟨l, hl⟩ =>
      k H1 ⟨⟨_, _, _, hl⟩, kp c _ hc hne, hne⟩ kp
    refine ite2 (fun h0 => ?_) (fun h0 => ?_)
    · have h0 : (0 : Int) < ((ns.map V.int).length : Int) := of_decide_eq_true h0
      have hlen : (ns.map V.int).length = ns.length := List.length_map ..
      have hn0 : ((ns.map V.int).length : Int) ≠ 0 := by omega
      have f1 := Int.fmod_nonneg_of_pos nth h0
      have f2 := Int.fmod_lt_of_pos nth h0
      obtain ⟨j, hj⟩ : ∃ j : Nat, nth.fmod ((ns.map V.int).length : Int) = (j : Int) := ⟨_, (Int.toNat_of_nonneg f1).symm⟩
      have hjl : j < ns.length := by omega
      have hat : atI (ns.map V.int) (nth.fmod ((ns.map V.int).length : Int)) = some (.int ns[j]) := by
        rw [hj]
        exact atI_nat (by rw [List.getElem?_map, List.getElem?_eq_getElem hjl]; rfl)
      refine ⟨_, rfl, _, rfl, c, _, rfl, .inl (.inl (.inl hc)), _, _, rfl, rfl, gDiv_lt (b := 6) hn0 (by rw [hlen]; show ns.length < 64; omega) (by decide) (by decide), _, _, rfl, rfl, mulOk_l ⟨by decide, by decide⟩,
        _, rfl, _, rfl, .inl ⟨_, rfl, _, rfl, c, _, rfl, .inl (.inl (.inl hc)), _, _, rfl, rfl, hn0, c, _, _, _, rfl, rfl, .inl (.inl hc), hat, _, _, rfl, rfl, ?_⟩⟩
      -- the place is counted on
      refine ⟨_, rfl, _, _, rfl, rfl, _, rfl, st, _, 1, 1, rfl, rfl, hL, rfl, ?_⟩
      -- is it mixed
      refine ⟨_, rfl, _, rfl, c, _, rfl, .inl (.inl (.inl (hcU _))), _, _, rfl, rfl, _, rfl, ?_⟩
      refine ite2 (fun h1 => ?_) (fun h1 => ?_)
      · refine ⟨_, rfl, st, _, 3, 3, rfl, rfl, upd_same, rfl, ?_⟩
        refine ⟨_, rfl, _, _, rfl, rfl, ⟨by decide, by decide, by decide⟩, _, _, rfl, rfl, _, rfl, st, _, 2, 2, rfl, rfl, upd_same, rfl, ?_⟩
        refine ⟨_, rfl, st, _, _, _, rfl, rfl, .inl (.inl upd_same), rfl, _, rfl, ?_⟩
        refine iteT ?_
        refine ⟨_, rfl, st, _, 2, 2, rfl, rfl, upd_same, rfl, ?_⟩
        refine ⟨(by show 5 ≤ sizeLine; decide), fun t nt => ?_⟩
        refine ⟨t, _, rfl, .inl (.inl upd_same), for_enumT (K := K) (a := t) (xs := [.int 2147483647, .int 2147483629, .int 2147483587, .int 2147483579, .int 2147483563]) (fun i σ H2 => ∃ kk pp ff l b seed, σ = [some (.ref st), some (.ref c), some (.int nth), some (.int seed), kk, pp, ff] ∧ H2 st = some (.lst [.ref c, .int (nth + 1), .int l, .bl b]) ∧
          H2 t = some (.tup [.int 2147483647, .int 2147483629, .int 2147483587, .int 2147483579, .int 2147483563]) ∧ Keep st H H2) ⟨_, _, _, _, _, _, rfl, (upd_ne (ne_of_none upd_same nt)).trans upd_same, upd_same, ?_⟩ (fun i σ H2 _ ⟨_, _, _, _, _, _, _, _, ht, _⟩ => .inl (.inl ht)) ?_ ?_⟩
        · exact fun b o e n => same_upd nt b o (by rw [upd_ne n, upd_ne n, upd_ne n, upd_ne n]; exact e)
        · rintro i x σ H2 T' hx ⟨kk, pp, ff, l, b, seed, rfl, hS, hT, kp⟩ nT
          obtain ⟨p, rfl, p0, p1, i5⟩ := prime_at hx
          refine ⟨T', _, rfl, .inl (.inl upd_same), rfl, _, _, rfl, _, _, rfl, rfl, ?_⟩
          have hS' : ∀ o, (upd H2 T' o) st = some (.lst [.ref c, .int (nth + 1), .int l, .bl b]) := fun o => by rw [upd_ne (ne_of_none hS nT)]; exact hS
          have f1 : ∀ z : Int, 0 ≤ z.fmod p := fun z => Int.fmod_nonneg_of_pos z p0
          have f2 : ∀ z : Int, z.fmod p < p := fun z => Int.fmod_lt_of_pos z p0
          refine ⟨_, rfl, _, rfl, _, _, rfl, rfl, mulOk_l ⟨by decide, by decide⟩, _, rfl, _, _, rfl, rfl, mulOk_r ⟨by omega, by omega⟩, _, _, rfl, rfl, _, rfl, _, _, rfl, rfl, mulOk_l ⟨by decide, by decide⟩, _, _, rfl, rfl,
            _, rfl, _, _, rfl, rfl, mulOk_l ⟨by decide, by decide⟩, _, _, rfl, rfl, _, _, rfl, rfl, mulOk_r ⟨by omega, by omega⟩, .inl ⟨_, rfl, _, rfl, _, _, rfl, rfl, by omega, ?_⟩⟩
          refine ⟨_, rfl, st, _, _, _, rfl, rfl, .inl (.inl (hS' _)), rfl, _, rfl, _, _, rfl, rfl, mulOk_r ⟨by omega, by omega⟩, _, rfl, _, _, rfl, rfl, ⟨by decide, by decide, ?_⟩, .inl ⟨_, rfl, _, rfl, _, _, rfl, rfl, by omega, _, _, rfl, rfl, _, rfl, st, _, 2, 2, rfl, rfl, hS' _, rfl, ?_⟩⟩
          · have g1 := f1 ((seed + 10007 * (i : Int) * (i : Int) + 101 * (i : Int)) * (48271 + 2 * (i : Int)))
            have g2 := f2 ((seed + 10007 * (i : Int) * (i : Int) + 101 * (i : Int)) * (48271 + 2 * (i : Int)))
            omega
          · refine ⟨_, _, _, _, _, _, rfl, upd_same, ?_, fun b' o e n => ?_⟩
            · rw [upd_ne (ne_of hT hS (by intro z; cases z)), upd_ne (ne_of_none hT nT)]
              exact hT
            · rw [upd_ne n]
              exact same_upd nT b' o (kp b' o e n)
        · rintro σ H2 ⟨kk, pp, ff, l, b, seed, rfl, hS, hT, kp⟩
          exact tail b H2 kp ⟨l, hS⟩
      · refine ⟨_, rfl, _, _, rfl, rfl, ⟨by decide, by decide, by decide⟩, _, _, rfl, rfl, _, rfl, st, _, 3, 3, rfl, rfl, upd_same, rfl, ?_⟩
        refine ⟨_, rfl, _, _, rfl, rfl, ⟨by decide, by decide, by decide⟩, _, _, rfl, rfl, _, rfl, st, _, 2, 2, rfl, rfl, upd_same, rfl, ?_⟩
        refine ⟨_, rfl, st, _, _, _, rfl, rfl, .inl (.inl upd_same), rfl, _, rfl, ?_⟩
        refine ite2 (fun h2 => ?_) (fun h2 => ?_)
        · skip
          refine ⟨_, rfl, st, _, 2, 2, rfl, rfl, upd_same, rfl, ?_⟩
          refine ⟨(by show 5 ≤ sizeLine; decide), fun t nt => ?_⟩
          refine ⟨t, _, rfl, .inl (.inl upd_same), for_enumT (K := K) (a := t) (xs := [.int 2147483647, .int 2147483629, .int 2147483587, .int 2147483579, .int 2147483563]) (fun i σ H2 => ∃ kk pp ff l b seed, σ = [some (.ref st), some (.ref c), some (.int nth), some (.int seed), kk, pp, ff] ∧ H2 st = some (.lst [.ref c, .int (nth + 1), .int l, .bl b]) ∧
            H2 t = some (.tup [.int 2147483647, .int 2147483629, .int 2147483587, .int 2147483579, .int 2147483563]) ∧ Keep st H H2) ⟨_, _, _, _, _, _, rfl, (upd_ne (ne_of_none upd_same nt)).trans upd_same, upd_same, ?_⟩ (fun i σ H2 _ ⟨_, _, _, _, _, _, _, _, ht, _⟩ => .inl (.inl ht)) ?_ ?_⟩
          · exact fun b o e n => same_upd nt b o (by rw [upd_ne n, upd_ne n, upd_ne n, upd_ne n]; exact e)
          · rintro i x σ H2 T' hx ⟨kk, pp, ff, l, b, seed, rfl, hS, hT, kp⟩ nT
            obtain ⟨p, rfl, p0, p1, i5⟩ := prime_at hx
            refine ⟨T', _, rfl, .inl (.inl upd_same), rfl, _, _, rfl, _, _, rfl, rfl, ?_⟩
            have hS' : ∀ o, (upd H2 T' o) st = some (.lst [.ref c, .int (nth + 1), .int l, .bl b]) := fun o => by rw [upd_ne (ne_of_none hS nT)]; exact hS
            have f1 : ∀ z : Int, 0 ≤ z.fmod p := fun z => Int.fmod_nonneg_of_pos z p0
            have f2 : ∀ z : Int, z.fmod p < p := fun z => Int.fmod_lt_of_pos z p0
            refine ⟨_, rfl, _, rfl, _, _, rfl, rfl, mulOk_l ⟨by decide, by decide⟩, _, rfl, _, _, rfl, rfl, mulOk_r ⟨by omega, by omega⟩, _, _, rfl, rfl, _, rfl, _, _, rfl, rfl, mulOk_l ⟨by decide, by decide⟩, _, _, rfl, rfl,
              _, rfl, _, _, rfl, rfl, mulOk_l ⟨by decide, by decide⟩, _, _, rfl, rfl, _, _, rfl, rfl, mulOk_r ⟨by omega, by omega⟩, .inl ⟨_, rfl, _, rfl, _, _, rfl, rfl, by omega, ?_⟩⟩
            refine ⟨_, rfl, st, _, _, _, rfl, rfl, .inl (.inl (hS' _)), rfl, _, rfl, _, _, rfl, rfl, mulOk_r ⟨by omega, by omega⟩, _, rfl, _, _, rfl, rfl, ⟨by decide, by decide, ?_⟩, .inl ⟨_, rfl, _, rfl, _, _, rfl, rfl, by omega, _, _, rfl, rfl, _, rfl, st, _, 2, 2, rfl, rfl, hS' _, rfl, ?_⟩⟩
            · have g1 := f1 ((seed + 10007 * (i : Int) * (i : Int) + 101 * (i : Int)) * (48271 + 2 * (i : Int)))
              have g2 := f2 ((seed + 10007 * (i : Int) * (i : Int) + 101 * (i : Int)) * (48271 + 2 * (i : Int)))
              omega
            · refine ⟨_, _, _, _, _, _, rfl, upd_same, ?_, fun b' o e n => ?_⟩
              · rw [upd_ne (ne_of hT hS (by intro z; cases z)), upd_ne (ne_of_none hT nT)]
                exact hT
              · rw [upd_ne n]
                exact same_upd nT b' o (kp b' o e n)
          · rintro σ H2 ⟨kk, pp, ff, l, b, seed, rfl, hS, hT, kp⟩
            exact tail b H2 kp ⟨l, hS⟩
        · exact tail _ _ (fun b o e n => by rw [upd_ne n, upd_ne n, upd_ne n]; exact e) ⟨_, upd_same⟩
    · skip
      -- the place is counted on
      refine ⟨_, rfl, _, _, rfl, rfl, _, rfl, st, _, 1, 1, rfl, rfl, hL, rfl, ?_⟩
      -- is it mixed
      refine ⟨_, rfl, _, rfl, c, _, rfl, .inl (.inl (.inl (hcU _))), _, _, rfl, rfl, _, rfl, ?_⟩
      refine ite2 (fun h1 => ?_) (fun h1 => ?_)
      · refine ⟨_, rfl, st, _, 3, 3, rfl, rfl, upd_same, rfl, ?_⟩
        refine ⟨_, rfl, _, _, rfl, rfl, ⟨by decide, by decide, by decide⟩, _, _, rfl, rfl, _, rfl, st, _, 2, 2, rfl, rfl, upd_same, rfl, ?_⟩
        refine ⟨_, rfl, st, _, _, _, rfl, rfl, .inl (.inl upd_same), rfl, _, rfl, ?_⟩
        refine iteT ?_
        refine ⟨_, rfl, st, _, 2, 2, rfl, rfl, upd_same, rfl, ?_⟩
        refine ⟨(by show 5 ≤ sizeLine; decide), fun t nt => ?_⟩
        refine ⟨t, _, rfl, .inl (.inl upd_same), for_enumT (K := K) (a := t) (xs := [.int 2147483647, .int 2147483629, .int 2147483587, .int 2147483579, .int 2147483563]) (fun i σ H2 => ∃ kk pp ff l b seed, σ = [some (.ref st), some (.ref c), some (.int nth), some (.int seed), kk, pp, ff] ∧ H2 st = some (.lst [.ref c, .int (nth + 1), .int l, .bl b]) ∧
          H2 t = some (.tup [.int 2147483647, .int 2147483629, .int 2147483587, .int 2147483579, .int 2147483563]) ∧ Keep st H H2) ⟨_, _, _, _, _, _, rfl, (upd_ne (ne_of_none upd_same nt)).trans upd_same, upd_same, ?_⟩ (fun i σ H2 _ ⟨_, _, _, _, _, _, _, _, ht, _⟩ => .inl (.inl ht)) ?_ ?_⟩
        · exact fun b o e n => same_upd nt b o (by rw [upd_ne n, upd_ne n, upd_ne n, upd_ne n]; exact e)
        · rintro i x σ H2 T' hx ⟨kk, pp, ff, l, b, seed, rfl, hS, hT, kp⟩ nT
          obtain ⟨p, rfl, p0, p1, i5⟩ := prime_at hx
          refine ⟨T', _, rfl, .inl (.inl upd_same), rfl, _, _, rfl, _, _, rfl, rfl, ?_⟩
          have hS' : ∀ o, (upd H2 T' o) st = some (.lst [.ref c, .int (nth + 1), .int l, .bl b]) := fun o => by rw [upd_ne (ne_of_none hS nT)]; exact hS
          have f1 : ∀ z : Int, 0 ≤ z.fmod p := fun z => Int.fmod_nonneg_of_pos z p0
          have f2 : ∀ z : Int, z.fmod p < p := fun z => Int.fmod_lt_of_pos z p0
          refine ⟨_, rfl, _, rfl, _, _, rfl, rfl, mulOk_l ⟨by decide, by decide⟩, _, rfl, _, _, rfl, rfl, mulOk_r ⟨by omega, by omega⟩, _, _, rfl, rfl, _, rfl, _, _, rfl, rfl, mulOk_l ⟨by decide, by decide⟩, _, _, rfl, rfl,
            _, rfl, _, _, rfl, rfl, mulOk_l ⟨by decide, by decide⟩, _, _, rfl, rfl, _, _, rfl, rfl, mulOk_r ⟨by omega, by omega⟩, .inl ⟨_, rfl, _, rfl, _, _, rfl, rfl, by omega, ?_⟩⟩
          refine ⟨_, rfl, st, _, _, _, rfl, rfl, .inl (.inl (hS' _)), rfl, _, rfl, _, _, rfl, rfl, mulOk_r ⟨by omega, by omega⟩, _, rfl, _, _, rfl, rfl, ⟨by decide, by decide, ?_⟩, .inl ⟨_, rfl, _, rfl, _, _, rfl, rfl, by omega, _, _, rfl, rfl, _, rfl, st, _, 2, 2, rfl, rfl, hS' _, rfl, ?_⟩⟩
          · have g1 := f1 ((seed + 10007 * (i : Int) * (i : Int) + 101 * (i : Int)) * (48271 + 2 * (i : Int)))
            have g2 := f2 ((seed + 10007 * (i : Int) * (i : Int) + 101 * (i : Int)) * (48271 + 2 * (i : Int)))
            omega
          · refine ⟨_, _, _, _, _, _, rfl, upd_same, ?_, fun b' o e n => ?_⟩
            · rw [upd_ne (ne_of hT hS (by intro z; cases z)), upd_ne (ne_of_none hT nT)]
              exact hT
            · rw [upd_ne n]
              exact same_upd nT b' o (kp b' o e n)
        · rintro σ H2 ⟨kk, pp, ff, l, b, seed, rfl, hS, hT, kp⟩
          exact tail b H2 kp ⟨l, hS⟩
      · refine ⟨_, rfl, _, _, rfl, rfl, ⟨by decide, by decide, by decide⟩, _, _, rfl, rfl, _, rfl, st, _, 3, 3, rfl, rfl, upd_same, rfl, ?_⟩
        refine ⟨_, rfl, _, _, rfl, rfl, ⟨by decide, by decide, by decide⟩, _, _, rfl, rfl, _, rfl, st, _, 2, 2, rfl, rfl, upd_same, rfl, ?_⟩
        refine ⟨_, rfl, st, _, _, _, rfl, rfl, .inl (.inl upd_same), rfl, _, rfl, ?_⟩
        refine ite2 (fun h2 => ?_) (fun h2 => ?_)
        · skip
          refine ⟨_, rfl, st, _, 2, 2, rfl, rfl, upd_same, rfl, ?_⟩
          refine ⟨(by show 5 ≤ sizeLine; decide), fun t nt => ?_⟩
          refine ⟨t, _, rfl, .inl (.inl upd_same), for_enumT (K := K) (a := t) (xs := [.int 2147483647, .int 2147483629, .int 2147483587, .int 2147483579, .int 2147483563]) (fun i σ H2 => ∃ kk pp ff l b seed, σ = [some (.ref st), some (.ref c), some (.int nth), some (.int seed), kk, pp, ff] ∧ H2 st = some (.lst [.ref c, .int (nth + 1), .int l, .bl b]) ∧
            H2 t = some (.tup [.int 2147483647, .int 2147483629, .int 2147483587, .int 2147483579, .int 2147483563]) ∧ Keep st H H2) ⟨_, _, _, _, _, _, rfl, (upd_ne (ne_of_none upd_same nt)).trans upd_same, upd_same, ?_⟩ (fun i σ H2 _ ⟨_, _, _, _, _, _, _, _, ht, _⟩ => .inl (.inl ht)) ?_ ?_⟩
          · exact fun b o e n => same_upd nt b o (by rw [upd_ne n, upd_ne n, upd_ne n, upd_ne n]; exact e)
          · rintro i x σ H2 T' hx ⟨kk, pp, ff, l, b, seed, rfl, hS, hT, kp⟩ nT
            obtain ⟨p, rfl, p0, p1, i5⟩ := prime_at hx
            refine ⟨T', _, rfl, .inl (.inl upd_same), rfl, _, _, rfl, _, _, rfl, rfl, ?_⟩
            have hS' : ∀ o, (upd H2 T' o) st = some (.lst [.ref c, .int (nth + 1), .int l, .bl b]) := fun o => by rw [upd_ne (ne_of_none hS nT)]; exact hS
            have f1 : ∀ z : Int, 0 ≤ z.fmod p := fun z => Int.fmod_nonneg_of_pos z p0
            have f2 : ∀ z : Int, z.fmod p < p := fun z => Int.fmod_lt_of_pos z p0
            refine ⟨_, rfl, _, rfl, _, _, rfl, rfl, mulOk_l ⟨by decide, by decide⟩, _, rfl, _, _, rfl, rfl, mulOk_r ⟨by omega, by omega⟩, _, _, rfl, rfl, _, rfl, _, _, rfl, rfl, mulOk_l ⟨by decide, by decide⟩, _, _, rfl, rfl,
              _, rfl, _, _, rfl, rfl, mulOk_l ⟨by decide, by decide⟩, _, _, rfl, rfl, _, _, rfl, rfl, mulOk_r ⟨by omega, by omega⟩, .inl ⟨_, rfl, _, rfl, _, _, rfl, rfl, by omega, ?_⟩⟩
            refine ⟨_, rfl, st, _, _, _, rfl, rfl, .inl (.inl (hS' _)), rfl, _, rfl, _, _, rfl, rfl, mulOk_r ⟨by omega, by omega⟩, _, rfl, _, _, rfl, rfl, ⟨by decide, by decide, ?_⟩, .inl ⟨_, rfl, _, rfl, _, _, rfl, rfl, by omega, _, _, rfl, rfl, _, rfl, st, _, 2, 2, rfl, rfl, hS' _, rfl, ?_⟩⟩
            · have g1 := f1 ((seed + 10007 * (i : Int) * (i : Int) + 101 * (i : Int)) * (48271 + 2 * (i : Int)))
              have g2 := f2 ((seed + 10007 * (i : Int) * (i : Int) + 101 * (i : Int)) * (48271 + 2 * (i : Int)))
              omega
            · refine ⟨_, _, _, _, _, _, rfl, upd_same, ?_, fun b' o e n => ?_⟩
              · rw [upd_ne (ne_of hT hS (by intro z; cases z)), upd_ne (ne_of_none hT nT)]
                exact hT
              · rw [upd_ne n]
                exact same_upd nT b' o (kp b' o e n)
          · rintro σ H2 ⟨kk, pp, ff, l, b, seed, rfl, hS, hT, kp⟩
            exact tail b H2 kp ⟨l, hS⟩
        · exact tail _ _ (fun b o e n => by rw [upd_ne n, upd_ne n, upd_ne n]; exact e) ⟨_, upd_same⟩
def spTake : Sp := fun vs H Q _ => ∃ (st c : Addr) (ns : List Int) (many : Int), vs = [.ref st, .int many] ∧ StAt H st c ns ∧ ns.length ≤ 63 ∧ 0 < many ∧ many.natAbs < 2 ^ 2000 ∧
  ∀ r H', 0 ≤ r → r < many → StAt H' st c ns → Keep st H H' → Q (.int r) H'
theorem ok_law_take (T : Tx K mg) : FnOk P w K mg base CX0 2 T.law_take_a T.law_take_d ["_law_state", "_law_many"] spTake := by
  refine T.law_take_F.ok sc_law_take (fun vs H Q E h => ?_) (fun cdv A outer s H vs Q E hr h => ?_)
  · obtain ⟨st, c, ns, many, rfl, _⟩ := h
    rfl
  · obtain ⟨st, c, ns, many, rfl, hSt, hl, h0, hz, k⟩ := h
    refine ⟨_, (pss_cons (ps_set (i := 2) sc_law_take.nd rfl (Or.inl rfl) pe_int)
  (pss_cons (ps_while PassesOwn.never (PW.pt (pw_and (pt_cmpR op_lt (pv 2) pe_int (nomark _)) (pw_and1 (PW.pt (pw_or (pt_cmpR op_eq (pe_ix ix_list (pv 0) pe_int (fun _ _ => rfl)) pe_int (nomark _)) (pw_or1 (PW.pt (pw_and (pt_val (pe_ix ix_list (pv 0) pe_int (fun _ _ => rfl))) (pw_and1 (pt_cmpR op_lt (pe_ix ix_list (pv 0) pe_int (fun _ _ => rfl)) (pe_op (op_mulG) (pv 1) pe_int) (nomark _)))))))))))
  (pss_cons (ps_expr (pe_call (ok_law_fill T) (hr.mono (by decide)) rfl T.law_fill_m T.law_fill_F.kp T.law_fill_b .nil pass0 (pa_cons (pv 0) pa_nil)))
  (pss_cons (ps_aug (i := 2) sc_law_take.nd rfl (Or.inl rfl) pe_int ip_add)
  (pss_one (ps_if (PW.pt (pw_and (pt_val (pe_ix ix_list (pv 0) pe_int (fun _ _ => rfl))) (pw_and1 (pt_cmpR op_lt (pe_ix ix_list (pv 0) pe_int (fun _ _ => rfl)) (pe_op (op_mulG) (pv 1) pe_int) (nomark _)))))
  (pss_one (ps_asg (pe_op (op_add) (pe_ix ix_list (pv 0) pe_int (fun _ _ => rfl)) (pe_op (op_mulG) (pe_op (op_mulG) (pv 1) pe_int) (pe_op (op_add) pe_int (pe_op (op_modN) (pe_callTy call_int1 (by rfl) T.z_int (by decide +kernel) (pa_cons (pe_ix ix_list (pv 0) pe_int (fun _ _ => rfl)) pa_nil)) pe_int)))) (pg_sub (pv 0) pe_int set_list)))
  pss_nil)))))
  (pss_cons (ps_set (i := 3) sc_law_take.nd rfl (Or.inl rfl) (pe_op (op_modN) (pe_callTy call_int1 (by rfl) T.z_int (by decide +kernel) (pa_cons (pe_ix ix_list (pv 0) pe_int (fun _ _ => rfl)) pa_nil)) (pv 1)))
  (pss_cons (ps_asg (pe_op (op_fdivG) (pe_ix ix_list (pv 0) pe_int (fun _ _ => rfl)) (pv 1)) (pg_sub (pv 0) pe_int set_list))
  (pss_one (ps_ret (pv 3))))))), ?_⟩
    refine while_any (fun m σ H2 => ∃ (l : Int) (d : Option V), σ = [some (.ref st), some (.int many), some (.int l), d] ∧ m = (64 - l).toNat ∧ StAt H2 st c ns ∧ Keep st H H2) ⟨_, 0, none, rfl, rfl, hSt, Keep.refl _ _⟩ ?_ ?_ ?_
    · rintro m σ H2 Q' ⟨l, d, rfl, rfl, ⟨⟨nth, left, mx, hL⟩, hc, hne⟩, kp⟩ hT hF
      refine ⟨_, rfl, _, _, rfl, rfl, _, rfl, ?_⟩
      refine ite2 (fun hlt => ?_) (fun _ => hF)
      have hlt : l < 64 := of_decide_eq_true hlt
      have all : ∀ b, Q' b H2 := fun b => by
        cases b with
        | true => exact hT (by omega)
        | false => exact hF
      refine ⟨_, rfl, st, _, _, _, rfl, rfl, .inl (.inl hL), rfl, rfl, _, rfl, ?_⟩
      refine ite2 (fun _ => all _) (fun _ => ?_)
      refine ⟨_, rfl, st, _, _, _, rfl, rfl, .inl (.inl hL), rfl, _, rfl, ?_⟩
      refine ite2 (fun _ => ?_) (fun _ => all _)
      exact ⟨_, rfl, st, _, _, _, rfl, rfl, .inl (.inl hL), rfl, _, rfl, _, _, rfl, rfl, mulOk_r ⟨by decide, by decide⟩, _, _, rfl, rfl, _, rfl, all _⟩
    · rintro m σ H2 hm ⟨l, d, rfl, rfl, hSt2, kp⟩
      refine ⟨_, rfl, st, c, ns, rfl, hSt2, hl, fun H3 hSt3 kp3 => ?_⟩
      refine ⟨_, rfl, _, _, rfl, rfl, ?_⟩
      obtain ⟨⟨nth, left, mx, hL⟩, hc, hne⟩ := id hSt3
      have fin : ∀ H4, StAt H4 st c ns → Keep st H H4 → ∃ m', m' < (64 - l).toNat ∧ ∃ (l' : Int) (d' : Option V), ([some (.ref st), some (.int many), some (.int (l + 1)), d] : L2.St) = [some (.ref st), some (.int many), some (.int l'), d'] ∧ m' = (64 - l').toNat ∧ StAt H4 st c ns ∧ Keep st H H4 :=
        fun H4 a b => ⟨_, by omega, l + 1, d, rfl, rfl, a, b⟩
      have kp13 := kp.trans kp3
      refine ⟨_, rfl, st, _, _, _, rfl, rfl, .inl (.inl hL), rfl, _, rfl, ?_⟩
      refine ite2 (fun _ => ?_) (fun _ => iteF (fin H3 hSt3 kp13))
      refine ⟨_, rfl, st, _, _, _, rfl, rfl, .inl (.inl hL), rfl, _, rfl, _, _, rfl, rfl, mulOk_r ⟨by decide, by decide⟩, _, _, rfl, rfl, _, rfl, ?_⟩
      refine ite2 (fun _ => ?_) (fun _ => fin H3 hSt3 kp13)
      have g1 := Int.fmod_nonneg_of_pos left (b := 4093) (by decide)
      have g2 := Int.fmod_lt_of_pos left (b := 4093) (by decide)
      refine ⟨_, rfl, st, _, _, _, rfl, rfl, .inl (.inl hL), rfl, _, rfl, _, _, rfl, rfl, mulOk_r ⟨by decide, by decide⟩, _, rfl, st, _, _, _, rfl, rfl, .inl (.inl hL), rfl, .inl ⟨_, rfl, _, _, rfl, rfl, (by show (4093 : Int) ≠ 0; decide), _, _, rfl, rfl, _, _, rfl, rfl, mulOk_r ⟨by omega, by omega⟩,
        _, _, rfl, rfl, _, rfl, st, _, 2, 2, rfl, rfl, hL, rfl, ?_⟩⟩
      exact fin _ hSt3.upd (kp13.trans keep_upd)
    · rintro m σ H2 ⟨l, d, rfl, rfl, hSt2, kp⟩
      obtain ⟨⟨nth, left, mx, hL⟩, hc, hne⟩ := id hSt2
      refine ⟨_, rfl, st, _, _, _, rfl, rfl, .inl (.inl hL), rfl, .inl ⟨_, rfl, _, rfl, _, _, rfl, rfl, by omega, ?_⟩⟩
      refine ⟨_, rfl, st, _, _, _, rfl, rfl, .inl (.inl hL), rfl, _, rfl, _, _, rfl, rfl, gDiv_lt (by omega) hz (by decide) (by decide), _, rfl, st, _, 2, 2, rfl, rfl, hL, rfl, ?_⟩
      exact ⟨_, rfl, k _ _ (Int.fmod_nonneg_of_pos _ h0) (Int.fmod_lt_of_pos _ h0) hSt2.upd (kp.trans keep_upd)⟩
def spOne : Sp := fun vs H Q _ => ∃ (st c t : Addr) (ns : List Int) (xs : List V), vs = [.ref st, .ref t] ∧ StAt H st c ns ∧ ns.length ≤ 63 ∧ H t = some (.lst xs) ∧ t ≠ st ∧ xs ≠ [] ∧ xs.length ≤ 1000 ∧
  ∀ v H', v ∈ xs → StAt H' st c ns → Keep st H H' → Q v H'
theorem ok_law_one (T : Tx K mg) : FnOk P w K mg base CX0 3 T.law_one_a T.law_one_d ["_law_state", "_law_things"] spOne := by
  refine T.law_one_F.ok sc_law_one (fun vs H Q E h => ?_) (fun cdv A outer s H vs Q E hr h => ?_)
  · obtain ⟨st, c, t, ns, xs, rfl, _⟩ := h
    rfl
  · obtain ⟨st, c, t, ns, xs, rfl, hSt, hl, ht, hne, hx, hz, k⟩ := h
    refine ⟨_, (pss_one (ps_ret (pe_ix ix_list (pv 1) (pe_call (ok_law_take T) (hr.mono (by decide)) rfl T.law_take_m T.law_take_F.kp T.law_take_b .nil pass0 (pa_cons (pv 0) (pa_cons (pe_callB (call_len_seq) (by rfl) T.z_len (by decide +kernel) (pa_cons (pv 1) pa_nil)) pa_nil))) (fun _ _ => rfl)))), ?_⟩
    have h0 : 0 < xs.length := List.length_pos_iff.mpr hx
    have p10 : (1000 : Nat) < 2 ^ 2000 := Nat.lt_of_lt_of_le (by decide : 1000 < 2 ^ 10) (Nat.pow_le_pow_right (by decide) (by decide))
    refine ⟨_, rfl, _, rfl, _, rfl, t, xs, rfl, .inl (.inl (.inl ht)), st, c, ns, (xs.length : Int), rfl, hSt, hl, by omega, by omega, fun r H1 r0 r1 s1 k1 => ?_⟩
    obtain ⟨j, rfl⟩ : ∃ j : Nat, r = (j : Int) := ⟨_, (Int.toNat_of_nonneg r0).symm⟩
    have hj : j < xs.length := by omega
    exact ⟨t, xs, j, xs[j], rfl, rfl, .inl (.inl (k1 t _ ht hne)), atI_nat (List.getElem?_eq_getElem hj), k _ H1 (List.getElem_mem hj) s1 k1⟩

end


section
variable {P : Program} {w : World} {K : PySem.W.Frag} {mg : Str → Option Value} {base : Heap}
/-! ### the law's own fractions -/
/-- a pair of ints stands at t -/
def PairAt (H : Hp) (t : Addr) (p : Int × Int) : Prop := H t = some (.tup [.int p.1, .int p.2])
theorem PairAt.same {H H' : Hp} {t : Addr} {p : Int × Int} (h : PairAt H t p) (e : Same H H') : PairAt H' t p := e _ _ h
theorem PairAt.keep {H H' : Hp} {t st c : Addr} {p : Int × Int} {ns : List Int} (h : PairAt H t p) (e : Keep st H H') (hs : StAt H st c ns) : PairAt H' t p :=
  e _ _ h (let ⟨_, _, _, z⟩ := hs.1; ne_of h z (by intro z; cases z))
theorem ExAt.keep {C : Addr} {H H' : Hp} {v : V} {st c : Addr} {p : Int × Int} {ns : List Int} (h : ExAt C H v p) (e : Keep st H H') (hs : StAt H st c ns) : ExAt C H' v p :=
  let ⟨a, dx, r, y⟩ := h; ⟨a, dx, r, e _ _ y (let ⟨_, _, _, z⟩ := hs.1; ne_of y z (by intro z; cases z))⟩
theorem NumAt.keep {C : Addr} {H H' : Hp} {v : V} {st c : Addr} {p : Int × Int} {ns : List Int} (h : NumAt C H v p) (e : Keep st H H') (hs : StAt H st c ns) : NumAt C H' v p := h.elim .inl fun z => .inr (z.keep e hs)
def spGcd : Sp := fun vs H Q _ => ∃ a b : Int, vs = [.int a, .int b] ∧ Q (.int (Int.gcd a b)) H
theorem ok_law_gcd (T : Tx K mg) : FnOk P w K mg base CX0 1 T.law_gcd_a T.law_gcd_d ["_law_a", "_law_b"] spGcd := by
  refine T.law_gcd_F.ok sc_law_gcd (fun vs H Q E h => ?_) (fun cdv A outer s H vs Q E hr h => ?_)
  · obtain ⟨a, b, rfl, _⟩ := h
    rfl
  · obtain ⟨a, b, rfl, k⟩ := h
    refine ⟨_, (pss_cons (ps_while PassesOwn.never (pt_cmpR op_ne (pv 1) pe_int (nomark _))
  (pss_one (ps_par (i := 0) (j := 1) (by rfl) sc_law_gcd.nd rfl rfl (by decide) rfl rfl (pa_cons (pv 1) (pa_cons (pe_op (op_modN) (pv 0) (pv 1)) pa_nil)) (by rfl))))
  (pss_one (ps_ret (pe_ifExp (pt_cmpR op_gt (pv 0) pe_int (nomark _)) (pv 0) (pe_un (un_neg) (pv 0)))))), ?_⟩
    refine ⟨fun m σ H' => ∃ x y : Int, σ = [some (.int x), some (.int y)] ∧ Int.gcd x y = Int.gcd a b ∧ m = y.natAbs ∧ H' = H, ⟨_, a, b, rfl, rfl, rfl, rfl⟩, ?_⟩
    rintro m σ H' ⟨x, y, rfl, hg, rfl, rfl⟩
    refine ⟨_, rfl, rfl, _, rfl, ?_⟩
    by_cases h0 : y = 0
    · subst h0
      refine iteF ?_
      have e : (Int.gcd a b : Int) = (x.natAbs : Int) := by rw [← hg, Int.gcd_zero_right]
      refine ⟨_, rfl, _, _, rfl, rfl, _, rfl, ?_⟩
      rw [e] at k
      refine ite2 (fun hp => ?_) (fun hp => ?_)
      · have hp : (0 : Int) < x := of_decide_eq_true hp
        refine ⟨_, rfl, ?_⟩
        rw [show (x.natAbs : Int) = x by omega] at k
        exact k
      · have hp : ¬ (0 : Int) < x := fun z => hp (decide_eq_true z)
        refine ⟨_, rfl, _, rfl, ?_⟩
        rw [show (x.natAbs : Int) = -x by omega] at k
        exact k
    · rw [show (!decide (V.int y = V.int 0)) = true by simp [h0]]
      refine iteT ?_
      refine ⟨_, fun σ' H' z => z, ?_⟩
      refine ⟨_, rfl, _, rfl, _, rfl, _, _, rfl, rfl, h0, _, _, rfl, ?_⟩
      exact ⟨_, fmod_lt h0, y, x.fmod y, rfl, (gcd_step x y).trans hg, rfl, rfl⟩
def spFrac : Sp := fun vs H Q _ => ∃ a b : Int, vs = [.int a, .int b] ∧ b ≠ 0 ∧ b.natAbs < 2 ^ 8000 ∧ ∀ t H', Same H H' → PairAt H' t (red a b) → Q (.ref t) H'
theorem ok_law_frac (T : Tx K mg) : FnOk P w K mg base CX0 2 T.law_frac_a T.law_frac_d ["_law_over", "_law_under"] spFrac := by
  refine T.law_frac_F.ok sc_law_frac (fun vs H Q E h => ?_) (fun cdv A outer s H vs Q E hr h => ?_)
  · obtain ⟨a, b, rfl, _⟩ := h
    rfl
  · obtain ⟨a, b, rfl, h0, hz, k⟩ := h
    refine ⟨_, (pss_cons (ps_set (i := 2) sc_law_frac.nd rfl (Or.inl rfl) (pe_call (ok_law_gcd T) (hr.mono (by decide)) rfl T.law_gcd_m T.law_gcd_F.kp T.law_gcd_b .nil pass0 (pa_cons (pv 0) (pa_cons (pv 1) pa_nil))))
  (pss_cons (ps_set (i := 2) sc_law_frac.nd rfl (Or.inl rfl) (pe_ifExp (pt_cmpR op_lt (pv 1) pe_int (nomark _)) (pe_un (un_neg) (pv 2)) (pv 2)))
  (pss_one (ps_ret (pe_tup (pa_cons (pe_op (op_fdivG) (pv 0) (pv 2)) (pa_cons (pe_op (op_fdivG) (pv 1) (pv 2)) pa_nil))))))), ?_⟩
    refine ⟨_, rfl, _, rfl, a, b, rfl, ?_⟩
    have gd : ∀ i, GDiv i (red_w a b) := fun i => gDiv_lt (red_w_ne h0) (red_w_sz h0 hz) (by decide) (by decide)
    refine ⟨_, rfl, _, _, rfl, rfl, _, rfl, ?_⟩
    refine ite2 (fun hn => ?_) (fun hn => ?_)
    · have hn : b < 0 := of_decide_eq_true hn
      have e : -(Int.gcd a b : Int) = red_w a b := by unfold red_w; rw [if_pos hn]
      refine ⟨_, rfl, _, rfl, ?_⟩
      refine ⟨_, rfl, _, rfl, _, _, rfl, rfl, e ▸ gd _, _, rfl, _, rfl, _, _, rfl, rfl, e ▸ gd _, (by show 2 ≤ sizeLine; decide), fun t nt => ?_⟩
      refine k t _ (same_upd nt) ?_
      show (upd _ _ _) _ = _
      rw [upd_same]
      show some (HO.tup [V.int (a.fdiv (-(Int.gcd a b : Int))), V.int (b.fdiv (-(Int.gcd a b : Int)))]) = _
      rw [e]
      rfl
    · have hn : ¬ b < 0 := fun z => hn (decide_eq_true z)
      have e : (Int.gcd a b : Int) = red_w a b := by unfold red_w; rw [if_neg hn]
      refine ⟨_, rfl, ?_⟩
      refine ⟨_, rfl, _, rfl, _, _, rfl, rfl, e ▸ gd _, _, rfl, _, rfl, _, _, rfl, rfl, e ▸ gd _, (by show 2 ≤ sizeLine; decide), fun t nt => ?_⟩
      refine k t _ (same_upd nt) ?_
      show (upd _ _ _) _ = _
      rw [upd_same]
      show some (HO.tup [V.int (a.fdiv (Int.gcd a b : Int)), V.int (b.fdiv (Int.gcd a b : Int))]) = _
      rw [e]
      rfl
/-- two pairs: the reduced one of f -/
def spPairs (f : Int × Int → Int × Int → Int × Int) : Sp := fun vs H Q _ => ∃ t1 t2 a b, vs = [.ref t1, .ref t2] ∧ PairAt H t1 a ∧ PairAt H t2 b ∧ a.1.natAbs < 2 ^ 1000 ∧ a.2.natAbs < 2 ^ 1000 ∧ b.1.natAbs < 2 ^ 1000 ∧ b.2.natAbs < 2 ^ 1000 ∧ (f a b).2 ≠ 0 ∧
  ∀ t H', Same H H' → PairAt H' t (red (f a b).1 (f a b).2) → Q (.ref t) H'
theorem spPairs_len {f : Int × Int → Int × Int → Int × Int} {vs : List V} {H : Hp} {Q : VK} {E : XK} (h : spPairs f vs H Q E) : vs.length = 2 := by
  obtain ⟨v, u, a, b, rfl, _⟩ := h
  rfl
/-- sizes that drawn fractions keep -/
def Dn (p : Int × Int) : Prop := 0 < p.2 ∧ p.1.natAbs < 2 ^ 130 ∧ p.2.natAbs < 2 ^ 50
theorem Dn.nm {p : Int × Int} (h : Dn p) : Nm p := ⟨h.1, sz_up h.2.1 (by decide), sz_up h.2.2 (by decide)⟩
def spAsNumber (C : Addr) : Sp := fun vs H Q _ => ∃ (st c t : Addr) (ns : List Int) (p : Int × Int), vs = [.ref st, .ref t] ∧ StAt H st c ns ∧ ns.length ≤ 63 ∧ PairAt H t p ∧ Rd p ∧ Nm p ∧ ∀ v H', StAt H' st c ns → Keep st H H' → NumAt C H' v p → Q v H'
theorem p_small : (3 : Int).natAbs < 2 ^ 2000 := Nat.lt_of_lt_of_le (by decide : 3 < 2 ^ 10) (Nat.pow_le_pow_right (by decide) (by decide))

end


section
variable {P : Program} {w : World} {K : PySem.W.Frag} {mg : Str → Option Value} {base : Heap}
/-! ### drawn fractions; an Exact as a pair -/
theorem pow38 : (10 : Int) ^ Int.toNat 38 = 100000000000000000000000000000000000000 := by decide +kernel
theorem pow12 : (10 : Int) ^ Int.toNat 12 = 1000000000000 := by decide +kernel
theorem big_lt {x : Int} {m : Nat} (h : x.natAbs < 2 ^ 200) (hm : 200 ≤ m := by decide) : x.natAbs < 2 ^ m := sz_up h hm
def spSomeFrac : Sp := fun vs H Q _ => ∃ (st c : Addr) (ns : List Int), vs = [.ref st] ∧ StAt H st c ns ∧ ns.length ≤ 63 ∧ ∀ t p H', StAt H' st c ns → Keep st H H' → PairAt H' t p → Rd p → Dn p → Q (.ref t) H'
theorem tops_at {v : V} (h : v ∈ ([.int 4, .int 12, .int 1000, .int ((10 : Int) ^ Int.toNat 12), .int ((10 : Int) ^ Int.toNat 38)] : List V)) : ∃ n : Int, v = .int n ∧ 0 < n ∧ n.natAbs < 2 ^ 128 := by
  rw [pow12, pow38] at h
  simp only [List.mem_cons, List.not_mem_nil, or_false] at h
  rcases h with h | h | h | h | h <;> exact ⟨_, h, by decide, by decide⟩
theorem bots_at {v : V} (h : v ∈ ([.int 1, .int 2, .int 6, .int 1000, .int ((10 : Int) ^ Int.toNat 12)] : List V)) : ∃ n : Int, v = .int n ∧ 0 < n ∧ n.natAbs < 2 ^ 41 := by
  rw [pow12] at h
  simp only [List.mem_cons, List.not_mem_nil, or_false] at h
  rcases h with h | h | h | h | h <;> exact ⟨_, h, by decide, by decide⟩
theorem ok_law_some_frac (T : Tx K mg) : FnOk P w K mg base CX0 4 T.law_some_frac_a T.law_some_frac_d ["_law_state"] spSomeFrac := by
  refine T.law_some_frac_F.ok sc_law_some_frac (fun vs H Q E h => ?_) (fun cdv A outer s H vs Q E hr h => ?_)
  · obtain ⟨st, c, ns, rfl, _⟩ := h
    rfl
  · obtain ⟨st, c, ns, rfl, hSt, hl, k⟩ := h
    refine ⟨_, (pss_cons (ps_set (i := 1) sc_law_some_frac.nd rfl (Or.inl rfl) (pe_call (ok_law_one T) (hr.mono (by decide)) rfl T.law_one_m T.law_one_F.kp T.law_one_b .nil pass0 (pa_cons (pv 0) (pa_cons (pe_lst (pa_cons pe_int (pa_cons pe_int (pa_cons pe_int (pa_cons (pe_op (op_pow) pe_int pe_int) (pa_cons (pe_op (op_pow) pe_int pe_int) pa_nil)))))) pa_nil))))
  (pss_one (ps_ret (pe_call (ok_law_frac T) (hr.mono (by decide)) rfl T.law_frac_m T.law_frac_F.kp T.law_frac_b .nil pass0 (pa_cons (pe_op (op_sub) (pe_call (ok_law_take T) (hr.mono (by decide)) rfl T.law_take_m T.law_take_F.kp T.law_take_b .nil pass0 (pa_cons (pv 0) (pa_cons (pe_op (op_mulG) pe_int (pv 1)) pa_nil))) (pv 1)) (pa_cons (pe_op (op_add) pe_int (pe_call (ok_law_take T) (hr.mono (by decide)) rfl T.law_take_m T.law_take_F.kp T.law_take_b .nil pass0 (pa_cons (pv 0) (pa_cons (pe_call (ok_law_one T) (hr.mono (by decide)) rfl T.law_one_m T.law_one_F.kp T.law_one_b .nil pass0 (pa_cons (pv 0) (pa_cons (pe_lst (pa_cons pe_int (pa_cons pe_int (pa_cons pe_int (pa_cons pe_int (pa_cons (pe_op (op_pow) pe_int pe_int) pa_nil)))))) pa_nil))) pa_nil)))) pa_nil)))))), ?_⟩
    have hp : CPow 10 12 := ⟨by decide, by decide, by decide⟩
    have hp2 : CPow 10 38 := ⟨by decide, by decide, by decide⟩
    refine ⟨_, rfl, _, _, rfl, rfl, hp, _, _, rfl, rfl, hp2, (by show 5 ≤ sizeLine; decide), fun l nl => ?_⟩
    obtain ⟨_, _, _, hL⟩ := id hSt.1
    refine ⟨st, c, l, ns, _, rfl, hSt.same (same_upd nl), hl, upd_same, (ne_of_none hL nl).symm, List.cons_ne_nil _ _, by show 5 ≤ 1000; decide, fun v H1 hv s1 k1 => ?_⟩
    obtain ⟨top, rfl, p0, pz⟩ := tops_at hv
    have k1 : Keep st H H1 := Keep.trans (Same.keep (same_upd nl)) k1
    have z2 : (2 * top).natAbs < 2 ^ 129 := by omega
    refine ⟨_, rfl, _, rfl, _, _, rfl, rfl, mulOk_l ⟨by decide, by decide⟩, st, c, ns, 2 * top, rfl, s1, hl, by omega, sz_up z2 (by decide), fun r H2 r0 r1 s2 k2 => ?_⟩
    refine ⟨_, rfl, _, _, rfl, rfl, _, rfl, _, rfl, _, _, rfl, rfl, hp, (by show 5 ≤ sizeLine; decide), fun l2 nl2 => ?_⟩
    obtain ⟨_, _, _, hL2⟩ := id s2.1
    refine ⟨st, c, l2, ns, _, rfl, s2.same (same_upd nl2), hl, upd_same, (ne_of_none hL2 nl2).symm, List.cons_ne_nil _ _, by show 5 ≤ 1000; decide, fun v H3 hv s3 k3 => ?_⟩
    obtain ⟨bot, rfl, b0, bz⟩ := bots_at hv
    have k3 : Keep st H2 H3 := Keep.trans (Same.keep (same_upd nl2)) k3
    refine ⟨st, c, ns, bot, rfl, s3, hl, b0, sz_up bz (by decide), fun r' H4 r0' r1' s4 k4 => ?_⟩
    have e0 : (1 : Int) + r' ≠ 0 := by omega
    have ez : ((1 : Int) + r').natAbs < 2 ^ 42 := by omega
    refine ⟨_, _, rfl, rfl, r - top, 1 + r', rfl, e0, sz_up ez (by decide), fun t H5 s5 h5 => ?_⟩
    have az : (r - top).natAbs < 2 ^ 129 := by omega
    have rs := red_sz e0 az ez
    have rr := red_rd (a := r - top) e0
    exact k t _ H5 (s4.same s5) ((((k1.trans k2).trans k3).trans k4).trans (Same.keep s5)) h5 rr ⟨rr.1, sz_up rs.1 (by decide), sz_up rs.2 (by decide)⟩
def spAsExact (C : Addr) : Sp := fun vs H Q _ => ∃ v p, vs = [v] ∧ ExAt C H v p ∧ Rd p ∧ ∀ t H', Same H H' → PairAt H' t p → Q (.ref t) H'
theorem ok_law_as_exact (T : Tx K mg) : FnOk P w K mg base CX0 2 T.law_as_exact_a T.law_as_exact_d ["_law_x"] (spAsExact T.Exact_a) := by
  refine T.law_as_exact_F.ok sc_law_as_exact (fun vs H Q E h => ?_) (fun cdv A outer s H vs Q E hr h => ?_)
  · obtain ⟨v, p, rfl, _⟩ := h
    rfl
  · obtain ⟨v, p, rfl, ⟨x, dx, rfl, hx⟩, rd, k⟩ := h
    refine ⟨_, (pss_cons (ps_if (PW.pt (pw_or (pt_not (pt_val (pe_callB call_isi (by rfl) T.z_isinstance (by decide +kernel) (pa_cons (pv 0) (pa_cons (pe_glob (v := .ref T.Exact_a) rfl T.Exact_m rfl) pa_nil))))) (pw_or (pt_not (pt_val (pe_callB call_isi (by rfl) T.z_isinstance (by decide +kernel) (pa_cons (pe_fld (pv 0) rfl) (pa_cons (pe_bltn (v := .ty "int") (by rfl) T.z_int (by decide +kernel) rfl) pa_nil))))) (pw_or1 (pt_not (pt_val (pe_callB call_isi (by rfl) T.z_isinstance (by decide +kernel) (pa_cons (pe_fld (pv 0) rfl) (pa_cons (pe_bltn (v := .ty "int") (by rfl) T.z_int (by decide +kernel) rfl) pa_nil)))))))))
  (pss_one (ps_ret pe_non))
  pss_nil)
  (pss_one (ps_ret (pe_ifExp (PW.pt (pw_and (pt_cmpR op_gt (pe_fld (pv 0) rfl) pe_int (nomark _)) (pw_and1 (pt_cmpR op_eq (pe_call (ok_law_gcd T) (hr.mono (by decide)) rfl T.law_gcd_m T.law_gcd_F.kp T.law_gcd_b .nil pass0 (pa_cons (pe_fld (pv 0) rfl) (pa_cons (pe_fld (pv 0) rfl) pa_nil))) pe_int (nomark _))))) (pe_tup (pa_cons (pe_fld (pv 0) rfl) (pa_cons (pe_fld (pv 0) rfl) pa_nil))) pe_non)))), ?_⟩
    refine ⟨_, rfl, _, _, _, _, true, rfl, .own _, .base (.ins hx T.Exact_cl T.Exact_i1 T.Exact_i2 T.Exact_i3 T.Exact_i4), T.Exact_k0, _, rfl, ?_⟩
    refine iteF ⟨_, rfl, x, _, dx, _, _, rfl, hx, T.Exact_cl, T.Exact_n_over, fl_over, _, _, _, _, true, rfl, .ty "int", .base (.int _), kit_ty (by decide +kernel), _, rfl, ?_⟩
    refine iteF ⟨_, rfl, x, _, dx, _, _, rfl, hx, T.Exact_cl, T.Exact_n_under, fl_under, _, _, _, _, true, rfl, .ty "int", .base (.int _), kit_ty (by decide +kernel), _, rfl, ?_⟩
    refine iteF ?_
    refine ⟨_, rfl, x, _, dx, _, _, rfl, hx, T.Exact_cl, T.Exact_n_under, fl_under, _, _, rfl, rfl, _, rfl, ?_⟩
    rw [show decide ((0 : Int) < p.2) = true from decide_eq_true rd.1]
    refine iteT ?_
    refine ⟨_, rfl, x, _, dx, _, _, rfl, hx, T.Exact_cl, T.Exact_n_over, fl_over, _, rfl, x, _, dx, _, _, rfl, hx, T.Exact_cl, T.Exact_n_under, fl_under, p.1, p.2, rfl, rfl, _, rfl, ?_⟩
    rw [show decide (V.int (Int.gcd p.1 p.2 : Int) = V.int 1) = true by simp [rd.2]]
    refine iteT ?_
    exact ⟨_, rfl, x, _, dx, _, _, rfl, hx, T.Exact_cl, T.Exact_n_over, fl_over, _, rfl, x, _, dx, _, _, rfl, hx, T.Exact_cl, T.Exact_n_under, fl_under, (by show 2 ≤ sizeLine; decide), fun t nt => k t _ (same_upd nt) upd_same⟩

end


/-! ### texts: what their methods tell -/
section
open TL NumText
theorem str_empty : tl ("" : Str) = [] := by decide +kernel
theorem str_minus : tl ("-" : Str) = [45] := by decide +kernel
theorem str_stroke : tl ("/" : Str) = [47] := by decide +kernel
theorem str_nought : tl ("0" : Str) = [48] := by decide +kernel
theorem str_one : tl ("1" : Str) = [49] := by decide +kernel
theorem str_eq {x y : Str} : x = y ↔ tl x = tl y := ⟨fun e => e ▸ rfl, ext_tl⟩
theorem dec_str (x y : Str) : decide (V.str x = V.str y) = decide (tl x = tl y) := by
  rw [Bool.eq_iff_iff]
  simp only [decide_eq_true_eq, V.str.injEq]
  exact str_eq
theorem dig_code : ∀ c : Nat, c < 128 → Unicode.isDigit c = (decide (48 ≤ c) && decide (c ≤ 57)) := by decide +kernel
theorem all_tl (x : Str) (p : Nat → Bool) : x.cps.all p = (tl x).all p := by
  show x.cps.all p = x.cps.toList.all p
  rw [Array.all_toList]
theorem isdig_eq (x : Str) : (Txt.isascii x && Txt.isdigit x) = dig (tl x) := by
  have e1 : Txt.isascii x = (tl x).all (· < 128) := all_tl x _
  have e2 : Txt.isdigit x = (decide (x.length > 0) && (tl x).all Unicode.isDigit) := by
    show (decide (x.length > 0) && x.cps.all Unicode.isDigit) = _
    rw [all_tl]
  rw [e1, e2, len_tl]
  generalize tl x = l
  unfold dig
  rw [Bool.eq_iff_iff]
  simp only [Bool.and_eq_true, List.all_eq_true, decide_eq_true_eq, Bool.not_eq_true', List.isEmpty_eq_false_iff]
  constructor
  · rintro ⟨a, b, d⟩
    refine ⟨List.length_pos_iff.mp b, fun c hc => ?_⟩
    have := d c hc
    rw [dig_code c (a c hc), Bool.and_eq_true] at this
    exact ⟨of_decide_eq_true this.1, of_decide_eq_true this.2⟩
  · rintro ⟨a, b⟩
    refine ⟨fun c hc => by have := b c hc; omega, List.length_pos_iff.mpr a, fun c hc => ?_⟩
    have := b c hc
    rw [dig_code c (by omega), decide_eq_true this.1, decide_eq_true this.2]
    rfl
theorem sub_minus (x : Str) : Builtin.Str.subAt x "-" 0 = decide ((tl x).head? = some 45) := by
  have e : Builtin.Str.subAt x "-" 0 = (((tl x).drop 0).take ("-" : Str).length == tl "-") := PySem.StrLaws.subAt_eq x "-" 0
  rw [e, len_tl, str_minus, List.drop_zero]
  cases tl x with
  | nil => rfl
  | cons c r =>
    show (List.take 1 (c :: r) == [45]) = decide (some c = some 45)
    rw [List.take_succ_cons, List.take_zero, Bool.eq_iff_iff]
    simp
theorem starts_minus (x : Str) : Txt.startswith x "-" = decide ((tl x).head? = some 45) := by
  show (decide (0 + ("-" : Str).length ≤ x.length) && Builtin.Str.subAt x "-" 0) = _
  rw [sub_minus, len_tl x]
  cases tl x with
  | nil => rw [decide_eq_false (by simp : ¬ (([] : List Nat).head? = some 45)), Bool.and_false]
  | cons c r =>
    rw [decide_eq_true (by rw [List.length_cons]; exact Nat.succ_le_succ (Nat.zero_le _)), Bool.true_and]
theorem no_minus (x : Str) : tl (Txt.removeprefix x "-") = noSign (tl x) := by
  unfold Txt.removeprefix
  rw [sub_minus]
  unfold noSign
  by_cases h : (tl x).head? = some 45
  · rw [decide_eq_true h, if_pos rfl, if_pos h]
    show tl (if x.length - ("-" : Str).length == x.length then x else Builtin.Str.strSub x ("-" : Str).length x.length) = _
    have e1 : ("-" : Str).length = 1 := by decide +kernel
    have e2 : 0 < x.length := by
      rw [len_tl]
      cases e : tl x with
      | nil => rw [e] at h; cases h
      | cons c r => rw [List.length_cons]; omega
    rw [e1, if_neg (by rw [beq_iff_eq]; omega), tl_strSub_end, List.drop_one]
  · rw [decide_eq_false h, if_neg Bool.false_ne_true, if_neg h]
    rfl
theorem no_minus_len (x : Str) : (Txt.removeprefix x "-").length ≤ x.length := by
  rw [len_tl, len_tl, no_minus]
  unfold noSign
  split
  · rw [List.length_tail]; omega
  · exact Nat.le_refl _
theorem part_cut (x : Str) : tl (Txt.partition x "/").1 = cutA (tl x) ∧ tl (Txt.partition x "/").2.1 = (if 47 ∈ tl x then [47] else []) ∧ tl (Txt.partition x "/").2.2 = (if 47 ∈ tl x then cutB (tl x) else []) := by
  rw [partition_par x "/" (by rw [str_stroke]; simp), str_stroke, par_cut]
  by_cases h : 47 ∈ tl x
  · rw [if_pos h, if_pos h, if_pos h]
    exact ⟨rfl, str_stroke, rfl⟩
  · rw [if_neg h, if_neg h, if_neg h]
    exact ⟨(cut_out h).symm, rfl, rfl⟩
theorem cutA_len (l : List Nat) : (cutA l).length ≤ l.length := (List.takeWhile_sublist _).length_le
theorem cutB_len (l : List Nat) : (cutB l).length ≤ l.length := by
  unfold cutB
  rw [List.length_tail]
  have := (List.dropWhile_sublist (p := (· != 47)) (l := l)).length_le
  omega
theorem noSign_len (l : List Nat) : (noSign l).length ≤ l.length := by
  unfold noSign
  split
  · rw [List.length_tail]; omega
  · exact Nat.le_refl _
theorem int_nought {x y : Str} (h : dig (tl x) = true) (hl : x.length ≤ 640) (e : y = "0" ++ x) : PySem.intText? y = some ((digitsVal (tl x) : Nat) : Int) := by
  subst e
  obtain ⟨h1, h2⟩ := dig_iff.mp h
  have et : tl (("0" : Str) ++ x) = 48 :: tl x := by rw [tl_append, str_nought]; rfl
  have e := intText_digits (x := ("0" : Str) ++ x) (by
    show AllDigits (tl (("0" : Str) ++ x))
    rw [et]
    intro c hc
    rcases List.mem_cons.mp hc with hc | hc
    · omega
    · exact h2 c hc) (by
    show tl (("0" : Str) ++ x) ≠ []
    rw [et]
    simp) (by
    rw [len_tl, et, List.length_cons, ← len_tl]
    omega)
  rw [e]
  show some ((digitsVal (tl (("0" : Str) ++ x)) : Nat) : Int) = _
  rw [et]
  rfl
theorem join_one (x : Str) : Txt.join "" [x].reverse = x := by
  rw [join_eq]
  rfl
theorem cut_all (x : Str) : cutS x none (some ((x.length : Nat) : Int)) = x := by
  refine ext_tl ?_
  unfold cutS
  rw [HT.sIx_none, HT.sIx_nat, Nat.min_self, Nat.sub_zero, List.drop_zero]
  show (tl x).take x.length = tl x
  rw [len_tl, List.take_length]
theorem val63 {l : List Nat} (h : dig l = true) (hl : l.length ≤ 63) : digitsVal l < 10 ^ 63 :=
  Nat.lt_of_lt_of_le (digitsVal_lt (dig_iff.mp h).2) (Nat.pow_le_pow_right (by decide) hl)
theorem p63 : (10 : Nat) ^ 63 < 2 ^ 210 := by decide +kernel
theorem tl_str_int (i : Int) : tl (Str.ofString (toString i)) = signL i ++ numL i.natAbs := tl_int i
theorem tl_str_nat {i : Int} (h : 0 ≤ i) : tl (Str.ofString (toString i)) = numL i.natAbs := by
  rw [tl_int]
  unfold signL
  rw [if_neg (by omega), List.nil_append]
theorem log_small {i : Int} (h : i.natAbs < 2 ^ 1000) : i.natAbs.log2 < 1920 := by
  by_cases z : i.natAbs = 0
  · rw [z]
    decide
  · have := (Nat.log2_lt z (k := 1000)).mpr h
    omega
theorem p210 : (2 : Nat) ^ 210 < 10 ^ 64 := by decide +kernel
theorem p130 : (2 : Nat) ^ 130 < 10 ^ 40 := by decide +kernel
theorem p50 : (2 : Nat) ^ 50 < 10 ^ 16 := by decide +kernel
theorem len_ok {n : Nat} (h : n ≤ 1000) : n ≤ sizeLine := Nat.le_trans h (by decide)
/-- what is reckoned out of a text's two parts keeps to 64 digits -/
theorem exN_sz {l : List Nat} (h1 : dig (noSign (cutA l)) = true) (h2 : dig (belowL l) = true) (h0 : digitsVal (belowL l) ≠ 0) (hl : l.length ≤ 63) : (exN l).1.natAbs < 10 ^ 64 ∧ (exN l).2.natAbs < 10 ^ 64 := by
  have a1 : digitsVal (noSign (cutA l)) < 2 ^ 210 := Nat.lt_trans (val63 h1 (Nat.le_trans (noSign_len _) (Nat.le_trans (cutA_len l) hl))) p63
  have a2 : digitsVal (belowL l) < 2 ^ 210 := Nat.lt_trans (val63 h2 (by
    unfold belowL
    split
    · exact Nat.le_trans (cutB_len l) hl
    · decide)) p63
  have e0 : ((digitsVal (belowL l) : Nat) : Int) ≠ 0 := by omega
  have b2 : ((digitsVal (belowL l) : Nat) : Int).natAbs < 2 ^ 210 := by
    rw [Int.natAbs_natCast]
    exact a2
  have b1 : (if (cutA l).head? = some 45 then -(digitsVal (noSign (cutA l)) : Int) else (digitsVal (noSign (cutA l)) : Int)).natAbs < 2 ^ 210 := by
    split
    · rw [Int.natAbs_neg, Int.natAbs_natCast]
      exact a1
    · rw [Int.natAbs_natCast]
      exact a1
  have := red_sz e0 b1 b2
  exact ⟨Nat.lt_trans this.1 p210, Nat.lt_trans this.2 p210⟩
theorem exOf_bad1 {l : List Nat} (h : dig (noSign (cutA l)) = false) : exOf l = none := by
  unfold exOf
  rw [if_neg]
  rintro ⟨a, _⟩
  rw [h] at a
  cases a
theorem exOf_bad2 {l : List Nat} (h : dig (belowL l) = false) : exOf l = none := by
  unfold exOf
  rw [if_neg]
  rintro ⟨_, a, _⟩
  rw [h] at a
  cases a
theorem exOf_bad3 {l : List Nat} (h : digitsVal (belowL l) = 0) : exOf l = none := by
  unfold exOf
  rw [if_neg]
  rintro ⟨_, _, a⟩
  exact a h
theorem exOf_go {l : List Nat} (h1 : dig (noSign (cutA l)) = true) (h2 : dig (belowL l) = true) (h0 : digitsVal (belowL l) ≠ 0) : exOf l = if fracL (exN l) = l then some (exN l) else none := by
  unfold exOf
  rw [if_pos ⟨h1, h2, h0⟩]
end



section
variable {P : Program} {w : World} {K : PySem.W.Frag} {mg : Str → Option Value} {base : Heap}
/-! ### numbers as texts -/
def spDigits : Sp := fun vs H Q _ => ∃ n : Int, vs = [.int n] ∧ 0 ≤ n ∧ n.natAbs < 10 ^ 64 ∧ ∀ z H', Same H H' → TL.tl z = TL.numL n.natAbs → Q (.str z) H'
theorem c64 : ((10 : Nat) ^ 64 : Nat) < 2 ^ 1000 := Nat.lt_of_lt_of_le (by decide +kernel : (10 : Nat) ^ 64 < 2 ^ 213) (Nat.pow_le_pow_right (by decide) (by decide))
theorem ok_digits_of (T : Tx K mg) : FnOk P w K mg base CX0 1 T.digits_of_a T.digits_of_d ["whole"] spDigits := by
  refine T.digits_of_F.ok sc_digits_of (fun vs H Q E h => ?_) (fun cdv A outer s H vs Q E hr h => ?_)
  · obtain ⟨n, rfl, _⟩ := h
    rfl
  · obtain ⟨n, rfl, h0, hn, k⟩ := h
    refine ⟨_, (pss_cons (ps_set (i := 1) sc_digits_of.nd rfl (Or.inl rfl) (pe_lst pa_nil))
  (pss_cons (ps_while PassesOwn.never (pt_cmpR op_ge (pv 0) (pe_glob (v := .int 10000000000000000000000000000000000000000000000000000000000000000) rfl T.c_ROUND ⟨_, rfl⟩) (nomark _))
  (pss_cons ps_never
  (pss_one ps_never)))
  (pss_cons (ps_expr (pe_bm PySem.F.plainAttrs_list PySem.F.slot_list_append PySem.F.type_list_append mt_append (pv 1) (pa_cons (pe_callTy call_str_int (by rfl) T.z_str (by decide +kernel) (pa_cons (pv 0) pa_nil)) pa_nil)))
  (pss_one (ps_ret (pe_joinRev rfl (by rfl) T.z_reversed pe_str (pv 1))))))), ?_⟩
    refine ⟨(by show 0 ≤ sizeLine; decide), fun l nl => ?_⟩
    have s1 : Same H (upd H l (.lst [])) := same_upd nl
    have hl : (upd H l (.lst [])) l = some (.lst []) := upd_same
    generalize upd H l (.lst []) = H1 at s1 hl ⊢
    refine ⟨fun m σ H' => (∃ v, σ = [some (.int n), some (.ref l), v]) ∧ H' = H1, ⟨0, ⟨none, rfl⟩, rfl⟩, ?_⟩
    rintro m σ H' ⟨⟨v, rfl⟩, rfl⟩
    refine ⟨_, rfl, _, _, rfl, rfl, _, rfl, ?_⟩
    rw [decide_eq_false (by have e : (10 : Nat) ^ 64 = 10000000000000000000000000000000000000000000000000000000000000000 := by decide +kernel
                            omega)]
    refine iteF ?_
    refine ⟨_, rfl, .inl ⟨rfl, [], .inl (.inl hl)⟩, _, rfl, _, rfl, log_small (Nat.lt_trans hn c64), ?_⟩
    refine ⟨l, [], _, rfl, rfl, hl, (by show 0 < sizeLine; decide), ?_⟩
    have ez := tl_str_nat h0
    have el : (Str.ofString (toString n)).length ≤ 64 := by
      rw [TL.len_tl, ez]
      exact TL.numL_len (by decide) hn
    refine ⟨_, rfl, _, rfl, l, [Str.ofString (toString n)], rfl, .inl (.inl upd_same), PyProof.Rows.joinOk_of (by
      show ((Str.ofString (toString n)).length + 0) + 1 * ("" : Str).length ≤ 16777216
      have : ("" : Str).length = 0 := by decide +kernel
      omega), ?_⟩
    rw [join_one]
    exact k _ _ (fun b o e => by rw [upd_ne (ne_of_none e nl)]; exact s1 _ _ e) ez
def spText (C : Addr) : Sp := fun vs H Q _ => ∃ v p, vs = [v] ∧ NumAt C H v p ∧ 0 < p.2 ∧ p.1.natAbs < 10 ^ 64 ∧ p.2.natAbs < 10 ^ 64 ∧ ∀ z H', Same H H' → TL.tl z = fracL p → Q (.str z) H'
theorem ok_number_text (T : Tx K mg) : FnOk P w K mg base CX0 4 T.number_text_a T.number_text_d ["number"] (spText T.Exact_a) := by
  refine T.number_text_F.ok sc_number_text (fun vs H Q E h => ?_) (fun cdv A outer s H vs Q E hr h => ?_)
  · obtain ⟨v, p, rfl, _⟩ := h
    rfl
  · obtain ⟨v, p, rfl, hv, h2, z1, z2, k⟩ := h
    refine ⟨_, (pss_cons (ps_asg (pe_call (ok_parts T) (hr.mono (by decide)) rfl T.parts_m T.parts_F.kp T.parts_b .nil pass0 (pa_cons (pv 0) pa_nil)) (pg_tup (by rfl) (pgs_cons (pg_name (i := 1) sc_number_text.nd rfl (Or.inl rfl)) (pgs_cons (pg_name (i := 2) sc_number_text.nd rfl (Or.inl rfl)) pgs_nil))))
  (pss_cons (ps_set (i := 3) sc_number_text.nd rfl (Or.inl rfl) (pe_ifExp (pt_cmpR op_lt (pv 1) pe_int (nomark _)) pe_str pe_str))
  (pss_cons (ps_set (i := 4) sc_number_text.nd rfl (Or.inl rfl) (pe_ifExp (pt_cmpR op_eq (pv 2) pe_int (nomark _)) pe_str (pe_op (op_add_str) pe_str (pe_call (ok_digits_of T) (hr.mono (by decide)) rfl T.digits_of_m T.digits_of_F.kp T.digits_of_b .nil pass0 (pa_cons (pv 2) pa_nil)))))
  (pss_one (ps_ret (pe_op (op_add_str) (pe_op (op_add_str) (pv 3) (pe_call (ok_digits_of T) (hr.mono (by decide)) rfl T.digits_of_m T.digits_of_F.kp T.digits_of_b .nil pass0 (pa_cons (pe_callB (call_abs) (by rfl) T.z_abs (by decide +kernel) (pa_cons (pv 1) pa_nil)) pa_nil))) (pv 4))))))), ?_⟩
    refine ⟨_, rfl, v, p, rfl, hv, fun t H1 s1 ht => ?_⟩
    refine ⟨t, _, rfl, .inl (.inl ht), rfl, _, _, rfl, _, _, rfl, rfl, ?_⟩
    have e1 : (if p.1 < 0 then -p.1 else p.1) = ((p.1.natAbs : Nat) : Int) := by split <;> omega
    have a0 : 0 ≤ (if p.1 < 0 then -p.1 else p.1) := by rw [e1]; omega
    have ea : (if p.1 < 0 then -p.1 else p.1).natAbs = p.1.natAbs := by rw [e1]; omega
    have a64 : (if p.1 < 0 then -p.1 else p.1).natAbs < 10 ^ 64 := by rw [ea]; exact z1
    have fin : ∀ (sg : Str) (H2 : Hp), Same H H2 → TL.tl sg = signL p.1 → ∀ (be : Str), TL.tl be = underL p.2 → ∀ (z1 : Str), TL.tl z1 = TL.numL (if p.1 < 0 then -p.1 else p.1).natAbs → Q (.str (sg ++ z1 ++ be)) H2 := fun sg H2 s2 hs be hb z1 hz => by
      refine k _ _ s2 ?_
      rw [TL.tl_append, TL.tl_append, hs, hb, hz, ea, List.append_assoc]
      rfl
    have ls : (signL p.1).length ≤ 1 := by unfold signL; split <;> decide
    have l65 : ∀ sg : Str, TL.tl sg = signL p.1 → ∀ z : Str, TL.tl z = TL.numL (if p.1 < 0 then -p.1 else p.1).natAbs → sg.length + z.length ≤ sizeLine := fun sg hs z hz => len_ok (by
      rw [TL.len_tl, TL.len_tl, hs, hz]
      have := TL.numL_len (by decide : 0 < 64) a64
      omega)
    have l65' : ∀ z : Str, TL.tl z = TL.numL p.2.natAbs → ("/" : Str).length + z.length ≤ sizeLine := fun z hz => len_ok (by
      rw [TL.len_tl, TL.len_tl, str_stroke, hz]
      have := TL.numL_len (by decide : 0 < 64) z2
      show 1 + _ ≤ 1000
      omega)
    have l99 : ∀ sg : Str, TL.tl sg = signL p.1 → ∀ z : Str, TL.tl z = TL.numL (if p.1 < 0 then -p.1 else p.1).natAbs → ∀ be : Str, TL.tl be = underL p.2 → (sg ++ z).length + be.length ≤ sizeLine := fun sg hs z hz be hb => len_ok (by
      rw [TL.len_tl, TL.len_tl, TL.tl_append, hs, hz, hb, List.length_append]
      have := TL.numL_len (by decide : 0 < 64) a64
      have l2 := TL.numL_len (by decide : 0 < 64) z2
      have : (underL p.2).length ≤ 65 := by
        unfold underL
        split
        · decide
        · rw [List.length_cons]; omega
      omega)
    have be1 : p.2 = 1 → TL.tl ("" : Str) = underL p.2 := fun e => by
      unfold underL
      rw [if_pos e, str_empty]
    have be2 : p.2 ≠ 1 → ∀ z : Str, TL.tl z = TL.numL p.2.natAbs → TL.tl (("/" : Str) ++ z) = underL p.2 := fun e z hz => by
      unfold underL
      rw [if_neg e, TL.tl_append, str_stroke, hz]
      rfl
    refine ⟨_, rfl, _, _, rfl, rfl, _, rfl, ?_⟩
    by_cases hn : p.1 < 0
    · rw [decide_eq_true hn]
      refine iteT ?_
      have hs : TL.tl ("-" : Str) = signL p.1 := by
        unfold signL
        rw [if_pos hn, str_minus]
      refine ⟨_, rfl, rfl, _, rfl, ?_⟩
      by_cases u1 : p.2 = 1
      · rw [show decide (V.int p.2 = V.int 1) = true by simp [u1]]
        refine iteT ?_
        refine ⟨_, rfl, _, rfl, _, rfl, _, rfl, a0, a64, fun z1 H2 s2 hz1 => ⟨_, _, rfl, rfl, l65 _ hs _ hz1, _, rfl, _, _, rfl, rfl, l99 _ hs _ hz1 _ (be1 u1), ?_⟩⟩
        exact fin _ _ (s1.trans s2) hs _ (be1 u1) _ hz1
      · rw [show decide (V.int p.2 = V.int 1) = false by simp [u1]]
        refine iteF ?_
        refine ⟨_, rfl, p.2, rfl, Int.le_of_lt h2, z2, fun z3 H2 s2 hz3 => ⟨_, _, rfl, rfl, l65' _ hz3, ?_⟩⟩
        refine ⟨_, rfl, _, rfl, _, rfl, _, rfl, a0, a64, fun z1 H3 s3 hz1 => ⟨_, _, rfl, rfl, l65 _ hs _ hz1, _, rfl, _, _, rfl, rfl, l99 _ hs _ hz1 _ (be2 u1 _ hz3), ?_⟩⟩
        exact fin _ _ ((s1.trans s2).trans s3) hs _ (be2 u1 _ hz3) _ hz1
    · rw [decide_eq_false hn]
      refine iteF ?_
      have hs : TL.tl ("" : Str) = signL p.1 := by
        unfold signL
        rw [if_neg hn, str_empty]
      refine ⟨_, rfl, rfl, _, rfl, ?_⟩
      by_cases u1 : p.2 = 1
      · rw [show decide (V.int p.2 = V.int 1) = true by simp [u1]]
        refine iteT ?_
        refine ⟨_, rfl, _, rfl, _, rfl, _, rfl, a0, a64, fun z1 H2 s2 hz1 => ⟨_, _, rfl, rfl, l65 _ hs _ hz1, _, rfl, _, _, rfl, rfl, l99 _ hs _ hz1 _ (be1 u1), ?_⟩⟩
        exact fin _ _ (s1.trans s2) hs _ (be1 u1) _ hz1
      · rw [show decide (V.int p.2 = V.int 1) = false by simp [u1]]
        refine iteF ?_
        refine ⟨_, rfl, p.2, rfl, Int.le_of_lt h2, z2, fun z3 H2 s2 hz3 => ⟨_, _, rfl, rfl, l65' _ hz3, ?_⟩⟩
        refine ⟨_, rfl, _, rfl, _, rfl, _, rfl, a0, a64, fun z1 H3 s3 hz1 => ⟨_, _, rfl, rfl, l65 _ hs _ hz1, _, rfl, _, _, rfl, rfl, l99 _ hs _ hz1 _ (be2 u1 _ hz3), ?_⟩⟩
        exact fin _ _ ((s1.trans s2).trans s3) hs _ (be2 u1 _ hz3) _ hz1
theorem ok_Exact_text (T : Tx K mg) : FnOk P w K mg base CX0 6 T.Exact_text_a T.Exact_text_d ["self"] (spText T.Exact_a) := by
  refine T.Exact_text_F.ok sc_Exact_text (fun vs H Q E h => ?_) (fun cdv A outer s H vs Q E hr h => ?_)
  · obtain ⟨v, p, rfl, _⟩ := h
    rfl
  · obtain ⟨v, p, rfl, hv, k⟩ := h
    refine ⟨_, (pss_one (ps_ret (pe_call (ok_number_text T) (hr.mono (by decide)) rfl T.number_text_m T.number_text_F.kp T.number_text_b .nil pass0 (pa_cons (pv 0) pa_nil)))), ?_⟩
    exact ⟨_, rfl, v, p, rfl, hv, k⟩
def spIsDig : Sp := fun vs H Q _ => ∃ x : Str, vs = [.str x] ∧ Q (.bl (dig (TL.tl x))) H
theorem ok_is_digits (T : Tx K mg) : FnOk P w K mg base CX0 1 T.is_digits_a T.is_digits_d ["text"] spIsDig := by
  refine T.is_digits_F.ok sc_is_digits (fun vs H Q E h => ?_) (fun cdv A outer s H vs Q E hr h => ?_)
  · obtain ⟨x, rfl, _⟩ := h
    rfl
  · obtain ⟨x, rfl, k⟩ := h
    refine ⟨_, (pss_one (ps_ret (pe_and (pe_m0 PySem.F.slot_str_isascii PySem.F.type_str_isascii mt_isascii (pv 0)) (pe_one (pe_m0 PySem.F.slot_str_isdigit PySem.F.type_str_isdigit mt_isdigit (pv 0)))))), ?_⟩
    rw [← isdig_eq] at k
    refine ⟨_, rfl, ⟨_, rfl⟩, _, rfl, rfl, trivial, _, rfl, ?_⟩
    cases ha : Txt.isascii x with
    | true =>
      rw [ha, Bool.true_and] at k
      refine iteT ?_
      exact ⟨_, rfl, ⟨_, rfl⟩, _, rfl, rfl, trivial, k⟩
    | false =>
      rw [ha, Bool.false_and] at k
      exact iteF k
def spWholeOf : Sp := fun vs H Q _ => ∃ x : Str, vs = [.str x] ∧ dig (TL.tl x) = true ∧ x.length ≤ 63 ∧ Q (.int ((NumText.digitsVal (TL.tl x) : Nat) : Int)) H
theorem rg_none (n : Nat) (h : n ≤ 63) : RgC (n : Int) (n : Int) 64 0 := by
  have f : ∀ n : Nat, n ≤ 63 → Builtin.Range.small (n : Int) (n : Int) 64 = true ∧ Builtin.Range.rangeSize (n : Int) (n : Int) 64 = 0 := by decide
  exact ⟨by decide, by decide, (f n h).1, (f n h).2⟩
theorem ok_whole_of (T : Tx K mg) : FnOk P w K mg base CX0 1 T.whole_of_a T.whole_of_d ["digits"] spWholeOf := by
  refine T.whole_of_F.ok sc_whole_of (fun vs H Q E h => ?_) (fun cdv A outer s H vs Q E hr h => ?_)
  · obtain ⟨x, rfl, _⟩ := h
    rfl
  · obtain ⟨x, rfl, hd, hl, k⟩ := h
    refine ⟨_, (pss_cons (ps_set (i := 1) sc_whole_of.nd rfl (Or.inl rfl) (pe_op (op_modN) (pe_callB call_len_str (by rfl) T.z_len (by decide +kernel) (pa_cons (pv 0) pa_nil)) (pe_glob (v := .int 64) rfl T.c_PIECE ⟨_, rfl⟩)))
  (pss_cons (ps_set (i := 2) sc_whole_of.nd rfl (Or.inl rfl) (pe_callTy call_int_str (by rfl) T.z_int (by decide +kernel) (pa_cons (pe_op (op_add_str) pe_str (pe_slice sl_str (pv 0) po_none (po_some (pv 1)))) pa_nil)))
  (pss_cons (ps_for PassesOwn.never rfl (pi_range3 rfl T.z_range (pa_cons (pv 1) (pa_cons (pe_callB call_len_str (by rfl) T.z_len (by decide +kernel) (pa_cons (pv 0) pa_nil)) (pa_cons (pe_glob (v := .int 64) rfl T.c_PIECE ⟨_, rfl⟩) pa_nil)))) (pg_name (i := 3) sc_whole_of.nd rfl (Or.inl rfl))
  (pss_one ps_never))
  (pss_one (ps_ret (pv 2)))))), ?_⟩
    refine ⟨_, rfl, x, rfl, len_ok (by omega), _, _, rfl, rfl, (by show (64 : Int) ≠ 0; decide), ?_⟩
    have e1 : Int.fmod ((x.length : Nat) : Int) 64 = ((x.length : Nat) : Int) := by
      rw [Int.fmod_eq_emod_of_nonneg _ (by decide)]
      omega
    dsimp only
    rw [e1]
    have e0 : ("0" : Str).length = 1 := by decide +kernel
    refine ⟨_, rfl, _, rfl, _, rfl, x, rfl, len_ok (by omega), ?_⟩
    rw [cut_all]
    refine ⟨_, _, rfl, rfl, len_ok (by omega), _, _, rfl, int_nought hd (by omega) rfl, ?_, ?_⟩
    · rw [TL.len_tl, TL.tl_append, List.length_append, str_nought, ← TL.len_tl]
      show 1 + x.length ≤ 640
      omega
    refine ⟨_, rfl, _, rfl, x, rfl, len_ok (by omega), _, _, _, 0, rfl, rg_none _ hl, for_it walk_rangeC (fun i σ H2 => σ = [some (.str x), some (.int ((x.length : Nat) : Int)), some (.int ((NumText.digitsVal (TL.tl x) : Nat) : Int)), none] ∧ H2 = H) ⟨rfl, rfl⟩ (fun _ _ _ _ _ => trivial) (fun i _ _ _ _ hi => absurd hi (Nat.not_lt_zero i)) ?_⟩
    rintro σ H2 ⟨rfl, rfl⟩
    exact ⟨_, rfl, k⟩
def spExactOf (C : Addr) : Sp := fun vs H Q _ => ∃ x : Str, vs = [.str x] ∧ x.length ≤ 63 ∧ (∀ p v H', exOf (TL.tl x) = some p → Same H H' → ExAt C H' v p → Q v H') ∧ (exOf (TL.tl x) = none → ∀ H', Same H H' → Q .non H')
theorem ok_exact_of (T : Tx K mg) : FnOk P w K mg base CX0 8 T.exact_of_a T.exact_of_d ["text"] (spExactOf T.Exact_a) := by
  refine T.exact_of_F.ok sc_exact_of (fun vs H Q E h => ?_) (fun cdv A outer s H vs Q E hr h => ?_)
  · obtain ⟨x, rfl, _⟩ := h
    rfl
  · obtain ⟨x, rfl, hl, ks, kn⟩ := h
    refine ⟨_, (pss_cons (ps_if (pt_not (pt_val (pe_callB call_isi (by rfl) T.z_isinstance (by decide +kernel) (pa_cons (pv 0) (pa_cons (pe_bltn (v := .ty "str") (by rfl) T.z_str (by decide +kernel) rfl) pa_nil)))))
  (pss_one (ps_ret pe_non))
  pss_nil)
  (pss_cons (ps_asg (pe_partition (pv 0) pe_str) (pg_tup (by rfl) (pgs_cons (pg_name (i := 1) sc_exact_of.nd rfl (Or.inl rfl)) (pgs_cons (pg_name (i := 2) sc_exact_of.nd rfl (Or.inl rfl)) (pgs_cons (pg_name (i := 3) sc_exact_of.nd rfl (Or.inl rfl)) pgs_nil)))))
  (pss_cons (ps_set (i := 4) sc_exact_of.nd rfl (Or.inl rfl) (pe_m1 PySem.F.slot_str_removeprefix PySem.F.type_str_removeprefix mt_removeprefix (pv 1) pe_str))
  (pss_cons (ps_if (pt_cmpR op_eq (pv 2) pe_str (nomark _))
  (pss_one (ps_set (i := 3) sc_exact_of.nd rfl (Or.inl rfl) pe_str))
  pss_nil)
  (pss_cons (ps_if (PW.pt (pw_or (pt_not (pt_val (pe_call (ok_is_digits T) (hr.mono (by decide)) rfl T.is_digits_m T.is_digits_F.kp T.is_digits_b .nil pass0 (pa_cons (pv 4) pa_nil)))) (pw_or1 (pt_not (pt_val (pe_call (ok_is_digits T) (hr.mono (by decide)) rfl T.is_digits_m T.is_digits_F.kp T.is_digits_b .nil pass0 (pa_cons (pv 3) pa_nil)))))))
  (pss_one (ps_ret pe_non))
  pss_nil)
  (pss_cons (ps_set (i := 5) sc_exact_of.nd rfl (Or.inl rfl) (pe_call (ok_whole_of T) (hr.mono (by decide)) rfl T.whole_of_m T.whole_of_F.kp T.whole_of_b .nil pass0 (pa_cons (pv 4) pa_nil)))
  (pss_cons (ps_set (i := 6) sc_exact_of.nd rfl (Or.inl rfl) (pe_call (ok_whole_of T) (hr.mono (by decide)) rfl T.whole_of_m T.whole_of_F.kp T.whole_of_b .nil pass0 (pa_cons (pv 3) pa_nil)))
  (pss_cons (ps_if (pt_cmpR op_eq (pv 6) pe_int (nomark _))
  (pss_one (ps_ret pe_non))
  pss_nil)
  (pss_cons (ps_set (i := 7) sc_exact_of.nd rfl (Or.inl rfl) (pe_make T.Exact_mk (ok_Exact_init T) (hr.mono (by decide)) rfl T.Exact_m T.Exact_init_b .nil pass0 (pa_cons (pe_ifExp (pt_val (pe_m1 PySem.F.slot_str_startswith PySem.F.type_str_startswith mt_startswith (pv 1) pe_str)) (pe_un (un_neg) (pv 5)) (pv 5)) (pa_cons (pv 6) pa_nil))))
  (pss_one (ps_ret (pe_ifExp (pt_cmpR op_eq (pe_meth0 (pv 7) T.Exact_cl T.Exact_text_M (ok_Exact_text T) (hr.mono (by decide)) T.Exact_text_b .nil pass0) (pv 0) (nomark _)) (pv 7) pe_non)))))))))))), ?_⟩
    refine ⟨_, rfl, _, _, _, _, true, rfl, .ty "str", .base (.str _), kit_ty (by decide +kernel), true, rfl, ?_⟩
    refine iteF ?_
    refine ⟨_, rfl, ⟨_, rfl⟩, _, _, rfl, rfl, (by decide +kernel), len_ok (by omega), fun t nt => ?_⟩
    obtain ⟨ea, es, eb⟩ := part_cut x
    have la : (Txt.partition x "/").1.length ≤ 63 := by
      rw [TL.len_tl, ea]
      rw [TL.len_tl] at hl
      exact Nat.le_trans (cutA_len _) hl
    have lb : (Txt.partition x "/").2.2.length ≤ 63 := by
      rw [TL.len_tl, eb]
      rw [TL.len_tl] at hl
      split
      · exact Nat.le_trans (cutB_len _) hl
      · decide
    generalize Txt.partition x "/" = pt at ea es eb la lb ⊢
    obtain ⟨xa, xs, xb⟩ := pt
    dsimp only at ea es eb la lb ⊢
    have s1 : Same H (upd H t (.tup [.str xa, .str xs, .str xb])) := same_upd nt
    have ht : (upd H t (.tup [.str xa, .str xs, .str xb])) t = some (.tup [.str xa, .str xs, .str xb]) := upd_same
    generalize upd H t (.tup [.str xa, .str xs, .str xb]) = H1 at s1 ht ⊢
    refine ⟨t, _, rfl, .inl (.inl ht), rfl, _, _, rfl, _, _, rfl, _, _, rfl, rfl, ?_⟩
    refine ⟨_, rfl, ⟨_, rfl⟩, _, _, rfl, rfl, len_ok (by omega), ?_⟩
    have hl1 := Nat.le_trans (no_minus_len xa) la
    have hd1 := no_minus xa
    rw [ea] at hd1
    generalize Txt.removeprefix xa "-" = x1 at hl1 hd1 ⊢
    refine ⟨_, rfl, rfl, _, rfl, ?_⟩
    rw [dec_str, es, str_empty]
    by_cases hm : 47 ∈ TL.tl x
    · rw [if_pos hm, decide_eq_false (by simp)]
      refine iteF ?_
      rw [if_pos hm] at eb
      obtain ⟨be, hlb, hbe, eq⟩ : ∃ be, be.length ≤ 63 ∧ TL.tl be = belowL (TL.tl x) ∧ be = xb := ⟨xb, lb, by unfold belowL; rw [if_pos hm]; exact eb, rfl⟩
      subst eq
      refine ⟨_, rfl, x1, rfl, _, rfl, ?_⟩
      rw [hd1]
      cases d1 : dig (noSign (cutA (TL.tl x))) with
      | false =>
        refine iteT ?_
        exact iteT (kn (exOf_bad1 d1) H1 s1)
      | true =>
        refine iteF ?_
        refine ⟨_, rfl, be, rfl, _, rfl, ?_⟩
        rw [hbe]
        cases d2 : dig (belowL (TL.tl x)) with
        | false => exact iteT (kn (exOf_bad2 d2) H1 s1)
        | true =>
          refine iteF ?_
          refine ⟨_, rfl, x1, rfl, by rw [hd1]; exact d1, hl1, ?_⟩
          refine ⟨_, rfl, be, rfl, by rw [hbe]; exact d2, hlb, ?_⟩
          rw [hd1, hbe]
          refine ⟨_, rfl, rfl, _, rfl, ?_⟩
          by_cases d0 : NumText.digitsVal (belowL (TL.tl x)) = 0
          · rw [show decide (V.int ((NumText.digitsVal (belowL (TL.tl x)) : Nat) : Int) = V.int 0) = true by simp [d0]]
            exact iteT (kn (exOf_bad3 d0) H1 s1)
          · rw [show decide (V.int ((NumText.digitsVal (belowL (TL.tl x)) : Nat) : Int) = V.int 0) = false by simp [d0]]
            refine iteF ?_
            have b0 : ((NumText.digitsVal (belowL (TL.tl x)) : Nat) : Int) ≠ 0 := by omega
            have bz : ((NumText.digitsVal (belowL (TL.tl x)) : Nat) : Int).natAbs < 2 ^ 8000 := by
              rw [Int.natAbs_natCast]
              refine Nat.lt_of_lt_of_le (Nat.lt_trans (val63 d2 ?_) p63) (Nat.pow_le_pow_right (by decide) (by decide))
              rw [← hbe, ← TL.len_tl]
              exact hlb
            obtain ⟨g1, g2⟩ := exN_sz d1 d2 d0 (by rw [← TL.len_tl]; exact hl)
            have gr : Rd (exN (TL.tl x)) := red_rd b0
            have go := exOf_go d1 d2 d0
            have fin : ∀ (y : V) (H2 : Hp) (σ : L2.St), Same H1 H2 → ExAt T.Exact_a H2 y (exN (TL.tl x)) → σ[0]? = some (some (.str x)) → σ[7]? = some (some y) → tIf (tTest (tOp rEq (tMeth T.Exact_a "text" (spText T.Exact_a) [] E0 (tVar 7) tNil) (tVar 0))) (tVar 7) (tC .non) σ H2 Q := fun y H2 σ s2 hy h0 h7 => by
              obtain ⟨a, dx, rfl, ha⟩ := id hy
              refine ⟨_, h7, a, dx, _, rfl, ha, fl_no (by decide +kernel) (by decide +kernel), _, _, rfl, .inr hy, gr.1, g1, g2, fun z H3 s3 hz => ⟨_, h0, rfl, _, rfl, ?_⟩⟩
              rw [dec_str, hz]
              have s := (s1.trans s2).trans s3
              by_cases e : fracL (exN (TL.tl x)) = TL.tl x
              · rw [decide_eq_true e]
                rw [if_pos e] at go
                exact iteT ⟨_, h7, ks _ _ _ go s (hy.same s3)⟩
              · rw [decide_eq_false e]
                rw [if_neg e] at go
                exact iteF (kn go _ s)
            refine ⟨_, rfl, ⟨_, rfl⟩, _, _, rfl, rfl, _, rfl, ?_⟩
            rw [starts_minus, ea]
            by_cases hm : (cutA (TL.tl x)).head? = some 45
            · rw [decide_eq_true hm]
              refine iteT ?_
              have en : exN (TL.tl x) = red (-((NumText.digitsVal (noSign (cutA (TL.tl x))) : Nat) : Int)) ((NumText.digitsVal (belowL (TL.tl x)) : Nat) : Int) := by
                unfold exN
                rw [if_pos hm]
              refine ⟨_, rfl, _, rfl, _, rfl, ?_⟩
              refine fun y dy ny ndy _ => mk_ex1 ny ndy b0 bz fun H2 s2 hv => ?_
              exact fin (.ref y) H2 _ s2 (en ▸ hv) rfl rfl
            · rw [decide_eq_false hm]
              refine iteF ?_
              have en : exN (TL.tl x) = red ((NumText.digitsVal (noSign (cutA (TL.tl x))) : Nat) : Int) ((NumText.digitsVal (belowL (TL.tl x)) : Nat) : Int) := by
                unfold exN
                rw [if_neg hm]
              refine ⟨_, rfl, _, rfl, ?_⟩
              refine fun y dy ny ndy _ => mk_ex1 ny ndy b0 bz fun H2 s2 hv => ?_
              exact fin (.ref y) H2 _ s2 (en ▸ hv) rfl rfl
    · rw [if_neg hm, decide_eq_true rfl]
      refine iteT ?_
      have hbe : TL.tl ("1" : Str) = belowL (TL.tl x) := by
        unfold belowL
        rw [if_neg hm, str_one]
      have hlb : ("1" : Str).length ≤ 63 := by decide +kernel
      generalize ("1" : Str) = be at hbe hlb ⊢
      refine ⟨_, rfl, x1, rfl, _, rfl, ?_⟩
      rw [hd1]
      cases d1 : dig (noSign (cutA (TL.tl x))) with
      | false =>
        refine iteT ?_
        exact iteT (kn (exOf_bad1 d1) H1 s1)
      | true =>
        refine iteF ?_
        refine ⟨_, rfl, be, rfl, _, rfl, ?_⟩
        rw [hbe]
        cases d2 : dig (belowL (TL.tl x)) with
        | false => exact iteT (kn (exOf_bad2 d2) H1 s1)
        | true =>
          refine iteF ?_
          refine ⟨_, rfl, x1, rfl, by rw [hd1]; exact d1, hl1, ?_⟩
          refine ⟨_, rfl, be, rfl, by rw [hbe]; exact d2, hlb, ?_⟩
          rw [hd1, hbe]
          refine ⟨_, rfl, rfl, _, rfl, ?_⟩
          by_cases d0 : NumText.digitsVal (belowL (TL.tl x)) = 0
          · rw [show decide (V.int ((NumText.digitsVal (belowL (TL.tl x)) : Nat) : Int) = V.int 0) = true by simp [d0]]
            exact iteT (kn (exOf_bad3 d0) H1 s1)
          · rw [show decide (V.int ((NumText.digitsVal (belowL (TL.tl x)) : Nat) : Int) = V.int 0) = false by simp [d0]]
            refine iteF ?_
            have b0 : ((NumText.digitsVal (belowL (TL.tl x)) : Nat) : Int) ≠ 0 := by omega
            have bz : ((NumText.digitsVal (belowL (TL.tl x)) : Nat) : Int).natAbs < 2 ^ 8000 := by
              rw [Int.natAbs_natCast]
              refine Nat.lt_of_lt_of_le (Nat.lt_trans (val63 d2 ?_) p63) (Nat.pow_le_pow_right (by decide) (by decide))
              rw [← hbe, ← TL.len_tl]
              exact hlb
            obtain ⟨g1, g2⟩ := exN_sz d1 d2 d0 (by rw [← TL.len_tl]; exact hl)
            have gr : Rd (exN (TL.tl x)) := red_rd b0
            have go := exOf_go d1 d2 d0
            have fin : ∀ (y : V) (H2 : Hp) (σ : L2.St), Same H1 H2 → ExAt T.Exact_a H2 y (exN (TL.tl x)) → σ[0]? = some (some (.str x)) → σ[7]? = some (some y) → tIf (tTest (tOp rEq (tMeth T.Exact_a "text" (spText T.Exact_a) [] E0 (tVar 7) tNil) (tVar 0))) (tVar 7) (tC .non) σ H2 Q := fun y H2 σ s2 hy h0 h7 => by
              obtain ⟨a, dx, rfl, ha⟩ := id hy
              refine ⟨_, h7, a, dx, _, rfl, ha, fl_no (by decide +kernel) (by decide +kernel), _, _, rfl, .inr hy, gr.1, g1, g2, fun z H3 s3 hz => ⟨_, h0, rfl, _, rfl, ?_⟩⟩
              rw [dec_str, hz]
              have s := (s1.trans s2).trans s3
              by_cases e : fracL (exN (TL.tl x)) = TL.tl x
              · rw [decide_eq_true e]
                rw [if_pos e] at go
                exact iteT ⟨_, h7, ks _ _ _ go s (hy.same s3)⟩
              · rw [decide_eq_false e]
                rw [if_neg e] at go
                exact iteF (kn go _ s)
            refine ⟨_, rfl, ⟨_, rfl⟩, _, _, rfl, rfl, _, rfl, ?_⟩
            rw [starts_minus, ea]
            by_cases hm : (cutA (TL.tl x)).head? = some 45
            · rw [decide_eq_true hm]
              refine iteT ?_
              have en : exN (TL.tl x) = red (-((NumText.digitsVal (noSign (cutA (TL.tl x))) : Nat) : Int)) ((NumText.digitsVal (belowL (TL.tl x)) : Nat) : Int) := by
                unfold exN
                rw [if_pos hm]
              refine ⟨_, rfl, _, rfl, _, rfl, ?_⟩
              refine fun y dy ny ndy _ => mk_ex1 ny ndy b0 bz fun H2 s2 hv => ?_
              exact fin (.ref y) H2 _ s2 (en ▸ hv) rfl rfl
            · rw [decide_eq_false hm]
              refine iteF ?_
              have en : exN (TL.tl x) = red ((NumText.digitsVal (noSign (cutA (TL.tl x))) : Nat) : Int) ((NumText.digitsVal (belowL (TL.tl x)) : Nat) : Int) := by
                unfold exN
                rw [if_neg hm]
              refine ⟨_, rfl, _, rfl, ?_⟩
              refine fun y dy ny ndy _ => mk_ex1 ny ndy b0 bz fun H2 s2 hv => ?_
              exact fin (.ref y) H2 _ s2 (en ▸ hv) rfl rfl
/-- a BadText of row v goes out -/
def LineOut (B : Addr) (H : Hp) (v : V) (E : XK) : Prop := ∀ d H', Same H H' → H' d = some (.xd [("line", v)]) → E (.ref B) (some d) H'
theorem LineOut.same {B : Addr} {H H1 : Hp} {v : V} {E : XK} (h : LineOut B H v E) (s : Same H H1) : LineOut B H1 v E := fun d H' s' e => h d H' (s.trans s') e
theorem mk_line {B : Addr} {H : Hp} {v : V} {W : XK} (h : LineOut B H v W) : ∀ a, H a = none → spErrF B "line" (.ref a :: ([v] ++ [])) (upd H a (exo a B none))
    (fun u H2 => u = .non ∧ ∃ (d : Addr) (fs : List (Str × V)), H2 a = some (exo a B (some d)) ∧ H2 d = some (exd d fs) ∧ H d = none ∧ W (.ref B) (some d) (upd (del H2 a) d (.xd fs))) (fun _ _ _ => False) := fun a na =>
  ⟨a, v, rfl, upd_same, fun dx nd ne => ⟨rfl, dx, [("line", v)], upd_same, (upd_ne ne).trans upd_same, by rw [upd_ne ne] at nd; exact nd, h dx _ (fun b o e => by
    have nb : b ≠ a := ne_of_none e na
    have nd' : H dx = none := by rw [upd_ne ne] at nd; exact nd
    rw [upd_ne (ne_of_none e nd'), del_ne nb, upd_ne nb, upd_ne (ne_of_none e nd'), upd_ne nb]
    exact e) upd_same⟩⟩
theorem ok_BadText_init (T : Tx K mg) : FnOk P w K mg base CX0 1 T.BadText_init_a T.BadText_init_d ["self", "line"] (spErrF T.BadText_a "line") := by
  refine T.BadText_init_F.ok sc_BadText_init (fun vs H Q E h => ?_) (fun cdv A outer s H vs Q E hr h => ?_)
  · obtain ⟨a, y, rfl, _⟩ := h
    rfl
  · obtain ⟨a, y, rfl, ha, k⟩ := h
    refine ⟨_, (pss_one (ps_ost (pv 0) (pv 1))), ?_⟩
    exact ⟨_, rfl, _, rfl, a, T.BadText_a, rfl, T.BadText_e.oex, T.BadText_n_line, .inl ⟨ha, k⟩⟩
def spOfText (C B : Addr) : Sp := fun vs H Q E => ∃ x : Str, vs = [.str x] ∧ x.length ≤ 63 ∧ (∀ p v H', exOf (TL.tl x) = some p → Same H H' → ExAt C H' v p → Q v H') ∧ (exOf (TL.tl x) = none → LineOut B H (.int 1) E)
theorem ok_Exact_of_text_x (T : Tx K mg) : FnOk P w K mg base (L2.CX P w) 10 T.Exact_of_text_a T.Exact_of_text_d ["text"] (spOfText T.Exact_a T.BadText_a) := by
  refine T.Exact_of_text_F.okX sc_Exact_of_text (fun vs H Q E h => ?_) (fun cdv A outer s H vs Q E hr h => ?_)
  · obtain ⟨x, rfl, _⟩ := h
    rfl
  · obtain ⟨x, rfl, hl, ks, kn⟩ := h
    refine ⟨_, (pss_cons (ps_set (i := 1) sc_Exact_of_text.nd rfl (Or.inl rfl) (pe_call (ok_exact_of T) (hr.mono (by decide)) rfl T.exact_of_m T.exact_of_F.kp T.exact_of_b .nil pass0 (pa_cons (pv 0) pa_nil)))
  (pss_cons (ps_if (pt_cmpR op_isN (pv 1) pe_non (nomark _))
  (pss_one (ps_raise rfl (takes_of rfl rfl rfl rfl) (pmk_oex T.BadText_e.oex T.BadText_init_M.at_ (beq_iff_eq.mp T.BadText_init_M.fn) (ok_BadText_init T) (hr.mono (by decide)) T.BadText_init_b .nil pass0 rfl T.BadText_m (pa_cons pe_int pa_nil))))
  pss_nil)
  (pss_one (ps_ret (pv 1))))), ?_⟩
    refine ⟨_, rfl, x, rfl, hl, fun p v H1 e s1 hv => ?_, fun e H1 s1 => ?_⟩
    · obtain ⟨a, dx, rfl, ha⟩ := id hv
      refine ⟨_, rfl, rfl, _, rfl, ?_⟩
      refine iteF ?_
      exact ⟨_, rfl, ks p _ H1 e s1 hv⟩
    · refine ⟨_, rfl, rfl, _, rfl, ?_⟩
      refine iteT ?_
      exact ⟨(by show 1 ≤ 1000; decide), mk_line ((kn e).same s1)⟩
def spOfTextN (C : Addr) : Sp := fun vs H Q _ => ∃ (x : Str) (p : Int × Int), vs = [.str x] ∧ x.length ≤ 63 ∧ exOf (TL.tl x) = some p ∧ ∀ v H', Same H H' → ExAt C H' v p → Q v H'
theorem ok_Exact_of_text (T : Tx K mg) : FnOk P w K mg base CX0 10 T.Exact_of_text_a T.Exact_of_text_d ["text"] (spOfTextN T.Exact_a) := by
  refine T.Exact_of_text_F.ok sc_Exact_of_text (fun vs H Q E h => ?_) (fun cdv A outer s H vs Q E hr h => ?_)
  · obtain ⟨x, p, rfl, _⟩ := h
    rfl
  · obtain ⟨x, p, rfl, hl, ex, k⟩ := h
    refine ⟨_, (pss_cons (ps_set (i := 1) sc_Exact_of_text.nd rfl (Or.inl rfl) (pe_call (ok_exact_of T) (hr.mono (by decide)) rfl T.exact_of_m T.exact_of_F.kp T.exact_of_b .nil pass0 (pa_cons (pv 0) pa_nil)))
  (pss_cons (ps_if (pt_cmpR op_isN (pv 1) pe_non (nomark _))
  (pss_one ps_never)
  pss_nil)
  (pss_one (ps_ret (pv 1))))), ?_⟩
    refine ⟨_, rfl, x, rfl, hl, fun p' v H1 e s1 hv => ?_, fun e => ?_⟩
    · rw [ex] at e
      cases e
      obtain ⟨a, dx, rfl, ha⟩ := id hv
      refine ⟨_, rfl, rfl, _, rfl, ?_⟩
      refine iteF ?_
      exact ⟨_, rfl, k _ H1 s1 hv⟩
    · rw [ex] at e
      cases e

end


/-! ### the law's own look at a text -/
section
open TL NumText
theorem tl_cut_to (x : Str) (k : Nat) : tl (cutS x none (some (k : Int))) = (tl x).take k := by
  unfold cutS
  rw [HT.sIx_none, HT.sIx_nat, Nat.sub_zero, List.drop_zero]
  show (tl x).take (min k x.length) = _
  rw [len_tl]
  by_cases h : k ≤ (tl x).length
  · rw [Nat.min_eq_left h]
  · rw [Nat.min_eq_right (by omega), List.take_length, List.take_of_length_le (by omega)]
theorem tl_cut_from (x : Str) (k : Nat) : tl (cutS x (some (k : Int)) none) = (tl x).drop k := by
  unfold cutS
  rw [HT.sIx_none, HT.sIx_nat]
  show ((tl x).drop (min k x.length)).take (x.length - min k x.length) = _
  rw [List.take_of_length_le (by rw [List.length_drop, len_tl]; omega)]
  by_cases h : k ≤ x.length
  · rw [Nat.min_eq_left h]
  · rw [Nat.min_eq_right (by omega), List.drop_eq_nil_of_le (by rw [len_tl]; exact Nat.le_refl _), List.drop_eq_nil_of_le (by rw [← len_tl]; omega)]
theorem cutV_from1 (x : V) (xs : List V) : cutV (x :: xs) (some 1) none = xs := by
  unfold cutV
  rw [HT.sIx_none, show (some (1 : Int)) = some ((1 : Nat) : Int) from rfl, HT.sIx_nat, Nat.min_eq_left (by rw [List.length_cons]; omega), List.drop_succ_cons, List.drop_zero]
  exact List.take_of_length_le (by rw [List.length_cons]; omega)
theorem take1 (l : List Nat) : (l.take 1 = [45]) ↔ l.head? = some 45 := by
  cases l with
  | nil => simp
  | cons c r => simp
theorem nz_form (l : List Nat) : nz l = (!decide (l = []) && l.all (fun c => decide (48 ≤ c) && decide (c ≤ 57)) && !(!decide (l = [48]) && decide (l.head? = some 48))) := by
  unfold nz dig
  cases l with
  | nil => rfl
  | cons c r =>
    rw [show decide (c :: r = []) = false from decide_eq_false (by simp)]
    cases List.all (c :: r) (fun c => decide (48 ≤ c) && decide (c ≤ 57)) with
    | false => rfl
    | true =>
      by_cases e1 : c :: r = [48]
      · rw [decide_eq_true e1]
        rfl
      · rw [decide_eq_false e1]
        by_cases e2 : (c :: r).head? = some 48
        · rw [decide_eq_true e2, decide_eq_false (by simpa using e2)]
          rfl
        · rw [decide_eq_false e2, decide_eq_true e2]
          rfl
theorem sign_digit (c : Nat) : decide (c ∈ ("0123456789" : Str).cps.toList) = (decide (48 ≤ c) && decide (c ≤ 57)) := by
  have e : ("0123456789" : Str).cps.toList = [48, 49, 50, 51, 52, 53, 54, 55, 56, 57] := by decide +kernel
  rw [e, Bool.eq_iff_iff, Bool.and_eq_true, decide_eq_true_eq, decide_eq_true_eq, decide_eq_true_eq]
  simp only [List.mem_cons, List.not_mem_nil, or_false]
  omega
theorem all_map (l : List Nat) (f : Nat → Bool) : (l.map f).all id = l.all f := by
  rw [List.all_map]
  rfl
def moreT (a : List Nat) : List (List Nat) → Bool
  | [] => true
  | b :: _ => decide (1 < digitsVal b) && decide (Nat.gcd (digitsVal (noSign a)) (digitsVal b) = 1)
theorem isText_form {l a : List Nat} {r : List (List Nat)} (h : spl [47] 0 [] l = a :: r) :
    isText l = (((noSign a) :: r).all nz && !(decide (r.length > 1) || decide (l.take 2 = [45, 48])) && moreT a r) := by
  unfold isText
  simp only [h]
  cases r <;> rfl
theorem spl_many : ∀ (l acc : List Nat) (k : Nat), (spl [47] k acc l).length ≤ l.length + 1
  | [], acc, k => by
    rw [spl_nil]
    exact Nat.le_refl _
  | c :: r, acc, 0 => by
    cases hp : pre [47] (c :: r) with
    | true =>
      rw [spl_hit hp]
      exact Nat.succ_le_succ (spl_many r [] ([47].length - 1))
    | false =>
      rw [spl_miss hp, List.length_cons]
      have := spl_many r (acc ++ [c]) 0
      omega
  | c :: r, acc, k + 1 => by
    have : (spl [47] k acc r).length ≤ r.length + 1 := spl_many r acc k
    show (spl [47] k acc r).length ≤ _
    rw [List.length_cons]
    omega
theorem split_form (x : Str) : ∃ (y : Str) (r : List Str), Txt.split x "/" = y :: r ∧ spl [47] 0 [] (tl x) = tl y :: r.map tl := by
  have h := split_spl x "/" (by rw [str_stroke]; simp) (kind_ok (by decide +kernel))
  rw [str_stroke] at h
  cases e : Txt.split x "/" with
  | nil =>
    rw [e] at h
    have : spl [47] 0 [] (tl x) ≠ [] := by
      by_cases hm : 47 ∈ tl x
      · obtain ⟨e2, n2⟩ := cut_form hm
        rw [e2]
        have := spl_part1 (s := 47) (S := []) (p := cutA (tl x)) (rest := cutB (tl x)) (acc := []) n2
        intro z
        have y : spl [47] 0 [] (cutA (tl x) ++ 47 :: cutB (tl x)) = [] ++ cutA (tl x) :: spl [47] 0 [] (cutB (tl x)) := this
        rw [z] at y
        cases y
      · rw [spl_last1 hm]
        simp
    exact absurd h.symm this
  | cons y r =>
    rw [e] at h
    exact ⟨y, r, rfl, h.symm⟩
theorem spl_lens : ∀ (l acc : List Nat) (k : Nat) (p : List Nat), p ∈ spl [47] k acc l → p.length ≤ acc.length + l.length
  | [], acc, k, p, h => by
    rw [spl_nil] at h
    rw [List.mem_singleton.mp h]
    exact Nat.le_add_right _ _
  | c :: r, acc, 0, p, h => by
    cases hp : pre [47] (c :: r) with
    | true =>
      rw [spl_hit hp] at h
      rcases List.mem_cons.mp h with h | h
      · rw [h]; exact Nat.le_add_right _ _
      · have := spl_lens r [] _ p h
        rw [List.length_nil] at this
        rw [List.length_cons]
        omega
    | false =>
      rw [spl_miss hp] at h
      have := spl_lens r _ _ p h
      rw [List.length_append, List.length_singleton] at this
      rw [List.length_cons]
      omega
  | c :: r, acc, k + 1, p, h => by
    have := spl_lens r acc k p h
    rw [List.length_cons]
    omega
theorem int_dig {y : Str} (h : dig (tl y) = true) (hl : y.length ≤ 640) : PySem.intText? y = some ((digitsVal (tl y) : Nat) : Int) := by
  obtain ⟨h1, h2⟩ := dig_iff.mp h
  exact intText_digits (x := y) h2 h1 (by omega)
theorem exOf_sz {l : List Nat} {p : Int × Int} (h : exOf l = some p) (hl : l.length ≤ 63) : p.1.natAbs < 10 ^ 64 ∧ p.2.natAbs < 10 ^ 64 := by
  unfold exOf at h
  split at h
  · rename_i c
    split at h
    · rw [← Option.some.inj h]
      exact exN_sz c.1 c.2.1 c.2.2 hl
    · cases h
  · cases h
end
section
variable {P : Program} {w : World} {K : PySem.W.Frag} {mg : Str → Option Value} {base : Heap}
def spIsText : Sp := fun vs H Q _ => ∃ x : Str, vs = [.str x] ∧ x.length ≤ 63 ∧ ∀ H', Same H H' → Q (.bl (isText (TL.tl x))) H'
theorem ok_law_is_text (T : Tx K mg) : FnOk P w K mg base CX0 2 T.law_is_text_a T.law_is_text_d ["_law_text_here"] spIsText := by
  refine T.law_is_text_F.ok sc_law_is_text (fun vs H Q E h => ?_) (fun cdv A outer s H vs Q E hr h => ?_)
  · obtain ⟨x, rfl, _⟩ := h
    rfl
  · obtain ⟨x, rfl, hl, k⟩ := h
    refine ⟨_, (pss_cons (ps_set (i := 1) sc_law_is_text.nd rfl (Or.inl rfl) (pe_split (pv 0) pe_str))
  (pss_cons (ps_set (i := 2) sc_law_is_text.nd rfl (Or.inl rfl) (pe_ifExp (pt_cmpR op_eq (pe_slice sl_str (pe_ix ix_list (pv 1) pe_int (fun _ _ => rfl)) po_none (po_some pe_int)) pe_str (nomark _)) (pe_slice sl_str (pe_ix ix_list (pv 1) pe_int (fun _ _ => rfl)) (po_some pe_int) po_none) (pe_ix ix_list (pv 1) pe_int (fun _ _ => rfl))))
  (pss_cons (ps_for PassesOwn.never rfl (pi_list (pe_op (op_cat) (pe_lst (pa_cons (pv 2) pa_nil)) (pe_slice sl_list (pv 1) (po_some pe_int) po_none))) (pg_name (i := 3) sc_law_is_text.nd rfl (Or.inl rfl))
  (pss_one (ps_if (PW.pt (pw_or (pt_cmpR op_eq (pv 3) pe_str (nomark _)) (pw_or (pt_not (pt_val (pe_callB (cr_all rfl) (by rfl) T.z_all (by decide +kernel) (pa_cons (pe_lc (g := gName 4) (tt := tYes) (own := [("_law_sign", 4)]) rfl sc_law_is_text.nd (pi_str (pv 3)) (blkOk_by (own := [("_law_sign", 4)]) (N := ["_law_text_here", "_law_parts", "_law_head", "_law_x", "_law_sign"]) (sc := defScope s_law_is_text) (by decide +kernel))
   (fun _ _ _ _ _ => pg_name (i := 4) sc_law_is_text.nd rfl (Or.inl rfl)) (fun _ _ _ _ _ => pts_nil) (fun _ _ _ _ _ => (pe_cmpR (op_in_sign) (pv 4) pe_str (by with_unfolding_all rfl)))) pa_nil)))) (pw_or1 (PW.pt (pw_and (pt_cmpR op_ne (pv 3) pe_str (nomark _)) (pw_and1 (pt_cmpR op_eq (pe_ix ix_str (pv 3) pe_int (fun _ _ => rfl)) pe_str (nomark _)))))))))
  (pss_one (ps_ret pe_bl))
  pss_nil)))
  (pss_cons (ps_if (PW.pt (pw_or (pt_cmpR op_gt (pe_callB (call_len_seq) (by rfl) T.z_len (by decide +kernel) (pa_cons (pv 1) pa_nil)) pe_int (nomark _)) (pw_or1 (pt_cmpR op_eq (pe_slice sl_str (pv 0) po_none (po_some pe_int)) pe_str (nomark _)))))
  (pss_one (ps_ret pe_bl))
  pss_nil)
  (pss_one (ps_ret (pe_or (pe_cmpR op_eq (pe_callB (call_len_seq) (by rfl) T.z_len (by decide +kernel) (pa_cons (pv 1) pa_nil)) pe_int (nomark _)) (pe_one (pe_and (pe_cmpR op_gt (pe_callTy call_int_str (by rfl) T.z_int (by decide +kernel) (pa_cons (pe_ix ix_list (pv 1) pe_int (fun _ _ => rfl)) pa_nil)) pe_int (nomark _)) (pe_one (pe_cmpR op_eq (pe_call (ok_law_gcd T) (hr.mono (by decide)) rfl T.law_gcd_m T.law_gcd_F.kp T.law_gcd_b .nil pass0 (pa_cons (pe_callTy call_int_str (by rfl) T.z_int (by decide +kernel) (pa_cons (pv 2) pa_nil)) (pa_cons (pe_callTy call_int_str (by rfl) T.z_int (by decide +kernel) (pa_cons (pe_ix ix_list (pv 1) pe_int (fun _ _ => rfl)) pa_nil)) pa_nil))) pe_int (nomark _)))))))))))), ?_⟩
    obtain ⟨y0, r, esp, hsp⟩ := split_form x
    have hform := isText_form hsp
    have lens0 : ∀ y ∈ y0 :: r, y.length ≤ 63 := fun y hy => by
      have : TL.tl y ∈ TL.spl [47] 0 [] (TL.tl x) := by
        rw [hsp]
        exact List.mem_map_of_mem (f := TL.tl) hy
      have := spl_lens _ _ _ _ this
      rw [TL.len_tl] at hl ⊢
      rw [List.length_nil] at this
      omega
    have rl : r.length ≤ 64 := by
      have := spl_many (TL.tl x) [] 0
      rw [hsp, List.length_cons, List.length_map] at this
      rw [TL.len_tl] at hl
      omega
    refine ⟨_, rfl, ⟨_, rfl⟩, _, _, rfl, rfl, (by decide +kernel), len_ok (by omega), fun pl np => ?_⟩
    rw [esp]
    have s1 : Same H (upd H pl (.lst ((y0 :: r).map V.str))) := same_upd np
    have hpl : (upd H pl (.lst ((y0 :: r).map V.str))) pl = some (.lst ((y0 :: r).map V.str)) := upd_same
    generalize upd H pl (.lst ((y0 :: r).map V.str)) = H1 at s1 hpl ⊢
    have ly := lens0 y0 List.mem_cons_self
    refine ⟨_, rfl, pl, _, 0, _, rfl, rfl, .inl (.inl hpl), atI_nat (j := 0) rfl, _, rfl, y0, rfl, len_ok (Nat.le_trans ly (by decide)), rfl, _, rfl, ?_⟩
    have ecut := tl_cut_to y0 1
    have e1 : decide (V.str (cutS y0 none (some 1)) = V.str "-") = decide ((TL.tl y0).head? = some 45) := by
      rw [dec_str, str_minus]
      refine (congrArg (fun l => decide (l = [45])) ecut).trans ?_
      exact decide_eq_decide.mpr (take1 _)
    rw [e1]
    by_cases hm : (TL.tl y0).head? = some 45
    · rw [decide_eq_true hm]
      refine iteT ?_
      refine ⟨_, rfl, pl, _, 0, _, rfl, rfl, .inl (.inl hpl), atI_nat (j := 0) rfl, _, rfl, y0, rfl, len_ok (Nat.le_trans ly (by decide)), ?_⟩
      have ehd : noSign (TL.tl y0) = TL.tl (cutS y0 (some 1) none) := by
        unfold noSign
        rw [if_pos hm]
        exact ((tl_cut_from y0 1).trans (List.drop_one ..)).symm
      have lens : ∀ y ∈ cutS y0 (some 1) none :: r, y.length ≤ 63 := fun y hy => by
        rcases List.mem_cons.mp hy with e | e
        · rw [e]
          exact Nat.le_trans (cutS_length _ _ _) ly
        · exact lens0 _ (List.mem_cons_of_mem _ e)
      generalize cutS y0 (some 1) none = hd at ehd lens ⊢
      refine ⟨_, rfl, (by show 1 ≤ sizeLine; decide), fun l1 n1 => ?_⟩
      have s2 : Same H1 (upd H1 l1 (.lst [.str hd])) := same_upd n1
      have hl1 : (upd H1 l1 (.lst [.str hd])) l1 = some (.lst [.str hd]) := upd_same
      generalize upd H1 l1 (.lst [.str hd]) = H2 at s2 hl1 ⊢
      refine ⟨_, rfl, _, rfl, pl, _, rfl, .inl (.inl (s2 _ _ hpl)), fun l2 n2 => ?_⟩
      have ecv : cutV ((y0 :: r).map V.str) (some 1) none = r.map V.str := cutV_from1 _ _
      rw [ecv]
      have s3 : Same H2 (upd H2 l2 (.lst (r.map V.str))) := same_upd n2
      have hl2 : (upd H2 l2 (.lst (r.map V.str))) l2 = some (.lst (r.map V.str)) := upd_same
      generalize upd H2 l2 (.lst (r.map V.str)) = H3 at s3 hl2 ⊢
      refine ⟨l1, l2, [.str hd], r.map V.str, rfl, rfl, s3 _ _ hl1, hl2, (by rw [List.length_map]; exact len_ok (by show 1 + r.length ≤ 1000; omega)), fun l3 n3 => ?_⟩
      have s4 : Same H3 (upd H3 l3 (.lst ([V.str hd] ++ r.map V.str))) := same_upd n3
      have hl3 : (upd H3 l3 (.lst ([V.str hd] ++ r.map V.str))) l3 = some (.lst ([V.str hd] ++ r.map V.str)) := upd_same
      generalize upd H3 l3 (.lst ([V.str hd] ++ r.map V.str)) = H4 at s4 hl3 ⊢
      have s04 := ((s1.trans s2).trans s3).trans s4
      have hpl4 := (s3.trans s4) _ _ (s2 _ _ hpl)
      have ew : [V.str hd] ++ r.map V.str = (hd :: r).map V.str := rfl
      rw [ew] at hl3
      refine ⟨l3, rfl, ⟨_, .inl (.inl hl3)⟩, for_list (K := K) (a := l3) (xs := (hd :: r).map V.str) (fun i σ H' => (∃ v, σ = [some (.str x), some (.ref pl), some (.str hd), v, none]) ∧ Same H4 H' ∧ ∀ j y, j < i → (hd :: r)[j]? = some y → nz (TL.tl y) = true)
        ⟨⟨none, rfl⟩, Same.refl _, fun j y h => absurd h (Nat.not_lt_zero j)⟩ (fun i σ H' _ e => .inl (.inl (e.2.1 _ _ hl3))) ?_ ?_⟩
      · rintro i v σ H' hv ⟨⟨v3, rfl⟩, s5, hprev⟩
        rw [List.getElem?_map] at hv
        obtain ⟨y, hy, rfl⟩ := Option.map_eq_some_iff.mp hv
        have hym : y ∈ hd :: r := List.mem_of_getElem? hy
        have hyl := lens y hym
        have bad : nz (TL.tl y) = false → ∀ H'', Same H4 H'' → Q (.bl false) H'' := fun hn H'' s6 => by
          have z : isText (TL.tl x) = false := by
            rw [hform, ehd]
            have : ((TL.tl hd) :: r.map TL.tl).all nz = false := by
              rw [List.all_eq_false]
              refine ⟨TL.tl y, ?_, by rw [hn]; exact Bool.false_ne_true⟩
              rcases List.mem_cons.mp hym with e | e
              · rw [e]; exact List.mem_cons_self
              · exact List.mem_cons_of_mem _ (List.mem_map_of_mem e)
            rw [this]
            rfl
          rw [← z]
          exact k _ (s04.trans s6)
        have form := nz_form (TL.tl y)
        refine ⟨_, rfl, rfl, _, rfl, ?_⟩
        rw [dec_str, str_empty]
        by_cases e0 : TL.tl y = []
        · rw [decide_eq_true e0]
          refine iteT ?_
          exact iteT (bad (by rw [form, decide_eq_true e0]; rfl) _ s5)
        rw [decide_eq_false e0] at form ⊢
        refine iteF ?_
        refine ⟨_, rfl, y, rfl, fun D nD => lc_it (walk_str (z := y)) (fun i' H'' => Same H' H'' ∧ H'' D = some (.lst ((((TL.tl y).take i').map fun c => decide (48 ≤ c) && decide (c ≤ 57)).map V.bl))) ⟨same_upd nD, by rw [upd_same, List.take_zero]; rfl⟩ (fun _ _ _ _ => trivial) ?_ ?_⟩
        · rintro i' v2 H'' H3' hi' ⟨s6, hD⟩ ⟨rfl, c, hc, rfl⟩
          have hc' : (TL.tl y)[i']? = some c := by
            show y.cps.toList[i']? = some c
            rw [Array.getElem?_toList]
            exact hc
          refine ⟨rfl, yes_of ?_⟩
          refine ⟨_, rfl, c, _, rfl, rfl, ?_⟩
          rw [sign_digit]
          have hlt : i' < (TL.tl y).length := (List.getElem?_eq_some_iff.mp hc').1
          refine ⟨_, hD, ?_, ?_, ?_⟩
          · rw [List.length_map, List.length_map, List.length_take]
            exact Nat.lt_of_le_of_lt (Nat.min_le_right _ _) (Nat.lt_of_le_of_lt (by rw [← TL.len_tl]; exact hyl) (by decide))
          · exact fun b o e => by rw [upd_ne (ne_of_none e nD)]; exact s6 _ _ e
          · rw [upd_same, List.take_succ, hc', List.map_append, List.map_append]
            rfl
        · rintro H'' ⟨s6, hD⟩
          have et : (TL.tl y).take y.cps.size = TL.tl y := List.take_of_length_le (by rw [← TL.len_tl]; exact Nat.le_refl _)
          rw [et] at hD
          refine ⟨D, _, rfl, .inl (.inl hD), _, rfl, ?_⟩
          rw [all_map]
          cases ea : (TL.tl y).all (fun c => decide (48 ≤ c) && decide (c ≤ 57)) with
          | false =>
            rw [ea] at form
            refine iteT ?_
            exact iteT (bad form _ (s5.trans s6))
          | true =>
            rw [ea] at form
            refine iteF ?_
            refine ⟨_, rfl, rfl, _, rfl, ?_⟩
            rw [dec_str, str_nought]
            by_cases e48 : TL.tl y = [48]
            · rw [decide_eq_true e48] at form ⊢
              refine iteF ?_
              refine iteF ?_
              refine ⟨⟨_, rfl⟩, s5.trans s6, fun j y' hj hy' => ?_⟩
              rcases Nat.lt_succ_iff_lt_or_eq.mp hj with hj | rfl
              · exact hprev j y' hj hy'
              · rw [hy] at hy'
                cases hy'
                exact form
            rw [decide_eq_false e48] at form ⊢
            refine iteT ?_
            obtain ⟨c0, r0, ec⟩ := List.exists_cons_of_ne_nil e0
            refine ⟨_, rfl, y, 0, c0, rfl, rfl, len_ok (Nat.le_trans hyl (by decide)), (by show atI (TL.tl y) 0 = some c0; rw [ec]; exact atI_nat (j := 0) rfl), rfl, _, rfl, ?_⟩
            have eh : decide (V.str (⟨#[c0]⟩ : Str) = V.str "0") = decide ((TL.tl y).head? = some 48) := by
              rw [dec_str, str_nought, ec]
              show decide ([c0] = [48]) = decide (some c0 = some 48)
              simp
            rw [eh]
            by_cases h48 : (TL.tl y).head? = some 48
            · rw [decide_eq_true h48] at form ⊢
              exact iteT (bad form _ (s5.trans s6))
            · rw [decide_eq_false h48] at form ⊢
              refine iteF ?_
              refine ⟨⟨_, rfl⟩, s5.trans s6, fun j y' hj hy' => ?_⟩
              rcases Nat.lt_succ_iff_lt_or_eq.mp hj with hj | rfl
              · exact hprev j y' hj hy'
              · rw [hy] at hy'
                cases hy'
                exact form
      · rintro σ H' ⟨⟨v3, rfl⟩, s5, hall⟩
        have all : ((TL.tl hd) :: r.map TL.tl).all nz = true := by
          rw [List.all_eq_true]
          intro p hp
          have : p ∈ (hd :: r).map TL.tl := hp
          obtain ⟨y, hy, rfl⟩ := List.mem_map.mp this
          obtain ⟨j, hj⟩ := List.mem_iff_getElem?.mp hy
          exact hall j y (by rw [List.length_map]; exact (List.getElem?_eq_some_iff.mp hj).1) hj
        rw [ehd, all, Bool.true_and, List.length_map] at hform
        have s05 := s04.trans s5
        have hpl5 := s5 _ _ hpl4
        refine ⟨_, rfl, pl, _, rfl, .inl (.inl (.inl hpl5)), _, _, rfl, rfl, _, rfl, ?_⟩
        have e2 : decide ((2 : Int) < (((y0 :: r).map V.str).length : Nat)) = decide (r.length > 1) := by
          rw [List.length_map, List.length_cons]
          exact decide_eq_decide.mpr ⟨fun h => by omega, fun h => by omega⟩
        rw [e2]
        by_cases g1 : r.length > 1
        · rw [decide_eq_true g1] at hform ⊢
          refine iteT ?_
          refine iteT ?_
          rw [show isText (TL.tl x) = false from hform] at k
          exact k _ s05
        rw [decide_eq_false g1, Bool.false_or] at hform
        rw [decide_eq_false g1]
        refine iteF ?_
        refine ⟨_, rfl, _, rfl, x, rfl, len_ok (by omega), rfl, _, rfl, ?_⟩
        have str2 : TL.tl ("-0" : Str) = [45, 48] := by decide +kernel
        have ec2 := tl_cut_to x 2
        have e3 : decide (V.str (cutS x none (some 2)) = V.str "-0") = decide ((TL.tl x).take 2 = [45, 48]) := by
          rw [dec_str, str2]
          exact congrArg (fun l => decide (l = [45, 48])) ec2
        rw [e3]
        by_cases g2 : (TL.tl x).take 2 = [45, 48]
        · rw [decide_eq_true g2] at hform ⊢
          refine iteT ?_
          rw [show isText (TL.tl x) = false from hform] at k
          exact k _ s05
        rw [decide_eq_false g2] at hform ⊢
        refine iteF ?_
        rw [Bool.not_false, Bool.true_and] at hform
        rw [hform] at k
        refine ⟨_, rfl, pl, _, rfl, .inl (.inl (.inl hpl5)), rfl, _, rfl, ?_⟩
        have dighd : dig (TL.tl hd) = true := nz_dig ((List.all_eq_true.mp all) _ List.mem_cons_self)
        match r, g1 with
        | [], _ => exact iteT (k _ s05)
        | b :: r2 :: r3, g1 => exact absurd (by rw [List.length_cons, List.length_cons]; omega) g1
        | [b], _ =>
          rw [show decide (V.int (([y0, b].map V.str).length : Nat) = V.int 1) = false by simp]
          refine iteF ?_
          have digb : dig (TL.tl b) = true := nz_dig ((List.all_eq_true.mp all) (TL.tl b) (List.mem_cons_of_mem _ List.mem_cons_self))
          have lb := lens b (List.mem_cons_of_mem _ List.mem_cons_self)
          have lh := lens hd List.mem_cons_self
          refine ⟨_, rfl, pl, _, 1, _, rfl, rfl, .inl (.inl hpl5), atI_nat (j := 1) rfl, b, _, rfl, int_dig digb (by omega), (by omega), _, _, rfl, rfl, _, rfl, ?_⟩
          have hm : moreT (TL.tl y0) ([b].map TL.tl) = (decide (1 < NumText.digitsVal (TL.tl b)) && decide (Nat.gcd (NumText.digitsVal (TL.tl hd)) (NumText.digitsVal (TL.tl b)) = 1)) := by
            rw [← ehd]
            rfl
          rw [hm] at k
          have e4 : decide ((1 : Int) < ((NumText.digitsVal (TL.tl b) : Nat) : Int)) = decide (1 < NumText.digitsVal (TL.tl b)) := decide_eq_decide.mpr ⟨fun h => by omega, fun h => by omega⟩
          rw [e4]
          cases g4 : decide (1 < NumText.digitsVal (TL.tl b)) with
          | false =>
            rw [g4] at k
            exact iteF (k _ s05)
          | true =>
            rw [g4, Bool.true_and] at k
            refine iteT ?_
            refine ⟨_, rfl, hd, _, rfl, int_dig dighd (by omega), (by omega), _, rfl, pl, _, 1, _, rfl, rfl, .inl (.inl hpl5), atI_nat (j := 1) rfl, b, _, rfl, int_dig digb (by omega), (by omega), _, _, rfl, rfl, ?_⟩
            have e5 : decide (V.int ((Int.gcd ((NumText.digitsVal (TL.tl hd) : Nat) : Int) ((NumText.digitsVal (TL.tl b) : Nat) : Int) : Nat) : Int) = V.int 1) = decide (Nat.gcd (NumText.digitsVal (TL.tl hd)) (NumText.digitsVal (TL.tl b)) = 1) := by
              rw [show Int.gcd ((NumText.digitsVal (TL.tl hd) : Nat) : Int) ((NumText.digitsVal (TL.tl b) : Nat) : Int) = Nat.gcd (NumText.digitsVal (TL.tl hd)) (NumText.digitsVal (TL.tl b)) from rfl, Bool.eq_iff_iff]
              simp only [decide_eq_true_eq, V.int.injEq]
              omega
            rw [e5]
            exact k _ s05
    · rw [decide_eq_false hm]
      refine iteF ?_
      refine ⟨_, rfl, pl, _, 0, _, rfl, rfl, .inl (.inl hpl), atI_nat (j := 0) rfl, ?_⟩
      generalize hq : V.str y0 = vq
      obtain ⟨hd, ehq, ehd, lens⟩ : ∃ hd, vq = V.str hd ∧ noSign (TL.tl y0) = TL.tl hd ∧ (∀ y ∈ hd :: r, y.length ≤ 63) := ⟨y0, hq.symm, by unfold noSign; rw [if_neg hm], lens0⟩
      subst ehq
      clear hq
      refine ⟨_, rfl, (by show 1 ≤ sizeLine; decide), fun l1 n1 => ?_⟩
      have s2 : Same H1 (upd H1 l1 (.lst [.str hd])) := same_upd n1
      have hl1 : (upd H1 l1 (.lst [.str hd])) l1 = some (.lst [.str hd]) := upd_same
      generalize upd H1 l1 (.lst [.str hd]) = H2 at s2 hl1 ⊢
      refine ⟨_, rfl, _, rfl, pl, _, rfl, .inl (.inl (s2 _ _ hpl)), fun l2 n2 => ?_⟩
      have ecv : cutV ((y0 :: r).map V.str) (some 1) none = r.map V.str := cutV_from1 _ _
      rw [ecv]
      have s3 : Same H2 (upd H2 l2 (.lst (r.map V.str))) := same_upd n2
      have hl2 : (upd H2 l2 (.lst (r.map V.str))) l2 = some (.lst (r.map V.str)) := upd_same
      generalize upd H2 l2 (.lst (r.map V.str)) = H3 at s3 hl2 ⊢
      refine ⟨l1, l2, [.str hd], r.map V.str, rfl, rfl, s3 _ _ hl1, hl2, (by rw [List.length_map]; exact len_ok (by show 1 + r.length ≤ 1000; omega)), fun l3 n3 => ?_⟩
      have s4 : Same H3 (upd H3 l3 (.lst ([V.str hd] ++ r.map V.str))) := same_upd n3
      have hl3 : (upd H3 l3 (.lst ([V.str hd] ++ r.map V.str))) l3 = some (.lst ([V.str hd] ++ r.map V.str)) := upd_same
      generalize upd H3 l3 (.lst ([V.str hd] ++ r.map V.str)) = H4 at s4 hl3 ⊢
      have s04 := ((s1.trans s2).trans s3).trans s4
      have hpl4 := (s3.trans s4) _ _ (s2 _ _ hpl)
      have ew : [V.str hd] ++ r.map V.str = (hd :: r).map V.str := rfl
      rw [ew] at hl3
      refine ⟨l3, rfl, ⟨_, .inl (.inl hl3)⟩, for_list (K := K) (a := l3) (xs := (hd :: r).map V.str) (fun i σ H' => (∃ v, σ = [some (.str x), some (.ref pl), some (.str hd), v, none]) ∧ Same H4 H' ∧ ∀ j y, j < i → (hd :: r)[j]? = some y → nz (TL.tl y) = true)
        ⟨⟨none, rfl⟩, Same.refl _, fun j y h => absurd h (Nat.not_lt_zero j)⟩ (fun i σ H' _ e => .inl (.inl (e.2.1 _ _ hl3))) ?_ ?_⟩
      · rintro i v σ H' hv ⟨⟨v3, rfl⟩, s5, hprev⟩
        rw [List.getElem?_map] at hv
        obtain ⟨y, hy, rfl⟩ := Option.map_eq_some_iff.mp hv
        have hym : y ∈ hd :: r := List.mem_of_getElem? hy
        have hyl := lens y hym
        have bad : nz (TL.tl y) = false → ∀ H'', Same H4 H'' → Q (.bl false) H'' := fun hn H'' s6 => by
          have z : isText (TL.tl x) = false := by
            rw [hform, ehd]
            have : ((TL.tl hd) :: r.map TL.tl).all nz = false := by
              rw [List.all_eq_false]
              refine ⟨TL.tl y, ?_, by rw [hn]; exact Bool.false_ne_true⟩
              rcases List.mem_cons.mp hym with e | e
              · rw [e]; exact List.mem_cons_self
              · exact List.mem_cons_of_mem _ (List.mem_map_of_mem e)
            rw [this]
            rfl
          rw [← z]
          exact k _ (s04.trans s6)
        have form := nz_form (TL.tl y)
        refine ⟨_, rfl, rfl, _, rfl, ?_⟩
        rw [dec_str, str_empty]
        by_cases e0 : TL.tl y = []
        · rw [decide_eq_true e0]
          refine iteT ?_
          exact iteT (bad (by rw [form, decide_eq_true e0]; rfl) _ s5)
        rw [decide_eq_false e0] at form ⊢
        refine iteF ?_
        refine ⟨_, rfl, y, rfl, fun D nD => lc_it (walk_str (z := y)) (fun i' H'' => Same H' H'' ∧ H'' D = some (.lst ((((TL.tl y).take i').map fun c => decide (48 ≤ c) && decide (c ≤ 57)).map V.bl))) ⟨same_upd nD, by rw [upd_same, List.take_zero]; rfl⟩ (fun _ _ _ _ => trivial) ?_ ?_⟩
        · rintro i' v2 H'' H3' hi' ⟨s6, hD⟩ ⟨rfl, c, hc, rfl⟩
          have hc' : (TL.tl y)[i']? = some c := by
            show y.cps.toList[i']? = some c
            rw [Array.getElem?_toList]
            exact hc
          refine ⟨rfl, yes_of ?_⟩
          refine ⟨_, rfl, c, _, rfl, rfl, ?_⟩
          rw [sign_digit]
          have hlt : i' < (TL.tl y).length := (List.getElem?_eq_some_iff.mp hc').1
          refine ⟨_, hD, ?_, ?_, ?_⟩
          · rw [List.length_map, List.length_map, List.length_take]
            exact Nat.lt_of_le_of_lt (Nat.min_le_right _ _) (Nat.lt_of_le_of_lt (by rw [← TL.len_tl]; exact hyl) (by decide))
          · exact fun b o e => by rw [upd_ne (ne_of_none e nD)]; exact s6 _ _ e
          · rw [upd_same, List.take_succ, hc', List.map_append, List.map_append]
            rfl
        · rintro H'' ⟨s6, hD⟩
          have et : (TL.tl y).take y.cps.size = TL.tl y := List.take_of_length_le (by rw [← TL.len_tl]; exact Nat.le_refl _)
          rw [et] at hD
          refine ⟨D, _, rfl, .inl (.inl hD), _, rfl, ?_⟩
          rw [all_map]
          cases ea : (TL.tl y).all (fun c => decide (48 ≤ c) && decide (c ≤ 57)) with
          | false =>
            rw [ea] at form
            refine iteT ?_
            exact iteT (bad form _ (s5.trans s6))
          | true =>
            rw [ea] at form
            refine iteF ?_
            refine ⟨_, rfl, rfl, _, rfl, ?_⟩
            rw [dec_str, str_nought]
            by_cases e48 : TL.tl y = [48]
            · rw [decide_eq_true e48] at form ⊢
              refine iteF ?_
              refine iteF ?_
              refine ⟨⟨_, rfl⟩, s5.trans s6, fun j y' hj hy' => ?_⟩
              rcases Nat.lt_succ_iff_lt_or_eq.mp hj with hj | rfl
              · exact hprev j y' hj hy'
              · rw [hy] at hy'
                cases hy'
                exact form
            rw [decide_eq_false e48] at form ⊢
            refine iteT ?_
            obtain ⟨c0, r0, ec⟩ := List.exists_cons_of_ne_nil e0
            refine ⟨_, rfl, y, 0, c0, rfl, rfl, len_ok (Nat.le_trans hyl (by decide)), (by show atI (TL.tl y) 0 = some c0; rw [ec]; exact atI_nat (j := 0) rfl), rfl, _, rfl, ?_⟩
            have eh : decide (V.str (⟨#[c0]⟩ : Str) = V.str "0") = decide ((TL.tl y).head? = some 48) := by
              rw [dec_str, str_nought, ec]
              show decide ([c0] = [48]) = decide (some c0 = some 48)
              simp
            rw [eh]
            by_cases h48 : (TL.tl y).head? = some 48
            · rw [decide_eq_true h48] at form ⊢
              exact iteT (bad form _ (s5.trans s6))
            · rw [decide_eq_false h48] at form ⊢
              refine iteF ?_
              refine ⟨⟨_, rfl⟩, s5.trans s6, fun j y' hj hy' => ?_⟩
              rcases Nat.lt_succ_iff_lt_or_eq.mp hj with hj | rfl
              · exact hprev j y' hj hy'
              · rw [hy] at hy'
                cases hy'
                exact form
      · rintro σ H' ⟨⟨v3, rfl⟩, s5, hall⟩
        have all : ((TL.tl hd) :: r.map TL.tl).all nz = true := by
          rw [List.all_eq_true]
          intro p hp
          have : p ∈ (hd :: r).map TL.tl := hp
          obtain ⟨y, hy, rfl⟩ := List.mem_map.mp this
          obtain ⟨j, hj⟩ := List.mem_iff_getElem?.mp hy
          exact hall j y (by rw [List.length_map]; exact (List.getElem?_eq_some_iff.mp hj).1) hj
        rw [ehd, all, Bool.true_and, List.length_map] at hform
        have s05 := s04.trans s5
        have hpl5 := s5 _ _ hpl4
        refine ⟨_, rfl, pl, _, rfl, .inl (.inl (.inl hpl5)), _, _, rfl, rfl, _, rfl, ?_⟩
        have e2 : decide ((2 : Int) < (((y0 :: r).map V.str).length : Nat)) = decide (r.length > 1) := by
          rw [List.length_map, List.length_cons]
          exact decide_eq_decide.mpr ⟨fun h => by omega, fun h => by omega⟩
        rw [e2]
        by_cases g1 : r.length > 1
        · rw [decide_eq_true g1] at hform ⊢
          refine iteT ?_
          refine iteT ?_
          rw [show isText (TL.tl x) = false from hform] at k
          exact k _ s05
        rw [decide_eq_false g1, Bool.false_or] at hform
        rw [decide_eq_false g1]
        refine iteF ?_
        refine ⟨_, rfl, _, rfl, x, rfl, len_ok (by omega), rfl, _, rfl, ?_⟩
        have str2 : TL.tl ("-0" : Str) = [45, 48] := by decide +kernel
        have ec2 := tl_cut_to x 2
        have e3 : decide (V.str (cutS x none (some 2)) = V.str "-0") = decide ((TL.tl x).take 2 = [45, 48]) := by
          rw [dec_str, str2]
          exact congrArg (fun l => decide (l = [45, 48])) ec2
        rw [e3]
        by_cases g2 : (TL.tl x).take 2 = [45, 48]
        · rw [decide_eq_true g2] at hform ⊢
          refine iteT ?_
          rw [show isText (TL.tl x) = false from hform] at k
          exact k _ s05
        rw [decide_eq_false g2] at hform ⊢
        refine iteF ?_
        rw [Bool.not_false, Bool.true_and] at hform
        rw [hform] at k
        refine ⟨_, rfl, pl, _, rfl, .inl (.inl (.inl hpl5)), rfl, _, rfl, ?_⟩
        have dighd : dig (TL.tl hd) = true := nz_dig ((List.all_eq_true.mp all) _ List.mem_cons_self)
        match r, g1 with
        | [], _ => exact iteT (k _ s05)
        | b :: r2 :: r3, g1 => exact absurd (by rw [List.length_cons, List.length_cons]; omega) g1
        | [b], _ =>
          rw [show decide (V.int (([y0, b].map V.str).length : Nat) = V.int 1) = false by simp]
          refine iteF ?_
          have digb : dig (TL.tl b) = true := nz_dig ((List.all_eq_true.mp all) (TL.tl b) (List.mem_cons_of_mem _ List.mem_cons_self))
          have lb := lens b (List.mem_cons_of_mem _ List.mem_cons_self)
          have lh := lens hd List.mem_cons_self
          refine ⟨_, rfl, pl, _, 1, _, rfl, rfl, .inl (.inl hpl5), atI_nat (j := 1) rfl, b, _, rfl, int_dig digb (by omega), (by omega), _, _, rfl, rfl, _, rfl, ?_⟩
          have hm : moreT (TL.tl y0) ([b].map TL.tl) = (decide (1 < NumText.digitsVal (TL.tl b)) && decide (Nat.gcd (NumText.digitsVal (TL.tl hd)) (NumText.digitsVal (TL.tl b)) = 1)) := by
            rw [← ehd]
            rfl
          rw [hm] at k
          have e4 : decide ((1 : Int) < ((NumText.digitsVal (TL.tl b) : Nat) : Int)) = decide (1 < NumText.digitsVal (TL.tl b)) := decide_eq_decide.mpr ⟨fun h => by omega, fun h => by omega⟩
          rw [e4]
          cases g4 : decide (1 < NumText.digitsVal (TL.tl b)) with
          | false =>
            rw [g4] at k
            exact iteF (k _ s05)
          | true =>
            rw [g4, Bool.true_and] at k
            refine iteT ?_
            refine ⟨_, rfl, hd, _, rfl, int_dig dighd (by omega), (by omega), _, rfl, pl, _, 1, _, rfl, rfl, .inl (.inl hpl5), atI_nat (j := 1) rfl, b, _, rfl, int_dig digb (by omega), (by omega), _, _, rfl, rfl, ?_⟩
            have e5 : decide (V.int ((Int.gcd ((NumText.digitsVal (TL.tl hd) : Nat) : Int) ((NumText.digitsVal (TL.tl b) : Nat) : Int) : Nat) : Int) = V.int 1) = decide (Nat.gcd (NumText.digitsVal (TL.tl hd)) (NumText.digitsVal (TL.tl b)) = 1) := by
              rw [show Int.gcd ((NumText.digitsVal (TL.tl hd) : Nat) : Int) ((NumText.digitsVal (TL.tl b) : Nat) : Int) = Nat.gcd (NumText.digitsVal (TL.tl hd)) (NumText.digitsVal (TL.tl b)) from rfl, Bool.eq_iff_iff]
              simp only [decide_eq_true_eq, V.int.injEq]
              omega
            rw [e5]
            exact k _ s05
end



/-! ### pairs as data; what the operators give, told by both kinds of operands -/
def dp (p : Int × Int) : PyData := .tuple [.int p.1, .int p.2]
theorem dpPair {K : PySem.W.Frag} {H : Hp} {t : Addr} {p : Int × Int} (h : PairAt H t p) : Dp K H (.ref t) (dp p) := .tup (.inl (.inl h)) (.cons (.int _) (.cons (.int _) .nil))
theorem dp_shaped (p : Int × Int) : SeqAt.shaped (dp p) = true := rfl
theorem eqv_self {d : PyData} (h : SeqAt.shaped d = true) : PyData.eqv d d = true := SeqAt.eqv_refl d (SeqAt.canLay_of_shaped h)
theorem sqT_same {K : PySem.W.Frag} {H H' : Hp} {a : Addr} {xs : List V} (e : Same H H') (h : SqT K H a xs) : SqT K H' a xs := by
  rcases h with (h | ⟨o, h⟩) | h
  · exact .inl (.inl (e _ _ h))
  · exact .inl (.inr ⟨o, e _ _ h⟩)
  · exact .inr h
mutual
theorem dp_same {K : PySem.W.Frag} {H H' : Hp} (e : Same H H') : ∀ {v : V} {d : PyData}, Dp K H v d → Dp K H' v d
  | _, _, .non => .non
  | _, _, .bl b => .bl b
  | _, _, .int i => .int i
  | _, _, .str s => .str s
  | _, _, .lst h d => .lst (e.seq h) (dpAll_same e d)
  | _, _, .tup h d => .tup (sqT_same e h) (dpAll_same e d)
theorem dpAll_same {K : PySem.W.Frag} {H H' : Hp} (e : Same H H') : ∀ {vs : List V} {ds : List PyData}, DpAll K H vs ds → DpAll K H' vs ds
  | _, _, .nil => .nil
  | _, _, .cons h t => .cons (dp_same e h) (dpAll_same e t)
end
theorem dpAll_snoc {K : PySem.W.Frag} {H : Hp} : ∀ {vs : List V} {ds : List PyData} {v : V} {d : PyData}, DpAll K H vs ds → Dp K H v d → DpAll K H (vs ++ [v]) (ds ++ [d])
  | _, _, _, _, .nil, h => .cons h .nil
  | _, _, _, _, .cons a t, h => .cons a (dpAll_snoc t h)
theorem dpAll_len {K : PySem.W.Frag} {H : Hp} : ∀ {vs : List V} {ds : List PyData}, DpAll K H vs ds → vs.length = ds.length
  | _, _, .nil => rfl
  | _, _, .cons _ t => congrArg (· + 1) (dpAll_len t)



/-! ### _law_same of two things alike, any depth -/
inductive Tw (H : Hp) : Nat → V → V → Prop
  | non {n : Nat} : Tw H n .non .non
  | bl {n : Nat} (b : Bool) : Tw H n (.bl b) (.bl b)
  | int {n : Nat} (i : Int) : Tw H n (.int i) (.int i)
  | str {n : Nat} (s : Str) : Tw H n (.str s) (.str s)
  | dk {n : Nat} {a : Addr} {kvs : List (Key × V)} (h : H a = some (.dK kvs)) (nd : (kvs.map (·.1)).Nodup) (fl : ∀ p ∈ kvs, flatB p.2 = true) : Tw H n (.ref a) (.ref a)
  | lst {n : Nat} {a b : Addr} {xs ys : List V} (h : H a = some (.lst xs)) (g : H b = some (.lst ys)) (z : xs.length ≤ 1000) (l : xs.length = ys.length) (d : ∀ (i : Nat) (x y : V), xs[i]? = some x → ys[i]? = some y → Tw H n x y) : Tw H (n + 1) (.ref a) (.ref b)
  | tup {n : Nat} {a b : Addr} {xs ys : List V} (h : H a = some (.tup xs)) (g : H b = some (.tup ys)) (z : xs.length ≤ 1000) (l : xs.length = ys.length) (d : ∀ (i : Nat) (x y : V), xs[i]? = some x → ys[i]? = some y → Tw H n x y) : Tw H (n + 1) (.ref a) (.ref b)
theorem Tw.same {H H' : Hp} (e : Same H H') : ∀ {n : Nat} {v u : V}, Tw H n v u → Tw H' n v u
  | _, _, _, .non => .non
  | _, _, _, .bl b => .bl b
  | _, _, _, .int i => .int i
  | _, _, _, .str s => .str s
  | _, _, _, .dk h nd fl => .dk (e _ _ h) nd fl
  | _, _, _, .lst h g z l d => .lst (e _ _ h) (e _ _ g) z l fun i x y a b => (d i x y a b).same e
  | _, _, _, .tup h g z l d => .tup (e _ _ h) (e _ _ g) z l fun i x y a b => (d i x y a b).same e
inductive Kd where
  | non | bl | int | str | dk | lst | tup
def Kd.ty : Kd → Value
  | .non => .type "NoneType"
  | .bl => .type "bool"
  | .int => .type "int"
  | .str => .type "str"
  | .dk => .type "dict"
  | .lst => .type "list"
  | .tup => .type "tuple"
def Kd.isL : Kd → Bool
  | .lst => true
  | _ => false
def Kd.isT : Kd → Bool
  | .tup => true
  | _ => false
def Kd.isI : Kd → Bool
  | .int => true
  | .bl => true
  | _ => false
def Kd.isB : Kd → Bool
  | .bl => true
  | _ => false
section
variable {K : PySem.W.Frag} (d : Kd)
theorem kdL : PySem.W.kitOne K d.ty (.type "list") = some d.isL := by
  cases d <;> first | exact kit_ty (r := true) (by decide +kernel) | exact kit_ty (r := false) (by decide +kernel)
theorem kdT : PySem.W.kitOne K d.ty (.type "tuple") = some d.isT := by
  cases d <;> first | exact kit_ty (r := true) (by decide +kernel) | exact kit_ty (r := false) (by decide +kernel)
theorem kdI : PySem.W.kitOne K d.ty (.type "int") = some d.isI := by
  cases d <;> first | exact kit_ty (r := true) (by decide +kernel) | exact kit_ty (r := false) (by decide +kernel)
theorem kdB : PySem.W.kitOne K d.ty (.type "bool") = some d.isB := by
  cases d <;> first | exact kit_ty (r := true) (by decide +kernel) | exact kit_ty (r := false) (by decide +kernel)
theorem kdLT : PySem.W.kitAny K d.ty [.type "list", .type "tuple"] = some (d.isL || d.isT) := by
  refine kitAny_cons (kdL d) (fun e => ?_) (fun e => by rw [e]; rfl)
  refine kitAny_cons (kdT d) (fun e' => ?_) (fun e' => by rw [e', Bool.or_true])
  rw [e, e']
  exact kitAny_nil
theorem kdBILT : PySem.W.kitAny K d.ty [.type "bool", .type "int", .type "list", .type "tuple"] = some (d.isB || d.isI || d.isL || d.isT) := by
  refine kitAny_cons (kdB d) (fun e => ?_) (fun e => by rw [e]; rfl)
  refine kitAny_cons (kdI d) (fun e2 => ?_) (fun e2 => by rw [e2, Bool.or_true]; rfl)
  rw [kdLT d, e, e2]
  rfl
end
def rDict : R2 := fun x y H Q => ∃ a b kvs, x = .ref a ∧ y = .ref b ∧ H a = some (.dK kvs) ∧ H b = some (.dK kvs) ∧ (kvs.map (·.1)).Nodup ∧ (∀ p ∈ kvs, flatB p.2 = true) ∧ Q (.bl true) H
/-- two things of a kind: what is asked of them -/
structure KdAt (K : PySem.W.Frag) (H : Hp) (n : Nat) (v u : V) (d : Kd) : Prop where
  tv : ∀ H', Same H H' → TyX K H' v d.ty
  tu : ∀ H', Same H H' → TyX K H' u d.ty
  seq : d.isL = true ∨ d.isT = true → ∃ a b xs ys m, v = .ref a ∧ u = .ref b ∧ n = m + 1 ∧ xs.length ≤ 1000 ∧ xs.length = ys.length ∧ (∀ (i : Nat) (x y : V), xs[i]? = some x → ys[i]? = some y → Tw H m x y) ∧ (H a = some (.lst xs) ∧ H b = some (.lst ys) ∨ H a = some (.tup xs) ∧ H b = some (.tup ys))
  eq : d.isL = false → d.isT = false → ∀ H' Q, Same H H' → Q (.bl true) H' → rEq v u H' Q ∨ rDict v u H' Q
theorem Tw.kd {K : PySem.W.Frag} {H : Hp} {n : Nat} {v u : V} (h : Tw H n v u) : ∃ d, KdAt K H n v u d := by
  have sc : ∀ (u : V), scal u u = true → ∀ (H' : Hp) (Q : VK), Same H H' → Q (.bl true) H' → rEq u u H' Q ∨ rDict u u H' Q := fun u e H' Q _ q => .inl ⟨e, by rw [decide_eq_true rfl]; exact q⟩
  cases h with
  | non => exact ⟨.non, fun _ _ => .base .non, fun _ _ => .base .non, fun z => (by rcases z with z | z <;> cases z), fun _ _ => sc .non rfl⟩
  | bl b => exact ⟨.bl, fun _ _ => .base (.bl b), fun _ _ => .base (.bl b), fun z => (by rcases z with z | z <;> cases z), fun _ _ => sc (.bl b) rfl⟩
  | int i => exact ⟨.int, fun _ _ => .base (.int i), fun _ _ => .base (.int i), fun z => (by rcases z with z | z <;> cases z), fun _ _ => sc (.int i) rfl⟩
  | str s => exact ⟨.str, fun _ _ => .base (.str s), fun _ _ => .base (.str s), fun z => (by rcases z with z | z <;> cases z), fun _ _ => sc (.str s) rfl⟩
  | dk h nd fl => exact ⟨.dk, fun _ s => .base (.dK (s _ _ h)), fun _ s => .base (.dK (s _ _ h)), fun z => (by rcases z with z | z <;> cases z), fun _ _ H' Q s q => .inr ⟨_, _, _, rfl, rfl, s _ _ h, s _ _ h, nd, fl, q⟩⟩
  | lst h g z l d => exact ⟨.lst, fun _ s => .base (.lst (s _ _ h)), fun _ s => .base (.lst (s _ _ g)), fun _ => ⟨_, _, _, _, _, rfl, rfl, rfl, z, l, d, .inl ⟨h, g⟩⟩, fun e => (by cases e)⟩
  | tup h g z l d => exact ⟨.tup, fun _ s => .base (.tup (s _ _ h)), fun _ s => .base (.tup (s _ _ g)), fun _ => ⟨_, _, _, _, _, rfl, rfl, rfl, z, l, d, .inr ⟨h, g⟩⟩, fun _ e => (by cases e)⟩
def spSlf (n : Nat) : Sp := fun vs H Q _ => ∃ v u, vs = [v, u] ∧ Tw H n v u ∧ ∀ H', Same H H' → Q (.bl true) H'
def spSlfR : Nat → Sp
  | 0 => fun _ _ _ _ => False
  | n + 1 => spSlf n
theorem fn_none {P : Program} {w : World} {K : PySem.W.Frag} {mg : Str → Option Value} {base : Heap} {CX : CXT} {k : Nat} {f : Addr} {fd : FuncData} {ps : List Str} : FnOk P w K mg base CX k f fd ps (fun _ _ _ _ => False) :=
  ⟨fun _ _ _ _ h => h.elim, fun _ _ _ _ _ _ _ _ _ _ _ _ _ h => h.elim⟩
theorem all_yes : ∀ n : Nat, (List.replicate n true).all id = true
  | 0 => rfl
  | n + 1 => by rw [List.replicate_succ]; exact all_yes n
theorem yes_snoc (n : Nat) : (List.replicate n true).map V.bl ++ [V.bl true] = (List.replicate (n + 1) true).map V.bl := by
  rw [List.replicate_succ', List.map_append]
  rfl
section
variable {P : Program} {w : World} {K : PySem.W.Frag} {mg : Str → Option Value} {base : Heap}
theorem ok_law_same (T : Tx K mg) : ∀ n : Nat, FnOk P w K mg base CX0 (1 + n) T.law_same_a T.law_same_d ["_law_found", "_law_due"] (spSlf n) := by
  intro n
  have REC : FnOk P w K mg base CX0 (0 + n) T.law_same_a T.law_same_d ["_law_found", "_law_due"] (spSlfR n) := by
    cases n with
    | zero => exact fn_none
    | succ n => exact (ok_law_same T n).mono (by omega)
  refine (T.law_same_F.ok (k := 0 + n) sc_law_same (fun vs H Q E h => ?_) (fun cdv A outer s H vs Q E hr h => ?_)).mono (by omega)
  · obtain ⟨v, u, rfl, _⟩ := h
    rfl
  · obtain ⟨v, u, rfl, hv, k⟩ := h
    have hrR := hr
    replace hr := hr.mono (Nat.le_add_right _ _)
    refine ⟨_, (pss_cons (ps_if (pt_val (pe_callB call_isiT (by rfl) T.z_isinstance (by decide +kernel) (pa_cons (pv 1) (pa_cons (pe_tup (pa_cons (pe_bltn (v := .ty "list") (by rfl) T.z_list (by decide +kernel) rfl) (pa_cons (pe_bltn (v := .ty "tuple") (by rfl) T.z_tuple (by decide +kernel) rfl) pa_nil))) pa_nil))))
  (pss_cons (ps_if (PW.pt (pw_or (pt_cmpR op_ne (pe_callB call_isi (by rfl) T.z_isinstance (by decide +kernel) (pa_cons (pv 0) (pa_cons (pe_bltn (v := .ty "list") (by rfl) T.z_list (by decide +kernel) rfl) pa_nil))) (pe_callB call_isi (by rfl) T.z_isinstance (by decide +kernel) (pa_cons (pv 1) (pa_cons (pe_bltn (v := .ty "list") (by rfl) T.z_list (by decide +kernel) rfl) pa_nil))) (nomark _)) (pw_or1 (pt_cmpR op_ne (pe_callB call_isi (by rfl) T.z_isinstance (by decide +kernel) (pa_cons (pv 0) (pa_cons (pe_bltn (v := .ty "tuple") (by rfl) T.z_tuple (by decide +kernel) rfl) pa_nil))) (pe_callB call_isi (by rfl) T.z_isinstance (by decide +kernel) (pa_cons (pv 1) (pa_cons (pe_bltn (v := .ty "tuple") (by rfl) T.z_tuple (by decide +kernel) rfl) pa_nil))) (nomark _)))))
  (pss_one (ps_ret pe_bl))
  pss_nil)
  (pss_one (ps_ret (pe_and (pe_cmpR op_eq (pe_callB (call_len_seq) (by rfl) T.z_len (by decide +kernel) (pa_cons (pv 0) pa_nil)) (pe_callB (call_len_seq) (by rfl) T.z_len (by decide +kernel) (pa_cons (pv 1) pa_nil)) (nomark _)) (pe_one (pe_callB (cr_all rfl) (by rfl) T.z_all (by decide +kernel) (pa_cons (pe_lc (g := gTup K 2 (gCons (gName 2) (gCons (gName 3) gNil))) (tt := tYes) (own := [("_law_a", 2), ("_law_b", 3)]) rfl sc_law_same.nd (RZ.pi_zipA (by rfl) T.z_zip (pa_cons (pv 0) (pa_cons (pv 1) pa_nil))) (blkOk_by (own := [("_law_a", 2), ("_law_b", 3)]) (N := ["_law_found", "_law_due", "_law_a", "_law_b"]) (sc := defScope s_law_same) (by decide +kernel))
   (fun _ _ _ _ _ => pg_tup (by rfl) (pgs_cons (pg_name (i := 2) sc_law_same.nd rfl (Or.inl rfl)) (pgs_cons (pg_name (i := 3) sc_law_same.nd rfl (Or.inl rfl)) pgs_nil))) (fun _ _ _ _ _ => pts_nil) (fun _ _ _ _ _ => (pe_call REC hrR rfl T.law_same_m T.law_same_F.kp T.law_same_b .nil pass0 (pa_cons (pv 2) (pa_cons (pv 3) pa_nil))))) pa_nil)))))))
  pss_nil)
  (pss_cons (ps_if (pt_val (pe_callB call_isi (by rfl) T.z_isinstance (by decide +kernel) (pa_cons (pv 1) (pa_cons (pe_bltn (v := .ty "int") (by rfl) T.z_int (by decide +kernel) rfl) pa_nil))))
  (pss_one (ps_ret (pe_and (pe_callB call_isi (by rfl) T.z_isinstance (by decide +kernel) (pa_cons (pv 0) (pa_cons (pe_bltn (v := .ty "int") (by rfl) T.z_int (by decide +kernel) rfl) pa_nil))) (pe_and (pe_cmpR op_eq (pe_callB call_isi (by rfl) T.z_isinstance (by decide +kernel) (pa_cons (pv 0) (pa_cons (pe_bltn (v := .ty "bool") (by rfl) T.z_bool (by decide +kernel) rfl) pa_nil))) (pe_callB call_isi (by rfl) T.z_isinstance (by decide +kernel) (pa_cons (pv 1) (pa_cons (pe_bltn (v := .ty "bool") (by rfl) T.z_bool (by decide +kernel) rfl) pa_nil))) (nomark _)) (pe_one (pe_cmpR (op_eq.or (op_eq_dict (Nat.lt_of_le_of_lt (Nat.le_add_right _ _) hr.units))) (pv 0) (pv 1) (nomark _)))))))
  pss_nil)
  (pss_one (ps_ret (pe_and (pe_cmpR op_isBl (pe_callB call_isiT (by rfl) T.z_isinstance (by decide +kernel) (pa_cons (pv 0) (pa_cons (pe_tup (pa_cons (pe_bltn (v := .ty "bool") (by rfl) T.z_bool (by decide +kernel) rfl) (pa_cons (pe_bltn (v := .ty "int") (by rfl) T.z_int (by decide +kernel) rfl) (pa_cons (pe_bltn (v := .ty "list") (by rfl) T.z_list (by decide +kernel) rfl) (pa_cons (pe_bltn (v := .ty "tuple") (by rfl) T.z_tuple (by decide +kernel) rfl) pa_nil))))) pa_nil))) pe_bl (nomark _)) (pe_one (pe_cmpR (op_eq.or (op_eq_dict (Nat.lt_of_le_of_lt (Nat.le_add_right _ _) hr.units))) (pv 0) (pv 1) (nomark _)))))))), ?_⟩
    refine ⟨_, rfl, (by show 2 ≤ sizeLine; decide), fun t nt => ?_⟩
    have s1 := same_upd (o := .tup [.ty "list", .ty "tuple"]) nt
    obtain ⟨d, D⟩ := hv.kd (K := K)
    refine ⟨_, _, _, _, _, _, rfl, upd_same, .cons (.ty "list") (.cons (.ty "tuple") .nil), D.tu _ s1, kdLT d, _, rfl, ?_⟩
    generalize upd H t (HO.tup [V.ty "list", V.ty "tuple"]) = H1 at s1 ⊢
    by_cases hs : d.isL = true ∨ d.isT = true
    · have hb : (d.isL || d.isT) = true := by rcases hs with e | e <;> simp [e]
      rw [hb]
      refine iteT ?_
      refine ⟨_, rfl, _, _, _, _, _, rfl, .ty "list", D.tv _ s1, kdL d, _, rfl, _, _, _, _, _, rfl, .ty "list", D.tu _ s1, kdL d, rfl, _, rfl, ?_⟩
      rw [decide_eq_true rfl]
      refine iteF ?_
      refine ⟨_, rfl, _, _, _, _, _, rfl, .ty "tuple", D.tv _ s1, kdT d, _, rfl, _, _, _, _, _, rfl, .ty "tuple", D.tu _ s1, kdT d, rfl, _, rfl, ?_⟩
      rw [decide_eq_true rfl]
      refine iteF ?_
      obtain ⟨a, b, xs, ys, m, rfl, rfl, rfl, zx, lxy, dv, hk⟩ := D.seq hs
      rcases hk with ⟨ha, hb⟩ | ⟨ha, hb⟩
      · have ha1 := s1 _ _ ha
        have hb1 := s1 _ _ hb
        refine ⟨_, rfl, a, xs, rfl, .inl (.inl (.inl ha1)), _, rfl, b, ys, rfl, .inl (.inl (.inl hb1)), rfl, _, rfl, ?_⟩
        rw [decide_eq_true (congrArg (fun n : Nat => V.int (n : Int)) lxy)]
        refine iteT ?_
        refine ⟨_, rfl, _, rfl, a, b, xs, ys, rfl, .inl ⟨.inl (.inl ha1), .inl (.inl hb1), fun D nD => lc_it (walk_zip (K := K) (a := a) (b := b) (xs := xs) (ys := ys) rfl) (fun i H2 => Same H H2 ∧ Same H1 H2 ∧ H2 D = some (.lst ((List.replicate i true).map V.bl))) ⟨s1.trans (same_upd nD), same_upd nD, upd_same⟩ (fun i H2 _ e => ⟨.inl (.inl (e.2.1 _ _ ha1)), .inl (.inl (e.2.1 _ _ hb1))⟩) ?_ ?_⟩⟩
        · rintro i x H2 H3 hi ⟨e1, e2, eD⟩ ⟨Tp, x1, y1, rfl, nT, rfl, hx1, hy1⟩
          refine ⟨Tp, _, rfl, .inl (.inl upd_same), rfl, _, _, rfl, _, _, rfl, rfl, rfl, yes_of ?_⟩
          have e3 := e1.trans (same_upd (o := .tup [x1, y1]) nT)
          refine ⟨_, rfl, _, rfl, ?_⟩
          refine ⟨_, _, rfl, (dv i x1 y1 hx1 hy1).same e3, fun H4 e4 => ⟨_, e4 D _ (by rw [upd_ne (ne_of_none eD nT)]; exact eD), ?_, ?_⟩⟩
          · rw [List.length_map, List.length_replicate]
            exact small1000 (by omega)
          · have nDH : H D = none := s1.free nD
            exact ⟨fun c o e => by rw [upd_ne (ne_of_none e nDH)]; exact e4 _ _ (e3 _ _ e), fun c o e => by rw [upd_ne (ne_of_none e nD)]; exact e4 _ _ (same_upd nT _ _ (e2 _ _ e)), by rw [upd_same, yes_snoc]⟩
        · rintro H2 ⟨e1, e2, eD⟩
          refine ⟨D, _, rfl, .inl (.inl eD), ?_⟩
          rw [all_yes]
          exact k _ e1
      · have ha1 := s1 _ _ ha
        have hb1 := s1 _ _ hb
        refine ⟨_, rfl, a, xs, rfl, .inr (.inl (.inl ha1)), _, rfl, b, ys, rfl, .inr (.inl (.inl hb1)), rfl, _, rfl, ?_⟩
        rw [decide_eq_true (congrArg (fun n : Nat => V.int (n : Int)) lxy)]
        refine iteT ?_
        refine ⟨_, rfl, _, rfl, a, b, xs, ys, rfl, .inr ⟨.inl (.inl ha1), .inl (.inl hb1), fun D nD => lc_it (walk_zipT (K := K) (a := a) (b := b) (xs := xs) (ys := ys) rfl) (fun i H2 => Same H H2 ∧ Same H1 H2 ∧ H2 D = some (.lst ((List.replicate i true).map V.bl))) ⟨s1.trans (same_upd nD), same_upd nD, upd_same⟩ (fun i H2 _ e => ⟨.inl (.inl (e.2.1 _ _ ha1)), .inl (.inl (e.2.1 _ _ hb1))⟩) ?_ ?_⟩⟩
        · rintro i x H2 H3 hi ⟨e1, e2, eD⟩ ⟨Tp, x1, y1, rfl, nT, rfl, hx1, hy1⟩
          refine ⟨Tp, _, rfl, .inl (.inl upd_same), rfl, _, _, rfl, _, _, rfl, rfl, rfl, yes_of ?_⟩
          have e3 := e1.trans (same_upd (o := .tup [x1, y1]) nT)
          refine ⟨_, rfl, _, rfl, ?_⟩
          refine ⟨_, _, rfl, (dv i x1 y1 hx1 hy1).same e3, fun H4 e4 => ⟨_, e4 D _ (by rw [upd_ne (ne_of_none eD nT)]; exact eD), ?_, ?_⟩⟩
          · rw [List.length_map, List.length_replicate]
            exact small1000 (by omega)
          · have nDH : H D = none := s1.free nD
            exact ⟨fun c o e => by rw [upd_ne (ne_of_none e nDH)]; exact e4 _ _ (e3 _ _ e), fun c o e => by rw [upd_ne (ne_of_none e nD)]; exact e4 _ _ (same_upd nT _ _ (e2 _ _ e)), by rw [upd_same, yes_snoc]⟩
        · rintro H2 ⟨e1, e2, eD⟩
          refine ⟨D, _, rfl, .inl (.inl eD), ?_⟩
          rw [all_yes]
          exact k _ e1
    · have e1 : d.isL = false := by
        cases e : d.isL with
        | false => rfl
        | true => exact absurd (.inl e) hs
      have e2 : d.isT = false := by
        cases e : d.isT with
        | false => rfl
        | true => exact absurd (.inr e) hs
      rw [e1, e2]
      refine iteF ?_
      refine ⟨_, rfl, _, _, _, _, _, rfl, .ty "int", D.tu _ s1, kdI d, _, rfl, ?_⟩
      cases hi : d.isI with
      | true =>
        refine iteT ?_
        refine ⟨_, rfl, _, _, _, _, _, rfl, .ty "int", D.tv _ s1, kdI d, _, rfl, ?_⟩
        rw [hi]
        refine iteT ?_
        refine ⟨_, rfl, _, _, _, _, _, rfl, .ty "bool", D.tv _ s1, kdB d, _, rfl, _, _, _, _, _, rfl, .ty "bool", D.tu _ s1, kdB d, rfl, _, rfl, ?_⟩
        rw [decide_eq_true rfl]
        refine iteT ?_
        exact ⟨_, rfl, _, rfl, D.eq e1 e2 _ _ s1 (k _ s1)⟩
      | false =>
        refine iteF ?_
        refine ⟨_, rfl, (by show 4 ≤ sizeLine; decide), fun t' nt' => ?_⟩
        have s2 := same_upd (o := .tup [.ty "bool", .ty "int", .ty "list", .ty "tuple"]) nt'
        refine ⟨_, _, _, _, _, _, rfl, upd_same, .cons (.ty "bool") (.cons (.ty "int") (.cons (.ty "list") (.cons (.ty "tuple") .nil))), D.tv _ (s1.trans s2), kdBILT d, ?_⟩
        have hb : d.isB = false := by cases d <;> first | rfl | cases hi
        rw [e1, e2, hi, hb]
        refine ⟨_, _, rfl, rfl, _, rfl, ?_⟩
        rw [decide_eq_true (show (false || false || false || false) = false from rfl)]
        refine iteT ?_
        exact ⟨_, rfl, _, rfl, D.eq e1 e2 _ _ (s1.trans s2) (k _ (s1.trans s2))⟩
end



section
variable {P : Program} {w : World} {K : PySem.W.Frag} {mg : Str → Option Value} {base : Heap}
def spLaw (K : PySem.W.Frag) (P : Addr) : Sp := fun vs H Q _ => ∃ (a : Addr) (ns : List Int), vs = [.ref a] ∧ SqL K H a (ns.map V.int) ∧ ns.length ≤ 63 ∧ H P = some (.tbl #[]) ∧ ∀ H', Q (.bl true) H'
/-! ### the text of a pair -/
def spLawText : Sp := fun vs H Q _ => ∃ (t : Addr) (p : Int × Int), vs = [.ref t] ∧ PairAt H t p ∧ Rd p ∧ Dn p ∧ ∀ z, TL.tl z = fracL p → z.length ≤ 58 → Q (.str z) H
theorem ok_law_text (T : Tx K mg) : FnOk P w K mg base CX0 1 T.law_text_a T.law_text_d ["_law_a"] spLawText := by
  refine T.law_text_F.ok sc_law_text (fun vs H Q E h => ?_) (fun cdv A outer s H vs Q E hr h => ?_)
  · obtain ⟨t, p, rfl, _⟩ := h
    rfl
  · obtain ⟨ta, p, rfl, ha, rd, dn, k⟩ := h
    refine ⟨_, (pss_one (ps_ret (pe_op (op_add_str) (pe_callTy call_str_int (by rfl) T.z_str (by decide +kernel) (pa_cons (pe_ix ix_tup (pv 0) pe_int (fun _ _ => rfl)) pa_nil)) (pe_ifExp (pt_cmpR op_eq (pe_ix ix_tup (pv 0) pe_int (fun _ _ => rfl)) pe_int (nomark _)) pe_str (pe_op (op_add_str) pe_str (pe_callTy call_str_int (by rfl) T.z_str (by decide +kernel) (pa_cons (pe_ix ix_tup (pv 0) pe_int (fun _ _ => rfl)) pa_nil))))))), ?_⟩
    have e0 := TL.tl_append
    have ei := tl_str_int p.1
    have en := tl_str_nat (Int.le_of_lt rd.1)
    have l1 : (signL p.1 ++ TL.numL p.1.natAbs).length ≤ 41 := by
      have := TL.numL_len (by decide : 0 < 40) (Nat.lt_trans dn.2.1 p130)
      have : (signL p.1).length ≤ 1 := by unfold signL; split <;> decide
      rw [List.length_append]
      omega
    have l2 : (TL.numL p.2.natAbs).length ≤ 16 := TL.numL_len (by decide : 0 < 16) (Nat.lt_trans dn.2.2 p50)
    refine ⟨_, rfl, ta, _, 0, _, rfl, rfl, .inl (.inl ha), rfl, _, rfl, log_small (sz_up dn.2.1 (by decide)), ?_⟩
    refine ⟨_, rfl, ta, _, 1, _, rfl, rfl, .inl (.inl ha), rfl, rfl, _, rfl, ?_⟩
    by_cases e1 : p.2 = 1
    · rw [show decide (V.int p.2 = V.int 1) = true by simp [e1]]
      refine iteT ?_
      have et : TL.tl (Str.ofString (toString p.1) ++ ("" : Str)) = fracL p := by
        rw [TL.tl_append, ei, str_empty, List.append_nil]
        unfold fracL underL
        rw [if_pos e1, List.append_nil]
      refine ⟨_, _, rfl, rfl, len_ok (by rw [TL.len_tl, TL.len_tl, ei, str_empty, List.length_nil]; omega), k _ et ?_⟩
      rw [TL.len_tl, TL.tl_append, ei, str_empty, List.append_nil]
      omega
    · rw [show decide (V.int p.2 = V.int 1) = false by simp [e1]]
      refine iteF ?_
      have et : TL.tl (Str.ofString (toString p.1) ++ (("/" : Str) ++ Str.ofString (toString p.2))) = fracL p := by
        rw [TL.tl_append, TL.tl_append, ei, str_stroke, en]
        unfold fracL underL
        rw [if_neg e1, List.append_assoc]
        rfl
      refine ⟨_, rfl, ta, _, 1, _, rfl, rfl, .inl (.inl ha), rfl, _, rfl, log_small (sz_up dn.2.2 (by decide)), _, _, rfl, rfl, len_ok (by rw [TL.len_tl, TL.len_tl, en, str_stroke]; show 1 + _ ≤ 1000; omega), ?_⟩
      refine ⟨_, _, rfl, rfl, len_ok (by rw [TL.len_tl, TL.len_tl, TL.tl_append, ei, en, str_stroke, List.length_append (as := [47])]; show _ + (1 + _) ≤ 1000; omega), k _ et ?_⟩
      rw [TL.len_tl, TL.tl_append, TL.tl_append, ei, en, str_stroke, List.length_append, List.length_append (as := [47])]
      show _ + (1 + _) ≤ 58
      omega
/-! ### the error looked at -/
def spLook (B : Addr) : SpE := fun a cls d vs H Q _ => vs = [.ref a] ∧ cls = .ref B ∧ ∃ dd v, d = some dd ∧ H dd = some (.xd [("line", v)]) ∧ ∀ t H', Same H H' → H' t = some (.tup [.str "text", v]) → Q (.ref t) H'
theorem nd3 {a b c : Addr} (h : List.Nodup [a, b, c]) : b ≠ a ∧ c ≠ a ∧ c ≠ b := by
  simp only [List.nodup_cons, List.mem_cons, List.not_mem_nil, or_false, not_or] at h
  exact ⟨Ne.symm h.1.1, Ne.symm h.1.2, Ne.symm h.2.1⟩
theorem ok_law_error (T : Tx K mg) : FnP P w K mg base 1 T.law_error_a T.law_error_d ["_law_e"] (spLook T.BadText_a) := by
  refine Gy.Fun.okP (k := 0) T.law_error_F sc_law_error (fun a cls d vs H Q E h => by rw [h.1]; rfl) (fun cdv A outer s H vs Q p cls d hr hz hf h => ?_)
  obtain ⟨rfl, rfl, dd, v, rfl, hd, k⟩ := h
  obtain ⟨n1, n2, n3⟩ := nd3 T.E_nd
  refine ⟨_, pss_cons (ps_if (pt_val (pe_callB (call_isP (p := p) T.BadText_e T.E_g List.mem_cons_self hz hf) (by rfl) T.z_isinstance (by decide +kernel) (pa_cons (pv 0) (pa_cons (pe_glob (v := .ref T.BadPart_a) rfl T.BadPart_m rfl) pa_nil)))) pss_never pss_nil)
    (pss_cons (ps_if (pt_val (pe_callB (call_isP (p := p) T.BadText_e T.E_g List.mem_cons_self hz hf) (by rfl) T.z_isinstance (by decide +kernel) (pa_cons (pv 0) (pa_cons (pe_glob (v := .ref T.BadText_a) rfl T.BadText_m rfl) pa_nil))))
    (pss_one (ps_ret (pe_tup (pa_cons pe_str (pa_cons (pe_xp (p := p) T.BadText_e T.BadText_n_line List.mem_cons_self hz hf (pv 0)) pa_nil))))) pss_nil) pss_never), ?_⟩
  refine ⟨_, rfl, _, _, false, rfl, fun dd' e => ⟨_, by cases e; exact hd⟩, .own _, (T.BadText_e.kitD T.BadPart_e n1).trans (congrArg some (decide_eq_false n3)), _, rfl, ?_⟩
  refine iteF ?_
  refine ⟨_, rfl, _, _, true, rfl, fun dd' e => ⟨_, by cases e; exact hd⟩, .own _, kit_self, _, rfl, ?_⟩
  refine iteT ?_
  refine ⟨_, rfl, rfl, dd, _, v, rfl, hd, rfl, (by show 2 ≤ sizeLine; decide), fun t nt => ?_⟩
  exact k t _ (same_upd nt) upd_same
/-- the tables stay -/
theorem tabs_same {Ts : List (Addr × Str)} {H H' : Hp} (t : LamX.Tabs Ts H) (s : Same H H') : LamX.Tabs Ts H' := t.ext s
theorem tabs_keep {Ts : List (Addr × Str)} {H H' : Hp} {st : Addr} {xs : List V} (t : LamX.Tabs Ts H) (hs : H st = some (.lst xs)) (k : Keep st H H') : LamX.Tabs Ts H' := fun p hp => by
  obtain ⟨ps, h1, h2, h3⟩ := t p hp
  refine ⟨ps, k _ _ h1 (ne_of h1 hs fun z => by cases z), h2, fun pos cv e => ?_⟩
  obtain ⟨c, e1, e2⟩ := h3 pos cv e
  exact ⟨c, e1, k _ _ e2 (ne_of e2 hs fun z => by unfold LamX.CodeO at z; cases z)⟩
theorem exm_up {K : PySem.W.Frag} {L C : Addr} (U : ErrT K L L) (T : ErrT K L C) : PySem.W.exmOne K (.ref C) (.ref L) = some true := PySem.W.exm_ref (U.subT (by decide +kernel)) U.hd U.ty T.subL
theorem st_ext {H H' : Hp} {st c : Addr} {ns : List Int} (h : StAt H st c ns) (e : LamX.ExtN H H') : StAt H' st c ns := by
  obtain ⟨⟨a, b, d, z⟩, w, n⟩ := h
  exact ⟨⟨a, b, d, e _ _ z (fun ps y => by cases y)⟩, e _ _ w (fun ps y => by cases y), n⟩
/-! ### the law -/
def lamq : Str := (PyProof.Rows.envOfC "law" (defScope s_law) 0 0 .none).qual ++ "<lambda>"
def lst1 : List Str := ["", "-", "0/1", "3/1", "2/4", "-0", "-0/5", "01", "1/02", "+1", " 1", "1 ", "1/", "/2"]
def lst2 : List Str := ["1/2/3", "1.5", "--1"]
def lst3 (z : Str) : List Str := ["a", "1/-2", "0/5", "-3/2", "7", "0", z ++ "0", "0" ++ z, z ++ "/2", "-" ++ z]
theorem lens_all (z : Str) (h : z.length ≤ 58) : ∀ y ∈ lst1 ++ lst2 ++ lst3 z, y.length ≤ 63 := by
  have a : ∀ y ∈ lst1 ++ lst2, y.length ≤ 63 := by decide +kernel
  have e0 : ("0" : Str).length = 1 := by decide +kernel
  have e2 : ("/2" : Str).length = 2 := by decide +kernel
  have em : ("-" : Str).length = 1 := by decide +kernel
  have ap : ∀ x y : Str, (x ++ y).length = x.length + y.length := fun x y => by rw [TL.len_tl, TL.tl_append, List.length_append, ← TL.len_tl, ← TL.len_tl]
  have b : ∀ y ∈ (["a", "1/-2", "0/5", "-3/2", "7", "0"] : List Str), y.length ≤ 63 := by decide +kernel
  intro y hy
  rcases List.mem_append.mp hy with hy | hy
  · exact a y hy
  · have : y ∈ (["a", "1/-2", "0/5", "-3/2", "7", "0"] : List Str) ++ [z ++ "0", "0" ++ z, z ++ "/2", "-" ++ z] := hy
    rcases List.mem_append.mp this with hy | hy
    · exact b y hy
    · simp only [List.mem_cons, List.not_mem_nil, or_false] at hy
      rcases hy with rfl | rfl | rfl | rfl <;> rw [ap] <;> omega
theorem ok_law (T : Tx K mg) (TB : LamX.TabB base mg T.law_c T.law_P) : FnOk P w K mg base CX0 14 T.law_a T.law_d ["_law_script"] (spLaw K T.law_P) := by
  obtain ⟨oc, od, kV, doc, pm, an, ct, osl, ed, lk, hcd⟩ := T.law_lk
  rw [ed] at lk ⊢
  refine fn_of (CX := CX0) lk hcd sc_law (fun vs H Q E h => ?_) (fun A outer s H vs Q E hr h => ?_)
  · obtain ⟨a, ns, rfl, _⟩ := h
    rfl
  · suffices z : ∃ t, PSs (cxOf CX0 P w K mg base ["_law_script", "_law_state", "_law_turn", "_law_a", "_law_x", "_law_word", "_law_some", "_law_other", "_law_found"] "law" (defScope s_law) T.law_a (.ref T.law_c) A outer s H E).nox (defBody s_law) t ∧ t { nx := fun _ H' => Q .non H', rt := Q } (start ["_law_script", "_law_state", "_law_turn", "_law_a", "_law_x", "_law_word", "_law_some", "_law_other", "_law_found"] vs) H from let ⟨t, a, b⟩ := z; ⟨t, a.nox, b⟩
    obtain ⟨a0, ns, rfl, hS, hl, hP, k⟩ := h
    have TRIED : ∀ {params : Arguments} {body : Expr} {scope : Scope} {t : XK → TE} {p lpos pos : Pos}, LamX.LamS (defScope s_law) scope → defaultsOf params (cxOf CX0 P w K mg base ["_law_script", "_law_state", "_law_turn", "_law_a", "_law_x", "_law_word", "_law_some", "_law_other", "_law_found"] "law" (defScope s_law) T.law_a (.ref T.law_c) A outer s H E).nox.env = ([], []) →
        (∀ (q : Str) (cl : List (Str × Addr)) (pm cv ctv : Value), bindArgs (PySem.W.kla_fn "<lambda>" q params body scope cl pm cv ctv) ⟨[], []⟩ = pure []) →
        (∀ (A' : Around) (outer' : List Env) (s' : Shared) (H' : Hp) (E' : XK) (f c' : Addr), Room 11 (A'.deeper (LamX.lamEnv (cxOf CX0 P w K mg base ["_law_script", "_law_state", "_law_turn", "_law_a", "_law_x", "_law_word", "_law_some", "_law_other", "_law_found"] "law" (defScope s_law) T.law_a (.ref T.law_c) A outer s H E).nox scope s'.heap.objs.size f c')) → PE (LamX.lamCx (cxOf CX0 P w K mg base ["_law_script", "_law_state", "_law_turn", "_law_a", "_law_x", "_law_word", "_law_some", "_law_other", "_law_found"] "law" (defScope s_law) T.law_a (.ref T.law_c) A outer s H E).nox A' outer' s' H' E' scope f c') body (t E')) →
        PE (cxOf CX0 P w K mg base ["_law_script", "_law_state", "_law_turn", "_law_a", "_law_x", "_law_word", "_law_some", "_law_other", "_law_found"] "law" (defScope s_law) T.law_a (.ref T.law_c) A outer s H E).nox (.Call (.Name "_law_tried" p) [.Lambda params body scope lpos] [] pos) (LamX.tLam [(T.law_P, lamq)] (TTry K T.LevelError_a (spLook T.BadText_a)) t) := by
      intro params body scope t p lpos pos hL hd hb hbody
      obtain ⟨oc', od', kV', doc', pm', an', cdv', ct', osl', e', lk', hcg⟩ := T.law_tried_F.ex
      have bnd := T.law_tried_b
      rw [e'] at bnd lk'
      exact LamX.pe_lamcall (k := 11) (Ng := ["_law_deed", "_law_e"]) (a := "_law_deed") rfl T.law_tried_m T.law_tried_F.kp lk' hcg bnd sc_law_tried rfl (.inl rfl)
        (try_gives (a := "_law_deed") (n := "_law_e") (e := "LevelError") (y := "_law_error") (k := 1) (by decide) rfl rfl T.LevelError_m (by decide) rfl (ok_law_error T) (fun s' => (hr.mono (by decide : 2 ≤ 13)).deeper _) rfl T.law_error_m T.law_error_F.kp T.law_error_b (by decide) (by decide) (by decide))
        TB rfl (List.mem_singleton.mpr rfl) (fun p hp _ => by rw [List.mem_singleton.mp hp]; rfl) hr hL hd hb hbody
    refine ⟨_, (pss_cons (ps_set (i := 1) sc_law.nd rfl (Or.inl rfl) (pe_call (ok_law_fresh T) (hr.mono (by decide)) rfl T.law_fresh_m T.law_fresh_F.kp T.law_fresh_b .nil pass0 (pa_cons (pv 0) pa_nil)))
  (pss_cons (ps_for PassesOwn.never rfl (pi_range1 rfl T.z_range (pa_cons pe_int pa_nil)) (pg_name (i := 2) sc_law.nd rfl (Or.inl rfl))
  (pss_cons (ps_set (i := 3) sc_law.nd rfl (Or.inl rfl) (pe_call (ok_law_some_frac T) (hr.mono (by decide)) rfl T.law_some_frac_m T.law_some_frac_F.kp T.law_some_frac_b .nil pass0 (pa_cons (pv 1) pa_nil)))
  (pss_cons (ps_par (i := 4) (j := 5) (by rfl) sc_law.nd rfl rfl (by decide) rfl rfl (pa_cons (pe_make T.Exact_mk (ok_Exact_init T) (hr.mono (by decide)) rfl T.Exact_m T.Exact_init_b .nil pass0 (pa_cons (pe_ix ix_tup (pv 3) pe_int (fun _ _ => rfl)) (pa_cons (pe_ix ix_tup (pv 3) pe_int (fun _ _ => rfl)) pa_nil))) (pa_cons (pe_call (ok_law_text T) (hr.mono (by decide)) rfl T.law_text_m T.law_text_F.kp T.law_text_b .nil pass0 (pa_cons (pv 3) pa_nil)) pa_nil)) (by rfl))
  (pss_cons (ps_if (PW.pt (pw_or (pt_not (pt_val (pe_call (ok_law_same T 1) (hr.mono (by decide)) rfl T.law_same_m T.law_same_F.kp T.law_same_b .nil pass0 (pa_cons (pe_meth0 (pv 4) T.Exact_cl T.Exact_text_M (ok_Exact_text T) (hr.mono (by decide)) T.Exact_text_b .nil pass0) (pa_cons (pv 5) pa_nil))))) (pw_or1 (pt_cmpR (op_neD hr.units) (pe_call (ok_law_as_exact T) (hr.mono (by decide)) rfl T.law_as_exact_m T.law_as_exact_F.kp T.law_as_exact_b .nil pass0 (pa_cons (pe_smeth (pe_glob (v := .ref T.Exact_a) rfl T.Exact_m rfl) T.Exact_of_text_S (ok_Exact_of_text T) (hr.mono (by decide)) T.Exact_of_text_F.kp T.Exact_of_text_b .nil pass0 (pa_cons (pv 5) pa_nil)) pa_nil)) (pv 3) (nomark _)))))
  (pss_one (ps_ret pe_bl))
  pss_nil)
  (pss_cons (ps_set (i := 6) sc_law.nd rfl (Or.inl rfl) (pe_lst (pa_cons pe_str (pa_cons pe_str (pa_cons pe_str (pa_cons pe_str (pa_cons pe_str (pa_cons pe_str (pa_cons pe_str (pa_cons pe_str (pa_cons pe_str (pa_cons pe_str (pa_cons pe_str (pa_cons pe_str (pa_cons pe_str (pa_cons pe_str pa_nil))))))))))))))))
  (pss_cons (ps_set (i := 6) sc_law.nd rfl (Or.inl rfl) (pe_op (op_cat) (pv 6) (pe_lst (pa_cons pe_str (pa_cons pe_str (pa_cons pe_str pa_nil))))))
  (pss_cons (ps_set (i := 6) sc_law.nd rfl (Or.inl rfl) (pe_op (op_cat) (pv 6) (pe_lst (pa_cons pe_str (pa_cons pe_str (pa_cons pe_str (pa_cons pe_str (pa_cons pe_str (pa_cons pe_str (pa_cons (pe_op (op_add_str) (pv 5) pe_str) (pa_cons (pe_op (op_add_str) pe_str (pv 5)) (pa_cons (pe_op (op_add_str) (pv 5) pe_str) (pa_cons (pe_op (op_add_str) pe_str (pv 5)) pa_nil)))))))))))))
  (pss_cons (ps_set (i := 7) sc_law.nd rfl (Or.inr rfl) (pe_call (ok_law_one T) (hr.mono (by decide)) rfl T.law_one_m T.law_one_F.kp T.law_one_b .nil pass0 (pa_cons (pv 1) (pa_cons (pv 6) pa_nil))))
  (pss_cons (ps_set (i := 8) sc_law.nd rfl (Or.inl rfl) (TRIED (LamX.lamS_by (by decide +kernel)) rfl (fun _ _ _ _ _ => rfl) (fun A outer s H E f c' hr => (pe_smeth (pe_glob (v := .ref T.Exact_a) rfl T.Exact_m rfl) T.Exact_of_text_S (ok_Exact_of_text_x T) (hr.mono (by decide)) T.Exact_of_text_F.kp T.Exact_of_text_b .nil (passes_call (takes_of rfl rfl rfl rfl) fun _ _ _ _ h => h) (pa_cons (pv 7) pa_nil)))))
  (pss_cons (ps_if (PW.pt (pw_or (pt_cmpR op_ne (pe_ix ix_tup (pv 8) pe_int (fun _ _ => rfl)) (pe_ifExp (pt_val (pe_call (ok_law_is_text T) (hr.mono (by decide)) rfl T.law_is_text_m T.law_is_text_F.kp T.law_is_text_b .nil pass0 (pa_cons (pv 7) pa_nil))) pe_str pe_str) (nomark _)) (pw_or1 (PW.pt (pw_and (pt_cmpR op_eq (pe_ix ix_tup (pv 8) pe_int (fun _ _ => rfl)) pe_str (nomark _)) (pw_and1 (pt_cmpR op_ne (pe_ix ix_tup (pv 8) pe_int (fun _ _ => rfl)) pe_int (nomark _))))))))
  (pss_one (ps_ret pe_bl))
  pss_nil)
  (pss_one (ps_if (PW.pt (pw_and (pt_cmpR op_eq (pe_ix ix_tup (pv 8) pe_int (fun _ _ => rfl)) pe_str (nomark _)) (pw_and1 (pt_cmpR op_ne (pe_meth0 (pe_ix ix_tup (pv 8) pe_int (fun _ _ => rfl)) T.Exact_cl T.Exact_text_M (ok_Exact_text T) (hr.mono (by decide)) T.Exact_text_b .nil pass0) (pv 7) (nomark _)))))
  (pss_one (ps_ret pe_bl))
  pss_nil))))))))))))
  (pss_one (ps_ret pe_bl)))), ?_⟩
    refine ⟨_, rfl, a0, ns, rfl, hS, hl, fun st c H0 s0 hSt0 => ?_⟩
    have tb0 : LamX.Tabs [(T.law_P, lamq)] H0 := fun p hp => by
      rw [List.mem_singleton.mp hp]
      exact LamX.TabS.nil (s0 _ _ hP)
    refine ⟨6, rfl, by decide, by decide, for_range (n := 6) (fun i σ H1 => (∃ v2 v3 v4 v5 v6 v7 v8, σ = [some (.ref a0), some (.ref st), v2, v3, v4, v5, v6, v7, v8]) ∧ StAt H1 st c ns ∧ LamX.Tabs [(T.law_P, lamq)] H1)
      ⟨⟨none, none, none, none, none, none, none, rfl⟩, hSt0, tb0⟩ ?_ (fun σ H1 _ => k H1)⟩
    rintro i σ H1 hi ⟨⟨v2, v3, v4, v5, v6, v7, v8, rfl⟩, hSt, tb⟩
    obtain ⟨_, _, _, hL⟩ := id hSt.1
    -- a
    refine ⟨_, rfl, st, c, ns, rfl, hSt, hl, fun ta pa H4 hSt4 k4 ha ra da => ?_⟩
    have tb4 := tabs_keep tb hL k4
    have na := da.nm
    -- x, word
    refine ⟨_, rfl, ta, _, _, _, rfl, rfl, .inl (.inl ha), rfl, _, rfl, ta, _, _, _, rfl, rfl, .inl (.inl ha), rfl, ?_⟩
    refine fun x dx nx nd _ => mk_ex1 nx nd (Int.ne_of_gt na.1) (sz_up na.2.2 (by decide)) fun H5 s5 hx => ?_
    rw [red_self ra] at hx
    have ha := ha.same s5
    refine ⟨_, rfl, ta, pa, rfl, ha, ra, da, fun word hw lw => ⟨_, _, rfl, ?_⟩⟩
    have hSt5 := hSt4.same s5
    have tb5 := tabs_same tb4 s5
    -- x.text()
    obtain ⟨xa, xd, exr, xz⟩ := id hx
    refine ⟨_, rfl, xa, xd, _, exr, xz, fl_no (by decide +kernel) (by decide +kernel), _, _, rfl, .inr (exr ▸ hx), ra.1, Nat.lt_trans da.2.1 (Nat.lt_trans p130 (by decide +kernel)), Nat.lt_trans da.2.2 (Nat.lt_trans p50 (by decide +kernel)), fun z H6 s6 hz => ⟨_, rfl, ?_⟩⟩
    obtain rfl : z = word := TL.ext_tl (hz.trans hw.symm)
    refine ⟨_, _, rfl, .str _, fun H7 s7 => ⟨_, rfl, iteF ?_⟩⟩
    have s67 := s6.trans s7
    refine ⟨rfl, _, rfl, z, pa, rfl, (by omega), (by rw [hw]; exact exOf_frac ra), fun v H8 s8 hv => ?_⟩
    refine ⟨v, pa, rfl, hv, ra, fun t9 H9 s9 ht => ?_⟩
    have s69 := s67.trans (s8.trans s9)
    refine ⟨_, rfl, dp pa, dp pa, dpPair ht, dpPair (ha.same s69), rfl, rfl, _, rfl, ?_⟩
    rw [eqv_self (dp_shaped pa)]
    refine iteF ?_
    have hSt9 := hSt5.same s69
    have tb9 := tabs_same tb5 s69
    clear hx xz exr ht hv ha
    -- some
    refine ⟨(by show 14 ≤ sizeLine; decide), fun l1 n1 => ?_⟩
    have g1 : Same H9 (upd H9 l1 (.lst [.str "", .str "-", .str "0/1", .str "3/1", .str "2/4", .str "-0", .str "-0/5", .str "01", .str "1/02", .str "+1", .str " 1", .str "1 ", .str "1/", .str "/2"])) := same_upd n1
    have h1 : (upd H9 l1 (.lst [.str "", .str "-", .str "0/1", .str "3/1", .str "2/4", .str "-0", .str "-0/5", .str "01", .str "1/02", .str "+1", .str " 1", .str "1 ", .str "1/", .str "/2"])) l1 = some (.lst [.str "", .str "-", .str "0/1", .str "3/1", .str "2/4", .str "-0", .str "-0/5", .str "01", .str "1/02", .str "+1", .str " 1", .str "1 ", .str "1/", .str "/2"]) := upd_same
    generalize upd H9 l1 (.lst [.str "", .str "-", .str "0/1", .str "3/1", .str "2/4", .str "-0", .str "-0/5", .str "01", .str "1/02", .str "+1", .str " 1", .str "1 ", .str "1/", .str "/2"]) = G1 at g1 h1 ⊢
    refine ⟨_, rfl, (by show 3 ≤ sizeLine; decide), fun l2 n2 => ?_⟩
    have g2 : Same G1 (upd G1 l2 (.lst [.str "1/2/3", .str "1.5", .str "--1"])) := same_upd n2
    have h2 : (upd G1 l2 (.lst [.str "1/2/3", .str "1.5", .str "--1"])) l2 = some (.lst [.str "1/2/3", .str "1.5", .str "--1"]) := upd_same
    generalize upd G1 l2 (.lst [.str "1/2/3", .str "1.5", .str "--1"]) = G2 at g2 h2 ⊢
    refine ⟨l1, l2, _, _, rfl, rfl, g2 _ _ h1, h2, (by show 14 + 3 ≤ sizeLine; decide), fun l3 n3 => ?_⟩
    have g3 := same_upd (o := .lst ([.str "", .str "-", .str "0/1", .str "3/1", .str "2/4", .str "-0", .str "-0/5", .str "01", .str "1/02", .str "+1", .str " 1", .str "1 ", .str "1/", .str "/2"] ++ [.str "1/2/3", .str "1.5", .str "--1"])) n3
    have h3 := upd_same (H := G2) (a := l3) (o := .lst ([.str "", .str "-", .str "0/1", .str "3/1", .str "2/4", .str "-0", .str "-0/5", .str "01", .str "1/02", .str "+1", .str " 1", .str "1 ", .str "1/", .str "/2"] ++ [.str "1/2/3", .str "1.5", .str "--1"]))
    generalize upd G2 l3 (.lst ([.str "", .str "-", .str "0/1", .str "3/1", .str "2/4", .str "-0", .str "-0/5", .str "01", .str "1/02", .str "+1", .str " 1", .str "1 ", .str "1/", .str "/2"] ++ [.str "1/2/3", .str "1.5", .str "--1"])) = G3 at g3 h3 ⊢
    have ez : ∀ x : Str, x.length ≤ 2 → z.length + x.length ≤ sizeLine ∧ x.length + z.length ≤ sizeLine := fun x h => ⟨len_ok (by omega), len_ok (by omega)⟩
    refine ⟨_, rfl, _, rfl, _, _, rfl, rfl, (ez _ (by decide +kernel)).1, _, rfl, _, _, rfl, rfl, (ez _ (by decide +kernel)).2, _, rfl, _, _, rfl, rfl, (ez _ (by decide +kernel)).1, _, rfl, _, _, rfl, rfl, (ez _ (by decide +kernel)).2, (by show 10 ≤ sizeLine; decide), fun l4 n4 => ?_⟩
    have g4 : Same G3 (upd G3 l4 (.lst [.str "a", .str "1/-2", .str "0/5", .str "-3/2", .str "7", .str "0", .str (z ++ "0"), .str ("0" ++ z), .str (z ++ "/2"), .str ("-" ++ z)])) := same_upd n4
    have h4 : (upd G3 l4 (.lst [.str "a", .str "1/-2", .str "0/5", .str "-3/2", .str "7", .str "0", .str (z ++ "0"), .str ("0" ++ z), .str (z ++ "/2"), .str ("-" ++ z)])) l4 = some (.lst [.str "a", .str "1/-2", .str "0/5", .str "-3/2", .str "7", .str "0", .str (z ++ "0"), .str ("0" ++ z), .str (z ++ "/2"), .str ("-" ++ z)]) := upd_same
    generalize upd G3 l4 (.lst [.str "a", .str "1/-2", .str "0/5", .str "-3/2", .str "7", .str "0", .str (z ++ "0"), .str ("0" ++ z), .str (z ++ "/2"), .str ("-" ++ z)]) = G4 at g4 h4 ⊢
    refine ⟨l3, l4, _, _, rfl, rfl, g4 _ _ h3, h4, (by show 17 + 10 ≤ sizeLine; decide), fun l5 n5 => ?_⟩
    have g5 := same_upd (o := .lst (([.str "", .str "-", .str "0/1", .str "3/1", .str "2/4", .str "-0", .str "-0/5", .str "01", .str "1/02", .str "+1", .str " 1", .str "1 ", .str "1/", .str "/2"] ++ [.str "1/2/3", .str "1.5", .str "--1"]) ++ [.str "a", .str "1/-2", .str "0/5", .str "-3/2", .str "7", .str "0", .str (z ++ "0"), .str ("0" ++ z), .str (z ++ "/2"), .str ("-" ++ z)])) n5
    have h5 := upd_same (H := G4) (a := l5) (o := .lst (([.str "", .str "-", .str "0/1", .str "3/1", .str "2/4", .str "-0", .str "-0/5", .str "01", .str "1/02", .str "+1", .str " 1", .str "1 ", .str "1/", .str "/2"] ++ [.str "1/2/3", .str "1.5", .str "--1"]) ++ [.str "a", .str "1/-2", .str "0/5", .str "-3/2", .str "7", .str "0", .str (z ++ "0"), .str ("0" ++ z), .str (z ++ "/2"), .str ("-" ++ z)]))
    generalize upd G4 l5 (.lst (([.str "", .str "-", .str "0/1", .str "3/1", .str "2/4", .str "-0", .str "-0/5", .str "01", .str "1/02", .str "+1", .str " 1", .str "1 ", .str "1/", .str "/2"] ++ [.str "1/2/3", .str "1.5", .str "--1"]) ++ [.str "a", .str "1/-2", .str "0/5", .str "-3/2", .str "7", .str "0", .str (z ++ "0"), .str ("0" ++ z), .str (z ++ "/2"), .str ("-" ++ z)])) = G5 at g5 h5 ⊢
    have g15 := (((g1.trans g2).trans g3).trans g4).trans g5
    have hStG := hSt9.same g15
    have tbG := tabs_same tb9 g15
    have hlst : ([.str "", .str "-", .str "0/1", .str "3/1", .str "2/4", .str "-0", .str "-0/5", .str "01", .str "1/02", .str "+1", .str " 1", .str "1 ", .str "1/", .str "/2"] ++ [.str "1/2/3", .str "1.5", .str "--1"]) ++ [.str "a", .str "1/-2", .str "0/5", .str "-3/2", .str "7", .str "0", .str (z ++ "0"), .str ("0" ++ z), .str (z ++ "/2"), .str ("-" ++ z)] = (lst1 ++ lst2 ++ lst3 z).map V.str := rfl
    rw [hlst] at h5
    obtain ⟨_, _, _, hLG⟩ := id hSt9.1
    have nG : l5 ≠ st := Ne.symm (ne_of_none ((((g1.trans g2).trans g3).trans g4) _ _ hLG) n5)
    obtain ⟨_, _, _, hLG⟩ := id hStG.1
    -- other
    refine ⟨_, rfl, _, rfl, st, c, l5, ns, _, rfl, hStG, hl, h5, nG, (by simp [lst1]), (by rw [List.length_map]; show 27 ≤ 1000; decide), fun v H10 hv hSt10 k10 => ?_⟩
    obtain ⟨other, hom, rfl⟩ := List.mem_map.mp hv
    have lo := lens_all z lw other hom
    have tb10 := tabs_keep tbG hLG k10
    -- found
    refine ⟨tb10, fun H11 ext tb11 => ?_⟩
    have hSt11 := st_ext hSt10 ext
    have hti := told_iff (l := TL.tl other)
    have ntt : decide (V.str ("told" : Str) = V.str ("text" : Str)) = false := by decide +kernel
    have ntt2 : decide (V.str ("text" : Str) = V.str ("told" : Str)) = false := by decide +kernel
    refine ⟨rfl, _, rfl, other, rfl, lo, fun p v H12 ex s12 hv => ⟨(by show 2 ≤ sizeLine; decide), fun q nq => ?_⟩, fun ex d H12 s12 hd => ⟨exm_up T.LevelError_e T.BadText_e, fun a na => ⟨rfl, rfl, d, _, rfl, hd, fun r H13 s13 hr => ?_⟩⟩⟩
    · rw [ex] at hti
      have hti : isText (TL.tl other) = true := hti.symm
      have s13 := same_upd (o := .tup [.str "told", v]) nq
      have hq := upd_same (H := H12) (a := q) (o := .tup [.str "told", v])
      generalize upd H12 q (.tup [.str "told", v]) = H13 at s13 hq ⊢
      refine ⟨_, rfl, q, _, 0, _, rfl, rfl, .inl (.inl hq), rfl, _, rfl, other, rfl, lo, fun H14 s14 => ⟨_, rfl, ?_⟩⟩
      rw [hti]
      refine iteT ?_
      refine ⟨rfl, _, rfl, ?_⟩
      rw [decide_eq_true rfl]
      refine iteF ?_
      have hq := s14 _ _ hq
      refine ⟨_, rfl, q, _, 0, _, rfl, rfl, .inl (.inl hq), rfl, rfl, _, rfl, ?_⟩
      rw [ntt]
      refine iteF ?_
      refine iteF ?_
      obtain ⟨a, dx, rfl, hva⟩ := id ((hv.same s13).same s14)
      obtain ⟨rp, ep⟩ := exOf_some ex
      obtain ⟨b1, b2⟩ := exOf_sz ex (by rw [← TL.len_tl]; exact lo)
      refine ⟨_, rfl, q, _, 0, _, rfl, rfl, .inl (.inl hq), rfl, rfl, _, rfl, ?_⟩
      rw [decide_eq_true rfl]
      refine iteT ?_
      refine ⟨_, rfl, q, _, 1, _, rfl, rfl, .inl (.inl hq), rfl, a, dx, _, rfl, hva, fl_no (by decide +kernel) (by decide +kernel), _, _, rfl, .inr ⟨a, dx, rfl, hva⟩, rp.1, b1, b2, fun z2 H15 s15 hz2 => ⟨_, rfl, rfl, _, rfl, ?_⟩⟩
      obtain rfl : z2 = other := TL.ext_tl (hz2.trans ep)
      rw [decide_eq_true rfl]
      refine iteF ?_
      have sX := s12.trans (s13.trans (s14.trans s15))
      exact ⟨⟨_, _, _, _, _, _, _, rfl⟩, hSt11.same sX, tabs_same tb11 sX⟩
    · rw [ex] at hti
      have hti : isText (TL.tl other) = false := hti.symm
      refine ⟨_, rfl, r, _, 0, _, rfl, rfl, .inl (.inl hr), rfl, _, rfl, other, rfl, lo, fun H14 s14 => ⟨_, rfl, ?_⟩⟩
      rw [hti]
      refine iteF ?_
      refine ⟨rfl, _, rfl, ?_⟩
      rw [decide_eq_true rfl]
      refine iteF ?_
      have hr := s14 _ _ hr
      refine ⟨_, rfl, r, _, 0, _, rfl, rfl, .inl (.inl hr), rfl, rfl, _, rfl, ?_⟩
      rw [decide_eq_true rfl]
      refine iteT ?_
      refine ⟨_, rfl, r, _, 1, _, rfl, rfl, .inl (.inl hr), rfl, rfl, _, rfl, ?_⟩
      rw [decide_eq_true rfl]
      refine iteF ?_
      refine ⟨_, rfl, r, _, 0, _, rfl, rfl, .inl (.inl hr), rfl, rfl, _, rfl, ?_⟩
      rw [ntt2]
      refine iteF ?_
      refine iteF ?_
      have sX := s12.trans (s13.trans s14)
      exact ⟨⟨_, _, _, _, _, _, _, rfl⟩, hSt11.same sX, tabs_same tb11 sX⟩

end


theorem all_mk {l : PySem.W.OpenLaw} {w : World} {K : PySem.W.Frag} {h : Heap} {mg : Str → Option Value} {fa : Addr} (X : K.In h) (G : h.Ns mainGlobals mg) {ts9 : List Addr} (hT : ∀ P ∈ ts9, h.get? P = some (PySem.W.tabObj #[])) (hfa : mg "law" = some (.ref fa))
    {LevelError_a BadPart_a BadText_a Exact_a BadText_init_a is_whole_a Exact_init_a Exact_text_a Exact_of_text_a divisor_a parts_a number_text_a exact_of_a is_digits_a digits_of_a whole_of_a law_fresh_a law_fill_a law_take_a law_one_a law_same_a law_tried_a law_error_a law_gcd_a law_frac_a law_some_frac_a law_as_exact_a law_text_a law_is_text_a law_a : Addr}
    {od_BadText_init an_BadText_init od_is_whole an_is_whole od_Exact_init an_Exact_init od_Exact_text an_Exact_text od_Exact_of_text an_Exact_of_text od_divisor an_divisor od_parts an_parts od_number_text an_number_text od_exact_of an_exact_of od_is_digits an_is_digits od_digits_of an_digits_of od_whole_of an_whole_of od_law_fresh an_law_fresh od_law_fill an_law_fill od_law_take an_law_take od_law_one an_law_one od_law_same an_law_same od_law_tried an_law_tried od_law_error an_law_error od_law_gcd an_law_gcd od_law_frac an_law_frac od_law_some_frac an_law_some_frac od_law_as_exact an_law_as_exact od_law_text an_law_text od_law_is_text an_law_is_text od_law an_law : Option Addr}
    {sl_BadText_init sl_is_whole sl_Exact_init sl_Exact_text sl_Exact_of_text sl_divisor sl_parts sl_number_text sl_exact_of sl_is_digits sl_digits_of sl_whole_of sl_law_fresh sl_law_fill sl_law_take sl_law_one sl_law_same sl_law_tried sl_law_error sl_law_gcd sl_law_frac sl_law_some_frac sl_law_as_exact sl_law_text sl_law_is_text sl_law : Array (Option Value)}
    {oc_BadText_init kV_BadText_init dc_BadText_init pm_BadText_init cd_BadText_init ct_BadText_init oc_is_whole kV_is_whole dc_is_whole pm_is_whole cd_is_whole ct_is_whole oc_Exact_init kV_Exact_init dc_Exact_init pm_Exact_init cd_Exact_init ct_Exact_init oc_Exact_text kV_Exact_text dc_Exact_text pm_Exact_text cd_Exact_text ct_Exact_text oc_Exact_of_text kV_Exact_of_text dc_Exact_of_text pm_Exact_of_text cd_Exact_of_text ct_Exact_of_text oc_divisor kV_divisor dc_divisor pm_divisor cd_divisor ct_divisor oc_parts kV_parts dc_parts pm_parts cd_parts ct_parts oc_number_text kV_number_text dc_number_text pm_number_text cd_number_text ct_number_text oc_exact_of kV_exact_of dc_exact_of pm_exact_of cd_exact_of ct_exact_of oc_is_digits kV_is_digits dc_is_digits pm_is_digits cd_is_digits ct_is_digits oc_digits_of kV_digits_of dc_digits_of pm_digits_of cd_digits_of ct_digits_of oc_whole_of kV_whole_of dc_whole_of pm_whole_of cd_whole_of ct_whole_of oc_law_fresh kV_law_fresh dc_law_fresh pm_law_fresh cd_law_fresh ct_law_fresh oc_law_fill kV_law_fill dc_law_fill pm_law_fill cd_law_fill ct_law_fill oc_law_take kV_law_take dc_law_take pm_law_take cd_law_take ct_law_take oc_law_one kV_law_one dc_law_one pm_law_one cd_law_one ct_law_one oc_law_same kV_law_same dc_law_same pm_law_same cd_law_same ct_law_same oc_law_tried kV_law_tried dc_law_tried pm_law_tried cd_law_tried ct_law_tried oc_law_error kV_law_error dc_law_error pm_law_error cd_law_error ct_law_error oc_law_gcd kV_law_gcd dc_law_gcd pm_law_gcd cd_law_gcd ct_law_gcd oc_law_frac kV_law_frac dc_law_frac pm_law_frac cd_law_frac ct_law_frac oc_law_some_frac kV_law_some_frac dc_law_some_frac pm_law_some_frac cd_law_some_frac ct_law_some_frac oc_law_as_exact kV_law_as_exact dc_law_as_exact pm_law_as_exact cd_law_as_exact ct_law_as_exact oc_law_text kV_law_text dc_law_text pm_law_text cd_law_text ct_law_text oc_law_is_text kV_law_is_text dc_law_is_text pm_law_is_text cd_law_is_text ct_law_is_text oc_law kV_law dc_law pm_law cd_law ct_law : Value}
    {dT_Exact_init : Addr} {tc_Exact_init : Value} {td_Exact_init : Option Addr} {tn_Exact_init : Nat} {ts_Exact_init : Array (Option Value)} {tt_Exact_init_0 : Tok}
    {nm_LevelError q_LevelError : Str} {N_LevelError : Addr} {bs_LevelError : List Value} {sn_LevelError : List Str} {sub_LevelError : List Value} {ab_LevelError : Bool} {col_LevelError : Option Bool} {dd_LevelError : Option Addr} {k0_LevelError k1_LevelError k2_LevelError k3_LevelError k5_LevelError : Option Value}
    {nm_BadPart q_BadPart : Str} {N_BadPart : Addr} {bs_BadPart : List Value} {sn_BadPart : List Str} {sub_BadPart : List Value} {ab_BadPart : Bool} {col_BadPart : Option Bool} {dd_BadPart : Option Addr} {k0_BadPart k1_BadPart k2_BadPart k3_BadPart k5_BadPart : Option Value}
    {nm_BadText q_BadText : Str} {N_BadText : Addr} {bs_BadText : List Value} {sn_BadText : List Str} {sub_BadText : List Value} {ab_BadText : Bool} {col_BadText : Option Bool} {dd_BadText : Option Addr} {k0_BadText k1_BadText k2_BadText k3_BadText k5_BadText : Option Value}
    {t_PIECE t_ROUND : Tok}
    {p_Exact_of_text : Addr} {rest_Exact_of_text : List Value}
    {cc9 cP9 : Addr} {oo9 : Obj}
    (g_LevelError : PySem.W.nsIn K mainGlobals "LevelError" = some (some (.ref LevelError_a)))
    (xl_LevelError : K.lookup LevelError_a = some (excClassObj nm_LevelError q_LevelError LevelError_a N_LevelError bs_LevelError [.type "ValueError", .type "Exception", .type "BaseException", .type "object"] true sn_LevelError sub_LevelError ab_LevelError col_LevelError dd_LevelError k0_LevelError k1_LevelError k2_LevelError k3_LevelError k5_LevelError "ValueError.__new__"))
    (sa_LevelError : PySem.W.findIn K (.ref LevelError_a) "__setattr__" = some (some (.builtin "object.__setattr__")))
    (ga_LevelError : PySem.W.findIn K (.ref LevelError_a) "__getattribute__" = some (some (.builtin "BaseException.__getattribute__")))
    (ca_LevelError : PySem.W.findIn K (.ref LevelError_a) "__class__" = some (some (.builtin "object.__class__")))
    (gg_LevelError : PySem.W.findIn K (.ref LevelError_a) "__getattr__" = some none)
    (ty_LevelError : PySem.W.typeIn K (.ref LevelError_a) = some (.type "type"))
    (kp_LevelError : PySem.W.keepIn K (.ref LevelError_a) = true)
    (g_BadPart : PySem.W.nsIn K mainGlobals "BadPart" = some (some (.ref BadPart_a)))
    (xl_BadPart : K.lookup BadPart_a = some (excClassObj nm_BadPart q_BadPart BadPart_a N_BadPart bs_BadPart [.ref LevelError_a, .type "ValueError", .type "Exception", .type "BaseException", .type "object"] true sn_BadPart sub_BadPart ab_BadPart col_BadPart dd_BadPart k0_BadPart k1_BadPart k2_BadPart k3_BadPart k5_BadPart "ValueError.__new__"))
    (sa_BadPart : PySem.W.findIn K (.ref BadPart_a) "__setattr__" = some (some (.builtin "object.__setattr__")))
    (ga_BadPart : PySem.W.findIn K (.ref BadPart_a) "__getattribute__" = some (some (.builtin "BaseException.__getattribute__")))
    (ca_BadPart : PySem.W.findIn K (.ref BadPart_a) "__class__" = some (some (.builtin "object.__class__")))
    (gg_BadPart : PySem.W.findIn K (.ref BadPart_a) "__getattr__" = some none)
    (ty_BadPart : PySem.W.typeIn K (.ref BadPart_a) = some (.type "type"))
    (kp_BadPart : PySem.W.keepIn K (.ref BadPart_a) = true)
    (n_BadPart_part : PySem.W.findIn K (.ref BadPart_a) "part" = some none)
    (g_BadText : PySem.W.nsIn K mainGlobals "BadText" = some (some (.ref BadText_a)))
    (xl_BadText : K.lookup BadText_a = some (excClassObj nm_BadText q_BadText BadText_a N_BadText bs_BadText [.ref LevelError_a, .type "ValueError", .type "Exception", .type "BaseException", .type "object"] true sn_BadText sub_BadText ab_BadText col_BadText dd_BadText k0_BadText k1_BadText k2_BadText k3_BadText k5_BadText "ValueError.__new__"))
    (sa_BadText : PySem.W.findIn K (.ref BadText_a) "__setattr__" = some (some (.builtin "object.__setattr__")))
    (ga_BadText : PySem.W.findIn K (.ref BadText_a) "__getattribute__" = some (some (.builtin "BaseException.__getattribute__")))
    (ca_BadText : PySem.W.findIn K (.ref BadText_a) "__class__" = some (some (.builtin "object.__class__")))
    (gg_BadText : PySem.W.findIn K (.ref BadText_a) "__getattr__" = some none)
    (ty_BadText : PySem.W.typeIn K (.ref BadText_a) = some (.type "type"))
    (kp_BadText : PySem.W.keepIn K (.ref BadText_a) = true)
    (n_BadText_line : PySem.W.findIn K (.ref BadText_a) "line" = some none)
    (eg1 : PySem.W.specialIn K (.builtin "object.__class__") "__get__" = some (some (.builtin "getset_descriptor.__get__")))
    (eg2 : PySem.W.takesIn K (.builtin "object.__class__") = some true)
    (ev : PySem.W.findCls K (.type "ValueError") (.type "type") "__init__" = some (.val (.builtin "ValueError.__init__")))
    (e_nd : List.Nodup [LevelError_a, BadPart_a, BadText_a])
    (g_Exact : PySem.W.nsIn K mainGlobals "Exact" = some (some (.ref Exact_a)))
    (pg_Exact : PySem.W.plainGet K Exact_a Str.empty = true)
    (hd_Exact : PySem.W.hasDictIn K Exact_a = true)
    (po_Exact : PySem.W.plainOver K Exact_a = true)
    (sa_Exact : PySem.W.findIn K (.ref Exact_a) "__setattr__" = some (some (.builtin "object.__setattr__")))
    (n_Exact_over : PySem.W.findIn K (.ref Exact_a) "over" = some none)
    (n_Exact_under : PySem.W.findIn K (.ref Exact_a) "under" = some none)
    (i1_Exact : PySem.W.findIn K (.ref Exact_a) "__class__" = some (some (.builtin "object.__class__")))
    (i2_Exact : PySem.W.specialIn K (.builtin "object.__class__") "__get__" = some (some (.builtin "getset_descriptor.__get__")))
    (i3_Exact : PySem.W.takesIn K (.builtin "object.__class__") = some true)
    (i4_Exact : PySem.W.mroIn K Exact_a (.type "object") = some true)
    (ic_Exact : PySem.W.isClsIn K Exact_a = true)
    (ty_Exact : PySem.W.typeIn K (.ref Exact_a) = some (.type "type"))
    (u_int_Exact : PySem.W.subIn K (.type "int") (.ref Exact_a) = some false)
    (d_int_Exact : PySem.W.subIn K (.ref Exact_a) (.type "int") = some false)
    (gc_PIECE : PySem.W.nsIn K mainGlobals "PIECE" = some (some (.int 64 t_PIECE)))
    (gc_ROUND : PySem.W.nsIn K mainGlobals "ROUND" = some (some (.int 10000000000000000000000000000000000000000000000000000000000000000 t_ROUND)))
    (g_BadText_init : PySem.W.findIn K (.ref BadText_a) "__init__" = some (some (.ref BadText_init_a)))
    (i_BadText_init : PySem.W.isFn K (.ref BadText_init_a) = true)
    (l_BadText_init : K.lookup BadText_init_a = some ⟨oc_BadText_init, od_BadText_init, .func (PySem.W.fnOf "__init__" "BadText.__init__" (defArgs s_BadText_init) (defBody s_BadText_init) (defScope s_BadText_init) .none kV_BadText_init dc_BadText_init pm_BadText_init an_BadText_init cd_BadText_init ct_BadText_init), sl_BadText_init⟩)
    (c_BadText_init : PySem.W.codeIn K cd_BadText_init "BadText.__init__" = true)
    (k_BadText_init : PySem.W.keepIn K (.ref BadText_init_a) = true)
    (g_is_whole : PySem.W.nsIn K mainGlobals "is_whole" = some (some (.ref is_whole_a)))
    (l_is_whole : K.lookup is_whole_a = some ⟨oc_is_whole, od_is_whole, .func (PySem.W.fnOf "is_whole" "is_whole" (defArgs s_is_whole) (defBody s_is_whole) (defScope s_is_whole) .none kV_is_whole dc_is_whole pm_is_whole an_is_whole cd_is_whole ct_is_whole), sl_is_whole⟩)
    (c_is_whole : PySem.W.codeIn K cd_is_whole "is_whole" = true)
    (k_is_whole : PySem.W.keepIn K (.ref is_whole_a) = true)
    (g_Exact_init : PySem.W.findIn K (.ref Exact_a) "__init__" = some (some (.ref Exact_init_a)))
    (i_Exact_init : PySem.W.isFn K (.ref Exact_init_a) = true)
    (l_Exact_init : K.lookup Exact_init_a = some ⟨oc_Exact_init, od_Exact_init, .func (PySem.W.fnOf "__init__" "Exact.__init__" (defArgs s_Exact_init) (defBody s_Exact_init) (defScope s_Exact_init) (.ref dT_Exact_init) kV_Exact_init dc_Exact_init pm_Exact_init an_Exact_init cd_Exact_init ct_Exact_init), sl_Exact_init⟩)
    (c_Exact_init : PySem.W.codeIn K cd_Exact_init "Exact.__init__" = true)
    (k_Exact_init : PySem.W.keepIn K (.ref Exact_init_a) = true)
    (t_Exact_init : K.lookup dT_Exact_init = some ⟨tc_Exact_init, td_Exact_init, .seq (List.toArray [Value.int 1 tt_Exact_init_0]) tn_Exact_init, ts_Exact_init⟩)
    (mk_Exact : PySem.W.makesIn K Exact_a = true)
    (kc_Exact : PySem.W.keepIn K (.ref Exact_a) = true)
    (g_Exact_text : PySem.W.findIn K (.ref Exact_a) "text" = some (some (.ref Exact_text_a)))
    (i_Exact_text : PySem.W.isFn K (.ref Exact_text_a) = true)
    (l_Exact_text : K.lookup Exact_text_a = some ⟨oc_Exact_text, od_Exact_text, .func (PySem.W.fnOf "text" "Exact.text" (defArgs s_Exact_text) (defBody s_Exact_text) (defScope s_Exact_text) .none kV_Exact_text dc_Exact_text pm_Exact_text an_Exact_text cd_Exact_text ct_Exact_text), sl_Exact_text⟩)
    (c_Exact_text : PySem.W.codeIn K cd_Exact_text "Exact.text" = true)
    (k_Exact_text : PySem.W.keepIn K (.ref Exact_text_a) = true)
    (rd_Exact_of_text : PySem.W.readsIn K Exact_a (.type "type") = true)
    (ga_Exact_of_text : PySem.W.specialIn K (.ref Exact_a) "__getattribute__" = some (some (.builtin "type.__getattribute__")))
    (at_Exact_of_text : PySem.W.findCls K (.ref Exact_a) (.type "type") "of_text" = some (.get (.builtin "staticmethod.__get__") (.ref p_Exact_of_text) .none (.ref Exact_a)))
    (rc_Exact_of_text : PySem.W.recIn K p_Exact_of_text "staticmethod" = some (.ref Exact_of_text_a :: rest_Exact_of_text))
    (l_Exact_of_text : K.lookup Exact_of_text_a = some ⟨oc_Exact_of_text, od_Exact_of_text, .func (PySem.W.fnOf "of_text" "Exact.of_text" (defArgs s_Exact_of_text) (defBody s_Exact_of_text) (defScope s_Exact_of_text) .none kV_Exact_of_text dc_Exact_of_text pm_Exact_of_text an_Exact_of_text cd_Exact_of_text ct_Exact_of_text), sl_Exact_of_text⟩)
    (c_Exact_of_text : PySem.W.codeIn K cd_Exact_of_text "Exact.of_text" = true)
    (k_Exact_of_text : PySem.W.keepIn K (.ref Exact_of_text_a) = true)
    (g_divisor : PySem.W.nsIn K mainGlobals "divisor" = some (some (.ref divisor_a)))
    (l_divisor : K.lookup divisor_a = some ⟨oc_divisor, od_divisor, .func (PySem.W.fnOf "divisor" "divisor" (defArgs s_divisor) (defBody s_divisor) (defScope s_divisor) .none kV_divisor dc_divisor pm_divisor an_divisor cd_divisor ct_divisor), sl_divisor⟩)
    (c_divisor : PySem.W.codeIn K cd_divisor "divisor" = true)
    (k_divisor : PySem.W.keepIn K (.ref divisor_a) = true)
    (g_parts : PySem.W.nsIn K mainGlobals "parts" = some (some (.ref parts_a)))
    (l_parts : K.lookup parts_a = some ⟨oc_parts, od_parts, .func (PySem.W.fnOf "parts" "parts" (defArgs s_parts) (defBody s_parts) (defScope s_parts) .none kV_parts dc_parts pm_parts an_parts cd_parts ct_parts), sl_parts⟩)
    (c_parts : PySem.W.codeIn K cd_parts "parts" = true)
    (k_parts : PySem.W.keepIn K (.ref parts_a) = true)
    (g_number_text : PySem.W.nsIn K mainGlobals "number_text" = some (some (.ref number_text_a)))
    (l_number_text : K.lookup number_text_a = some ⟨oc_number_text, od_number_text, .func (PySem.W.fnOf "number_text" "number_text" (defArgs s_number_text) (defBody s_number_text) (defScope s_number_text) .none kV_number_text dc_number_text pm_number_text an_number_text cd_number_text ct_number_text), sl_number_text⟩)
    (c_number_text : PySem.W.codeIn K cd_number_text "number_text" = true)
    (k_number_text : PySem.W.keepIn K (.ref number_text_a) = true)
    (g_exact_of : PySem.W.nsIn K mainGlobals "exact_of" = some (some (.ref exact_of_a)))
    (l_exact_of : K.lookup exact_of_a = some ⟨oc_exact_of, od_exact_of, .func (PySem.W.fnOf "exact_of" "exact_of" (defArgs s_exact_of) (defBody s_exact_of) (defScope s_exact_of) .none kV_exact_of dc_exact_of pm_exact_of an_exact_of cd_exact_of ct_exact_of), sl_exact_of⟩)
    (c_exact_of : PySem.W.codeIn K cd_exact_of "exact_of" = true)
    (k_exact_of : PySem.W.keepIn K (.ref exact_of_a) = true)
    (g_is_digits : PySem.W.nsIn K mainGlobals "is_digits" = some (some (.ref is_digits_a)))
    (l_is_digits : K.lookup is_digits_a = some ⟨oc_is_digits, od_is_digits, .func (PySem.W.fnOf "is_digits" "is_digits" (defArgs s_is_digits) (defBody s_is_digits) (defScope s_is_digits) .none kV_is_digits dc_is_digits pm_is_digits an_is_digits cd_is_digits ct_is_digits), sl_is_digits⟩)
    (c_is_digits : PySem.W.codeIn K cd_is_digits "is_digits" = true)
    (k_is_digits : PySem.W.keepIn K (.ref is_digits_a) = true)
    (g_digits_of : PySem.W.nsIn K mainGlobals "digits_of" = some (some (.ref digits_of_a)))
    (l_digits_of : K.lookup digits_of_a = some ⟨oc_digits_of, od_digits_of, .func (PySem.W.fnOf "digits_of" "digits_of" (defArgs s_digits_of) (defBody s_digits_of) (defScope s_digits_of) .none kV_digits_of dc_digits_of pm_digits_of an_digits_of cd_digits_of ct_digits_of), sl_digits_of⟩)
    (c_digits_of : PySem.W.codeIn K cd_digits_of "digits_of" = true)
    (k_digits_of : PySem.W.keepIn K (.ref digits_of_a) = true)
    (g_whole_of : PySem.W.nsIn K mainGlobals "whole_of" = some (some (.ref whole_of_a)))
    (l_whole_of : K.lookup whole_of_a = some ⟨oc_whole_of, od_whole_of, .func (PySem.W.fnOf "whole_of" "whole_of" (defArgs s_whole_of) (defBody s_whole_of) (defScope s_whole_of) .none kV_whole_of dc_whole_of pm_whole_of an_whole_of cd_whole_of ct_whole_of), sl_whole_of⟩)
    (c_whole_of : PySem.W.codeIn K cd_whole_of "whole_of" = true)
    (k_whole_of : PySem.W.keepIn K (.ref whole_of_a) = true)
    (g_law_fresh : PySem.W.nsIn K mainGlobals "_law_fresh" = some (some (.ref law_fresh_a)))
    (l_law_fresh : K.lookup law_fresh_a = some ⟨oc_law_fresh, od_law_fresh, .func (PySem.W.fnOf "_law_fresh" "_law_fresh" (defArgs s_law_fresh) (defBody s_law_fresh) (defScope s_law_fresh) .none kV_law_fresh dc_law_fresh pm_law_fresh an_law_fresh cd_law_fresh ct_law_fresh), sl_law_fresh⟩)
    (c_law_fresh : PySem.W.codeIn K cd_law_fresh "_law_fresh" = true)
    (k_law_fresh : PySem.W.keepIn K (.ref law_fresh_a) = true)
    (g_law_fill : PySem.W.nsIn K mainGlobals "_law_fill" = some (some (.ref law_fill_a)))
    (l_law_fill : K.lookup law_fill_a = some ⟨oc_law_fill, od_law_fill, .func (PySem.W.fnOf "_law_fill" "_law_fill" (defArgs s_law_fill) (defBody s_law_fill) (defScope s_law_fill) .none kV_law_fill dc_law_fill pm_law_fill an_law_fill cd_law_fill ct_law_fill), sl_law_fill⟩)
    (c_law_fill : PySem.W.codeIn K cd_law_fill "_law_fill" = true)
    (k_law_fill : PySem.W.keepIn K (.ref law_fill_a) = true)
    (g_law_take : PySem.W.nsIn K mainGlobals "_law_take" = some (some (.ref law_take_a)))
    (l_law_take : K.lookup law_take_a = some ⟨oc_law_take, od_law_take, .func (PySem.W.fnOf "_law_take" "_law_take" (defArgs s_law_take) (defBody s_law_take) (defScope s_law_take) .none kV_law_take dc_law_take pm_law_take an_law_take cd_law_take ct_law_take), sl_law_take⟩)
    (c_law_take : PySem.W.codeIn K cd_law_take "_law_take" = true)
    (k_law_take : PySem.W.keepIn K (.ref law_take_a) = true)
    (g_law_one : PySem.W.nsIn K mainGlobals "_law_one" = some (some (.ref law_one_a)))
    (l_law_one : K.lookup law_one_a = some ⟨oc_law_one, od_law_one, .func (PySem.W.fnOf "_law_one" "_law_one" (defArgs s_law_one) (defBody s_law_one) (defScope s_law_one) .none kV_law_one dc_law_one pm_law_one an_law_one cd_law_one ct_law_one), sl_law_one⟩)
    (c_law_one : PySem.W.codeIn K cd_law_one "_law_one" = true)
    (k_law_one : PySem.W.keepIn K (.ref law_one_a) = true)
    (g_law_same : PySem.W.nsIn K mainGlobals "_law_same" = some (some (.ref law_same_a)))
    (l_law_same : K.lookup law_same_a = some ⟨oc_law_same, od_law_same, .func (PySem.W.fnOf "_law_same" "_law_same" (defArgs s_law_same) (defBody s_law_same) (defScope s_law_same) .none kV_law_same dc_law_same pm_law_same an_law_same cd_law_same ct_law_same), sl_law_same⟩)
    (c_law_same : PySem.W.codeIn K cd_law_same "_law_same" = true)
    (k_law_same : PySem.W.keepIn K (.ref law_same_a) = true)
    (g_law_tried : PySem.W.nsIn K mainGlobals "_law_tried" = some (some (.ref law_tried_a)))
    (l_law_tried : K.lookup law_tried_a = some ⟨oc_law_tried, od_law_tried, .func (PySem.W.fnOf "_law_tried" "_law_tried" (defArgs s_law_tried) (defBody s_law_tried) (defScope s_law_tried) .none kV_law_tried dc_law_tried pm_law_tried an_law_tried cd_law_tried ct_law_tried), sl_law_tried⟩)
    (c_law_tried : PySem.W.codeIn K cd_law_tried "_law_tried" = true)
    (k_law_tried : PySem.W.keepIn K (.ref law_tried_a) = true)
    (g_law_error : PySem.W.nsIn K mainGlobals "_law_error" = some (some (.ref law_error_a)))
    (l_law_error : K.lookup law_error_a = some ⟨oc_law_error, od_law_error, .func (PySem.W.fnOf "_law_error" "_law_error" (defArgs s_law_error) (defBody s_law_error) (defScope s_law_error) .none kV_law_error dc_law_error pm_law_error an_law_error cd_law_error ct_law_error), sl_law_error⟩)
    (c_law_error : PySem.W.codeIn K cd_law_error "_law_error" = true)
    (k_law_error : PySem.W.keepIn K (.ref law_error_a) = true)
    (g_law_gcd : PySem.W.nsIn K mainGlobals "_law_gcd" = some (some (.ref law_gcd_a)))
    (l_law_gcd : K.lookup law_gcd_a = some ⟨oc_law_gcd, od_law_gcd, .func (PySem.W.fnOf "_law_gcd" "_law_gcd" (defArgs s_law_gcd) (defBody s_law_gcd) (defScope s_law_gcd) .none kV_law_gcd dc_law_gcd pm_law_gcd an_law_gcd cd_law_gcd ct_law_gcd), sl_law_gcd⟩)
    (c_law_gcd : PySem.W.codeIn K cd_law_gcd "_law_gcd" = true)
    (k_law_gcd : PySem.W.keepIn K (.ref law_gcd_a) = true)
    (g_law_frac : PySem.W.nsIn K mainGlobals "_law_frac" = some (some (.ref law_frac_a)))
    (l_law_frac : K.lookup law_frac_a = some ⟨oc_law_frac, od_law_frac, .func (PySem.W.fnOf "_law_frac" "_law_frac" (defArgs s_law_frac) (defBody s_law_frac) (defScope s_law_frac) .none kV_law_frac dc_law_frac pm_law_frac an_law_frac cd_law_frac ct_law_frac), sl_law_frac⟩)
    (c_law_frac : PySem.W.codeIn K cd_law_frac "_law_frac" = true)
    (k_law_frac : PySem.W.keepIn K (.ref law_frac_a) = true)
    (g_law_some_frac : PySem.W.nsIn K mainGlobals "_law_some_frac" = some (some (.ref law_some_frac_a)))
    (l_law_some_frac : K.lookup law_some_frac_a = some ⟨oc_law_some_frac, od_law_some_frac, .func (PySem.W.fnOf "_law_some_frac" "_law_some_frac" (defArgs s_law_some_frac) (defBody s_law_some_frac) (defScope s_law_some_frac) .none kV_law_some_frac dc_law_some_frac pm_law_some_frac an_law_some_frac cd_law_some_frac ct_law_some_frac), sl_law_some_frac⟩)
    (c_law_some_frac : PySem.W.codeIn K cd_law_some_frac "_law_some_frac" = true)
    (k_law_some_frac : PySem.W.keepIn K (.ref law_some_frac_a) = true)
    (g_law_as_exact : PySem.W.nsIn K mainGlobals "_law_as_exact" = some (some (.ref law_as_exact_a)))
    (l_law_as_exact : K.lookup law_as_exact_a = some ⟨oc_law_as_exact, od_law_as_exact, .func (PySem.W.fnOf "_law_as_exact" "_law_as_exact" (defArgs s_law_as_exact) (defBody s_law_as_exact) (defScope s_law_as_exact) .none kV_law_as_exact dc_law_as_exact pm_law_as_exact an_law_as_exact cd_law_as_exact ct_law_as_exact), sl_law_as_exact⟩)
    (c_law_as_exact : PySem.W.codeIn K cd_law_as_exact "_law_as_exact" = true)
    (k_law_as_exact : PySem.W.keepIn K (.ref law_as_exact_a) = true)
    (g_law_text : PySem.W.nsIn K mainGlobals "_law_text" = some (some (.ref law_text_a)))
    (l_law_text : K.lookup law_text_a = some ⟨oc_law_text, od_law_text, .func (PySem.W.fnOf "_law_text" "_law_text" (defArgs s_law_text) (defBody s_law_text) (defScope s_law_text) .none kV_law_text dc_law_text pm_law_text an_law_text cd_law_text ct_law_text), sl_law_text⟩)
    (c_law_text : PySem.W.codeIn K cd_law_text "_law_text" = true)
    (k_law_text : PySem.W.keepIn K (.ref law_text_a) = true)
    (g_law_is_text : PySem.W.nsIn K mainGlobals "_law_is_text" = some (some (.ref law_is_text_a)))
    (l_law_is_text : K.lookup law_is_text_a = some ⟨oc_law_is_text, od_law_is_text, .func (PySem.W.fnOf "_law_is_text" "_law_is_text" (defArgs s_law_is_text) (defBody s_law_is_text) (defScope s_law_is_text) .none kV_law_is_text dc_law_is_text pm_law_is_text an_law_is_text cd_law_is_text ct_law_is_text), sl_law_is_text⟩)
    (c_law_is_text : PySem.W.codeIn K cd_law_is_text "_law_is_text" = true)
    (k_law_is_text : PySem.W.keepIn K (.ref law_is_text_a) = true)
    (g_law : PySem.W.nsIn K mainGlobals "law" = some (some (.ref law_a)))
    (l_law : K.lookup law_a = some ⟨oc_law, od_law, .func (PySem.W.fnOf "law" "law" (defArgs s_law) (defBody s_law) (defScope s_law) .none kV_law dc_law pm_law an_law cd_law ct_law), sl_law⟩)
    (c_law : PySem.W.codeIn K cd_law "law" = true)
    (k_law : PySem.W.keepIn K (.ref law_a) = true)
    (cc_law : cd_law = .ref cc9)
    (co_law : K.lookup cc9 = some oo9)
    (cp_law : codeAt oo9 = some (.ref cP9))
    (ch_law : PySem.W.codeHdIn K cc9 cP9 = true)
    (cn_law : K.lookup cP9 = none)
    (hz_abs : PySem.W.nsIn K mainGlobals "abs" = some none)
    (hz_all : PySem.W.nsIn K mainGlobals "all" = some none)
    (hz_bool : PySem.W.nsIn K mainGlobals "bool" = some none)
    (hz_enumerate : PySem.W.nsIn K mainGlobals "enumerate" = some none)
    (hz_int : PySem.W.nsIn K mainGlobals "int" = some none)
    (hz_isinstance : PySem.W.nsIn K mainGlobals "isinstance" = some none)
    (hz_len : PySem.W.nsIn K mainGlobals "len" = some none)
    (hz_list : PySem.W.nsIn K mainGlobals "list" = some none)
    (hz_range : PySem.W.nsIn K mainGlobals "range" = some none)
    (hz_reversed : PySem.W.nsIn K mainGlobals "reversed" = some none)
    (hz_str : PySem.W.nsIn K mainGlobals "str" = some none)
    (hz_tuple : PySem.W.nsIn K mainGlobals "tuple" = some none)
    (hz_zip : PySem.W.nsIn K mainGlobals "zip" = some none)
    (tm : cP9 ∈ ts9) : LamX.LawAtS l w K CX0 14 63 "_law_script" mg fa h := by
  have e := hfa.symm.trans (PySem.W.mg_of X G g_law)
  cases e
  have F_Exact_init := (⟨⟨_, _, _, _, _, _, _, _, _, _, rfl, l_Exact_init, c_Exact_init, .inr ⟨List.cons_ne_nil _ _, dT_Exact_init, _, _, _, rfl, t_Exact_init, rfl, .cons ⟨_, rfl⟩ .nil⟩, .inl rfl⟩, k_Exact_init⟩ : FunD K "__init__" "Exact.__init__" (defArgs s_Exact_init) (defBody s_Exact_init) (defScope s_Exact_init) [V.int 1] [] Exact_init_a _)
  obtain ⟨ds_Exact_init, vs_Exact_init, b_Exact_init⟩ := F_Exact_init.binds1 (ps := ["self", "over", "under"]) 3 1 (List.cons_ne_nil _ _) rfl fun _ _ _ _ _ _ _ us its h1 h2 => match us, its, h1, h2 with | [_, _, _], [_], _, _ => ⟨_, rfl, rfl⟩
  cases vs_Exact_init
  subst cc_law
  let T : Tx K mg := {
    LevelError_a := LevelError_a
    LevelError_m := PySem.W.mg_of X G g_LevelError
    LevelError_e := ⟨⟨⟨nm_LevelError, q_LevelError, N_LevelError, bs_LevelError, sn_LevelError, sub_LevelError, ab_LevelError, col_LevelError, dd_LevelError, k0_LevelError, k1_LevelError, k2_LevelError, k3_LevelError, k5_LevelError⟩, [], .inl ⟨rfl, rfl⟩, xl_LevelError⟩, sa_LevelError, ga_LevelError, gg_LevelError, ca_LevelError, ty_LevelError, kp_LevelError⟩
    BadPart_a := BadPart_a
    BadPart_m := PySem.W.mg_of X G g_BadPart
    BadPart_e := ⟨⟨⟨nm_BadPart, q_BadPart, N_BadPart, bs_BadPart, sn_BadPart, sub_BadPart, ab_BadPart, col_BadPart, dd_BadPart, k0_BadPart, k1_BadPart, k2_BadPart, k3_BadPart, k5_BadPart⟩, [.ref LevelError_a], .inr rfl, xl_BadPart⟩, sa_BadPart, ga_BadPart, gg_BadPart, ca_BadPart, ty_BadPart, kp_BadPart⟩
    BadPart_n_part := n_BadPart_part
    BadText_a := BadText_a
    BadText_m := PySem.W.mg_of X G g_BadText
    BadText_e := ⟨⟨⟨nm_BadText, q_BadText, N_BadText, bs_BadText, sn_BadText, sub_BadText, ab_BadText, col_BadText, dd_BadText, k0_BadText, k1_BadText, k2_BadText, k3_BadText, k5_BadText⟩, [.ref LevelError_a], .inr rfl, xl_BadText⟩, sa_BadText, ga_BadText, gg_BadText, ca_BadText, ty_BadText, kp_BadText⟩
    BadText_n_line := n_BadText_line
    E_g := ⟨eg1, eg2⟩
    E_nd := e_nd
    E_v := ev
    Exact_a := Exact_a
    Exact_m := PySem.W.mg_of X G g_Exact
    Exact_cl := ⟨pg_Exact, hd_Exact, po_Exact, sa_Exact⟩
    Exact_n_over := n_Exact_over
    Exact_n_under := n_Exact_under
    Exact_i1 := i1_Exact
    Exact_i2 := i2_Exact
    Exact_i3 := i3_Exact
    Exact_i4 := i4_Exact
    Exact_k0 := kit_self
    Exact_kt_int := kit_to ic_Exact ty_Exact u_int_Exact
    Exact_ko_int := kit_ob (by decide +kernel) d_int_Exact
    c_PIECE_t := t_PIECE
    c_PIECE := PySem.W.mg_of X G gc_PIECE
    c_ROUND_t := t_ROUND
    c_ROUND := PySem.W.mg_of X G gc_ROUND
    BadText_init_a := BadText_init_a
    BadText_init_d := _
    BadText_init_F := fun_mk (st := s_BadText_init) l_BadText_init c_BadText_init k_BadText_init
    BadText_init_b := (fun_mk (st := s_BadText_init) l_BadText_init c_BadText_init k_BadText_init).binds (ps := ["self", "line"]) fun _ _ _ _ _ _ us hl => match us, hl with | [_, _], _ => rfl
    BadText_init_M := ⟨g_BadText_init, i_BadText_init, k_BadText_init⟩
    BadText_init_kb := kw_binds (fun_mk (st := s_BadText_init) l_BadText_init c_BadText_init k_BadText_init) fun _ _ _ _ _ _ _ _ => rfl
    is_whole_a := is_whole_a
    is_whole_d := _
    is_whole_F := fun_mk (st := s_is_whole) l_is_whole c_is_whole k_is_whole
    is_whole_b := (fun_mk (st := s_is_whole) l_is_whole c_is_whole k_is_whole).binds (ps := ["thing"]) fun _ _ _ _ _ _ us hl => match us, hl with | [_], _ => rfl
    is_whole_m := PySem.W.mg_of X G g_is_whole
    Exact_init_a := Exact_init_a
    Exact_init_d := _
    Exact_init_F := F_Exact_init
    Exact_init_b := b_Exact_init
    Exact_init_M := ⟨g_Exact_init, i_Exact_init, k_Exact_init⟩
    Exact_mk := ⟨mk_Exact, g_Exact_init, i_Exact_init, kc_Exact⟩
    Exact_text_a := Exact_text_a
    Exact_text_d := _
    Exact_text_F := fun_mk (st := s_Exact_text) l_Exact_text c_Exact_text k_Exact_text
    Exact_text_b := (fun_mk (st := s_Exact_text) l_Exact_text c_Exact_text k_Exact_text).binds (ps := ["self"]) fun _ _ _ _ _ _ us hl => match us, hl with | [_], _ => rfl
    Exact_text_M := ⟨g_Exact_text, i_Exact_text, k_Exact_text⟩
    Exact_of_text_p := p_Exact_of_text
    Exact_of_text_S := ⟨rd_Exact_of_text, ga_Exact_of_text, at_Exact_of_text, _, rc_Exact_of_text⟩
    Exact_of_text_a := Exact_of_text_a
    Exact_of_text_d := _
    Exact_of_text_F := fun_mk (st := s_Exact_of_text) l_Exact_of_text c_Exact_of_text k_Exact_of_text
    Exact_of_text_b := (fun_mk (st := s_Exact_of_text) l_Exact_of_text c_Exact_of_text k_Exact_of_text).binds (ps := ["text"]) fun _ _ _ _ _ _ us hl => match us, hl with | [_], _ => rfl
    divisor_a := divisor_a
    divisor_d := _
    divisor_F := fun_mk (st := s_divisor) l_divisor c_divisor k_divisor
    divisor_b := (fun_mk (st := s_divisor) l_divisor c_divisor k_divisor).binds (ps := ["one", "other"]) fun _ _ _ _ _ _ us hl => match us, hl with | [_, _], _ => rfl
    divisor_m := PySem.W.mg_of X G g_divisor
    parts_a := parts_a
    parts_d := _
    parts_F := fun_mk (st := s_parts) l_parts c_parts k_parts
    parts_b := (fun_mk (st := s_parts) l_parts c_parts k_parts).binds (ps := ["number"]) fun _ _ _ _ _ _ us hl => match us, hl with | [_], _ => rfl
    parts_m := PySem.W.mg_of X G g_parts
    number_text_a := number_text_a
    number_text_d := _
    number_text_F := fun_mk (st := s_number_text) l_number_text c_number_text k_number_text
    number_text_b := (fun_mk (st := s_number_text) l_number_text c_number_text k_number_text).binds (ps := ["number"]) fun _ _ _ _ _ _ us hl => match us, hl with | [_], _ => rfl
    number_text_m := PySem.W.mg_of X G g_number_text
    exact_of_a := exact_of_a
    exact_of_d := _
    exact_of_F := fun_mk (st := s_exact_of) l_exact_of c_exact_of k_exact_of
    exact_of_b := (fun_mk (st := s_exact_of) l_exact_of c_exact_of k_exact_of).binds (ps := ["text"]) fun _ _ _ _ _ _ us hl => match us, hl with | [_], _ => rfl
    exact_of_m := PySem.W.mg_of X G g_exact_of
    is_digits_a := is_digits_a
    is_digits_d := _
    is_digits_F := fun_mk (st := s_is_digits) l_is_digits c_is_digits k_is_digits
    is_digits_b := (fun_mk (st := s_is_digits) l_is_digits c_is_digits k_is_digits).binds (ps := ["text"]) fun _ _ _ _ _ _ us hl => match us, hl with | [_], _ => rfl
    is_digits_m := PySem.W.mg_of X G g_is_digits
    digits_of_a := digits_of_a
    digits_of_d := _
    digits_of_F := fun_mk (st := s_digits_of) l_digits_of c_digits_of k_digits_of
    digits_of_b := (fun_mk (st := s_digits_of) l_digits_of c_digits_of k_digits_of).binds (ps := ["whole"]) fun _ _ _ _ _ _ us hl => match us, hl with | [_], _ => rfl
    digits_of_m := PySem.W.mg_of X G g_digits_of
    whole_of_a := whole_of_a
    whole_of_d := _
    whole_of_F := fun_mk (st := s_whole_of) l_whole_of c_whole_of k_whole_of
    whole_of_b := (fun_mk (st := s_whole_of) l_whole_of c_whole_of k_whole_of).binds (ps := ["digits"]) fun _ _ _ _ _ _ us hl => match us, hl with | [_], _ => rfl
    whole_of_m := PySem.W.mg_of X G g_whole_of
    law_fresh_a := law_fresh_a
    law_fresh_d := _
    law_fresh_F := fun_mk (st := s_law_fresh) l_law_fresh c_law_fresh k_law_fresh
    law_fresh_b := (fun_mk (st := s_law_fresh) l_law_fresh c_law_fresh k_law_fresh).binds (ps := ["_law_script"]) fun _ _ _ _ _ _ us hl => match us, hl with | [_], _ => rfl
    law_fresh_m := PySem.W.mg_of X G g_law_fresh
    law_fill_a := law_fill_a
    law_fill_d := _
    law_fill_F := fun_mk (st := s_law_fill) l_law_fill c_law_fill k_law_fill
    law_fill_b := (fun_mk (st := s_law_fill) l_law_fill c_law_fill k_law_fill).binds (ps := ["_law_state"]) fun _ _ _ _ _ _ us hl => match us, hl with | [_], _ => rfl
    law_fill_m := PySem.W.mg_of X G g_law_fill
    law_take_a := law_take_a
    law_take_d := _
    law_take_F := fun_mk (st := s_law_take) l_law_take c_law_take k_law_take
    law_take_b := (fun_mk (st := s_law_take) l_law_take c_law_take k_law_take).binds (ps := ["_law_state", "_law_many"]) fun _ _ _ _ _ _ us hl => match us, hl with | [_, _], _ => rfl
    law_take_m := PySem.W.mg_of X G g_law_take
    law_one_a := law_one_a
    law_one_d := _
    law_one_F := fun_mk (st := s_law_one) l_law_one c_law_one k_law_one
    law_one_b := (fun_mk (st := s_law_one) l_law_one c_law_one k_law_one).binds (ps := ["_law_state", "_law_things"]) fun _ _ _ _ _ _ us hl => match us, hl with | [_, _], _ => rfl
    law_one_m := PySem.W.mg_of X G g_law_one
    law_same_a := law_same_a
    law_same_d := _
    law_same_F := fun_mk (st := s_law_same) l_law_same c_law_same k_law_same
    law_same_b := (fun_mk (st := s_law_same) l_law_same c_law_same k_law_same).binds (ps := ["_law_found", "_law_due"]) fun _ _ _ _ _ _ us hl => match us, hl with | [_, _], _ => rfl
    law_same_m := PySem.W.mg_of X G g_law_same
    law_tried_a := law_tried_a
    law_tried_d := _
    law_tried_F := fun_mk (st := s_law_tried) l_law_tried c_law_tried k_law_tried
    law_tried_b := (fun_mk (st := s_law_tried) l_law_tried c_law_tried k_law_tried).binds (ps := ["_law_deed"]) fun _ _ _ _ _ _ us hl => match us, hl with | [_], _ => rfl
    law_tried_m := PySem.W.mg_of X G g_law_tried
    law_error_a := law_error_a
    law_error_d := _
    law_error_F := fun_mk (st := s_law_error) l_law_error c_law_error k_law_error
    law_error_b := (fun_mk (st := s_law_error) l_law_error c_law_error k_law_error).binds (ps := ["_law_e"]) fun _ _ _ _ _ _ us hl => match us, hl with | [_], _ => rfl
    law_error_m := PySem.W.mg_of X G g_law_error
    law_gcd_a := law_gcd_a
    law_gcd_d := _
    law_gcd_F := fun_mk (st := s_law_gcd) l_law_gcd c_law_gcd k_law_gcd
    law_gcd_b := (fun_mk (st := s_law_gcd) l_law_gcd c_law_gcd k_law_gcd).binds (ps := ["_law_a", "_law_b"]) fun _ _ _ _ _ _ us hl => match us, hl with | [_, _], _ => rfl
    law_gcd_m := PySem.W.mg_of X G g_law_gcd
    law_frac_a := law_frac_a
    law_frac_d := _
    law_frac_F := fun_mk (st := s_law_frac) l_law_frac c_law_frac k_law_frac
    law_frac_b := (fun_mk (st := s_law_frac) l_law_frac c_law_frac k_law_frac).binds (ps := ["_law_over", "_law_under"]) fun _ _ _ _ _ _ us hl => match us, hl with | [_, _], _ => rfl
    law_frac_m := PySem.W.mg_of X G g_law_frac
    law_some_frac_a := law_some_frac_a
    law_some_frac_d := _
    law_some_frac_F := fun_mk (st := s_law_some_frac) l_law_some_frac c_law_some_frac k_law_some_frac
    law_some_frac_b := (fun_mk (st := s_law_some_frac) l_law_some_frac c_law_some_frac k_law_some_frac).binds (ps := ["_law_state"]) fun _ _ _ _ _ _ us hl => match us, hl with | [_], _ => rfl
    law_some_frac_m := PySem.W.mg_of X G g_law_some_frac
    law_as_exact_a := law_as_exact_a
    law_as_exact_d := _
    law_as_exact_F := fun_mk (st := s_law_as_exact) l_law_as_exact c_law_as_exact k_law_as_exact
    law_as_exact_b := (fun_mk (st := s_law_as_exact) l_law_as_exact c_law_as_exact k_law_as_exact).binds (ps := ["_law_x"]) fun _ _ _ _ _ _ us hl => match us, hl with | [_], _ => rfl
    law_as_exact_m := PySem.W.mg_of X G g_law_as_exact
    law_text_a := law_text_a
    law_text_d := _
    law_text_F := fun_mk (st := s_law_text) l_law_text c_law_text k_law_text
    law_text_b := (fun_mk (st := s_law_text) l_law_text c_law_text k_law_text).binds (ps := ["_law_a"]) fun _ _ _ _ _ _ us hl => match us, hl with | [_], _ => rfl
    law_text_m := PySem.W.mg_of X G g_law_text
    law_is_text_a := law_is_text_a
    law_is_text_d := _
    law_is_text_F := fun_mk (st := s_law_is_text) l_law_is_text c_law_is_text k_law_is_text
    law_is_text_b := (fun_mk (st := s_law_is_text) l_law_is_text c_law_is_text k_law_is_text).binds (ps := ["_law_text_here"]) fun _ _ _ _ _ _ us hl => match us, hl with | [_], _ => rfl
    law_is_text_m := PySem.W.mg_of X G g_law_is_text
    law_c := cc9
    law_P := cP9
    law_lk := ⟨_, _, _, _, _, _, _, _, rfl, l_law, c_law⟩
    law_a := fa
    law_d := _
    law_F := fun_mk (st := s_law) l_law c_law k_law
    law_b := (fun_mk (st := s_law) l_law c_law k_law).binds (ps := ["_law_script"]) fun _ _ _ _ _ _ us hl => match us, hl with | [_], _ => rfl
    law_m := PySem.W.mg_of X G g_law
    z_abs := PySem.W.mg_none_of X G hz_abs
    z_all := PySem.W.mg_none_of X G hz_all
    z_bool := PySem.W.mg_none_of X G hz_bool
    z_enumerate := PySem.W.mg_none_of X G hz_enumerate
    z_int := PySem.W.mg_none_of X G hz_int
    z_isinstance := PySem.W.mg_none_of X G hz_isinstance
    z_len := PySem.W.mg_none_of X G hz_len
    z_list := PySem.W.mg_none_of X G hz_list
    z_range := PySem.W.mg_none_of X G hz_range
    z_reversed := PySem.W.mg_none_of X G hz_reversed
    z_str := PySem.W.mg_none_of X G hz_str
    z_tuple := PySem.W.mg_none_of X G hz_tuple
    z_zip := PySem.W.mg_none_of X G hz_zip }
  refine ⟨T.law_d, [(cc9, cP9)], spLaw K cP9, fun p hp => ?_, fun p hp => ?_, fun p hp => ?_, fun s v => .of_eq rfl, fun H a ns hl _ hH hS => ⟨a, ns, rfl, hS, hl, hH _ (List.mem_singleton.mpr rfl), fun _ => rfl⟩, fun base _ _ hTB => ok_law T (hTB _ (List.mem_singleton.mpr rfl))⟩
  · rw [List.mem_singleton.mp hp]
    exact hT _ tm
  · rw [List.mem_singleton.mp hp]
    exact cn_law
  · rw [List.mem_singleton.mp hp]
    exact PySem.W.codeHd_of_K X ch_law
theorem walk {l : PySem.W.OpenLaw} {q : Program} {loose : List Str} {XP : (Str → Option Value) → Heap → Prop} {YP : World → Heap → Prop} {d : DefRec} {K : Params → PySem.W.Frag} (hn : l.most = some 63) (hdf : d.params.defaults = [])
    (hY : ∀ (w : World) (h : Heap), YP w h → (K w.params).In h)
    (F : ∀ (w : World) (mg : Str → Option Value) (fa : Addr) (h : Heap), YP w h → (K w.params).In h → h.Ns mainGlobals mg → mg d.name = some (.ref fa) → LamX.LawAtS l w (K w.params) CX0 14 63 "_law_script" mg fa h) :
    PySem.W.WalkO q loose XP YP l.row.toRowW d [] (fun f vs => PySem.call f vs) :=
  LamX.walk_ofTs (CX := fun _ => CX0) hn (by decide) hdf ⟨rfl, by decide, by decide⟩ hY F fun _ _ _ _ _ z => z
end Gy
open PySem PySem.W PyProof.Rows
set_option maxRecDepth 100000 in
set_option maxHeartbeats 0 in
theorem PySem.Challenge.cw_surelevels_k04_number_texts_holds : PySem.Challenge.rw_surelevels_k04_number_texts.Holds := by
  w_on; o_law; k_head; (case hw => w_witness2)
  k_fill
  refine Gy.walk (l := PySem.Challenge.rw_surelevels_k04_number_texts) rfl rfl (fun w h Y => PySem.W.km_in_of Y) ?F
  case F =>
    intro w mg fa h Y KX G hmg
    refine' Gy.all_mk KX G (PySem.W.km_tabs_of Y) hmg ?g_LevelError ?xl_LevelError ?sa_LevelError ?ga_LevelError ?ca_LevelError ?gg_LevelError ?ty_LevelError ?kp_LevelError ?g_BadPart ?xl_BadPart ?sa_BadPart ?ga_BadPart ?ca_BadPart ?gg_BadPart ?ty_BadPart ?kp_BadPart ?n_BadPart_part ?g_BadText ?xl_BadText ?sa_BadText ?ga_BadText ?ca_BadText ?gg_BadText ?ty_BadText ?kp_BadText ?n_BadText_line ?eg1 ?eg2 ?ev ?e_nd ?g_Exact ?pg_Exact ?hd_Exact ?po_Exact ?sa_Exact ?n_Exact_over ?n_Exact_under ?i1_Exact ?i2_Exact ?i3_Exact ?i4_Exact ?ic_Exact ?ty_Exact ?u_int_Exact ?d_int_Exact ?gc_PIECE ?gc_ROUND ?g_BadText_init ?i_BadText_init ?l_BadText_init ?c_BadText_init ?k_BadText_init ?g_is_whole ?l_is_whole ?c_is_whole ?k_is_whole ?g_Exact_init ?i_Exact_init ?l_Exact_init ?c_Exact_init ?k_Exact_init ?t_Exact_init ?mk_Exact ?kc_Exact ?g_Exact_text ?i_Exact_text ?l_Exact_text ?c_Exact_text ?k_Exact_text ?rd_Exact_of_text ?ga_Exact_of_text ?at_Exact_of_text ?rc_Exact_of_text ?l_Exact_of_text ?c_Exact_of_text ?k_Exact_of_text ?g_divisor ?l_divisor ?c_divisor ?k_divisor ?g_parts ?l_parts ?c_parts ?k_parts ?g_number_text ?l_number_text ?c_number_text ?k_number_text ?g_exact_of ?l_exact_of ?c_exact_of ?k_exact_of ?g_is_digits ?l_is_digits ?c_is_digits ?k_is_digits ?g_digits_of ?l_digits_of ?c_digits_of ?k_digits_of ?g_whole_of ?l_whole_of ?c_whole_of ?k_whole_of ?g_law_fresh ?l_law_fresh ?c_law_fresh ?k_law_fresh ?g_law_fill ?l_law_fill ?c_law_fill ?k_law_fill ?g_law_take ?l_law_take ?c_law_take ?k_law_take ?g_law_one ?l_law_one ?c_law_one ?k_law_one ?g_law_same ?l_law_same ?c_law_same ?k_law_same ?g_law_tried ?l_law_tried ?c_law_tried ?k_law_tried ?g_law_error ?l_law_error ?c_law_error ?k_law_error ?g_law_gcd ?l_law_gcd ?c_law_gcd ?k_law_gcd ?g_law_frac ?l_law_frac ?c_law_frac ?k_law_frac ?g_law_some_frac ?l_law_some_frac ?c_law_some_frac ?k_law_some_frac ?g_law_as_exact ?l_law_as_exact ?c_law_as_exact ?k_law_as_exact ?g_law_text ?l_law_text ?c_law_text ?k_law_text ?g_law_is_text ?l_law_is_text ?c_law_is_text ?k_law_is_text ?g_law ?l_law ?c_law ?k_law ?cc_law ?co_law ?cp_law ?ch_law ?cn_law ?hz_abs ?hz_all ?hz_bool ?hz_enumerate ?hz_int ?hz_isinstance ?hz_len ?hz_list ?hz_range ?hz_reversed ?hz_str ?hz_tuple ?hz_zip ?tm
    (case g_LevelError => k_is); (case xl_LevelError => k_is); (case sa_LevelError => k_is); (case ga_LevelError => k_is); (case ca_LevelError => k_is); (case gg_LevelError => k_is); (case ty_LevelError => k_is); (case kp_LevelError => k_is)
    (case g_BadPart => k_is); (case xl_BadPart => k_is); (case sa_BadPart => k_is); (case ga_BadPart => k_is); (case ca_BadPart => k_is); (case gg_BadPart => k_is); (case ty_BadPart => k_is); (case kp_BadPart => k_is)
    (case n_BadPart_part => k_is); (case g_BadText => k_is); (case xl_BadText => k_is); (case sa_BadText => k_is); (case ga_BadText => k_is); (case ca_BadText => k_is); (case gg_BadText => k_is); (case ty_BadText => k_is)
    (case kp_BadText => k_is); (case n_BadText_line => k_is); (case eg1 => k_is); (case eg2 => k_is); (case ev => k_is); (case g_Exact => k_is); (case pg_Exact => k_is); (case hd_Exact => k_is)
    (case po_Exact => k_is); (case sa_Exact => k_is); (case n_Exact_over => k_is); (case n_Exact_under => k_is); (case i1_Exact => k_is); (case i2_Exact => k_is); (case i3_Exact => k_is); (case i4_Exact => k_is)
    (case ic_Exact => k_is); (case ty_Exact => k_is); (case u_int_Exact => k_is); (case d_int_Exact => k_is); (case gc_PIECE => k_is); (case gc_ROUND => k_is); (case g_BadText_init => k_is); (case i_BadText_init => k_is)
    (case l_BadText_init => k_is); (case c_BadText_init => k_is); (case k_BadText_init => k_is); (case g_is_whole => k_is); (case l_is_whole => k_is); (case c_is_whole => k_is); (case k_is_whole => k_is); (case g_Exact_init => k_is)
    (case i_Exact_init => k_is); (case l_Exact_init => k_is); (case c_Exact_init => k_is); (case k_Exact_init => k_is); (case t_Exact_init => k_is); (case mk_Exact => k_is); (case kc_Exact => k_is); (case g_Exact_text => k_is)
    (case i_Exact_text => k_is); (case l_Exact_text => k_is); (case c_Exact_text => k_is); (case k_Exact_text => k_is); (case rd_Exact_of_text => k_is); (case ga_Exact_of_text => k_is); (case at_Exact_of_text => k_is); (case rc_Exact_of_text => k_is)
    (case l_Exact_of_text => k_is); (case c_Exact_of_text => k_is); (case k_Exact_of_text => k_is); (case g_divisor => k_is); (case l_divisor => k_is); (case c_divisor => k_is); (case k_divisor => k_is); (case g_parts => k_is)
    (case l_parts => k_is); (case c_parts => k_is); (case k_parts => k_is); (case g_number_text => k_is); (case l_number_text => k_is); (case c_number_text => k_is); (case k_number_text => k_is); (case g_exact_of => k_is)
    (case l_exact_of => k_is); (case c_exact_of => k_is); (case k_exact_of => k_is); (case g_is_digits => k_is); (case l_is_digits => k_is); (case c_is_digits => k_is); (case k_is_digits => k_is); (case g_digits_of => k_is)
    (case l_digits_of => k_is); (case c_digits_of => k_is); (case k_digits_of => k_is); (case g_whole_of => k_is); (case l_whole_of => k_is); (case c_whole_of => k_is); (case k_whole_of => k_is); (case g_law_fresh => k_is)
    (case l_law_fresh => k_is); (case c_law_fresh => k_is); (case k_law_fresh => k_is); (case g_law_fill => k_is); (case l_law_fill => k_is); (case c_law_fill => k_is); (case k_law_fill => k_is); (case g_law_take => k_is)
    (case l_law_take => k_is); (case c_law_take => k_is); (case k_law_take => k_is); (case g_law_one => k_is); (case l_law_one => k_is); (case c_law_one => k_is); (case k_law_one => k_is); (case g_law_same => k_is)
    (case l_law_same => k_is); (case c_law_same => k_is); (case k_law_same => k_is); (case g_law_tried => k_is); (case l_law_tried => k_is); (case c_law_tried => k_is); (case k_law_tried => k_is); (case g_law_error => k_is)
    (case l_law_error => k_is); (case c_law_error => k_is); (case k_law_error => k_is); (case g_law_gcd => k_is); (case l_law_gcd => k_is); (case c_law_gcd => k_is); (case k_law_gcd => k_is); (case g_law_frac => k_is)
    (case l_law_frac => k_is); (case c_law_frac => k_is); (case k_law_frac => k_is); (case g_law_some_frac => k_is); (case l_law_some_frac => k_is); (case c_law_some_frac => k_is); (case k_law_some_frac => k_is); (case g_law_as_exact => k_is)
    (case l_law_as_exact => k_is); (case c_law_as_exact => k_is); (case k_law_as_exact => k_is); (case g_law_text => k_is); (case l_law_text => k_is); (case c_law_text => k_is); (case k_law_text => k_is); (case g_law_is_text => k_is)
    (case l_law_is_text => k_is); (case c_law_is_text => k_is); (case k_law_is_text => k_is); (case g_law => k_is); (case l_law => k_is); (case cc_law => exact rfl); (case c_law => k_is); (case k_law => k_is)
    (case co_law => k_is); (case hz_abs => k_is); (case hz_all => k_is); (case hz_bool => k_is); (case hz_enumerate => k_is); (case hz_int => k_is); (case hz_isinstance => k_is); (case hz_len => k_is)
    (case hz_list => k_is); (case hz_range => k_is); (case hz_reversed => k_is); (case hz_str => k_is); (case hz_tuple => k_is); (case hz_zip => k_is); (case e_nd => decide); (case cp_law => exact rfl)
    (case ch_law => kernel_rfl); (case cn_law => kernel_rfl); (case tm => exact List.mem_cons_self)

