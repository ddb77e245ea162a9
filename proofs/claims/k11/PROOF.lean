import PyProof.Rows.All
import Wide.All
import OpenK.AllK
import Wide.FinOn
import PyProof.EqAt
import PyProof.EqKinds
import PyProof.TupleCall
import PyProof.NoPylong
import PyProof.StrReplace2
import KE.KOpsOwn
import KE.GoesMore
import KE.GoesEnum
import HandS.ForMost
import HandS.ForExc
import HandS.IsInst
import HandS.Wide
import HandS.EndBits
import HandS.Style
import HandS.Zip
import HandS.Walk
import HandS.Defaults
import KE.KExcIs
import HandS.ExcInit
import HandS.More
import KE.KNestM
import HandS.HotCalls
import HandS.ExcIs
import HandS.Lambda
import HandS.EndTab
import HandS.Text
import HandS.StrMore
import HandS.RevTup
import HandS.Rev
import HandS.Star
import PySem.Challenge.RW_surelevels_k11_lines_told
set_option Elab.async false
set_option linter.all false
set_option maxRecDepth 100000
set_option maxHeartbeats 4000000
/-! Lay0: what every law of this program leans on, beside the library: own operators, great numbers, enumerate of a tuple. -/
namespace PySem.W
open PySem PySem.Calls PyProof.Rows
section
variable {prog : Program} {w : World} {A : Around} {E : Value → Shared → Prop} {s : Shared} {K : Frag} {x C L f : Addr} {h₀ : Heap} {m : Str → Option Value} {ox : Obj} {od : Option Obj} {nm T : String}

/-- x op b, x an own instance, b of a built-in type that the heap may tell -/
theorem gy_binT {op : Operator} {b : Value} {fo ro rc : Option Value} {Q : Value → Shared → Prop} (F : Fr h₀ L s.heap m) (X₀ : K.In h₀) (I : InstAt s.heap x ox C od) (hb : Looks (model prog w) s.heap (typeOf b) (.type T)) (hc : selfFirst K C = true)
    (hs : findIn K (.ref C) (PySem.dunder op.info.2) = some (some (.ref f))) (hf : isFn K (.ref f) = true) (hr : findIn K (.ref C) (dunderR op.info.2) = some rc) (hp : rc = none ∨ ∃ g : Addr, rc = some (.ref g))
    (h1 : findIn K (.type T) (PySem.dunder op.info.2) = some fo) (h2 : findIn K (.type T) (dunderR op.info.2) = some ro) (hsub : subIn K (.type T) (.ref C) = some false)
    (h : wpAny (model prog w) A (call (.ref f) [.ref x, b]) (CmpBack Q) E s) : wpAny (model prog w) A (binaryOp op (.ref x) b) Q E s := by
  have X := X₀.keeps F.keep
  obtain ⟨cd, rest, hcd, hm⟩ := ksp_first hc
  rcases hi : op.info with ⟨sym, nm'⟩
  rw [hi] at hs hr h1 h2
  dsimp only at hs hr h1 h2
  have one := ksp_try X I hs hf h
  obtain ⟨hh, g, d, tt, os⟩ := s
  have L1 : Looks (model prog w) hh (typeOf (.ref x)) (.ref C) := I.type
  have L2 : Looks (model prog w) hh (typeOf b) (.type T) := hb
  have L3 : Looks (model prog w) hh (fillsNumberSlot (.ref C) nm') true := fills_K X hcd hm hs
  have L4 : Looks (model prog w) hh (fillsNumberSlot (.type T) nm') ((fo.isSome && !isSeqSlot fo) || (ro.isSome && !isSeqSlot ro)) := ksp_fillsT X h1 h2
  have L5 : Looks (model prog w) hh (isSubtype (.type T) (.ref C)) false := looks_subIn X hsub
  have L6 : Looks (model prog w) hh (numberSlotInPython (.ref C) nm') true := ksp_inPy X hs hr hp
  have L7 : Looks (model prog w) hh (numberSlotInPython (.type T) nm') false := Looks.of_pure rfl
  have L8 : Looks (model prog w) hh (typeLookup (.type T) (dunderR nm')) ro := looks_findIn X h2
  generalize ((fo.isSome && !isSeqSlot fo) || (ro.isSome && !isSeqSlot ro)) = right at L4
  have hne : (Value.ref C == Value.type T) = false := Bool.eq_false_iff.mpr fun q => by cases beq_iff_eq.mp q
  simp only [binaryOp, hi]
  refine wpAny_holding (wpAny_bind ?_)
  unfold binaryOp1
  refine wpAny_bind (L1.at (wpAny_bind (L2.at (wpAny_bind (L3.at ?_)))))
  simp only [hne, Bool.false_eq_true, if_false]
  cases right with
  | false =>
    ksp_lk
    refine wpAny_mono one (fun r s' hr' => ?_) fun _ _ e => e
    obtain ⟨v, rfl, hq⟩ := hr'
    ksp_lk
    exact hq
  | true =>
    ksp_lk
    refine wpAny_mono one (fun r s' hr' => ?_) fun _ _ e => e
    obtain ⟨v, rfl, hq⟩ := hr'
    ksp_lk
    exact hq

/-- the class of x fills the slot by its reflected method -/
theorem gy_fillsR {M : Model} {h : Heap} {cd : ClassData} {rest : List Value} {fd : Option Value} (X : K.In h) (hc : clsIn K C = some cd) (hm : cd.mro = .ref C :: rest) (hd : findIn K (.ref C) (PySem.dunder nm) = some fd) (hp : fd = none ∨ ∃ g : Addr, fd = some (.ref g))
    (hs : findIn K (.ref C) (dunderR nm) = some (some (.ref f))) : Looks M h (fillsNumberSlot (.ref C) nm) true := by
  rcases hp with rfl | ⟨g, rfl⟩
  · intro A Q E s k q
    unfold fillsNumberSlot
    refine wpAny_bind ((looks_clsIn X hc).andThen (f := fun cd => pure cd.mro) .now A _ E s k ?_)
    rw [hm, List.anyM_cons]
    refine wpAny_bind ?_
    show wpAny M A (List.anyM _ [PySem.dunder nm, dunderR nm]) _ _ _
    rw [List.anyM_cons]
    refine wpAny_bind (wpAny_bind (looks_findIn X hd A _ E s k ?_))
    dsimp only
    refine wpAny_pure ?_
    rw [if_neg (by decide), List.anyM_cons]
    refine wpAny_bind (wpAny_bind (looks_findIn X hs A _ E s k ?_))
    dsimp only
    rw [if_pos (show (!ownNameWrapper (.ref f) (dunderR nm)) = true from rfl)]
    refine wpAny_pure ?_
    rw [if_pos rfl]
    refine wpAny_pure ?_
    rw [if_pos rfl]
    exact wpAny_pure q
  · exact fills_K X hc hm hd

/-- b op x, b of a built-in type whose own slot (if it is a number's) declines, x an own instance with the reflected method at f -/
theorem gy_binR {op : Operator} {b : Value} {fd fo ro : Option Value} {Q : Value → Shared → Prop} (F : Fr h₀ L s.heap m) (X₀ : K.In h₀) (I : InstAt s.heap x ox C od) (hb : Looks (model prog w) s.heap (typeOf b) (.type T)) (hc : selfFirst K C = true)
    (hd : findIn K (.ref C) (PySem.dunder op.info.2) = some fd) (hp : fd = none ∨ ∃ g : Addr, fd = some (.ref g))
    (hs : findIn K (.ref C) (dunderR op.info.2) = some (some (.ref f))) (hf : isFn K (.ref f) = true)
    (h1 : findIn K (.type T) (PySem.dunder op.info.2) = some fo) (h2 : findIn K (.type T) (dunderR op.info.2) = some ro) (hsub : subIn K (.ref C) (.type T) = some false)
    (hdec : ((fo.isSome && !isSeqSlot fo) || (ro.isSome && !isSeqSlot ro)) = true → ∀ P : Option Value → Shared → Prop, P none s → wpAny (model prog w) A (tryMethod b (PySem.dunder op.info.2) (.ref x)) P E s)
    (h : wpAny (model prog w) A (call (.ref f) [.ref x, b]) (CmpBack Q) E s) : wpAny (model prog w) A (binaryOp op b (.ref x)) Q E s := by
  have X := X₀.keeps F.keep
  obtain ⟨cd, rest, hcd, hm⟩ := ksp_first hc
  rcases hi : op.info with ⟨sym, nm'⟩
  rw [hi] at hs hd h1 h2 hdec
  dsimp only at hs hd h1 h2 hdec
  have one := ksp_try X I hs hf h
  obtain ⟨hh, g, d, tt, os⟩ := s
  have L1 : Looks (model prog w) hh (typeOf (.ref x)) (.ref C) := I.type
  have L2 : Looks (model prog w) hh (typeOf b) (.type T) := hb
  have L3 : Looks (model prog w) hh (fillsNumberSlot (.ref C) nm') true := gy_fillsR X hcd hm hd hp hs
  have L4 : Looks (model prog w) hh (fillsNumberSlot (.type T) nm') ((fo.isSome && !isSeqSlot fo) || (ro.isSome && !isSeqSlot ro)) := ksp_fillsT X h1 h2
  have L5 : Looks (model prog w) hh (isSubtype (.ref C) (.type T)) false := looks_subIn X hsub
  have L7 : Looks (model prog w) hh (numberSlotInPython (.type T) nm') false := Looks.of_pure rfl
  generalize ((fo.isSome && !isSeqSlot fo) || (ro.isSome && !isSeqSlot ro)) = left at L4 hdec
  have hne : (Value.type T == Value.ref C) = false := Bool.eq_false_iff.mpr fun q => by cases beq_iff_eq.mp q
  simp only [binaryOp, hi]
  refine wpAny_holding (wpAny_bind ?_)
  unfold binaryOp1
  refine wpAny_bind (L2.at (wpAny_bind (L1.at (wpAny_bind (L4.at ?_)))))
  simp only [hne, Bool.false_eq_true, if_false]
  cases left with
  | false =>
    ksp_lk
    refine wpAny_mono one (fun r s' hr' => ?_) fun _ _ e => e
    obtain ⟨v, rfl, hq⟩ := hr'
    ksp_lk
    exact hq
  | true =>
    ksp_lk
    refine hdec rfl _ ?_
    ksp_lk
    refine wpAny_mono one (fun r s' hr' => ?_) fun _ _ e => e
    obtain ⟨v, rfl, hq⟩ := hr'
    ksp_lk
    exact hq
end
end PySem.W

namespace PySem.GyDec
open PySem PySem.W
section
variable {C dx x : Addr} (a : Int) (t : Tok)
theorem add_dec : GivesAt (fun s => s.heap.get? x = some (instObj C dx)) (Builtin.«int.__add__» ⟨[.int a t, .ref x], []⟩) (.val .notImplemented) := fun prog w A R s hP h => by
  obtain ⟨hp, g, d, tk, os⟩ := s
  have hl : Heap.get? (Shared.heap ⟨hp, g, d, tk, os⟩) x = some (instObj C dx) := hP
  wp_walk using AutoSeq1.wpAny_loadPart' hl
  exact h
theorem sub_dec : GivesAt (fun s => s.heap.get? x = some (instObj C dx)) (Builtin.«int.__sub__» ⟨[.int a t, .ref x], []⟩) (.val .notImplemented) := fun prog w A R s hP h => by
  obtain ⟨hp, g, d, tk, os⟩ := s
  have hl : Heap.get? (Shared.heap ⟨hp, g, d, tk, os⟩) x = some (instObj C dx) := hP
  wp_walk using AutoSeq1.wpAny_loadPart' hl
  exact h
theorem mul_dec : GivesAt (fun s => s.heap.get? x = some (instObj C dx)) (Builtin.«int.__mul__» ⟨[.int a t, .ref x], []⟩) (.val .notImplemented) := fun prog w A R s hP h => by
  obtain ⟨hp, g, d, tk, os⟩ := s
  have hl : Heap.get? (Shared.heap ⟨hp, g, d, tk, os⟩) x = some (instObj C dx) := hP
  wp_walk using AutoSeq1.wpAny_loadPart' hl
  exact h
end
section
variable {prog : Program} {w : World} {A : Around} {E : Value → Shared → Prop} {s : Shared} {C dx x : Addr} {a : Int} {t : Tok} {P : Option Value → Shared → Prop}
theorem try_dec {name : Str} {id : String} {B : Builtin} (slot : Slot "int" name id) (entry : entryFor table id = some B) (args : argsOk id ⟨[.int a t, .ref x], []⟩)
    (g : GivesAt (fun s => s.heap.get? x = some (instObj C dx)) (B ⟨[.int a t, .ref x], []⟩) (.val .notImplemented)) (hx : s.heap.get? x = some (instObj C dx)) (h : P none s) : wpAny (model prog w) A (tryMethod (.int a t) name (.ref x)) P E s :=
  wpAny_tryMethod_declines (typeIs_int s a t) slot (call_givesAt slot (typeIs_int s a t) entry args g hx ⟨rfl, h⟩)
theorem try_add (hx : s.heap.get? x = some (instObj C dx)) (h : P none s) : wpAny (model prog w) A (tryMethod (.int a t) (PySem.dunder Operator.Add.info.2) (.ref x)) P E s :=
  try_dec (name := PySem.dunder Operator.Add.info.2) (id := "int.__add__") (B := Builtin.«int.__add__») F.slot_int_add F.entry_int_add (F.args_int_add_2 _ _) (add_dec a t) hx h
theorem try_sub (hx : s.heap.get? x = some (instObj C dx)) (h : P none s) : wpAny (model prog w) A (tryMethod (.int a t) (PySem.dunder Operator.Sub.info.2) (.ref x)) P E s :=
  try_dec (name := PySem.dunder Operator.Sub.info.2) (id := "int.__sub__") (B := Builtin.«int.__sub__») F.slot_int_sub F.entry_int_sub (F.args_int_sub_2 _ _) (sub_dec a t) hx h
theorem try_mul (hx : s.heap.get? x = some (instObj C dx)) (h : P none s) : wpAny (model prog w) A (tryMethod (.int a t) (PySem.dunder Operator.Mult.info.2) (.ref x)) P E s :=
  try_dec (name := PySem.dunder Operator.Mult.info.2) (id := "int.__mul__") (B := Builtin.«int.__mul__») F.slot_int_mul F.entry_int_mul (F.args_int_mul_2 _ _) (mul_dec a t) hx h
end
end PySem.GyDec

namespace L2
open PySem PySem.Spec PyProof.Rows
/-! ### an own class's operators -/
/-- what the text says of the class at C for the operator op: its method at g, its reflected one at r -/
structure GyOp (K : PySem.W.Frag) (C : Addr) (op : Operator) (g r : Addr) : Prop where
  sf : PySem.W.selfFirst K C = true
  d : PySem.W.findIn K (.ref C) (PySem.dunder op.info.2) = some (some (.ref g))
  df : PySem.W.isFn K (.ref g) = true
  rm : PySem.W.findIn K (.ref C) (dunderR op.info.2) = some (some (.ref r))
  rf : PySem.W.isFn K (.ref r) = true
  i1 : ∃ fo, PySem.W.findIn K (.type "int") (PySem.dunder op.info.2) = some fo
  i2 : ∃ ro, PySem.W.findIn K (.type "int") (dunderR op.info.2) = some ro
  up : PySem.W.subIn K (.type "int") (.ref C) = some false
  dn : PySem.W.subIn K (.ref C) (.type "int") = some false
theorem gy_back {P : Value → Shared → Prop} {z : V} {v : Value} {s' : Shared} (r : RelV z v) (h : P v s') : PySem.W.CmpBack P v s' := by
  cases z with
  | non => cases (show v = Value.none from r); exact h
  | bl b => cases (show v = Value.bool b from r); exact h
  | int i => obtain ⟨t, e⟩ := (show ∃ t, v = Value.int i t from r); cases e; exact h
  | str x => obtain ⟨t, e⟩ := (show ∃ t, v = Value.str x t from r); cases e; exact h
  | byt b => obtain ⟨t, e⟩ := (show ∃ t, v = Value.bytes b t from r); cases e; exact h
  | flt b => obtain ⟨t, e⟩ := (show ∃ t, v = Value.float b t from r); cases e; exact h
  | ref a => cases (show v = Value.ref a from r); exact h
  | ty n => cases (show v = Value.type n from r); exact h
section
variable {X : Cx} {CX : CXT} {pins : List (Addr × Obj)} {σ : St} {H : Hp} {s : Shared} {a C dx g r : Addr} {fs : List (Str × V)} {k : Nat} {fd : FuncData} {ps : List Str} {sp : Sp} {E : XK}
theorem ins_at (I : Inv X pins σ H s) (h : H a = some (.ins C dx fs)) : ∃ od, PySem.W.InstAt s.heap a (PySem.W.instObj C dx) C (some od) ∧ s.heap.get? a = some (PySem.W.instObj C dx) := by
  obtain ⟨mA, O, _⟩ := ins_get I.hok h
  obtain ⟨od, J, _⟩ := O.look
  exact ⟨od, J, J.at_⟩
/-- x op y, x an instance, y an instance or an int -/
def rGyD (C : Addr) (sp : Sp) (E : XK) : R2 := fun x y H Q => ∃ a dx fs, x = .ref a ∧ H a = some (.ins C dx fs) ∧ ((∃ b dy gs, y = .ref b ∧ H b = some (.ins C dy gs)) ∨ ∃ i, y = .int i) ∧ sp [x, y] H Q E
theorem op_gyD {op : Operator} (D : GyOp X.K C op g r) (F : FnOk X.prog X.w X.K X.mg X.base CX k g fd ps sp) (hr : Room k X.A) (hb : Binds X.K fd ps []) (hx : Passes CX X E) : OpR X (binaryOp op) (rGyD C sp E) := by
  intro pins s σ H x y v u Q I rx ry h
  obtain ⟨a, dx, fs, rfl, ha, hy, q⟩ := h
  obtain rfl : v = Value.ref a := rx
  obtain ⟨od, J, _⟩ := ins_at I ha
  obtain ⟨m, hF⟩ := I.fr
  have q' : sp ([.ref a, y] ++ []) H Q E := q
  have go : wpAny (model X.prog X.w) X.A (call (.ref g) [.ref a, u]) (PySem.W.CmpBack (EP X pins σ Q)) X.xe s :=
    wpAny_mono (run_fn (us := [.ref a, u]) (vs := [.ref a, y]) F hr hb .nil hx I (.cons rfl (.cons ry .nil)) q') (fun w s' z => by
      obtain ⟨z', H', I', rz, qz⟩ := z
      exact gy_back rz ⟨z', H', I', rz, qz⟩) fun _ _ e => e
  rcases hy with ⟨b, dy, gs, rfl, hb'⟩ | ⟨i, rfl⟩
  · obtain rfl : u = Value.ref b := ry
    obtain ⟨od', J', _⟩ := ins_at I hb'
    exact PySem.W.binop_K hF I.ok.mod.kin J J'.type D.sf D.d D.df go
  · obtain ⟨t, rfl⟩ := ry
    obtain ⟨fo, h1⟩ := D.i1
    obtain ⟨ro, h2⟩ := D.i2
    exact PySem.W.gy_binT hF I.ok.mod.kin J (PySem.W.Looks.of_pure rfl) D.sf D.d D.df D.rm (.inr ⟨r, rfl⟩) h1 h2 D.up go
/-- n op y, n an int, y an instance: its reflected method -/
def rGyR (C : Addr) (sp : Sp) (E : XK) : R2 := fun x y H Q => ∃ i b dy gs, x = .int i ∧ y = .ref b ∧ H b = some (.ins C dy gs) ∧ sp [y, x] H Q E
theorem op_gyR {op : Operator} (D : GyOp X.K C op g r) (dec : ∀ (A : Around) (E : Value → Shared → Prop) (s : Shared) (C dx x : Addr) (a : Int) (t : Tok) (P : Option Value → Shared → Prop), s.heap.get? x = some (PySem.W.instObj C dx) → P none s →
      wpAny (model X.prog X.w) A (tryMethod (.int a t) (PySem.dunder op.info.2) (.ref x)) P E s)
    (F : FnOk X.prog X.w X.K X.mg X.base CX k r fd ps sp) (hr : Room k X.A) (hb : Binds X.K fd ps []) (hx : Passes CX X E) : OpR X (binaryOp op) (rGyR C sp E) := by
  intro pins s σ H x y v u Q I rx ry h
  obtain ⟨i, b, dy, gs, rfl, rfl, hb', q⟩ := h
  obtain ⟨t, rfl⟩ := rx
  obtain rfl : u = Value.ref b := ry
  obtain ⟨od, J, hg⟩ := ins_at I hb'
  obtain ⟨m, hF⟩ := I.fr
  obtain ⟨fo, h1⟩ := D.i1
  obtain ⟨ro, h2⟩ := D.i2
  have q' : sp ([.ref b, .int i] ++ []) H Q E := q
  have go : wpAny (model X.prog X.w) X.A (call (.ref r) [.ref b, .int i t]) (PySem.W.CmpBack (EP X pins σ Q)) X.xe s :=
    wpAny_mono (run_fn (us := [.ref b, .int i t]) (vs := [.ref b, .int i]) F hr hb .nil hx I (.cons rfl (.cons ⟨t, rfl⟩ .nil)) q') (fun w s' z => by
      obtain ⟨z', H', I', rz, qz⟩ := z
      exact gy_back rz ⟨z', H', I', rz, qz⟩) fun _ _ e => e
  exact PySem.W.gy_binR hF I.ok.mod.kin J (PySem.W.Looks.of_pure rfl) D.sf D.d (.inr ⟨g, rfl⟩) D.rm D.rf h1 h2 D.dn (fun _ P hp => dec X.A _ s C dy b i t P hg hp) go
theorem op_gyRadd (D : GyOp X.K C .Add g r) (F : FnOk X.prog X.w X.K X.mg X.base CX k r fd ps sp) (hr : Room k X.A) (hb : Binds X.K fd ps []) (hx : Passes CX X E) : OpR X (binaryOp .Add) (rGyR C sp E) :=
  op_gyR D (fun A E s C dx x a t P hx hp => GyDec.try_add hx hp) F hr hb hx
theorem op_gyRsub (D : GyOp X.K C .Sub g r) (F : FnOk X.prog X.w X.K X.mg X.base CX k r fd ps sp) (hr : Room k X.A) (hb : Binds X.K fd ps []) (hx : Passes CX X E) : OpR X (binaryOp .Sub) (rGyR C sp E) :=
  op_gyR D (fun A E s C dx x a t P hx hp => GyDec.try_sub hx hp) F hr hb hx
theorem op_gyRmul (D : GyOp X.K C .Mult g r) (F : FnOk X.prog X.w X.K X.mg X.base CX k r fd ps sp) (hr : Room k X.A) (hb : Binds X.K fd ps []) (hx : Passes CX X E) : OpR X (binaryOp .Mult) (rGyR C sp E) :=
  op_gyR D (fun A E s C dx x a t P hx hp => GyDec.try_mul hx hp) F hr hb hx
/-- -x of an instance -/
def rGyN (C : Addr) (sp : Sp) (E : XK) : V → Hp → VK → Prop := fun x H Q => ∃ a dx fs, x = .ref a ∧ H a = some (.ins C dx fs) ∧ sp [x] H Q E
theorem un_gyN (hs : PySem.W.findIn X.K (.ref C) "__neg__" = some (some (.ref g))) (hf : PySem.W.isFn X.K (.ref g) = true) (F : FnOk X.prog X.w X.K X.mg X.base CX k g fd ps sp) (hr : Room k X.A) (hb : Binds X.K fd ps []) (hx : Passes CX X E) :
    UnR X (unaryOp .USub) (rGyN C sp E) := by
  intro pins s σ H x v Q I rx h
  obtain ⟨a, dx, fs, rfl, ha, q⟩ := h
  obtain rfl : v = Value.ref a := rx
  obtain ⟨od, J, _⟩ := ins_at I ha
  obtain ⟨m, hF⟩ := I.fr
  have q' : sp ([.ref a] ++ []) H Q E := q
  exact PySem.W.ksp_neg hF I.ok.mod.kin J hs hf (run_fn (us := [.ref a]) (vs := [.ref a]) F hr hb .nil hx I (.cons rfl .nil) q')
end
/-! ### great numbers -/
section
variable {X : Cx}
def GDiv (_ j : Int) : Prop := j ≠ 0 ∧ j.natAbs.log2 < 9000
theorem op_mulG : OpR X (binaryOp .Mult) (rI IntMulOk fun i j => .int (i * j)) := opI fun _ _ _ _ _ _ _ hc q => mul_int q hc
theorem op_fdivG : OpR X (binaryOp .FloorDiv) (rI GDiv fun i j => .int (i.fdiv j)) := opI fun _ _ _ _ _ _ _ hc q => floordiv_int hc.1 q (.inl (PyProof.noPylong_of_log2 hc.2))
end
theorem gDiv_lt {i j : Int} {b : Nat} (h : j ≠ 0) (hb : j.natAbs < 2 ^ b) (h0 : 0 < b) (h9 : b ≤ 9000) : GDiv i j := ⟨h, Nat.lt_of_lt_of_le (PySem.Flt.log2_lt_of h0 hb) h9⟩
end L2

namespace PySem
open PySem.W PyProof.Rows AutoSeq1
theorem gy_enum_new (l : Addr) (items : Array Value) (o : Obj) (n : Nat) (ho : o.cls = .type "tuple" ∧ o.data = .seq items n) :
    Meets (Builtin.«enumerate.__new__» ⟨[.type "enumerate", .ref l], []⟩) (fun _ R s => s.heap.get? l = some o ∧
      R (.ok (.ret (.ref (s.heap.push { cls := .type "tuple_iterator", data := .fields #[.ref l, .int 0 0] }).objs.size)))
        { s with heap := (s.heap.push { cls := .type "tuple_iterator", data := .fields #[.ref l, .int 0 0] }).push { cls := .type "enumerate", data := .fields #[.none, .bool false, .ref s.heap.objs.size, rawInt 0, .none, .none] } }) :=
  .of_wp fun prog w A R s h => by
    obtain ⟨hp, g, d, tk, os⟩ := s
    obtain ⟨hl, h⟩ := h
    have hsub := sub_enumerate
    have hL : Heap.IsTuple (Shared.heap ⟨hp, g, d, tk, os⟩) l items := ⟨_, hl, ho.1, n, ho.2⟩
    wp_walk using wpAny_loadPart' hl
    refine wpAny_stack_any fun st => wpAny_pure ?_
    split
    · rename_i c _ _ _ _ _
      cases (c == Value.type "enumerate")
      · wp_walk using wpAny_loadPart' hl, wpAny_pyIter_tuple hL
        exact ⟨_, rfl, h⟩
      · wp_walk using wpAny_loadPart' hl, wpAny_pyIter_tuple hL
        exact ⟨_, rfl, h⟩
    · wp_walk using wpAny_loadPart' hl, wpAny_pyIter_tuple hL
      exact ⟨_, rfl, h⟩
section
variable {prog : Program} {w : World} {A : Around} {E : Value → Shared → Prop} {s : Shared}
theorem gy_call_enum {l : Addr} {items : Array Value} {Q : Value → Shared → Prop} (hL : IsTup s.heap l items)
    (h : ∀ h', IsEnum h' (s.heap.objs.size + 1) s.heap.objs.size 0 .none → h'.IsTupleIter s.heap.objs.size l 0 → h'.objs.size = s.heap.objs.size + 2 →
      (∀ b o, s.heap.get? b = some o → h'.get? b = some o) → Q (.ref (s.heap.objs.size + 1)) { s with heap := h' }) :
    wpAny (model prog w) A (call (.type "enumerate") [.ref l]) Q E s := by
  obtain ⟨o, hl, hc, n, hd⟩ := hL
  refine callType_new F.called_enumerate (by decide) (F.typeCall_enumerate_1 _) (F.newCall_enumerate_1 _) (fun obj => F.args_object_init_2 obj _) F.entry_enumerate_new
    (gy_enum_new l items o n ⟨hc, hd⟩) ⟨hl, ?_⟩
  have hz : (s.heap.push { cls := .type "tuple_iterator", data := .fields #[.ref l, .int 0 0] }).objs.size = s.heap.objs.size + 1 := Heap.size_push ..
  show _ ∧ _
  rw [hz]
  have he : IsEnum ((s.heap.push { cls := .type "tuple_iterator", data := .fields #[.ref l, .int 0 0] }).push
      { cls := .type "enumerate", data := .fields #[.none, .bool false, .ref s.heap.objs.size, rawInt 0, .none, .none] }) (s.heap.objs.size + 1) s.heap.objs.size 0 .none := by
    have := Heap.get?_push_size (s.heap.push { cls := .type "tuple_iterator", data := .fields #[.ref l, .int 0 0] })
      (o := { cls := .type "enumerate", data := .fields #[.none, .bool false, .ref s.heap.objs.size, rawInt 0, .none, .none] }) rfl
    rw [hz] at this; exact this
  refine ⟨⟨_, he, rfl⟩, h _ he ⟨_, Heap.get?_push_of_some _ (Heap.get?_push_size _ rfl), rfl, rfl⟩ (by rw [Heap.size_push, hz]) fun b o x => Heap.get?_push_of_some _ (Heap.get?_push_of_some _ x)⟩
end
end PySem
namespace L2
open PySem PySem.Spec PyProof.Rows
/-! ### enumerate of a tuple -/
def IteT (K : PySem.W.Frag) (a : Addr) : It :=
  ⟨fun i H => ∃ (xs : List V) (x : V), SqT K H a xs ∧ xs[i]? = some x, fun i H v H' => ∃ T x, v = .ref T ∧ H T = none ∧ H' = upd H T (.tup [.int (i : Nat), x]) ∧ ∀ xs, SqT K H a xs → xs[i]? = some x, fun i H => ∃ xs : List V, SqT K H a xs ∧ xs.length ≤ i⟩
theorem turn_enumT {P : Program} {w : World} {K : PySem.W.Frag} {elts : List Expr} {kk : Nat} {tpos : Pos} (a e it : Addr) :
    Turn P w K (.Tuple elts kk tpos) (IteT K a) [e, it] e (fun i h => (∃ old, IsEnum h e it ((i : Nat) : Int) old) ∧ h.IsTupleIter it a i ∧ e ≠ it) where
  mem := by simp
  obj := fun i h st b hb => by
    obtain ⟨⟨old, he⟩, ⟨o, ho, hc, hd⟩, _⟩ := st
    have e' : b = e ∨ b = it := by simpa using hb
    rcases e' with z | z
    · rw [z]; exact ⟨_, he, fun v q => nomatch q⟩
    · rw [z]; exact ⟨o, ho, fun v q => by rw [hd] at q; cases q⟩
  keep := fun i h h' st k => let ⟨⟨old, he⟩, hi, hne⟩ := st; ⟨⟨old, k e (by simp) _ he⟩, hi.at fun o q => k it (by simp) o q, hne⟩
  item := by
    intro X hP hw hK hc i pins s σ H E I hf st hg
    subst hP hw hK
    obtain ⟨⟨old, he⟩, hit, hne⟩ := st
    obtain ⟨xs, x, hq, hx⟩ := hg
    obtain ⟨its, rv, p, hz⟩ := I.tuple hq
    obtain ⟨u, hu, ru⟩ := rv.get hx
    have hel : e < s.heap.objs.size := Heap.lt_size he
    have hil : it < s.heap.objs.size := by obtain ⟨_, q, _⟩ := hit; exact Heap.lt_size q
    have pa : s.heap.IsTuple a its.toArray := p
    have ha_it : a ≠ it := by
      intro z
      obtain ⟨o, h1, h2, _⟩ := p
      obtain ⟨o', h3, h4, _⟩ := hit
      rw [z, h3] at h1
      cases h1
      rw [h2] at h4
      exact absurd (Value.type.inj h4) (by decide)
    have ha_e : a ≠ e := by
      intro z
      obtain ⟨o, h1, h2, _⟩ := p
      have h3 := he
      unfold IsEnum at h3
      rw [z, h3] at h1
      cases h1
      exact absurd (Value.type.inj h2) (by decide)
    have hhd : X.A.in1.handled = none := I.ok.hd hc
    have hlt : i < its.toArray.size := by
      have := (List.getElem?_eq_some_iff.mp hu).1
      simpa using this
    refine wpAny_pyNext_enum_itemD (Draws.tuple (prog := X.prog) (w := X.w) hhd it a ha_it its.toArray) he ⟨hit, pa⟩ hlt hne (by simp [hne, ha_e.symm]) fun y h' tk hy ho hst hT hsz hk => ?_
    have hyu : y = u := by
      have h1 : its.toArray[i]? = some y := hy
      have h2 : its[i]? = some y := by simpa using h1
      rw [hu] at h2
      exact (Option.some.inj h2).symm
    subst hyu
    refine ⟨_, rfl, wpAny_letOwnedTupleGo_enum (s := { s with heap := h', toks := tk + 1 }) ho fun h'' he' sb => ?_⟩
    have hT2 : h''.get? s.heap.objs.size = some { cls := .type "tuple", data := .seq #[.int i tk, y] } := (sb.2 _ (Nat.ne_of_gt hel)).trans hT
    have new : ObjOk X.prog X.w (upd H s.heap.objs.size (.tup [.int (i : Nat), x])) h'' s.heap.objs.size (.tup [.int (i : Nat), x]) :=
      ⟨by show 2 ≤ sizeLine; decide, [.int i tk, y], .cons ⟨_, rfl⟩ (.cons ru .nil), ⟨_, hT2, rfl, _, rfl⟩⟩
    have I1 : Inv X pins σ (upd H s.heap.objs.size (.tup [.int (i : Nat), x])) { s with heap := h'', toks := tk + 1 } :=
      I.turnedNew (ch := [e, it]) (fun b ob hb q => (sb.2 b (fun z => hb (by simp [z]))).trans (hk b ob (fun z => hb (by simp [z])) (fun z => hb (by simp [z])) q)) hf (Nat.le_refl _) new
    refine ⟨.ref s.heap.objs.size, _, I1, rfl, ⟨_, x, rfl, I.hok.fresh (Nat.le_refl _), rfl, fun ys hy => by rw [I.tuple_inj hy hq]; exact hx⟩, ⟨⟨y, ?_⟩, hst.1.at fun o q => (sb.2 it (Ne.symm hne)).trans q, hne⟩, fun b hb => ?_⟩
    · have e1 : ((i + 1 : Nat) : Int) = (i : Int) + 1 := by omega
      rw [e1]; exact he'
    · have hb' : b < s.heap.objs.size := by
        have e' : b = e ∨ b = it := by simpa using hb
        rcases e' with z | z
        · rw [z]; exact hel
        · rw [z]; exact hil
      rw [upd_ne (Nat.ne_of_lt hb')]
      exact (hf b hb).1
  done := by
    intro X hP hw hK hc i pins s σ H E I hf st hg
    subst hP hw hK
    obtain ⟨⟨old, he⟩, hit, hne⟩ := st
    obtain ⟨xs, hq, hx⟩ := hg
    obtain ⟨its, rv, p, hz⟩ := I.tuple hq
    obtain ⟨f0, f1, f2, f3, f4, f5⟩ := hf it (by simp)
    have hl := rv.length
    have pa : s.heap.IsTuple a its.toArray := p
    have ha_it : a ≠ it := by
      intro z
      obtain ⟨o, h1, h2, _⟩ := p
      obtain ⟨o', h3, h4, _⟩ := hit
      rw [z, h3] at h1
      cases h1
      rw [h2] at h4
      exact absurd (Value.type.inj h4) (by decide)
    have hhd : X.A.in1.handled = none := I.ok.hd hc
    have hT : s.TypeIs (.ref e) "enumerate" := ⟨_, he, rfl⟩
    unfold pyNext
    refine wpAny_bind (wpAny_attempt (wpAny_callSpecial?_slot (name := Str.ofString "__next__") hT F.slot_enumerate_next
      (wpAny_call_entry F.slot_enumerate_next hT F.entry_enumerate_next ?_ (F.args_enumerate_next_1 _))))
    show wpAny _ _ (field (.ref e) 2 >>= _) _ _ _
    refine wpAny_bind (wpAny_field he rfl (x := .ref it) rfl ?_)
    refine wpAny_bind (wpAny_nextOf_tuple_end hhd hit pa (by simp; omega) fun h' x he' hx' => ?_)
    obtain ⟨o, ho, hcl⟩ := hx'
    refine wpAny_bind (wpAny_isInstance (T := "StopIteration") (b := true) ⟨o, ho, hcl⟩ isSubtype_stop ?_)
    exact wpAny_pure ⟨rfl, I.turned (t' := s.toks) (fun b o hb q => he' b o hb q) f0 f1 f3 f4 f5⟩
  self := fun A i s Q E st h => let ⟨⟨_, he⟩, _⟩ := st; wpAny_pyIter_enum he h
def iEnumT (K : PySem.W.Frag) (ta : TA) : TI := fun σ H R => ta σ H fun vs H1 => ∃ a xs, vs = [.ref a] ∧ SqT K H1 a xs ∧ R (IteT K a) H1
theorem pi_enumT {X : Cx} {e : Expr} {ta : TA} {p pos tpos : Pos} {elts : List Expr} {kk : Nat} (hg : Gl X "enumerate") (hm : X.mg "enumerate" = none) (ha : PA X [e] ta) (hs : starEach [e] X.env = [(false, eval e X.env)] := by rfl) :
    PI X (.Tuple elts kk tpos) (.Call (.Name "enumerate" p) [e] [] pos) (iEnumT X.K ta) := by
  refine ⟨fun pins s σ H R I h => ?_⟩
  refine Call_ (ld_blt I hg hm boot_enumerate (PyProof.Rows.callWith_type1 (thn (ha.run pos pins s σ H _ I h) fun us s1 ⟨vs, H1, I1, r1, q1⟩ => ?_) hs rfl))
  obtain ⟨a, xs, ex, hq, q⟩ := q1
  subst ex
  cases r1 with
  | cons r rr =>
    cases rr
    cases r
    obtain ⟨its, rv, p', hz⟩ := I1.tuple hq
    refine gy_call_enum p' fun h' he hit hsz hk => wpAny_pyIter_enum he ?_
    have I2 : Inv X pins σ H1 { s1 with heap := h' } := I1.kept (t' := s1.toks) hk
    refine ⟨s1.heap.objs.size + 1, [s1.heap.objs.size + 1, s1.heap.objs.size], _, _, H1, rfl, I2, turn_enumT a (s1.heap.objs.size + 1) s1.heap.objs.size, ⟨⟨.none, he⟩, hit, Nat.succ_ne_self _⟩, fun b hb => ?_, q⟩
    have e' : b = s1.heap.objs.size + 1 ∨ b = s1.heap.objs.size := by simpa using hb
    have hle : s1.heap.objs.size ≤ b := by
      rcases e' with z | z
      · rw [z]; exact Nat.le_add_right _ _
      · rw [z]; exact Nat.le_refl _
    exact I1.fpOk hle (I1.hok.fresh hle)
/-- over enumerate of a tuple that stands still: the pair stands in a new tuple at T -/
theorem for_enumT {K : PySem.W.Frag} {a : Addr} {xs : List V} {g : TG} {tb : TS} {D : Ends} {σ : St} {H : Hp} (Pv : Nat → St → Hp → Prop) (h0 : Pv 0 σ H) (hl : ∀ i σ H, i ≤ xs.length → Pv i σ H → SqT K H a xs)
    (hs : ∀ i x σ H T, xs[i]? = some x → Pv i σ H → H T = none → g (.ref T) σ (upd H T (.tup [.int (i : Nat), x])) fun σ2 H2 => tb { D with nx := Pv (i + 1), ct := Pv (i + 1), bk := D.nx } σ2 H2) (hd : ∀ σ H, Pv xs.length σ H → D.nx σ H) :
    ∃ W : Nat → Nat → St → Hp → Prop, (∃ m, W 0 m σ H) ∧ ∀ i m σ H, W i m σ H →
      ((IteT K a).stop i H ∧ D.nx σ H) ∨ ((IteT K a).go i H ∧ ∃ N : St → Hp → Prop, (∀ σ' H', N σ' H' → ∃ m', m' < m ∧ W (i + 1) m' σ' H') ∧ ∀ x H', (IteT K a).yld i H x H' → g x σ H' fun σ2 H2 => tb { D with nx := N, ct := N, bk := D.nx } σ2 H2) := by
  refine ⟨fun i m σ H => m = xs.length - i ∧ i ≤ xs.length ∧ Pv i σ H, ⟨xs.length, by simp, Nat.zero_le _, h0⟩, ?_⟩
  rintro i m σ H ⟨rfl, hi, p⟩
  have q := hl i σ H hi p
  by_cases hlt : i < xs.length
  · refine .inr ⟨⟨xs, xs[i], q, by simp [hlt]⟩, Pv (i + 1), fun σ' H' p' => ⟨xs.length - (i + 1), by omega, rfl, hlt, p'⟩, fun x H' y => ?_⟩
    obtain ⟨T, z, rfl, hT, e, y⟩ := y
    subst e
    exact hs i z σ H T (y xs q) p hT
  · have e : i = xs.length := by omega
    subst e
    exact .inl ⟨⟨xs, q, Nat.le_refl _⟩, hd σ H p⟩
end L2

set_option Elab.async false
set_option linter.all false
set_option maxRecDepth 100000
set_option maxHeartbeats 4000000
/-! Lay1: heaps from one moment to the next, reduced fractions, sizes. -/
namespace Gy
open PySem L2

/-! ### heaps -/
/-- a new object, its heap by a name of its own -/
theorem alloc {H : Hp} {o : HO} {Q : V → Hp → Prop} (h : ∀ p H1, H p = none → Same H H1 → H1 p = some o → Q (.ref p) H1) : ∀ p, H p = none → Q (.ref p) (upd H p o) := fun p hp =>
  h p _ hp (fun b u e => by rw [upd_ne (ne_of_none e hp)]; exact e) upd_same
/-- all but the object at st is as it was -/
def Keep (st : Addr) (H H' : Hp) : Prop := ∀ b o, H b = some o → b ≠ st → H' b = some o
theorem Keep.refl (st : Addr) (H : Hp) : Keep st H H := fun _ _ e _ => e
theorem Keep.trans {st : Addr} {H H1 H2 : Hp} (a : Keep st H H1) (b : Keep st H1 H2) : Keep st H H2 := fun c o e n => b c o (a c o e n) n
theorem Same.keep {st : Addr} {H H1 : Hp} (a : Same H H1) : Keep st H H1 := fun c o e _ => a c o e
theorem keep_upd {st : Addr} {H : Hp} {o : HO} : Keep st H (upd H st o) := fun b u e n => by rw [upd_ne n]; exact e
theorem same_upd {p : Addr} {H : Hp} {o : HO} (h : H p = none) : Same H (upd H p o) := fun b u e => by rw [upd_ne (ne_of_none e h)]; exact e
/-- an instance that is being made -/
theorem made {H : Hp} {x dx C : Addr} (nx : H x = none) (nd : H dx = none) (ne : dx ≠ x) : Same H (upd (upd H dx (.own x)) x (.ins C dx [])) := fun b o e => by
  rw [upd_ne (ne_of_none e nx), upd_ne (ne_of_none e nd)]
  exact e

/-- the state of the draws at st: its cells are the ints ns -/
def StAt (H : Hp) (st c : Addr) (ns : List Int) : Prop := (∃ nth left mx, H st = some (.lst [.ref c, .int nth, .int left, .bl mx])) ∧ H c = some (.lst (ns.map V.int)) ∧ c ≠ st
theorem StAt.same {H H' : Hp} {st c : Addr} {ns : List Int} (h : StAt H st c ns) (e : Same H H') : StAt H' st c ns :=
  ⟨let ⟨a, b, d, z⟩ := h.1; ⟨a, b, d, e _ _ z⟩, e _ _ h.2.1, h.2.2⟩
theorem StAt.upd {H : Hp} {st c : Addr} {ns : List Int} {nth left : Int} {mx : Bool} (h : StAt H st c ns) : StAt (upd H st (.lst [.ref c, .int nth, .int left, .bl mx])) st c ns :=
  ⟨⟨nth, left, mx, upd_same⟩, by rw [upd_ne h.2.2]; exact h.2.1, h.2.2⟩

/-! ### sizes -/
theorem mulOk {a b : Int} {m n : Nat} (ha : a.natAbs < 2 ^ m) (hb : b.natAbs < 2 ^ n) (h0 : 0 < m) (h1 : 0 < n) (h : m + n ≤ 1000000) : IntMulOk a b := (wide_mul ha hb h0 h1 h).ok
theorem mulOk_l {a b : Int} (h : -(2 ^ 64) < a ∧ a < 2 ^ 64) : IntMulOk a b := (show CMul a b from .inl h).ok
theorem mulOk_r {a b : Int} (h : -(2 ^ 64) < b ∧ b < 2 ^ 64) : IntMulOk a b := (show CMul a b from .inr h).ok
theorem sz_mul {a b : Int} {m n : Nat} (ha : a.natAbs < 2 ^ m) (hb : b.natAbs < 2 ^ n) : (a * b).natAbs < 2 ^ (m + n) := wide_lt ha hb
theorem sz_add {a b : Int} {m : Nat} (ha : a.natAbs < 2 ^ m) (hb : b.natAbs < 2 ^ m) : (a + b).natAbs < 2 ^ (m + 1) := by
  rw [Nat.pow_succ]
  omega
theorem sz_sub {a b : Int} {m : Nat} (ha : a.natAbs < 2 ^ m) (hb : b.natAbs < 2 ^ m) : (a - b).natAbs < 2 ^ (m + 1) := by
  rw [Nat.pow_succ]
  omega
theorem sz_neg {a : Int} {m : Nat} (ha : a.natAbs < 2 ^ m) : (-a).natAbs < 2 ^ m := by
  rw [Int.natAbs_neg]
  exact ha
theorem sz_up {a : Int} {m n : Nat} (ha : a.natAbs < 2 ^ m) (h : m ≤ n) : a.natAbs < 2 ^ n := Nat.lt_of_lt_of_le ha (Nat.pow_le_pow_right (by decide) h)

/-! ### fractions -/
/-- what reduces a over b: their greatest common part, with b's sign -/
def red_w (a b : Int) : Int := if b < 0 then -(Int.gcd a b : Int) else (Int.gcd a b : Int)
def red (a b : Int) : Int × Int := (a.fdiv (red_w a b), b.fdiv (red_w a b))
/-- a reduced pair -/
def Rd (p : Int × Int) : Prop := 0 < p.2 ∧ Int.gcd p.1 p.2 = 1
theorem red_w_ne {a b : Int} (h : b ≠ 0) : red_w a b ≠ 0 := by
  have g : (Int.gcd a b) ≠ 0 := by
    intro z
    exact h (Int.gcd_eq_zero_iff.mp z).2
  unfold red_w
  split <;> omega
theorem gcd_le {a b : Int} (h : b ≠ 0) : Int.gcd a b ≤ b.natAbs := Nat.le_of_dvd (Int.natAbs_pos.mpr h) (by rw [Int.gcd]; exact Nat.gcd_dvd_right _ _)
theorem red_w_abs {a b : Int} : (red_w a b).natAbs = Int.gcd a b := by
  unfold red_w
  split <;> simp
theorem red_w_dvd {a b : Int} : red_w a b ∣ a ∧ red_w a b ∣ b := by
  have h1 : (Int.gcd a b : Int) ∣ a := Int.gcd_dvd_left ..
  have h2 : (Int.gcd a b : Int) ∣ b := Int.gcd_dvd_right ..
  unfold red_w
  split
  · exact ⟨Int.neg_dvd.mpr h1, Int.neg_dvd.mpr h2⟩
  · exact ⟨h1, h2⟩
/-- the two parts, times what was taken out -/
theorem red_mul {a b : Int} : (red a b).1 * red_w a b = a ∧ (red a b).2 * red_w a b = b := by
  obtain ⟨h1, h2⟩ := red_w_dvd (a := a) (b := b)
  unfold red
  exact ⟨Int.fdiv_mul_cancel h1, Int.fdiv_mul_cancel h2⟩
theorem red_rd {a b : Int} (h : b ≠ 0) : Rd (red a b) := by
  obtain ⟨e1, e2⟩ := red_mul (a := a) (b := b)
  have w0 := red_w_ne (a := a) h
  have wa := red_w_abs (a := a) (b := b)
  generalize hp : (red a b).1 = p at e1
  generalize hq : (red a b).2 = q at e2
  generalize hw : red_w a b = w at *
  refine ⟨?_, ?_⟩
  · rw [hq]
    -- b and w have the same sign
    have hs : (b < 0 → w < 0) ∧ (0 < b → 0 < w) := by
      unfold red_w at hw
      have g : 0 < Int.gcd a b := Nat.pos_of_ne_zero fun z => h (Int.gcd_eq_zero_iff.mp z).2
      constructor
      · intro hb
        rw [if_pos hb] at hw
        omega
      · intro hb
        rw [if_neg (by omega)] at hw
        omega
    rcases Int.lt_or_gt_of_ne h with hb | hb
    · have hw0 := hs.1 hb
      rcases Int.lt_trichotomy q 0 with z | z | z
      · have := Int.mul_pos_of_neg_of_neg z hw0
        omega
      · rw [z] at e2
        omega
      · exact z
    · have hw0 := hs.2 hb
      rcases Int.lt_trichotomy q 0 with z | z | z
      · have := Int.mul_neg_of_neg_of_pos z hw0
        omega
      · rw [z] at e2
        omega
      · exact z
  · rw [hp, hq]
    have e : Int.gcd a b = Int.gcd p q * w.natAbs := by rw [← e1, ← e2, Int.gcd_mul_right]
    rw [wa] at e
    have g : 0 < Int.gcd a b := Nat.pos_of_ne_zero fun z => h (Int.gcd_eq_zero_iff.mp z).2
    have : 1 * Int.gcd a b = Int.gcd p q * Int.gcd a b := by rw [Nat.one_mul]; exact e
    exact (Nat.eq_of_mul_eq_mul_right g this).symm
/-- a reduced pair made larger by a factor is what it was -/
theorem red_scale {p : Int × Int} (h : Rd p) {s : Int} (hs : s ≠ 0) : red (p.1 * s) (p.2 * s) = p := by
  obtain ⟨h1, h2⟩ := h
  have eg : Int.gcd (p.1 * s) (p.2 * s) = s.natAbs := by rw [Int.gcd_mul_right, h2, Nat.one_mul]
  have ew : red_w (p.1 * s) (p.2 * s) = s := by
    unfold red_w
    rw [eg]
    rcases Int.lt_or_gt_of_ne hs with z | z
    · rw [if_pos (Int.mul_neg_of_pos_of_neg h1 z)]
      omega
    · rw [if_neg (by have := Int.mul_pos h1 z; omega)]
      omega
  unfold red
  rw [ew]
  exact Prod.ext (Int.mul_fdiv_cancel _ hs) (Int.mul_fdiv_cancel _ hs)
theorem red_self {p : Int × Int} (h : Rd p) : red p.1 p.2 = p := by
  have := red_scale h (s := 1) (by decide)
  rwa [Int.mul_one, Int.mul_one] at this
theorem rd_int (n : Int) : Rd (n, 1) := ⟨(by decide : (0 : Int) < 1), Int.gcd_one_right ..⟩
theorem red_neg {p : Int × Int} (h : Rd p) : red (-p.1) p.2 = (-p.1, p.2) := red_self (p := (-p.1, p.2)) ⟨h.1, by show Int.gcd (-p.1) p.2 = 1; rw [Int.neg_gcd]; exact h.2⟩
theorem rd_neg {p : Int × Int} (h : Rd p) : Rd (-p.1, p.2) := ⟨h.1, by show Int.gcd (-p.1) p.2 = 1; rw [Int.neg_gcd]; exact h.2⟩
/-- parts are no larger than what they come from -/
theorem red_sz {a b : Int} {m n : Nat} (h : b ≠ 0) (ha : a.natAbs < 2 ^ m) (hb : b.natAbs < 2 ^ n) : (red a b).1.natAbs < 2 ^ m ∧ (red a b).2.natAbs < 2 ^ n := by
  obtain ⟨e1, e2⟩ := red_mul (a := a) (b := b)
  have w1 : 1 ≤ (red_w a b).natAbs := Int.natAbs_pos.mpr (red_w_ne h)
  have f : ∀ x w : Int, 1 ≤ w.natAbs → x.natAbs ≤ (x * w).natAbs := fun x w hw => by
    rw [Int.natAbs_mul]
    exact Nat.le_mul_of_pos_right _ hw
  exact ⟨Nat.lt_of_le_of_lt (Nat.le_trans (f _ _ w1) (Nat.le_of_eq (congrArg Int.natAbs e1))) ha, Nat.lt_of_le_of_lt (Nat.le_trans (f _ _ w1) (Nat.le_of_eq (congrArg Int.natAbs e2))) hb⟩
theorem red_w_sz {a b : Int} {n : Nat} (h : b ≠ 0) (hb : b.natAbs < 2 ^ n) : (red_w a b).natAbs < 2 ^ n := by
  rw [red_w_abs]
  exact Nat.lt_of_le_of_lt (gcd_le h) hb
/-- a step of Euclid -/
theorem gcd_step (a b : Int) : Int.gcd b (a.fmod b) = Int.gcd a b := by
  have e : a = b * a.fdiv b + a.fmod b := (Int.mul_fdiv_add_fmod a b).symm
  rw [Int.gcd_comm a b]
  conv => rhs; rw [e]
  rw [Int.add_comm, Int.gcd_add_mul_left_right]
theorem fmod_lt {a b : Int} (h : b ≠ 0) : (a.fmod b).natAbs < b.natAbs := by
  rcases Int.lt_or_gt_of_ne h with z | z
  · have e := Int.neg_fmod_neg a b
    have h1 := Int.fmod_nonneg_of_pos (-a) (b := -b) (by omega)
    have h2 := Int.fmod_lt_of_pos (-a) (b := -b) (by omega)
    omega
  · have h1 := Int.fmod_nonneg_of_pos a z
    have h2 := Int.fmod_lt_of_pos a z
    omega
end Gy
namespace Gy
open PySem L2
/-- a while whose test only reads: W by a measure that is not 0 where the body runs -/
theorem while_any {c : TT} {tb : TS} {D : Ends} {σ : L2.St} {H : Hp} (W : Nat → L2.St → Hp → Prop) (h0 : ∃ m, W m σ H)
    (test : ∀ m σ H (Q : Bool → Hp → Prop), W m σ H → (m ≠ 0 → Q true H) → Q false H → c σ H Q)
    (turn : ∀ m σ H, m ≠ 0 → W m σ H → tb { D with nx := fun σ' H' => ∃ m', m' < m ∧ W m' σ' H', ct := fun σ' H' => ∃ m', m' < m ∧ W m' σ' H', bk := D.nx } σ H) (done : ∀ m σ H, W m σ H → D.nx σ H) : tWhile c tb D σ H :=
  ⟨W, h0, fun m σ H w => test m σ H _ w (fun hm => iteT ⟨fun σ' H' => ∃ m', m' < m ∧ W m' σ' H', fun _ _ z => z, turn m σ H hm w⟩) (iteF (done m σ H w))⟩
end Gy
namespace Gy
open PySem L2
theorem walk_zipT {K : PySem.W.Frag} {a b : Addr} {xs ys : List V} {n : Nat} (hn : n = min xs.length ys.length) : Walk (RZ.ItzT K a b) n (fun H => SqT K H a xs ∧ SqT K H b ys) (YPair (fun i => xs[i]?) (fun i => ys[i]?)) := by
  refine ⟨fun i H hi hq => ?_, fun H hq => ?_, fun i H x H' _ hq y => ?_⟩
  · have h1 : i < xs.length := by omega
    have h2 : i < ys.length := by omega
    exact ⟨xs, ys, xs[i], ys[i], hq.1, hq.2, List.getElem?_eq_getElem h1, List.getElem?_eq_getElem h2⟩
  · refine ⟨xs, ys, hq.1, hq.2, ?_⟩
    omega
  · obtain ⟨T, u, v, rfl, nT, e, h1, h2⟩ := y
    exact ⟨T, u, v, rfl, nT, e, h1 xs hq.1, h2 ys hq.2⟩
end Gy
namespace Gy
open PySem L2
/-- a comprehension without a test keeps each item -/
theorem yes_of {σ : L2.St} {H : Hp} {A B : Hp → Prop} (h : A H) : tYes σ H fun b H3 => if b = true then A H3 else B H3 := by
  show (if true = true then A H else B H)
  exact iteT h
end Gy
namespace L2
open PySem PySem.Spec PyProof.Rows
/-- a def with defaults that lets nothing out -/
theorem FunD.ok0 {P : Program} {w : World} {K : PySem.W.Frag} {mg : Str → Option Value} {base : Heap} {x qual : Str} {params : Arguments} {body : List Stmt} {scope : Scope} {dvs : List V} {kws : List (Str × V)} {f : Addr} {fd : FuncData} {N ps : List Str} {k : Nat} {sp : Sp}
    (F : FunD K x qual params body scope dvs kws f fd) (S : FnScope N ps scope) (len : ∀ vs H Q E, sp vs H Q E → vs.length = ps.length)
    (hbody : ∀ (cdv : Value) (A : Around) (outer : List Env) (s : Shared) (H : Hp) (vs : List V) (Q : VK) (E : XK), Room k (A.deeper (envOfC qual scope s.heap.objs.size f cdv)) → sp vs H Q E →
      ∃ t, PSs (cxOf CX0 P w K mg base N qual scope f cdv A outer s H E).nox body t ∧ t { nx := fun _ H' => Q .non H', rt := Q } (start N vs) H) : FnOk P w K mg base CX0 (k + 1) f fd ps sp :=
  F.ok S len fun cdv A outer s H vs Q E hr h => let ⟨t, a, b⟩ := hbody cdv A outer s H vs Q E hr h; ⟨t, a.nox, b⟩
end L2
namespace Gy
open PySem L2
/-! ### isinstance against an own class, of an own class -/
theorem kit_self {K : PySem.W.Frag} {C : Addr} : PySem.W.kitOne K (.ref C) (.ref C) = some true := by
  unfold PySem.W.kitOne
  rw [if_pos (beq_iff_eq.mpr rfl)]
theorem kit_to {K : PySem.W.Frag} {C : Addr} {t : String} {b : Bool} (ic : PySem.W.isClsIn K C = true) (ty : PySem.W.typeIn K (.ref C) = some (.type "type")) (up : PySem.W.subIn K (.type t) (.ref C) = some b) : PySem.W.kitOne K (.type t) (.ref C) = some b := by
  unfold PySem.W.kitOne
  rw [if_neg (fun q => by cases beq_iff_eq.mp q)]
  unfold PySem.W.kitCls
  have h : ((PySem.W.clsIn K C).isSome && PySem.W.typeIn K (.ref C) == some (.type "type")) = true := by
    rw [ty, show (PySem.W.clsIn K C).isSome = true from ic]
    rfl
  show (if ((PySem.W.clsIn K C).isSome && PySem.W.typeIn K (.ref C) == some (.type "type")) = true then PySem.W.subIn K (.type t) (.ref C) else none) = some b
  rw [if_pos h]
  exact up
theorem kit_of_to {K : PySem.W.Frag} {C D : Addr} {b : Bool} (ne : C ≠ D) (ic : PySem.W.isClsIn K D = true) (ty : PySem.W.typeIn K (.ref D) = some (.type "type")) (up : PySem.W.subIn K (.ref C) (.ref D) = some b) : PySem.W.kitOne K (.ref C) (.ref D) = some b := by
  unfold PySem.W.kitOne
  rw [if_neg (fun q => ne (Value.ref.inj (beq_iff_eq.mp q)))]
  have h : ((PySem.W.clsIn K D).isSome && PySem.W.typeIn K (.ref D) == some (.type "type")) = true := by
    rw [ty, show (PySem.W.clsIn K D).isSome = true from ic]
    rfl
  show (if ((PySem.W.clsIn K D).isSome && PySem.W.typeIn K (.ref D) == some (.type "type")) = true then PySem.W.subIn K (.ref C) (.ref D) else none) = some b
  rw [if_pos h]
  exact up
theorem kit_ob {K : PySem.W.Frag} {C : Addr} {t : String} {b : Bool} (m : PySem.W.kitMeta t = true) (dn : PySem.W.subIn K (.ref C) (.type t) = some b) : PySem.W.kitOne K (.ref C) (.type t) = some b := by
  unfold PySem.W.kitOne
  rw [if_neg (fun q => by cases beq_iff_eq.mp q)]
  show (if PySem.W.kitMeta t = true then PySem.W.subIn K (.ref C) (.type t) else none) = some b
  rw [if_pos m]
  exact dn
end Gy

set_option Elab.async false
set_option linter.all false
set_option maxRecDepth 100000
set_option maxHeartbeats 4000000
/-! Lay2: comparisons of an own class: by its methods, turned about, and != by ==. -/
namespace PySem.GyDec
open PySem PySem.W AutoSeq1
section
variable {C dx x : Addr} (a : Int) (t : Tok)
abbrev GyAt (x C dx : Addr) : Shared → Prop := fun s => s.heap.get? x = some (instObj C dx)
theorem lt_dec : GivesAt (GyAt x C dx) (Builtin.«int.__lt__» ⟨[.int a t, .ref x], []⟩) (.val .notImplemented) := fun prog w A R s hP h => by
  obtain ⟨hp, g, d, tk, os⟩ := s
  have hl : Heap.get? (Shared.heap ⟨hp, g, d, tk, os⟩) x = some (instObj C dx) := hP
  wp_walk using wpAny_loadPart' hl
  exact h
theorem le_dec : GivesAt (GyAt x C dx) (Builtin.«int.__le__» ⟨[.int a t, .ref x], []⟩) (.val .notImplemented) := fun prog w A R s hP h => by
  obtain ⟨hp, g, d, tk, os⟩ := s
  have hl : Heap.get? (Shared.heap ⟨hp, g, d, tk, os⟩) x = some (instObj C dx) := hP
  wp_walk using wpAny_loadPart' hl
  exact h
theorem gt_dec : GivesAt (GyAt x C dx) (Builtin.«int.__gt__» ⟨[.int a t, .ref x], []⟩) (.val .notImplemented) := fun prog w A R s hP h => by
  obtain ⟨hp, g, d, tk, os⟩ := s
  have hl : Heap.get? (Shared.heap ⟨hp, g, d, tk, os⟩) x = some (instObj C dx) := hP
  wp_walk using wpAny_loadPart' hl
  exact h
theorem ge_dec : GivesAt (GyAt x C dx) (Builtin.«int.__ge__» ⟨[.int a t, .ref x], []⟩) (.val .notImplemented) := fun prog w A R s hP h => by
  obtain ⟨hp, g, d, tk, os⟩ := s
  have hl : Heap.get? (Shared.heap ⟨hp, g, d, tk, os⟩) x = some (instObj C dx) := hP
  wp_walk using wpAny_loadPart' hl
  exact h
theorem eq_dec : GivesAt (GyAt x C dx) (Builtin.«int.__eq__» ⟨[.int a t, .ref x], []⟩) (.val .notImplemented) := fun prog w A R s hP h => by
  obtain ⟨hp, g, d, tk, os⟩ := s
  have hl : Heap.get? (Shared.heap ⟨hp, g, d, tk, os⟩) x = some (instObj C dx) := hP
  wp_walk using wpAny_loadPart' hl
  exact h
theorem beq_dec (b : Bool) : GivesAt (GyAt x C dx) (Builtin.«int.__eq__» ⟨[.bool b, .ref x], []⟩) (.val .notImplemented) := fun prog w A R s hP h => by
  obtain ⟨hp, g, d, tk, os⟩ := s
  have hl : Heap.get? (Shared.heap ⟨hp, g, d, tk, os⟩) x = some (instObj C dx) := hP
  wp_walk using wpAny_loadPart' hl
  exact h
theorem seq_dec (y : Str) : GivesAt (GyAt x C dx) (Builtin.«str.__eq__» ⟨[.str y t, .ref x], []⟩) (.val .notImplemented) := fun prog w A R s hP h => by
  obtain ⟨hp, g, d, tk, os⟩ := s
  have hl : Heap.get? (Shared.heap ⟨hp, g, d, tk, os⟩) x = some (instObj C dx) := hP
  wp_walk using wpAny_loadPart' hl
  exact h
theorem neq_dec : GivesAt (GyAt x C dx) (Builtin.«NoneType.__eq__» ⟨[.none, .ref x], []⟩) (.val .notImplemented) := fun prog w A R s hP h => by
  obtain ⟨hp, g, d, tk, os⟩ := s
  have hl : Heap.get? (Shared.heap ⟨hp, g, d, tk, os⟩) x = some (instObj C dx) := hP
  wp_walk using wpAny_loadPart' hl
  exact h
end
section
variable {prog : Program} {w : World} {A : Around} {E : Value → Shared → Prop} {s : Shared} {C dx x : Addr} {a : Int} {t : Tok} {P : Option Value → Shared → Prop}
theorem tryC_dec {b : Value} {T : String} {name : Str} {id : String} {B : Builtin} (hT : s.TypeIs b T) (slot : Slot T name id) (entry : entryFor table id = some B) (args : argsOk id ⟨[b, .ref x], []⟩)
    (g : GivesAt (GyAt x C dx) (B ⟨[b, .ref x], []⟩) (.val .notImplemented)) (hx : s.heap.get? x = some (instObj C dx)) (h : P none s) : wpAny (model prog w) A (tryCompare b name (.ref x)) P E s :=
  wpAny_tryCompare_declines hT slot (call_givesAt slot hT entry args g hx ⟨rfl, h⟩)
theorem tryC_lt (hx : s.heap.get? x = some (instObj C dx)) (h : P none s) : wpAny (model prog w) A (tryCompare (.int a t) (cmpInfo .Lt).2.1 (.ref x)) P E s :=
  tryC_dec (T := "int") (name := (cmpInfo .Lt).2.1) (id := "int.__lt__") (B := Builtin.«int.__lt__») (typeIs_int s a t) F.slot_int_lt F.entry_int_lt (F.args_int_lt_2 _ _) (lt_dec a t) hx h
theorem tryC_le (hx : s.heap.get? x = some (instObj C dx)) (h : P none s) : wpAny (model prog w) A (tryCompare (.int a t) (cmpInfo .LtE).2.1 (.ref x)) P E s :=
  tryC_dec (T := "int") (name := (cmpInfo .LtE).2.1) (id := "int.__le__") (B := Builtin.«int.__le__») (typeIs_int s a t) F.slot_int_le F.entry_int_le (F.args_int_le_2 _ _) (le_dec a t) hx h
theorem tryC_gt (hx : s.heap.get? x = some (instObj C dx)) (h : P none s) : wpAny (model prog w) A (tryCompare (.int a t) (cmpInfo .Gt).2.1 (.ref x)) P E s :=
  tryC_dec (T := "int") (name := (cmpInfo .Gt).2.1) (id := "int.__gt__") (B := Builtin.«int.__gt__») (typeIs_int s a t) F.slot_int_gt F.entry_int_gt (F.args_int_gt_2 _ _) (gt_dec a t) hx h
theorem tryC_ge (hx : s.heap.get? x = some (instObj C dx)) (h : P none s) : wpAny (model prog w) A (tryCompare (.int a t) (cmpInfo .GtE).2.1 (.ref x)) P E s :=
  tryC_dec (T := "int") (name := (cmpInfo .GtE).2.1) (id := "int.__ge__") (B := Builtin.«int.__ge__») (typeIs_int s a t) F.slot_int_ge F.entry_int_ge (F.args_int_ge_2 _ _) (ge_dec a t) hx h
theorem tryC_eq (hx : s.heap.get? x = some (instObj C dx)) (h : P none s) : wpAny (model prog w) A (tryCompare (.int a t) (cmpInfo .Eq).2.1 (.ref x)) P E s :=
  tryC_dec (T := "int") (name := (cmpInfo .Eq).2.1) (id := "int.__eq__") (B := Builtin.«int.__eq__») (typeIs_int s a t) F.slot_int_eq F.entry_int_eq (F.args_int_eq_2 _ _) (eq_dec a t) hx h
theorem tryC_beq {b : Bool} (hx : s.heap.get? x = some (instObj C dx)) (h : P none s) : wpAny (model prog w) A (tryCompare (.bool b) (cmpInfo .Eq).2.1 (.ref x)) P E s :=
  tryC_dec (T := "bool") (name := (cmpInfo .Eq).2.1) (id := "int.__eq__") (B := Builtin.«int.__eq__») rfl F.slot_bool_eq F.entry_int_eq (F.args_int_eq_2 _ _) (beq_dec b) hx h
theorem tryC_seq {y : Str} (hx : s.heap.get? x = some (instObj C dx)) (h : P none s) : wpAny (model prog w) A (tryCompare (.str y t) (cmpInfo .Eq).2.1 (.ref x)) P E s :=
  tryC_dec (T := "str") (name := (cmpInfo .Eq).2.1) (id := "str.__eq__") (B := Builtin.«str.__eq__») (typeIs_str s y t) F.slot_str_eq F.entry_str_eq (F.args_str_eq_2 _ _) (seq_dec t y) hx h
theorem tryC_neq (hx : s.heap.get? x = some (instObj C dx)) (h : P none s) : wpAny (model prog w) A (tryCompare .none (cmpInfo .Eq).2.1 (.ref x)) P E s :=
  tryC_dec (T := "NoneType") (name := (cmpInfo .Eq).2.1) (id := "NoneType.__eq__") (B := Builtin.«NoneType.__eq__») rfl F.slot_NoneType_eq F.entry_NoneType_eq (F.args_NoneType_eq_2 _ _) neq_dec hx h
end
end PySem.GyDec
namespace PySem.W
open PySem PySem.Calls PyProof.Rows
section
variable {prog : Program} {w : World} {A : Around} {E : Value → Shared → Prop} {s : Shared} {K : Frag} {x C L f : Addr} {h₀ : Heap} {m : Str → Option Value} {ox : Obj} {od : Option Obj} {T : String}
/-- b op x, b of a built-in type whose own comparison declines: x's turned one is asked -/
theorem gy_cmpR {op : CmpOp} {b : Value} {Q : Value → Shared → Prop} (hu : A.units < cLine) (F : Fr h₀ L s.heap m) (X₀ : K.In h₀) (I : InstAt s.heap x ox C od) (hb : s.TypeIs b T) (hL : Looks (model prog w) s.heap (typeOf b) (.type T))
    (hs : findIn K (.ref C) (cmpInfo op).2.2 = some (some (.ref f))) (hf : isFn K (.ref f) = true) (dn : subIn K (.ref C) (.type T) = some false)
    (hdec : ∀ P : Option Value → Shared → Prop, P none s → wpAny (model prog w) A (tryCompare b (cmpInfo op).2.1 (.ref x)) P E s)
    (h : wpAny (model prog w) A (call (.ref f) [.ref x, b]) (CmpBack Q) E s) : wpAny (model prog w) A (richCompare op b (.ref x)) Q E s := by
  have X := X₀.keeps F.keep
  have one : wpAny (model prog w) A (tryCompare (.ref x) (cmpInfo op).2.2 b) (fun r s' => ∃ v, r = some v ∧ Q v s') E s := by
    unfold tryCompare
    refine wpAny_bind (ifBound_K X I hs hf (wpAny_mono h (fun v s' hv => ?_) fun _ _ e => e))
    cases v <;> first | exact hv.elim | exact wpAny_pure ⟨_, rfl, hv⟩
  have hne : (Value.type T != Value.ref C) = true := by
    rw [bne, Bool.not_eq_true', Bool.eq_false_iff]
    intro q
    cases beq_iff_eq.mp q
  unfold richCompare
  simp only [hb.oneThing_none]
  refine wpAny_holding (wpAny_bind (wpAny_cRoomFor hu ?_))
  refine wpAny_bind (hL.here (wpAny_bind (I.type.here ?_)))
  rw [if_pos hne]
  refine wpAny_bind ((looks_subIn X dn).here ?_)
  simp only [Bool.false_eq_true, if_false]
  refine wpAny_bind (hdec _ ?_)
  simp only [Bool.not_false, if_true]
  refine wpAny_bind (wpAny_mono one (fun r s' z => ?_) fun _ _ e => e)
  obtain ⟨v, rfl, hq⟩ := z
  exact wpAny_pure hq
end
end PySem.W
namespace PySem.W
open PySem PySem.Calls PyProof.Rows
section
variable {prog : Program} {w : World} {A : Around} {E : Value → Shared → Prop} {s : Shared} {K : Frag} {x C L f : Addr} {h₀ : Heap} {m : Str → Option Value} {ox : Obj} {od : Option Obj} {t : Value}
theorem gy_neObj {b : Value} {Q : Fin → Shared → Prop} (hu : A.units < cLine) (X : K.In s.heap) (I : InstAt s.heap x ox C od) (heq : findIn K (.ref C) "__eq__" = some (some (.ref f))) (hf : isFn K (.ref f) = true)
    (h : wpAny (model prog w) A (call (.ref f) [.ref x, b]) (fun v s' => ∃ c, v = .bool c ∧ Q (.done (.ret (.bool (!c)))) s') E s) : wpAny (model prog w) A (Builtin.«object.__ne__» ⟨[.ref x, b], []⟩) Q E s := by
  obtain ⟨hp, g, d, tk, os⟩ := s
  unfold Builtin.«object.__ne__»
  repeat (first
    | with_reducible refine wpAny_cRoomFor hu ?_
    | (refine wpAny_bind (m := callSpecialIfBound? (.ref x) (Str.ofString "__eq__") [b])
        (ifBound_K X I heq hf (wpAny_mono h (fun r s' hr => by
          obtain ⟨c, rfl, hq⟩ := hr
          repeat (first | exact hq | exact wpAny_pure hq | exact wpAny_truthy_bool hq | (refine wpAny_bind (m := truthy (.bool _)) (wpAny_truthy_bool ?_)) | wp_step)) fun _ _ e => e)))
    | wp_step)
theorem gy_ne {b : Value} {Q : Value → Shared → Prop} (hu : A.units + 1 < cLine) (FF : Fr h₀ L s.heap m) (X₀ : K.In h₀) (I : InstAt s.heap x ox C od) (hL : Looks (model prog w) s.heap (typeOf b) t) (hn : notFirst K C t = true)
    (hne : findIn K (.ref C) "__ne__" = some (some (.builtin "object.__ne__"))) (heq : findIn K (.ref C) "__eq__" = some (some (.ref f))) (hf : isFn K (.ref f) = true) (ho : mroIn K C (.type "object") = some true)
    (h : wpAny (model prog w) A.in1 (call (.ref f) [.ref x, b]) (fun v s' => ∃ c, v = .bool c ∧ Q (.bool (!c)) s') E s) : wpAny (model prog w) A (richCompare .NotEq (.ref x) b) Q E s := by
  have X := X₀.keeps FF.keep
  have hi : Looks (model prog w) s.heap (isInstance (.ref x) (.type "object")) true := I.type.andThen (looks_mroIn X ho)
  have cal : wpAny (model prog w) A (call (.builtin "object.__ne__") [.ref x, b]) (fun v s' => ∃ c, v = .bool c ∧ Q (.bool c) s') E s := by
    refine wpAny_call (codeAny_call_builtin F.slot_object_ne.plain F.entry_object_ne (check_slot (owner := "object") (n := "__ne__") (by decide +kernel) (by decide +kernel) hi (F.args_object_ne_2 _ _) ?_))
    refine gy_neObj (A := A.in1) (by have := hu; exact this) X I heq hf (wpAny_mono h (fun v s' hv => ?_) fun _ _ e => e)
    obtain ⟨c, rfl, hq⟩ := hv
    exact ⟨c, rfl, _, rfl, hq⟩
  have one : wpAny (model prog w) A (tryCompare (.ref x) (cmpInfo .NotEq).2.1 b) (fun r s' => ∃ v, r = some v ∧ Q v s') E s := by
    unfold tryCompare
    refine wpAny_bind (m := callSpecialIfBound? (.ref x) (Str.ofString "__ne__") [b]) ?_
    simp only [callSpecialIfBound?, bindSpecialIfBound?]
    refine wpAny_holding (wpAny_bind (wpAny_bind (wpAny_bind (I.type.here ((looks_findIn X hne).here ?_)))))
    refine wpAny_bind (wpAny_askSetting (wpAny_ite ?_))
    have fin : wpAny (model prog w) A (call (.builtin "object.__ne__") ([.ref x] ++ [b]) >>= fun v => pure (some v)) (fun a s' => wpAny (model prog w) A (match a with | some .notImplemented | none => pure none | some v => pure (some v)) (fun r s' => ∃ v, r = some v ∧ Q v s') E s') E s := by
      refine wpAny_bind (wpAny_mono cal (fun v s' hv => ?_) fun _ _ e => e)
      obtain ⟨c, rfl, hq⟩ := hv
      exact wpAny_pure (wpAny_pure ⟨_, rfl, hq⟩)
    simp only [F.slot_object_ne.bind]
    split
    · exact wpAny_bind (wpAny_pure (wpAny_pure (by exact fin)))
    · exact wpAny_tryCatch (wpAny_bind (wpAny_pure (wpAny_pure (by exact fin))))
  unfold richCompare
  simp only [oneThing_ref]
  refine wpAny_holding (wpAny_bind (wpAny_cRoomFor (Nat.lt_of_succ_lt hu) ?_))
  refine wpAny_bind (I.type.here (wpAny_bind (hL.here ?_)))
  split
  · rename_i q
    have e : subIn K t (.ref C) = some false := by
      rcases Bool.or_eq_true_iff.mp hn with e | e
      · rw [beq_iff_eq.mp e] at q; simp at q
      · exact beq_iff_eq.mp e
    refine wpAny_bind ((looks_subIn X e).here ?_)
    simp only [Bool.false_eq_true, if_false]
    refine wpAny_bind (wpAny_mono one (fun r s' z => ?_) fun _ _ e => e)
    obtain ⟨v, rfl, hq⟩ := z
    exact wpAny_pure hq
  · refine wpAny_bind (wpAny_pure ?_)
    simp only [Bool.false_eq_true, if_false]
    refine wpAny_bind (wpAny_mono one (fun r s' z => ?_) fun _ _ e => e)
    obtain ⟨v, rfl, hq⟩ := z
    exact wpAny_pure hq
end
end PySem.W
namespace PySem.GyDec
open PySem PySem.W AutoSeq1
section
variable {C dx x l : Addr} {n : Nat} {vs : List Value} {ol : Obj}
abbrev GyTwo (T : String) (l : Addr) (ol : Obj) (x C dx : Addr) : Shared → Prop := fun s => s.heap.get? l = some ol ∧ s.heap.get? x = some (instObj C dx) ∧ ∀ prog w, Looks (model prog w) s.heap (isSubtype (.ref C) (.type T)) false
theorem list_dec (dd : Option Addr) (a : Array Value) (nn : Nat) (sl : Array (Option Value)) : GivesAt (GyTwo "list" l ⟨.type "list", dd, .seq a nn, sl⟩ x C dx) (Builtin.«list.__eq__» ⟨[.ref l, .ref x], []⟩) (.val .notImplemented) := fun prog w A R s hP h => by
  obtain ⟨hp, g, d, tk, os⟩ := s
  obtain ⟨h1, h2, h3⟩ := hP
  have hl : Heap.get? (Shared.heap ⟨hp, g, d, tk, os⟩) l = some ⟨.type "list", dd, .seq a nn, sl⟩ := h1
  have hx : Heap.get? (Shared.heap ⟨hp, g, d, tk, os⟩) x = some (instObj C dx) := h2
  wp_walk using wpAny_loadPart' hl, wpAny_loadPart' hx
  refine (h3 prog w).here ?_
  simp only [Bool.not_false, if_true]
  wp_walk using wpAny_loadPart' hl
  exact h
theorem tup_dec {ol : Obj} (hc : ol.cls = .type "tuple") : GivesAt (GyTwo "tuple" l ol x C dx) (Builtin.«tuple.__eq__» ⟨[.ref l, .ref x], []⟩) (.val .notImplemented) := fun prog w A R s hP h => by
  obtain ⟨hp, g, d, tk, os⟩ := s
  obtain ⟨h1, h2, h3⟩ := hP
  obtain ⟨c, od, pl, sl⟩ := ol
  obtain rfl : c = .type "tuple" := hc
  have hl : Heap.get? (Shared.heap ⟨hp, g, d, tk, os⟩) l = some ⟨.type "tuple", od, pl, sl⟩ := h1
  have hx : Heap.get? (Shared.heap ⟨hp, g, d, tk, os⟩) x = some (instObj C dx) := h2
  wp_walk using wpAny_loadPart' hl, wpAny_loadPart' hx
  refine (h3 prog w).here ?_
  simp only [Bool.not_false, if_true]
  wp_walk using wpAny_loadPart' hl
  exact h
theorem dict_dec {ol : Obj} (hc : ol.cls = .type "dict") : GivesAt (GyTwo "dict" l ol x C dx) (Builtin.«dict.__eq__» ⟨[.ref l, .ref x], []⟩) (.val .notImplemented) := fun prog w A R s hP h => by
  obtain ⟨hp, g, d, tk, os⟩ := s
  obtain ⟨h1, h2, h3⟩ := hP
  obtain ⟨c, od, pl, sl⟩ := ol
  obtain rfl : c = .type "dict" := hc
  have hl : Heap.get? (Shared.heap ⟨hp, g, d, tk, os⟩) l = some ⟨.type "dict", od, pl, sl⟩ := h1
  have hx : Heap.get? (Shared.heap ⟨hp, g, d, tk, os⟩) x = some (instObj C dx) := h2
  wp_walk using wpAny_loadPart' hl, wpAny_loadPart' hx
  refine (h3 prog w).here ?_
  simp only [Bool.not_false, if_true]
  wp_walk using wpAny_loadPart' hl
  exact h
end
end PySem.GyDec
namespace L2
open PySem PySem.Spec PyProof.Rows
section
variable {X : Cx} {CX : CXT} {pins : List (Addr × Obj)} {σ : St} {H : Hp} {s : Shared} {a C dx g r : Addr} {fs : List (Str × V)} {k : Nat} {fd : FuncData} {ps : List Str} {sp : Sp} {E : XK}
theorem run_fn1 {Q : VK} {us : List Value} {vs : List V} (F : FnOk X.prog X.w X.K X.mg X.base CX k g fd ps sp) (hr : Room (k + 1) X.A) (hb : Binds X.K fd ps []) (hx : Passes CX X E)
    (I : Inv X pins σ H s) (r : Vals vs us) (h : sp vs H Q E) : wpAny (model X.prog X.w) X.A.in1 (call (.ref g) us) (EP X pins σ Q) X.xe s := by
  have hl : us.length = ps.length := by rw [← r.length]; exact F.len _ _ _ _ h
  have b := hb s us I.kIn (by rw [List.append_nil]; exact hl)
  rw [List.append_nil] at b
  refine wpAny_call (codeAny_mono (F.run X.A.in1 X.stack s H ⟨us, []⟩ us vs Q E hr.in1 I.env0.in1 b r h) fun r s' hq => ?_)
  cases r with
  | error e => exact hx pins σ H s e s' I hq
  | ok fl =>
    cases fl with
    | ret u => exact I.after hq
    | next => exact False.elim hq
    | brk => exact False.elim hq
    | cont => exact False.elim hq
/-- x op y, x an instance: its own method; y's type is no subclass -/
def rGyC (K : PySem.W.Frag) (C : Addr) (sp : Sp) (E : XK) : R2 := fun x y H Q => ∃ a dx fs t, x = .ref a ∧ H a = some (.ins C dx fs) ∧ TyX K H y t ∧ PySem.W.notFirst K C t = true ∧ sp [x, y] H Q E
theorem op_gyC {op : CmpOp} (ho : ∀ a b, compareOp op a b = richCompare op a b) (hs : PySem.W.findIn X.K (.ref C) (cmpInfo op).2.1 = some (some (.ref g))) (hf : PySem.W.isFn X.K (.ref g) = true)
    (F : FnOk X.prog X.w X.K X.mg X.base CX k g fd ps sp) (hr : Room k X.A) (hb : Binds X.K fd ps []) (hx : Passes CX X E) : OpR X (compareOp op) (rGyC X.K C sp E) := by
  intro pins s σ H x y v u Q I rx ry h
  obtain ⟨a, dx, fs, t, rfl, ha, ty, hn, q⟩ := h
  obtain rfl : v = Value.ref a := rx
  obtain ⟨od, J, _⟩ := ins_at I ha
  obtain ⟨m, hF⟩ := I.fr
  obtain ⟨P, kx, hP, _⟩ := kit_of I ry ty
  have q' : sp ([.ref a, y] ++ []) H Q E := q
  have go : wpAny (model X.prog X.w) X.A (call (.ref g) [.ref a, u]) (PySem.W.CmpBack (EP X pins σ Q)) X.xe s :=
    wpAny_mono (run_fn (us := [.ref a, u]) (vs := [.ref a, y]) F hr hb .nil hx I (.cons rfl (.cons ry .nil)) q') (fun w s' z => by
      obtain ⟨z', H', I', rz, qz⟩ := z
      exact gy_back rz ⟨z', H', I', rz, qz⟩) fun _ _ e => e
  rw [ho]
  exact PySem.W.cmp_K hr.units0 hF I.ok.mod.kin J (kx.ty _ _ I.kIn hP) hn hs hf go
/-- x != y by object's, through the own == -/
def rGyNe (K : PySem.W.Frag) (C : Addr) (sp : Sp) (E : XK) : R2 := fun x y H Q => ∃ a dx fs t, x = .ref a ∧ H a = some (.ins C dx fs) ∧ TyX K H y t ∧ PySem.W.notFirst K C t = true ∧ sp [x, y] H (fun v H' => ∃ c, v = .bl c ∧ Q (.bl (!c)) H') E
theorem op_gyNe (hne : PySem.W.findIn X.K (.ref C) "__ne__" = some (some (.builtin "object.__ne__"))) (hs : PySem.W.findIn X.K (.ref C) "__eq__" = some (some (.ref g))) (hf : PySem.W.isFn X.K (.ref g) = true) (hm : PySem.W.mroIn X.K C (.type "object") = some true)
    (F : FnOk X.prog X.w X.K X.mg X.base CX k g fd ps sp) (hr : Room (k + 1) X.A) (hb : Binds X.K fd ps []) (hx : Passes CX X E) : OpR X (compareOp .NotEq) (rGyNe X.K C sp E) := by
  intro pins s σ H x y v u Q I rx ry h
  obtain ⟨a, dx, fs, t, rfl, ha, ty, hn, q⟩ := h
  obtain rfl : v = Value.ref a := rx
  obtain ⟨od, J, _⟩ := ins_at I ha
  obtain ⟨m, hF⟩ := I.fr
  obtain ⟨P, kx, hP, _⟩ := kit_of I ry ty
  exact PySem.W.gy_ne (f := g) hr.in1.units0 hF I.ok.mod.kin J (kx.ty _ _ I.kIn hP) hn hne hs hf hm
    (wpAny_mono (run_fn1 (us := [.ref a, u]) (vs := [.ref a, y]) F hr hb hx I (.cons rfl (.cons ry .nil)) q) (fun w s' z => by
      obtain ⟨z', H', I', rz, c, rfl, qz⟩ := z
      cases (show w = Value.bool c from rz)
      exact ⟨c, rfl, .bl (!c), H', I', rfl, qz⟩) fun _ _ e => e)
/-- x's own comparison with an instance of C declines -/
def Turns (X : Cx) (C : Addr) (op : CmpOp) (x : V) (H : Hp) : Prop := ∀ (pins : List (Addr × Obj)) (σ : St) (s : Shared) (v : Value) (b dy : Addr) (gs : List (Str × V)), Inv X pins σ H s → RelV x v → H b = some (.ins C dy gs) →
  ∃ T, s.TypeIs v T ∧ PySem.W.Looks (model X.prog X.w) s.heap (typeOf v) (.type T) ∧ PySem.W.subIn X.K (.ref C) (.type T) = some false ∧
    ∀ (A : Around) (E : Value → Shared → Prop) (P : Option Value → Shared → Prop), P none s → wpAny (model X.prog X.w) A (tryCompare v (cmpInfo op).2.1 (.ref b)) P E s
/-- x op y, y an instance, x's own comparison declines: y's turned one -/
def rGyCR (X : Cx) (op : CmpOp) (C : Addr) (sp : Sp) (E : XK) : R2 := fun x y H Q => ∃ b dy gs, y = .ref b ∧ H b = some (.ins C dy gs) ∧ Turns X C op x H ∧ sp [y, x] H Q E
theorem op_gyCR {op : CmpOp} (ho : ∀ a b, compareOp op a b = richCompare op a b) (hs : PySem.W.findIn X.K (.ref C) (cmpInfo op).2.2 = some (some (.ref g))) (hf : PySem.W.isFn X.K (.ref g) = true)
    (F : FnOk X.prog X.w X.K X.mg X.base CX k g fd ps sp) (hr : Room k X.A) (hb : Binds X.K fd ps []) (hx : Passes CX X E) : OpR X (compareOp op) (rGyCR X op C sp E) := by
  intro pins s σ H x y v u Q I rx ry h
  obtain ⟨b, dy, gs, rfl, hb', tn, q⟩ := h
  obtain rfl : u = Value.ref b := ry
  obtain ⟨od, J, _⟩ := ins_at I hb'
  obtain ⟨m, hF⟩ := I.fr
  obtain ⟨T, t1, t2, t3, t4⟩ := tn pins σ s v b dy gs I rx hb'
  have q' : sp ([.ref b, x] ++ []) H Q E := q
  have go : wpAny (model X.prog X.w) X.A (call (.ref g) [.ref b, v]) (PySem.W.CmpBack (EP X pins σ Q)) X.xe s :=
    wpAny_mono (run_fn (us := [.ref b, v]) (vs := [.ref b, x]) F hr hb .nil hx I (.cons rfl (.cons rx .nil)) q') (fun w s' z => by
      obtain ⟨z', H', I', rz, qz⟩ := z
      exact gy_back rz ⟨z', H', I', rz, qz⟩) fun _ _ e => e
  rw [ho]
  exact PySem.W.gy_cmpR hr.units0 hF I.ok.mod.kin J t1 t2 hs hf t3 (fun P hp => t4 _ _ P hp) go
theorem turns_lt {i : Int} (hs : PySem.W.subIn X.K (.ref C) (.type "int") = some false) : Turns X C .Lt (.int i) H := fun pins σ s v b dy gs I rv hb => by
  obtain ⟨t, rfl⟩ := rv
  exact ⟨"int", typeIs_int s i t, PySem.W.Looks.of_pure rfl, hs, fun A E P hp => GyDec.tryC_lt (ins_at I hb).choose_spec.2 hp⟩
theorem turns_le {i : Int} (hs : PySem.W.subIn X.K (.ref C) (.type "int") = some false) : Turns X C .LtE (.int i) H := fun pins σ s v b dy gs I rv hb => by
  obtain ⟨t, rfl⟩ := rv
  exact ⟨"int", typeIs_int s i t, PySem.W.Looks.of_pure rfl, hs, fun A E P hp => GyDec.tryC_le (ins_at I hb).choose_spec.2 hp⟩
theorem turns_gt {i : Int} (hs : PySem.W.subIn X.K (.ref C) (.type "int") = some false) : Turns X C .Gt (.int i) H := fun pins σ s v b dy gs I rv hb => by
  obtain ⟨t, rfl⟩ := rv
  exact ⟨"int", typeIs_int s i t, PySem.W.Looks.of_pure rfl, hs, fun A E P hp => GyDec.tryC_gt (ins_at I hb).choose_spec.2 hp⟩
theorem turns_ge {i : Int} (hs : PySem.W.subIn X.K (.ref C) (.type "int") = some false) : Turns X C .GtE (.int i) H := fun pins σ s v b dy gs I rv hb => by
  obtain ⟨t, rfl⟩ := rv
  exact ⟨"int", typeIs_int s i t, PySem.W.Looks.of_pure rfl, hs, fun A E P hp => GyDec.tryC_ge (ins_at I hb).choose_spec.2 hp⟩
theorem turns_eq {i : Int} (hs : PySem.W.subIn X.K (.ref C) (.type "int") = some false) : Turns X C .Eq (.int i) H := fun pins σ s v b dy gs I rv hb => by
  obtain ⟨t, rfl⟩ := rv
  exact ⟨"int", typeIs_int s i t, PySem.W.Looks.of_pure rfl, hs, fun A E P hp => GyDec.tryC_eq (ins_at I hb).choose_spec.2 hp⟩
theorem turns_beq {c : Bool} (hs : PySem.W.subIn X.K (.ref C) (.type "bool") = some false) : Turns X C .Eq (.bl c) H := fun pins σ s v b dy gs I rv hb => by
  cases (show v = Value.bool c from rv)
  exact ⟨"bool", rfl, PySem.W.Looks.of_pure rfl, hs, fun A E P hp => GyDec.tryC_beq (ins_at I hb).choose_spec.2 hp⟩
theorem turns_seq {x : Str} (hs : PySem.W.subIn X.K (.ref C) (.type "str") = some false) : Turns X C .Eq (.str x) H := fun pins σ s v b dy gs I rv hb => by
  obtain ⟨t, rfl⟩ := rv
  exact ⟨"str", typeIs_str s x t, PySem.W.Looks.of_pure rfl, hs, fun A E P hp => GyDec.tryC_seq (ins_at I hb).choose_spec.2 hp⟩
theorem turns_neq (hs : PySem.W.subIn X.K (.ref C) (.type "NoneType") = some false) : Turns X C .Eq .non H := fun pins σ s v b dy gs I rv hb => by
  cases (show v = Value.none from rv)
  exact ⟨"NoneType", rfl, PySem.W.Looks.of_pure rfl, hs, fun A E P hp => GyDec.tryC_neq (ins_at I hb).choose_spec.2 hp⟩
end
end L2
namespace L2
open PySem PySem.Spec PyProof.Rows
section
variable {X : Cx} {CX : CXT} {pins : List (Addr × Obj)} {σ : St} {H : Hp} {s : Shared} {a C dx g r : Addr} {fs : List (Str × V)} {k : Nat} {fd : FuncData} {ps : List Str} {sp : Sp} {E : XK}
theorem turns_ref {T : String} {l : Addr} {op : CmpOp} {id : String} {B : Builtin} (hs : PySem.W.subIn X.K (.ref C) (.type T) = some false) (slot : Slot T (cmpInfo op).2.1 id) (entry : entryFor table id = some B) (args : ∀ a b, argsOk id ⟨[a, b], []⟩)
    (get : ∀ (pins : List (Addr × Obj)) (σ : St) (s : Shared), Inv X pins σ H s → ∃ ol, s.heap.get? l = some ol ∧ ol.cls = .type T ∧ ∀ b dy, GivesAt (PySem.GyDec.GyTwo T l ol b C dy) (B ⟨[.ref l, .ref b], []⟩) (.val .notImplemented)) : Turns X C op (.ref l) H := fun pins σ s v b dy gs I rv hb => by
  cases (show v = Value.ref l from rv)
  obtain ⟨ol, h1, h2, gv⟩ := get pins σ s I
  have hT : s.TypeIs (.ref l) T := ⟨ol, h1, h2⟩
  refine ⟨T, hT, ?_, hs, fun A E P hp => ?_⟩
  · exact PySem.W.kitAt_ty _ _ ⟨ol, h1, h2⟩
  · refine wpAny_tryCompare_declines hT slot (call_givesAt slot hT entry (args _ _) (gv b dy) ⟨h1, (ins_at I hb).choose_spec.2, fun prog w => PySem.W.looks_subIn I.kIn hs⟩ ⟨rfl, hp⟩)
theorem turns_list {l : Addr} {xs : List V} (h : H l = some (.lst xs)) (hs : PySem.W.subIn X.K (.ref C) (.type "list") = some false) : Turns X C .Eq (.ref l) H :=
  turns_ref (T := "list") (id := "list.__eq__") (B := Builtin.«list.__eq__») hs F.slot_list_eq F.entry_list_eq F.args_list_eq_2 fun pins σ s I => by
    obtain ⟨_, _, n, _, h1⟩ := (show ObjOk X.prog X.w H s.heap l (.lst xs) from I.hok l _ h)
    exact ⟨_, h1, rfl, fun b dy => PySem.GyDec.list_dec _ _ _ _⟩
theorem turns_tup {l : Addr} {xs : List V} (h : H l = some (.tup xs)) (hs : PySem.W.subIn X.K (.ref C) (.type "tuple") = some false) : Turns X C .Eq (.ref l) H :=
  turns_ref (T := "tuple") (id := "tuple.__eq__") (B := Builtin.«tuple.__eq__») hs F.slot_tuple_eq F.entry_tuple_eq F.args_tuple_eq_2 fun pins σ s I => by
    obtain ⟨_, _, _, o, h1, h2, _⟩ := (show ObjOk X.prog X.w H s.heap l (.tup xs) from I.hok l _ h)
    exact ⟨_, h1, h2, fun b dy => PySem.GyDec.tup_dec h2⟩
theorem turns_dK {l : Addr} {xs : List (Key × V)} (h : H l = some (.dK xs)) (hs : PySem.W.subIn X.K (.ref C) (.type "dict") = some false) : Turns X C .Eq (.ref l) H :=
  turns_ref (T := "dict") (id := "dict.__eq__") (B := Builtin.«dict.__eq__») hs F.slot_dict_eq F.entry_dict_eq F.args_dict_eq_2 fun pins σ s I => by
    obtain ⟨_, _, vs, _, o, es, ep, h1, h2, _⟩ := (show ObjOk X.prog X.w H s.heap l (.dK xs) from I.hok l _ h)
    exact ⟨_, h1, h2.1, fun b dy => PySem.GyDec.dict_dec h2.1⟩
end
end L2

set_option Elab.async false
set_option linter.all false
set_option maxRecDepth 100000
set_option maxHeartbeats 4000000
/-! Lay3: errors of the program's own as things: made (by place, by name), read, asked for their class. -/
namespace PySem.GyErr
open PySem PySem.W PySem.Calls PyProof.Rows PySem.HandSPX
/-- what a class object holds beside its line of bases -/
structure Pt where
  (nm q : Str) (N : Addr) (bs : List Value) (sn : List Str) (sub : List Value) (ab : Bool) (col : Option Bool) (dd : Option Addr)
  (k0 k1 k2 k3 k5 : Option Value)
abbrev Pt.ob (p : Pt) (C : Addr) (bm : List Value) : Obj :=
  excClassObj p.nm p.q C p.N p.bs bm true p.sn p.sub p.ab p.col p.dd p.k0 p.k1 p.k2 p.k3 p.k5 "ValueError.__new__"
section
variable {prog : Program} {w : World} {M : Model} {A : Around} {R : Result → Shared → Prop} {E : Value → Shared → Prop} {h : Heap}
  {g : Array GenState} {d : Drawn} {t : Nat} {os : OsState} {p : Pt} {C : Addr} {bm : List Value} {us : List Value} {kw : List (Str × Value)}
theorem new_args (v : Value) : Bind.checkArgs "ValueError.__new__"
    ⟨.any, "ValueError", "ValueError", .cls, [⟨"args", .varPos, false⟩, ⟨"kwargs", .varKw, false⟩]⟩ ⟨v :: us, kw⟩ = pure () := by kernel_rfl
theorem new_checked {Q : Unit → Shared → Prop} (hm : refsVE bm = true) (hC : h.get? C = some (p.ob C bm)) (hq : Q () ⟨h, g, d, t, os⟩) :
    wpAny M A (checkBuiltinCall "ValueError.__new__" ⟨.ref C :: us, kw⟩) Q E ⟨h, g, d, t, os⟩ := by
  have F := F.excBase_ValueError
  have has : (Value.ref C :: bm).contains (.type "ValueError") = true := by
    rw [List.contains_cons, refsVE_contains _ _ hm, show veTail.contains (.type "ValueError") = true by decide +kernel, Bool.or_true]
  have ha := new_args (us := us) (kw := kw) (.ref C)
  simp only [checkBuiltinCall, F.newKind, F.newSplit, F.newRow, ha]
  repeat (first
    | refine wpAny_loadPart_at hC ?_
    | (refine wpAny_isSubtype_exc hC ?_; rw [has])
    | refine wpAny_staticBase_exc hC ?_
    | refine wpAny_madeBy_exc hC ?_
    | simp only [bne_self_eq_false, Bool.false_eq_true, if_false]
    | wp_step)
  exact hq
theorem new_run (hm : refsVE bm = true) (hC : h.get? C = some (p.ob C bm)) (hl : us.length ≤ sizeLine)
    (hq : R (.ok (.ret (.ref (h.objs.size + 1)))) ⟨(h.push (kdv_tup us)).push (excO C h.objs.size), g, d, t, os⟩) :
    codeAny (model prog w) A (.builtin "ValueError.__new__" ⟨.ref C :: us, kw⟩) R ⟨h, g, d, t, os⟩ := by
  have F := F.excBase_ValueError
  have hends := F.ends
  have in_ : ∀ (T : String) (b : Bool), veTail.contains (.type T) = b → (Value.ref C :: bm).contains (.type T) = b := fun T b e => by
    rw [List.contains_cons, refsVE_contains _ _ hm, e]
    cases b <;> rfl
  have i1 := in_ "ValueError" true (by decide +kernel)
  have i2 := in_ "AttributeError" false (by decide +kernel)
  have i3 := in_ "NameError" false (by decide +kernel)
  refine codeAny_builtinAt F.entry ?_
  unfold Builtin.«BaseException.__new__»
  refine wpAt_bind ?_
  show wpAt _ _ _ (stack >>= _) _ _ _
  refine wpAt_bind (wpAt_stack fun p below => wpAt_of_wpAny ?_)
  wp_walk
  refine wpAt_of_wpAny ?_
  rw [F.owner]
  repeat (first
    | with_reducible refine wpAny_madeHere_exc F.canon hC ?_
    | with_reducible refine wpAny_loadPart_at hC ?_
    | (with_reducible refine wpAny_isSubtype_exc hC ?_; first | rw [i1] | rw [i2] | rw [i3])
    | wp_step)
  show R _ _
  rw [Heap.size_push]
  exact hq
/-- C(.., k = v, ..): the error is laid, then its __init__ -/
theorem call_err {fI : Addr} (hm : refsVE bm = true) (hC : h.get? C = some (p.ob C bm))
    (hi : W.Looks (model prog w) h (typeLookup (.ref C) "__init__") (some (.ref fI)))
    (hb : ∀ self, W.Looks (model prog w) h (bindSpecial (.ref fI) self) (.ref fI, [self])) (hl : us.length ≤ sizeLine)
    (hq : codeAny (model prog w) (A.under (.builtin "type.__call__" ⟨.ref C :: us, kw⟩)) (.call (.ref fI) ⟨.ref (h.objs.size + 1) :: us, kw⟩)
      (W.InitBack (h.objs.size + 1) R) ⟨(h.push (kdv_tup us)).push (excO C h.objs.size), g, d, t, os⟩) :
    codeAny (model prog w) A (.call (.ref C) ⟨us, kw⟩) R ⟨h, g, d, t, os⟩ := by
  have F := F.excBase_ValueError
  have f1 := tc_lookup
  have f2 := tc_bind (.ref C)
  have hTy : (⟨h, g, d, t, os⟩ : Shared).TypeIs (.ref C) "type" := ⟨_, hC, rfl⟩
  refine codeAny_of_tree ?_
  show wpAny _ _ (callAny (.ref C) _) _ _ _
  repeat (any_goals (first | assumption | with_reducible refine wpAny_loadPart_at hC ?_ | wp_step))
  refine ⟨rfl, ?_⟩
  have typ : Looks (model prog w) h (isInstance (.ref C) (.type "type")) true :=
    ((Looks.ld (part := none) hC).andThen .now).andThen (Looks.of_pure (by show isSubtype (.type "type") (.type "type") = pure true; rw [isSubtype_type]; kernel_rfl))
  refine codeAny_call_builtin_at (Code.quiet_builtin _ (by decide +kernel)) entry_typeCall
    (check_slot tc_kind tc_split typ (tc_args _ _ _) ?_)
  have k : ∀ b o, h.get? b = some o → ((h.push (kdv_tup us)).push (excO C h.objs.size)).get? b = some o := fun b o e =>
    Heap.get?_push_of_some _ (Heap.get?_push_of_some _ e)
  have hC1 := k _ _ hC
  have hx : ((h.push (kdv_tup us)).push (excO C h.objs.size)).get? (h.objs.size + 1) = some (excO C h.objs.size) := by heap_get
  have hcC : (Value.ref C :: bm).contains (.ref C) = true := by simp
  have i1 := hi.keeps k
  have b1 := (hb (.ref (h.objs.size + 1))).keeps k
  repeat (first | with_reducible refine wpAny_loadPart_at hC ?_ | with_reducible refine wpAny_madeBy_exc hC ?_ | wp_step)
  refine codeAny_call_builtin_code (Code.quiet_builtin _ F.quiet) (new_checked hm hC ?_)
  refine new_run hm hC hl ?_
  show wpAny _ _ _ _ _ _
  unfold isInstance
  repeat (first | with_reducible refine wpAny_loadPart_at hx ?_ | wp_step)
  show wpAny _ _ (isSubtype (.ref C) (.ref C)) _ _ _
  refine wpAny_isSubtype_exc hC1 ?_
  rw [hcC]
  repeat wp_step
  show wpAny _ _ (typeLookup (.ref C) _) _ _ _
  refine i1.at ?_
  refine wpAny_holding (wpAny_bind (b1.at ?_))
  refine wpAny_bind (wpAny_call (codeAny_mono hq fun r s' z => ?_))
  rcases r with e | (v | _ | _ | _) <;> first | exact z | exact z.elim | skip
  obtain ⟨rfl, z⟩ := z
  first
    | exact wpAny_pure (wpAny_pure z)
    | (wp_walk; exact z)
end
end PySem.GyErr
namespace Gy
open PySem L2
/-- an own error class at C: behind it stands L, but for L itself, then ValueError's line -/
structure ErrT (K : PySem.W.Frag) (L C : Addr) : Prop where
  line : ∃ (p : PySem.GyErr.Pt) (anc : List Value), (C = L ∧ anc = [] ∨ anc = [.ref L]) ∧ K.lookup C = some (p.ob C (anc ++ PySem.HandSPX.veTail))
  sa : PySem.W.findIn K (.ref C) "__setattr__" = some (some (.builtin "object.__setattr__"))
  ga : PySem.W.findIn K (.ref C) "__getattribute__" = some (some (.builtin "BaseException.__getattribute__"))
  gg : PySem.W.findIn K (.ref C) "__getattr__" = some none
  ca : PySem.W.findIn K (.ref C) "__class__" = some (some (.builtin "object.__class__"))
  ty : PySem.W.typeIn K (.ref C) = some (.type "type")
  kp : PySem.W.keepIn K (.ref C) = true
/-- how __class__ is read off such a thing -/
structure ErrG (K : PySem.W.Frag) : Prop where
  sp : PySem.W.specialIn K (.builtin "object.__class__") "__get__" = some (some (.builtin "getset_descriptor.__get__"))
  tk : PySem.W.takesIn K (.builtin "object.__class__") = some true
section
variable {K : PySem.W.Frag} {L C D : Addr}
theorem anc_refs {anc : List Value} (h : C = L ∧ anc = [] ∨ anc = [.ref L]) : PySem.HandSPX.refsVE (anc ++ PySem.HandSPX.veTail) = true := by
  rcases h with ⟨_, rfl⟩ | rfl
  · decide +kernel
  · show PySem.HandSPX.refsVE PySem.HandSPX.veTail = true
    decide +kernel
theorem ErrT.cd (T : ErrT K L C) : ∃ (cd : ClassData) (anc : List Value), PySem.W.clsIn K C = some cd ∧ (C = L ∧ anc = [] ∨ anc = [.ref L]) ∧ cd.mro = .ref C :: (anc ++ PySem.HandSPX.veTail) ∧ cd.hasDict = true := by
  obtain ⟨p, anc, ha, hl⟩ := T.line
  exact ⟨{ name := p.nm, bases := p.bs, mro := .ref C :: (anc ++ PySem.HandSPX.veTail), ns := p.N, qualname := p.q, hasDict := true, slotNames := p.sn, subclasses := p.sub, abstract := p.ab, collection := p.col, hasDel := false },
    anc, by unfold PySem.W.clsIn; rw [hl], ha, rfl, rfl⟩
theorem ErrT.mro (T : ErrT K L C) {base : Value} {b : Bool} (h : ∀ anc : List Value, (C = L ∧ anc = [] ∨ anc = [.ref L]) → (Value.ref C :: (anc ++ PySem.HandSPX.veTail)).contains base = b) : PySem.W.mroIn K C base = some b := by
  obtain ⟨cd, anc, hc, ha, hm, _⟩ := T.cd
  unfold PySem.W.mroIn
  rw [hc, Option.bind_some, hm]
  exact congrArg some (h anc ha)
theorem ErrT.subT (T : ErrT K L C) {t : String} {b : Bool} (e : PySem.HandSPX.veTail.contains (.type t) = b) : PySem.W.subIn K (.ref C) (.type t) = some b := T.mro fun anc ha => by
  rcases ha with ⟨_, rfl⟩ | rfl
  · rw [List.contains_cons, List.nil_append, e]
    cases b <;> rfl
  · rw [List.contains_cons, List.singleton_append, List.contains_cons, e]
    cases b <;> rfl
theorem tail_ref (a : Addr) : PySem.HandSPX.veTail.contains (.ref a) = false := by
  show ([Value.type "ValueError", .type "Exception", .type "BaseException", .type "object"] : List Value).contains (.ref a) = false
  simp
theorem ErrT.subL (T : ErrT K L C) : PySem.W.subIn K (.ref C) (.ref L) = some true := T.mro fun anc ha => by
  rcases ha with ⟨rfl, rfl⟩ | rfl <;> simp
theorem ErrT.subD (T : ErrT K L C) (h : D ≠ L) : PySem.W.subIn K (.ref C) (.ref D) = some (decide (C = D)) := T.mro fun anc ha => by
  have e : (Value.ref D == Value.ref C) = decide (C = D) := by
    by_cases z : C = D
    · rw [z, beq_self_eq_true, decide_eq_true rfl]
    · rw [decide_eq_false z]
      exact beq_eq_false_iff_ne.mpr fun q => z (Value.ref.inj q).symm
  have e2 : (Value.ref D == Value.ref L) = false := beq_eq_false_iff_ne.mpr fun q => h (Value.ref.inj q)
  rcases ha with ⟨_, rfl⟩ | rfl
  · rw [List.contains_cons, List.nil_append, tail_ref, e, Bool.or_false]
  · rw [List.contains_cons, List.singleton_append, List.contains_cons, tail_ref, e, e2, Bool.or_false, Bool.or_false]
theorem ErrT.isC (T : ErrT K L C) : PySem.W.isClsIn K C = true := by
  obtain ⟨cd, _, hc, _⟩ := T.cd
  unfold PySem.W.isClsIn
  rw [hc]
  rfl
theorem ErrT.hd (T : ErrT K L C) : PySem.W.hasDictIn K C = true := by
  obtain ⟨cd, _, hc, _, _, hh⟩ := T.cd
  unfold PySem.W.hasDictIn
  rw [hc]
  exact hh
theorem ErrT.oex (T : ErrT K L C) : OexC K C := by
  obtain ⟨p, anc, ha, hl⟩ := T.line
  exact ⟨⟨_, _, _, _, _, _, _, _, _, _, _, _, _, _, _, hl, anc_refs ha⟩, T.sa, T.subT (by decide +kernel), T.ty, T.kp⟩
/-- isinstance of such a thing -/
theorem ErrT.kitD (T : ErrT K L C) (U : ErrT K L D) (h : D ≠ L) : PySem.W.kitOne K (.ref C) (.ref D) = some (decide (C = D)) := by
  by_cases z : C = D
  · subst z
    rw [decide_eq_true rfl]
    exact kit_self
  · rw [decide_eq_false z]
    refine kit_of_to z U.isC U.ty ?_
    rw [T.subD h, decide_eq_false z]
theorem ErrT.kitL (T : ErrT K L C) (U : ErrT K L L) : PySem.W.kitOne K (.ref C) (.ref L) = some true := by
  by_cases z : C = L
  · subst z
    exact kit_self
  · exact kit_of_to z U.isC U.ty T.subL
theorem ErrT.kitT (T : ErrT K L C) {t : String} {b : Bool} (m : PySem.W.kitMeta t = true) (e : PySem.HandSPX.veTail.contains (.type t) = b) : PySem.W.kitOne K (.ref C) (.type t) = some b := kit_ob m (T.subT e)
end
/-! ### made -/
/-- C(..), a value: a new error, then its __init__ -/
def tErr (C : Addr) (sp : Sp) (E : XK) (t : TA) : TE := fun σ H Q => t σ H fun vs H1 => vs.length ≤ 1000 ∧ ∀ a, H1 a = none → sp (.ref a :: vs) (upd H1 a (exo a C none)) (fun v H2 => v = .non ∧ Q (.ref a) H2) E
section
variable {X : Cx} {CX : CXT} {k : Nat} {fI L C : Addr} {fd : FuncData} {ps : List Str} {sp : Sp} {E : XK} {x f : Str} {p pos kpos : Pos} {e : Expr} {es : List Expr} {t : TA} {te : TE}
theorem run_err {pins : List (Addr × Obj)} {σ : St} {H : Hp} {s : Shared} {Q : VK} {us gs : List Value} {kw : List (Str × Value)} {vs : List V} (T : ErrT X.K L C)
    (iC : PySem.W.findIn X.K (.ref C) "__init__" = some (some (.ref fI))) (tI : PySem.W.isFn X.K (.ref fI) = true) (F : FnOk X.prog X.w X.K X.mg X.base CX k fI fd ps sp) (hr : Room (k + 1) X.A)
    (hb : ∀ (s' : Shared) (u : Value), X.K.In s'.heap → (u :: gs).length = ps.length → BindsTo s' fd ⟨u :: us, kw⟩ (ps.zip (u :: gs))) (hx : Passes CX X E) (I : Inv X pins σ H s) (r : Vals vs gs) (hl : us.length ≤ gs.length) (hv : vs.length ≤ 1000)
    (h : ∀ a, H a = none → sp (.ref a :: vs) (upd H a (exo a C none)) (fun v H2 => v = .non ∧ Q (.ref a) H2) E) :
    wpAny (model X.prog X.w) X.A (call (.ref C) us kw) (EP X pins σ Q) X.xe s := by
  obtain ⟨p, anc, ha, hC⟩ := T.line
  obtain ⟨hp, g, dr, tk, os⟩ := s
  have above : hp.objs.size ≤ hp.objs.size + 1 := Nat.le_succ _
  have hq := h (hp.objs.size + 1) (I.hok.fresh above)
  have kept : ∀ b o, hp.get? b = some o → ((hp.push (PySem.W.kdv_tup us)).push (PySem.HandSPX.excO C hp.objs.size)).get? b = some o := fun b o z => Heap.get?_push_of_some _ (Heap.get?_push_of_some _ z)
  have new : ((hp.push (PySem.W.kdv_tup us)).push (PySem.HandSPX.excO C hp.objs.size)).get? (hp.objs.size + 1) = some (PySem.HandSPX.excO C hp.objs.size) := by heap_get
  have J : Inv X pins σ (upd H (hp.objs.size + 1) (exo (hp.objs.size + 1) C none)) ⟨(hp.push (PySem.W.kdv_tup us)).push (PySem.HandSPX.excO C hp.objs.size), g, dr, tk, os⟩ :=
    I.laid (t' := tk) kept above (exo_ok new)
  have rr : Vals (V.ref (hp.objs.size + 1) :: vs) (Value.ref (hp.objs.size + 1) :: gs) := .cons rfl r
  have ln : (Value.ref (hp.objs.size + 1) :: gs).length = ps.length := rr.length.symm.trans (F.len _ _ _ _ hq)
  have lu : us.length ≤ sizeLine := Nat.le_trans hl (Nat.le_trans (Nat.le_of_eq (Paired.length r).symm) (Nat.le_trans hv (by decide)))
  refine wpAny_call (PySem.GyErr.call_err (anc_refs ha) (I.kIn _ _ hC) (PySem.W.looks_findIn I.kIn iC) (fun u => PySem.W.bind_fn I.kIn u (beq_iff_eq.mp tI)) lu
    (codeAny_mono (F.run _ X.stack _ _ ⟨Value.ref (hp.objs.size + 1) :: us, kw⟩ _ _ _ E (hr.make C us kw) (J.env0.make C us kw) (hb _ _ J.kIn ln) rr hq) fun re s' z => ?_))
  cases re with
  | error er => exact hx pins σ _ _ er s' J z
  | ok fl =>
    cases fl with
    | ret u =>
      obtain ⟨v, H', I3, rv, ev, q3⟩ := J.after z
      subst ev
      exact ⟨rv, V.ref (hp.objs.size + 1), H', I3, rfl, q3⟩
    | next => exact z.elim
    | brk => exact z.elim
    | cont => exact z.elim
/-- C(e, ..) -/
theorem pe_err (T : ErrT X.K L C) (iC : PySem.W.findIn X.K (.ref C) "__init__" = some (some (.ref fI))) (tI : PySem.W.isFn X.K (.ref fI) = true) (F : FnOk X.prog X.w X.K X.mg X.base CX k fI fd ps sp) (hr : Room (k + 1) X.A) (hb : Binds X.K fd ps []) (hx : Passes CX X E)
    (hg : Gl X x) (hm : X.mg x = some (.ref C)) (ha : PA X (e :: es) t) (hd : (x == ("__debug__" : Str)) = false := by decide) (h1 : starEach (e :: es) X.env = (false, eval e X.env) :: starEach es X.env := by rfl)
    (h2 : (backTo pos (starEach es X.env)).any (·.1) = false := by rfl) : PE X (.Call (.Name x p) (e :: es) [] pos) (tErr C sp E t) := ⟨fun pins s σ H Q I h =>
  wpAny_Call_Name_kw (ld_glob I hg hm (PySem.W.callWith_K (h₀ := X.base) I.ok.mod.kin T.kp (thn (ha.run pos pins s σ H _ I h) fun us s1 ⟨vs, H1, I1, r, hv, q⟩ =>
    ⟨I1.kIn, run_err (gs := us) T iC tI F hr (fun s' u ki l => by have z := hb s' (u :: us) ki (by rw [List.append_nil]; exact l); rwa [List.append_nil] at z) hx I1 r (Nat.le_refl _) hv q⟩) h1 h2) hd)⟩
/-- C() -/
theorem pe_err0 (T : ErrT X.K L C) (iC : PySem.W.findIn X.K (.ref C) "__init__" = some (some (.ref fI))) (tI : PySem.W.isFn X.K (.ref fI) = true) (F : FnOk X.prog X.w X.K X.mg X.base CX k fI fd ps sp) (hr : Room (k + 1) X.A) (hb : Binds X.K fd ps []) (hx : Passes CX X E)
    (hg : Gl X x) (hm : X.mg x = some (.ref C)) (hd : (x == ("__debug__" : Str)) = false := by decide) : PE X (.Call (.Name x p) [] [] pos) (tErr C sp E tNil) := ⟨fun pins s σ H Q I h =>
  wpAny_Call_Name_kw (ld_glob I hg hm (PySem.W.callWith_K0 I.kIn T.kp (run_err (us := []) (gs := []) (vs := []) T iC tI F hr (fun s' u ki l => hb s' [u] ki l) hx I .nil (Nat.le_refl _) (by decide) h.2)) hd)⟩
/-- how C(f = e) binds -/
def KwB (K : PySem.W.Frag) (fd : FuncData) (ps : List Str) (f : Str) : Prop := ∀ (s : Shared) (u w : Value), K.In s.heap → BindsTo s fd ⟨[u], [(f, w)]⟩ (ps.zip [u, w])
theorem kw_binds {K : PySem.W.Frag} {y qual : Str} {st : Stmt} {a : Addr} (F : Fun K y qual st a fd) (h : ∀ (kV doc pm : Value) (an : Option Addr) (cdv ct u w : Value), bindArgs (PySem.W.fnOf y qual (defArgs st) (defBody st) (defScope st) .none kV doc pm an cdv ct) ⟨[u], [(f, w)]⟩ = pure (ps.zip [u, w])) : KwB K fd ps f := by
  obtain ⟨_, _, kV, doc, pm, an, cdv, ct, _, rfl, _, _⟩ := F.ex
  exact fun s u w _ => .of_eq (h kV doc pm an cdv ct u w)
/-- C(f = e) -/
theorem pe_errK (T : ErrT X.K L C) (iC : PySem.W.findIn X.K (.ref C) "__init__" = some (some (.ref fI))) (tI : PySem.W.isFn X.K (.ref fI) = true) (F : FnOk X.prog X.w X.K X.mg X.base CX k fI fd ps sp) (hr : Room (k + 1) X.A) (hb : KwB X.K fd ps f) (hx : Passes CX X E)
    (hg : Gl X x) (hm : X.mg x = some (.ref C)) (ha : PE X e te) (hd : (x == ("__debug__" : Str)) = false := by decide) : PE X (.Call (.Name x p) [] [⟨some f, e, kpos⟩] pos) (tErr C sp E (tCons te tNil)) := ⟨fun pins s σ H Q I h => by
  refine wpAny_Call_Name_kw (ld_glob I hg hm ?_ hd)
  refine PySem.W.callWith_KW0 (h₀ := X.base) I.ok.mod.kin T.kp (by rfl) ?_ (by rfl)
  show wpAny _ _ (evalAll [do let v ← eval e X.env; standAt pos; pure v]) _ _ s
  refine wpAny_evalAll_cons (wpAny_bind (thn (ha.run pins s σ H _ I h) fun u s1 ⟨v, H1, I1, r, hv, q⟩ => wpAny_bind (wpAny_standAt (wpAny_pure ?_))))
  exact wpAny_evalAll_nil ⟨I1.kIn, run_err (gs := [u]) T iC tI F hr (fun s' o ki _ => hb s' o u ki) hx I1 (.cons r .nil) (Nat.zero_le _) hv q⟩⟩
/-! ### read -/
/-- x.f of an error at a -/
def tXv (K : PySem.W.Frag) (f : Str) (te : TE) : TE := fun σ H Q => te σ H fun x H1 => ∃ (a C dd : Addr) (fs : List (Str × V)) (v : V), x = .ref a ∧ H1 a = some (exo a C (some dd)) ∧ H1 dd = some (exd dd fs) ∧ (∃ L, ErrT K L C) ∧ PySem.W.findIn K (.ref C) f = some none ∧ fs.lookup f = some v ∧ Q v H1
theorem pe_xv (he : PE X e te) (hb : attributeBase e f X.env (eval e X.env) = eval e X.env := by rfl) : PE X (.Attribute e f pos) (tXv X.K f te) := ⟨fun pins s σ H Q I h => attr_of hb (thn (he.run pins s σ H _ I h) fun u s1 ⟨x, H1, I1, rx, a, C, dd, fs, v, ex, ea, ed, ⟨L, T⟩, hno, l, q⟩ => by
  subst ex
  cases (show u = Value.ref a from rx)
  obtain ⟨t1, ho⟩ := exo_at I1.hok ea
  obtain ⟨mA, hns, hr⟩ := exd_at I1.hok ed
  obtain ⟨od, hod, hl⟩ := lookIn_ns hns
  obtain ⟨u, hu, ru⟩ := RelO.some_of (v := v) (o := mA f) (by rw [← l]; exact hr f)
  have J : PySem.W.InstAt s1.heap a { cls := .ref C, dict := some dd, data := .fields #[.ref t1, .none, .none, .none, .bool false, .none] } C (some od) := ⟨ho, rfl, rfl, hod⟩
  exact PySem.HandSPX.exc_get I1.kIn J T.ga T.gg (T.subT (by decide +kernel)) (PySem.W.findObj_own T.hd hno rfl (by rw [hl, hu])) (handed_of ru) ⟨v, H1, I1.tok _, ru, q⟩)⟩
/-! ### asked for its class -/
/-- an error of the class at C at a, whose fields are fs (none: it has no dict) -/
def ErrAt (H : Hp) (a C : Addr) : Option (List (Str × V)) → Prop
  | none => H a = some (exo a C none)
  | some fs => ∃ dd, H a = some (exo a C (some dd)) ∧ H dd = some (exd dd fs)
theorem ErrAt.same {H H' : Hp} {a C : Addr} {o : Option (List (Str × V))} (h : ErrAt H a C o) (s : Same H H') : ErrAt H' a C o := by
  cases o with
  | none => exact s _ _ h
  | some fs =>
    obtain ⟨dd, h1, h2⟩ := h
    exact ⟨dd, s _ _ h1, s _ _ h2⟩
def rIsV (K : PySem.W.Frag) : List V → Hp → VK → Prop := fun xs H Q => ∃ (a C L : Addr) (o : Option (List (Str × V))) (c : V) (cv : Value) (b : Bool), xs = [.ref a, c] ∧ ErrAt H a C o ∧ ErrT K L C ∧ ErrG K ∧ ClsV c cv ∧ PySem.W.kitOne K (.ref C) cv = some b ∧ Q (.bl b) H
theorem call_isV : CallR X (.builtin "isinstance") (rIsV X.K) := by
  intro pins s σ H xs us Q I r h
  obtain ⟨a, C, L, o, c, cv, b, rfl, ha, T, G, hc, e, q⟩ := h
  obtain ⟨u1, u2, rfl, r1, r2⟩ := vals2 r
  cases (show u1 = Value.ref a from r1)
  have e2 := hc.eq r2
  subst e2
  have J : ∃ (ox : Obj) (od : Option Obj), PySem.W.InstAt s.heap a ox C od := by
    cases o with
    | none =>
      obtain ⟨t1, ho⟩ := exo_at I.hok ha
      exact ⟨_, none, ho, rfl, rfl, True.intro⟩
    | some fs =>
      obtain ⟨dd, h1, h2⟩ := ha
      obtain ⟨t1, ho⟩ := exo_at I.hok h1
      obtain ⟨mA, hns, _⟩ := exd_at I.hok h2
      obtain ⟨od, hod, _⟩ := lookIn_ns hns
      exact ⟨_, some od, ho, rfl, rfl, hod⟩
  obtain ⟨ox, od, J⟩ := J
  exact PySem.W.kia_one (PySem.W.kitx_exc T.isC T.ga T.gg (T.subT (by decide +kernel)) T.ca G.sp G.tk (T.subT (t := "object") (by decide +kernel))) I.kIn J e (fun z => nomatch z) fun tk => ⟨.bl b, H, I.tok tk, rfl, q⟩
/-! ### what __init__ promises -/
def spErrF (C : Addr) (f : Str) : Sp := fun vs H Q _ => ∃ (a : Addr) (y : V), vs = [.ref a, y] ∧ H a = some (exo a C none) ∧ ∀ dx, H dx = none → dx ≠ a → Q .non (upd (upd H dx (exd dx [(f, y)])) a (exo a C (some dx)))
def spErr0 (K : PySem.W.Frag) : Sp := fun vs H Q _ => ∃ (a C L : Addr), vs = [.ref a] ∧ ErrT K L C ∧ H a = some (exo a C none) ∧ Q .non H
/-- an error with one field, made -/
theorem errF {H : Hp} {C : Addr} {f : Str} {y : V} {Q : Addr → Hp → Prop} {E : XK} (h : ∀ a H', H a = none → Same H H' → ErrAt H' a C (some [(f, y)]) → Q a H') :
    ∀ a, H a = none → spErrF C f (.ref a :: [y]) (upd H a (exo a C none)) (fun v H2 => v = .non ∧ Q a H2) E := fun a na => by
  refine ⟨a, y, rfl, upd_same, fun dx nd ne => ⟨rfl, h a _ na (fun b o e => ?_) ⟨dx, upd_same, ?_⟩⟩⟩
  · have nb : b ≠ a := ne_of_none e na
    have nd' : H dx = none := by rw [upd_ne ne] at nd; exact nd
    rw [upd_ne nb, upd_ne (ne_of_none e nd'), upd_ne nb]
    exact e
  · rw [upd_ne ne, upd_same]
theorem err0 {K : PySem.W.Frag} {L : Addr} {H : Hp} {C : Addr} {Q : Addr → Hp → Prop} {E : XK} (T : ErrT K L C) (h : ∀ a H', H a = none → Same H H' → ErrAt H' a C none → Q a H') :
    ∀ a, H a = none → spErr0 K (.ref a :: []) (upd H a (exo a C none)) (fun v H2 => v = .non ∧ Q a H2) E := fun a na =>
  ⟨a, C, L, rfl, T, upd_same, rfl, h a _ na (same_upd na) upd_same⟩
end
end Gy
namespace Gy
open PySem L2
/-! ### a text some times over -/
theorem fold_size {α : Type} (a : Array α) : ∀ (n : Nat) (acc : Array α), ((List.replicate n a).foldl (· ++ ·) acc).size = acc.size + n * a.size
  | 0, acc => by simp
  | n + 1, acc => by
    rw [List.replicate_succ, List.foldl_cons, fold_size a n, Array.size_append, Nat.succ_mul]
    omega
theorem op_repS {X : Cx} : OpR X (binaryOp .Mult) (fun x y H Q => ∃ (z : Str) (k : Int), x = .str z ∧ y = .int k ∧ 0 ≤ k ∧ k ≤ 1000 ∧ z.length ≤ 1000 ∧ ∀ r : Str, Q (.str r) H) := by
  intro pins s σ H x y v u Q I rx ry h
  obtain ⟨z, k, rfl, rfl, h0, h1, hz, q⟩ := h
  obtain ⟨t, rfl⟩ := rx
  obtain ⟨t2, rfl⟩ := ry
  have hm : z.length * k.toNat ≤ 1000 * 1000 := Nat.mul_le_mul hz (by omega)
  have sl : (1000 * 1000 : Nat) ≤ sizeLine := by decide
  refine PySem.P.mul_str (by rw [decide_eq_false (by omega), decide_eq_false (by omega)]; rfl) (fun hk _ => ?_) (fun _ _ => ?_) ?_
  · have : (z.length : Int) ≤ (2 ^ 63 - 1) / k := by
      refine Int.le_ediv_of_mul_le (by omega) ?_
      have e : ((z.length * k.toNat : Nat) : Int) = (z.length : Int) * k := by rw [Int.natCast_mul, Int.toNat_of_nonneg h0]
      omega
    omega
  · show decide (z.length * k.toNat > sizeLine) = false
    exact decide_eq_false (by omega)
  · split
    · exact ⟨by decide, .str _, H, I.tok _, ⟨_, rfl⟩, q _⟩
    · split
      · exact ⟨.str z, H, I, ⟨_, rfl⟩, q z⟩
      · refine ⟨?_, .str _, H, I.tok _, ⟨_, rfl⟩, q _⟩
        show ((List.replicate k.toNat z.cps).foldl (· ++ ·) #[]).size ≤ sizeLine
        rw [fold_size]
        have e : z.length = z.cps.size := rfl
        rw [e, Nat.mul_comm] at hm
        have e0 : (#[] : Array UInt32).size = 0 := rfl
        simp only [List.size_toArray, List.length_nil]
        omega
/-- the rest of a body, told once for several ways -/
theorem seq_ways {t u : TS} {D : Ends} {σ : St} {H : Hp} (J : St → Hp → Prop) (rest : ∀ σ' H', J σ' H' → u D σ' H') (main : ∀ D' : Ends, (∀ σ' H', J σ' H' → D'.nx σ' H') → t D' σ H) : tSeq t u D σ H := main _ rest
end Gy

set_option Elab.async false
set_option linter.all false
set_option maxRecDepth 100000
set_option maxHeartbeats 4000000
/-! Lay4: a deed is tried: lambdas handed to a def, the error that comes out of one, looked at by another def. -/
namespace Gy
open PySem L2
open L2H (RoomH PinOk cxH inv_startH roomH_of)
/-! ### defs that are called while an error is handled, and look at it -/
/-- what a def promises that gets the handled error: a its place, cls its class, d its dict -/
abbrev SpE := Addr → Value → Option Addr → Sp
structure FnP (P : Program) (w : World) (K : PySem.W.Frag) (mg : Str → Option Value) (base : Heap) (k : Nat) (f : Addr) (fd : FuncData) (ps : List Str) (sp : SpE) : Prop where
  len : ∀ a cls d vs H Q E, sp a cls d vs H Q E → vs.length = ps.length
  run : ∀ (A : Around) (outer : List Env) (s : Shared) (H : Hp) (args : Args) (us : List Value) (vs : List V) (Q : VK) (p : Addr × Obj) (cls : Value) (d : Option Addr), RoomH k A → PinOk outer H s p → Zc cls d p.2 → (∃ fs, p.2.data = .fields fs) →
    Env0 P w K mg base A outer s H → BindsTo s fd args (ps.zip us) → Vals vs us → sp p.1 cls d vs H Q E0 → codeAny (model P w) A (.call (.ref f) args) (CR CX0 outer P w H s Q E0) s
theorem Fun.okP {P : Program} {w : World} {K : PySem.W.Frag} {mg : Str → Option Value} {base : Heap} {k : Nat} {x qual : Str} {st : Stmt} {f : Addr} {fd : FuncData} {N ps : List Str} {sp : SpE} (F : Fun K x qual st f fd) (S : FnScope N ps (defScope st))
    (len : ∀ a cls d vs H Q E, sp a cls d vs H Q E → vs.length = ps.length)
    (body : ∀ (cdv : Value) (A : Around) (outer : List Env) (s : Shared) (H : Hp) (vs : List V) (Q : VK) (p : Addr × Obj) (cls : Value) (d : Option Addr), RoomH k (A.deeper (PyProof.Rows.envOfC qual (defScope st) s.heap.objs.size f cdv)) → Zc cls d p.2 → (∃ fs, p.2.data = .fields fs) → sp p.1 cls d vs H Q E0 →
      ∃ t, PSs (cxH CX0 P w K mg base N qual (defScope st) f cdv A outer s H E0 p).nox (defBody st) t ∧ t { nx := fun _ H' => Q .non H', rt := Q } (start N vs) H) : FnP P w K mg base (k + 1) f fd ps sp := by
  obtain ⟨oc, od, kV, doc, pm, an, cdv, ct, osl, rfl, lk, hcd⟩ := F.ex
  refine ⟨len, fun A outer s H args us vs Q p cls d hr hp hz hf e0 hb r h => ?_⟩
  have hl := len _ _ _ _ _ _ _ h
  have KX : K.In s.heap := e0.mod.kin.keeps fun b o e => (e0.bs b o e).1
  have kinds : ∀ y ∈ ps.zip us, (defScope st).names.lookup y.1 = some .local ∨ ((defScope st).names.lookup y.1 = some .cell ∧ ((cellsFrom (s.heap.objs.size + 1) (defScope st).names []).lookup y.1).isSome = true) := fun y hy =>
    (S.par y.1 (List.of_mem_zip hy).1).elim .inl fun q => .inr ⟨q, PySem.W.cellsFrom_some _ _ _ (.inl q)⟩
  refine codeAny_call_function hr.depth (KX _ _ lk) rfl S.co S.gen rfl (PySem.W.codeRec_of KX hcd) (hb _ _ _ _ (wpAny_newFunctionEnv_cells S.kind kinds fun env he s1 x => ?_))
  subst he
  refine ⟨(e0.mod.nolimit.keeps fun b o e => (e0.bs b o e).1).keeps x.toInCall.keep, codeAny_func ?_⟩
  obtain ⟨t, ht, hq⟩ := body cdv A outer s H vs Q p cls d (hr.deeper _) hz hf h
  refine wpAny_mono (ht.nox.run [] s1 (L2.start N vs) H _ (inv_startH S hp e0 hl r x) hq) (fun fl s' z => ?_) fun e s' z => z
  cases fl with
  | ret u =>
    obtain ⟨v, σ', H', J, rv, q⟩ := z
    exact ⟨v, H', J.os, J.bare, J.base, J.hok, rv, q⟩
  | next =>
    obtain ⟨σ', H', J, q⟩ := z
    exact ⟨.non, H', J.os, J.bare, J.base, J.hok, rfl, q⟩
  | brk =>
    obtain ⟨_, _, _, q⟩ := z
    exact q.elim
  | cont =>
    obtain ⟨_, _, _, q⟩ := z
    exact q.elim
/-- such a call -/
def tCallP (sp : SpE) (a : Addr) (cls : Value) (d : Option Addr) (t : TA) : TE := fun σ H Q => t σ H fun vs H1 => sp a cls d vs H1 Q E0
section
variable {X : Cx} {k : Nat} {f : Addr} {fd : FuncData} {ps : List Str} {sp : SpE} {x n : Str} {q pos : Pos} {e : Expr} {es : List Expr} {t : TA} {te : TE} {p : Addr × Obj} {cls : Value} {d : Option Addr}
theorem pe_callP (F : FnP X.prog X.w X.K X.mg X.base k f fd ps sp) (hr : RoomH k X.A) (hp : p ∈ X.pn) (hz : Zc cls d p.2) (hf : ∃ fs, p.2.data = .fields fs) (hg : Gl X x) (hm : X.mg x = some (.ref f)) (hk : PySem.W.keepIn X.K (.ref f) = true) (hb : Binds X.K fd ps [])
    (ha : PA X (e :: es) t) (hd : (x == ("__debug__" : Str)) = false := by decide) (h1 : starEach (e :: es) X.env = (false, eval e X.env) :: starEach es X.env := by rfl) (h2 : (backTo pos (starEach es X.env)).any (·.1) = false := by rfl) :
    PE X (.Call (.Name x q) (e :: es) [] pos) (tCallP sp p.1 cls d t) := ⟨fun pins s σ H Q I h =>
  wpAny_Call_Name_kw (ld_glob I hg hm (PySem.W.callWith_K (h₀ := X.base) I.ok.mod.kin hk (thn (ha.run pos pins s σ H _ I h) fun us s1 ⟨vs, H1, I1, r, q1⟩ => ⟨I1.kIn, by
    have P1 := I1.pin p (List.mem_append_left _ hp)
    have pin : PinOk X.stack H1 s1 p := ⟨P1.1, P1.2.1, fun hm => (List.mem_cons.mp (I1.stkSub p.1 hm)).elim P1.2.2.1 P1.2.2.2.1, P1.2.2.2.2⟩
    have b := hb s1 us I1.kIn (by rw [List.append_nil, ← r.length]; exact F.len _ _ _ _ _ _ _ q1)
    rw [List.append_nil] at b
    refine wpAny_call (codeAny_mono (F.run X.A X.stack s1 H1 ⟨us, []⟩ us vs Q p cls d hr pin hz hf I1.env0 b r q1) fun rs s' z => ?_)
    cases rs with
    | error er => exact (show False from z).elim
    | ok fl =>
      cases fl with
      | ret u => exact I1.after z
      | next => exact z.elim
      | brk => exact z.elim
      | cont => exact z.elim⟩) h1 h2) hd)⟩
/-- isinstance of the error that is looked at -/
def rIsP (K : PySem.W.Frag) (a C : Addr) (d : Option Addr) : List V → Hp → VK → Prop := fun xs H Q => ∃ (c : V) (cv : Value) (b : Bool), xs = [.ref a, c] ∧ (∀ dd, d = some dd → ∃ fs, H dd = some (.xd fs)) ∧ ClsV c cv ∧ PySem.W.kitOne K (.ref C) cv = some b ∧ Q (.bl b) H
theorem call_isP {L C : Addr} (T : ErrT X.K L C) (G : ErrG X.K) (hp : p ∈ X.pn) (hz : Zc (.ref C) d p.2) (hf : ∃ fs, p.2.data = .fields fs) : CallR X (.builtin "isinstance") (rIsP X.K p.1 C d) := by
  intro pins s σ H xs us Q I r h
  obtain ⟨c, cv, b, rfl, hd, hc, e, z⟩ := h
  obtain ⟨u1, u2, rfl, r1, r2⟩ := vals2 r
  cases (show u1 = Value.ref p.1 from r1)
  have e2 := hc.eq r2
  subst e2
  obtain ⟨hget, _⟩ := I.pin p (List.mem_append_left _ hp)
  obtain ⟨fs, hv⟩ := hf
  have nc : PySem.W.notCls p.2 = true := by
    unfold PySem.W.notCls
    rw [hv]
  obtain ⟨od, J⟩ : ∃ od, PySem.W.InstAt s.heap p.1 p.2 C od := by
    cases d with
    | none => exact ⟨none, hget, hz.1, nc, by rw [hz.2]; exact True.intro⟩
    | some dd =>
      obtain ⟨gs, hdd⟩ := hd dd rfl
      obtain ⟨mA, hns, _⟩ := (show ObjOk X.prog X.w H s.heap dd (.xd gs) from I.hok dd _ hdd)
      obtain ⟨od, ho, _⟩ := lookIn_ns hns
      exact ⟨some od, hget, hz.1, nc, by rw [hz.2]; exact ho⟩
  exact PySem.W.kia_one (PySem.W.kitx_exc T.isC T.ga T.gg (T.subT (by decide +kernel)) T.ca G.sp G.tk (T.subT (t := "object") (by decide +kernel))) I.kIn J e (fun z => nomatch z) fun tk => ⟨.bl b, H, I.tok tk, rfl, z⟩
/-- e.n of that error -/
def tXp (a : Addr) (d : Option Addr) (n : Str) (te : TE) : TE := fun σ H Q => te σ H fun x H1 => x = .ref a ∧ ∃ (dd : Addr) (fs : List (Str × V)) (v : V), d = some dd ∧ H1 dd = some (.xd fs) ∧ fs.lookup n = some v ∧ Q v H1
theorem pe_xp {L C : Addr} (T : ErrT X.K L C) (hno : PySem.W.findIn X.K (.ref C) n = some none) (hp : p ∈ X.pn) (hz : Zc (.ref C) d p.2) (hf : ∃ fs, p.2.data = .fields fs) (he : PE X e te) (hb : attributeBase e n X.env (eval e X.env) = eval e X.env := by rfl) :
    PE X (.Attribute e n pos) (tXp p.1 d n te) := ⟨fun pins s σ H Q I h => attr_of hb (thn (he.run pins s σ H _ I h) fun u s1 ⟨y, H1, I1, rx, ey, dd, fs, v, ed, ea, l, z⟩ => by
  subst ey ed
  cases (show u = Value.ref p.1 from rx)
  obtain ⟨hget, _⟩ := I1.pin p (List.mem_append_left _ hp)
  obtain ⟨gs, hv⟩ := hf
  obtain ⟨mA, hns, hr⟩ := (show ObjOk X.prog X.w H1 s1.heap dd (.xd fs) from I1.hok dd _ ea)
  obtain ⟨od, ho, hl⟩ := lookIn_ns hns
  obtain ⟨u, hu, ru⟩ := RelO.some_of (v := v) (o := mA n) (by rw [← l]; exact hr n)
  have J : PySem.W.InstAt s1.heap p.1 p.2 C (some od) := ⟨hget, hz.1, by unfold PySem.W.notCls; rw [hv], by rw [hz.2]; exact ho⟩
  exact PySem.HandSPX.exc_get I1.kIn J T.ga T.gg (T.subT (by decide +kernel)) (PySem.W.findObj_own T.hd hno rfl (by rw [hl, hu])) (handed_of ru) ⟨v, H1, I1.tok _, ru, z⟩)⟩
end
/-! ### tried: try: return ("told", deed()) / except L as e: return looker(e) -/
/-- tl: the deed's reading; hd: what is done of its error -/
def TTry (K : PySem.W.Frag) (L : Addr) (sp : SpE) : (XK → Hp → VK → Prop) → Hp → VK → Prop := fun tl H Q =>
  tl (fun cls d H' => PySem.W.exmOne K cls (.ref L) = some true ∧ ∀ a, H' a = none → sp a cls d [.ref a] H' Q E0) H fun v H' => 2 ≤ sizeLine ∧ ∀ p, H' p = none → Q (.ref p) (upd H' p (.tup [.str "told", v]))
theorem try_gives {X : Cx} {x a e y n q : Str} {sg : Scope} {g L fE : Addr} {cdg : Value} {j k kk : Nat} {fd : FuncData} {ps : List Str} {sp : SpE} {p1 p2 p3 p4 p5 p6 p7 p8 p9 p10 pb pc : Pos} (hnd : ([a, n] : List Str).Nodup) (hln : sg.names.lookup n = some .local)
    (hge : sg.names.lookup e = some .globalImplicit) (hme : X.mg e = some (.ref L)) (hde : (e == ("__debug__" : Str)) = false) (hk : sg.kind = .function)
    (F : FnP X.prog X.w X.K X.mg X.base k fE fd ps sp) (hr : ∀ s : Shared, Room k (X.A.deeper (PyProof.Rows.envOfC x sg s.heap.objs.size g cdg))) (hgy : sg.names.lookup y = some .globalImplicit) (hmy : X.mg y = some (.ref fE)) (hky : PySem.W.keepIn X.K (.ref fE) = true) (hb : Binds X.K fd ps [])
    (hdy : (y == ("__debug__" : Str)) = false) (hdn : (n == ("__debug__" : Str)) = false) (hcn : (n == ("__classdict__" : Str)) = false) :
    LamX.GivesTo X [a, n] x sg g cdg
      [.Try [.Return (some (.Tuple [.Constant (.str "told") j p1, .Call (.Name a p2) [] [] p3] kk p4)) p5]
        [.ExceptHandler (some (.Name e p6)) (some n) [.Return (some (.Call (.Name y p7) [.Name n p8] [] p9)) p10] pb] [] [] pc] a q (TTry X.K L sp) := by
  intro f c' s H Q tl act hc h
  refine ⟨_, pss_one (ps_try_as (X := (cxOf C8.CX0 X.prog X.w X.K X.mg X.base [a, n] x sg g cdg X.A X.stack s H C8.E0).nox) (i := 1) (c := .ref L)
      (ts := fun a cls d D σ H => (σ.length = 2 → σ[1]? = some (some (.ref a))) ∧ sp a cls d [.ref a] H D.rt E0)
      (tb := fun W D σ H => ∃ Ech : XK, (∀ cls d σ' H', Ech cls d H' → W cls d σ' H') ∧ σ[0]? = some (some (.ref f)) ∧ H c' = some (LamX.CodeO c' q) ∧ tl Ech H fun v H1 => 2 ≤ sizeLine ∧ ∀ p, H1 p = none → D.rt (.ref p) (upd H1 p (.tup [.str "told", v])))
      rfl rfl hnd rfl hln ⟨hge, hde, .inl hme⟩ LamX.takes0 (fun W pn xe tk _ => ?_) (fun b oe cls d pn hz hf => ?_)), ?_⟩
  · refine ⟨fun pins s' σ H' D I h' => ?_⟩
    obtain ⟨Ech, hW, h1, h2, h3⟩ := h'
    have hp := act W pn xe Ech p2 p3 tk hW
    have ht : PE ((cxOf C8.CX0 X.prog X.w X.K X.mg X.base [a, n] x sg g cdg X.A X.stack s H C8.E0).tr pn xe) (.Tuple [.Constant (.str "told") j p1, .Call (.Name a p2) [] [] p3] kk p4) _ := pe_tup (pa_cons pe_str (pa_cons hp pa_nil))
    have hq := pss_one (ps_ret (pos := p5) ht)
    exact hq.run pins s' σ H' D I ⟨h1, h2, h3⟩
  · refine ⟨fun pins s' σ H' D I h' => ?_⟩
    have hc' := pe_callP (X := (Cx.suite (cxOf C8.CX0 X.prog X.w X.K X.mg X.base [a, n] x sg g cdg X.A X.stack s H C8.E0).nox b ((b, oe) :: pn))) (p := (b, oe)) (q := p7) (pos := p9) F ⟨(hr s).dp, (hr s).un⟩ List.mem_cons_self hz hf hgy hmy hky hb (pa_cons (pe_var (i := 1) (pos := p8) rfl (.inl hln) hdn hcn) pa_nil) hdy
    exact (pss_one (ps_ret (pos := p10) hc')).run pins s' σ H' D I ⟨_, h'.1 I.len, h'.2⟩
  · refine ⟨fun cls d H' => PySem.W.exmOne X.K cls (.ref L) = some true ∧ ∀ a, H' a = none → sp a cls d [.ref a] H' Q E0, fun cls d σ' H' ⟨e1, e2⟩ => ⟨true, e1, fun _ a na => ⟨fun hl => ?_, e2 a na⟩, fun z => nomatch z⟩, rfl, hc, ?_⟩
    · rw [List.length_set] at hl
      rw [List.getElem?_set_self (by omega)]
    · exact h
end Gy
namespace PySem.GyDec
open PySem PySem.W
section
variable {C dx x : Addr} (a : Bool)
theorem addB_dec : GivesAt (fun s => s.heap.get? x = some (instObj C dx)) (Builtin.«int.__add__» ⟨[.bool a, .ref x], []⟩) (.val .notImplemented) := fun prog w A R s hP h => by
  obtain ⟨hp, g, d, tk, os⟩ := s
  have at_ : Heap.get? (Shared.heap ⟨hp, g, d, tk, os⟩) x = some (instObj C dx) := hP
  wp_walk using AutoSeq1.wpAny_loadPart' at_
  exact h
theorem subB_dec : GivesAt (fun s => s.heap.get? x = some (instObj C dx)) (Builtin.«int.__sub__» ⟨[.bool a, .ref x], []⟩) (.val .notImplemented) := fun prog w A R s hP h => by
  obtain ⟨hp, g, d, tk, os⟩ := s
  have at_ : Heap.get? (Shared.heap ⟨hp, g, d, tk, os⟩) x = some (instObj C dx) := hP
  wp_walk using AutoSeq1.wpAny_loadPart' at_
  exact h
theorem mulB_dec : GivesAt (fun s => s.heap.get? x = some (instObj C dx)) (Builtin.«int.__mul__» ⟨[.bool a, .ref x], []⟩) (.val .notImplemented) := fun prog w A R s hP h => by
  obtain ⟨hp, g, d, tk, os⟩ := s
  have at_ : Heap.get? (Shared.heap ⟨hp, g, d, tk, os⟩) x = some (instObj C dx) := hP
  wp_walk using AutoSeq1.wpAny_loadPart' at_
  exact h
end
section
variable {prog : Program} {w : World} {A : Around} {E : Value → Shared → Prop} {s : Shared} {C dx x : Addr} {a : Bool} {P : Option Value → Shared → Prop}
theorem tryB_dec {name : Str} {id : String} {B : Builtin} (slot : Slot "bool" name id) (entry : entryFor table id = some B) (args : argsOk id ⟨[.bool a, .ref x], []⟩)
    (g : GivesAt (fun s => s.heap.get? x = some (instObj C dx)) (B ⟨[.bool a, .ref x], []⟩) (.val .notImplemented)) (hx : s.heap.get? x = some (instObj C dx)) (h : P none s) : wpAny (model prog w) A (tryMethod (.bool a) name (.ref x)) P E s :=
  wpAny_tryMethod_declines (PyProof.Rows.typeIs_bool' s a) slot (call_givesAt slot (PyProof.Rows.typeIs_bool' s a) entry args g hx ⟨rfl, h⟩)
theorem tryB_add (hx : s.heap.get? x = some (instObj C dx)) (h : P none s) : wpAny (model prog w) A (tryMethod (.bool a) (PySem.dunder Operator.Add.info.2) (.ref x)) P E s :=
  tryB_dec (name := PySem.dunder Operator.Add.info.2) (id := "int.__add__") (B := Builtin.«int.__add__») F.slot_bool_add F.entry_int_add (F.args_int_add_2 _ _) (addB_dec a) hx h
theorem tryB_sub (hx : s.heap.get? x = some (instObj C dx)) (h : P none s) : wpAny (model prog w) A (tryMethod (.bool a) (PySem.dunder Operator.Sub.info.2) (.ref x)) P E s :=
  tryB_dec (name := PySem.dunder Operator.Sub.info.2) (id := "int.__sub__") (B := Builtin.«int.__sub__») F.slot_bool_sub F.entry_int_sub (F.args_int_sub_2 _ _) (subB_dec a) hx h
theorem tryB_mul (hx : s.heap.get? x = some (instObj C dx)) (h : P none s) : wpAny (model prog w) A (tryMethod (.bool a) (PySem.dunder Operator.Mult.info.2) (.ref x)) P E s :=
  tryB_dec (name := PySem.dunder Operator.Mult.info.2) (id := "int.__mul__") (B := Builtin.«int.__mul__») F.slot_bool_mul F.entry_int_mul (F.args_int_mul_2 _ _) (mulB_dec a) hx h
end
end PySem.GyDec
namespace Gy
open PySem L2
/-! ### an own class's operators beside what is no number -/
/-- a built-in type beside an operator: its own two slots are none of numbers, and it is no kin of C -/
structure OddT (K : PySem.W.Frag) (C : Addr) (op : Operator) (T : String) : Prop where
  s1 : ∃ fo ro, PySem.W.findIn K (.type T) (PySem.dunder op.info.2) = some fo ∧ PySem.W.findIn K (.type T) (dunderR op.info.2) = some ro ∧ (T ≠ "bool" → ((fo.isSome && !isSeqSlot fo) || (ro.isSome && !isSeqSlot ro)) = false)
  up : PySem.W.subIn K (.type T) (.ref C) = some false
  dn : PySem.W.subIn K (.ref C) (.type T) = some false
section
variable {X : Cx} {CX : CXT} {C g r : Addr} {k : Nat} {fd : FuncData} {ps : List Str} {sp : Sp} {E : XK}
/-- x op y, y odd -/
def rGyDO (K : PySem.W.Frag) (C : Addr) (op : Operator) (sp : Sp) (E : XK) : R2 := fun x y H Q => ∃ a dx fs T, x = .ref a ∧ H a = some (.ins C dx fs) ∧ TyX K H y (.type T) ∧ OddT K C op T ∧ sp [x, y] H Q E
theorem op_gyDO {op : Operator} (D : GyOp X.K C op g r) (F : FnOk X.prog X.w X.K X.mg X.base CX k g fd ps sp) (hr : Room k X.A) (hb : Binds X.K fd ps []) (hx : Passes CX X E) : OpR X (binaryOp op) (rGyDO X.K C op sp E) := by
  intro pins s σ H x y v u Q I rx ry h
  obtain ⟨a, dx, fs, T, rfl, ha, ty, O, q⟩ := h
  cases (show v = Value.ref a from rx)
  obtain ⟨od, J, _⟩ := ins_at I ha
  obtain ⟨m, hF⟩ := I.fr
  obtain ⟨P, Z, p, _⟩ := kit_of I ry ty
  obtain ⟨fo, ro, h1, h2, _⟩ := O.s1
  refine PySem.W.gy_binT hF I.ok.mod.kin J (Z.ty _ _ I.kIn p) D.sf D.d D.df D.rm (.inr ⟨r, rfl⟩) h1 h2 O.up ?_
  exact wpAny_mono (run_fn (us := [.ref a, u]) (vs := [.ref a, y]) F hr hb .nil hx I (.cons rfl (.cons ry .nil)) q) (fun w s' z => by
    obtain ⟨z', H', I', rz, qz⟩ := z
    exact gy_back rz ⟨z', H', I', rz, qz⟩) fun _ _ e => e
/-- x op y, x odd: y's turned method -/
def rGyRO (K : PySem.W.Frag) (C : Addr) (op : Operator) (sp : Sp) (E : XK) : R2 := fun x y H Q => ∃ b dy gs T, y = .ref b ∧ H b = some (.ins C dy gs) ∧ TyX K H x (.type T) ∧ OddT K C op T ∧ (T = "bool" → ∃ c, x = .bl c) ∧ sp [y, x] H Q E
theorem op_gyRO {op : Operator} (dec : ∀ (A : Around) (E : Value → Shared → Prop) (s : Shared) (C dx x : Addr) (a : Bool) (P : Option Value → Shared → Prop), s.heap.get? x = some (PySem.W.instObj C dx) → P none s →
      wpAny (model X.prog X.w) A (tryMethod (.bool a) (PySem.dunder op.info.2) (.ref x)) P E s)
    (D : GyOp X.K C op g r) (F : FnOk X.prog X.w X.K X.mg X.base CX k r fd ps sp) (hr : Room k X.A) (hb : Binds X.K fd ps []) (hx : Passes CX X E) : OpR X (binaryOp op) (rGyRO X.K C op sp E) := by
  intro pins s σ H x y v u Q I rx ry h
  obtain ⟨b, dy, gs, T, rfl, hb', ty, O, hB, q⟩ := h
  cases (show u = Value.ref b from ry)
  obtain ⟨od, J, hg⟩ := ins_at I hb'
  obtain ⟨m, hF⟩ := I.fr
  obtain ⟨P, Z, p, _⟩ := kit_of I rx ty
  obtain ⟨fo, ro, h1, h2, h3⟩ := O.s1
  refine PySem.W.gy_binR hF I.ok.mod.kin J (Z.ty _ _ I.kIn p) D.sf D.d (.inr ⟨g, rfl⟩) D.rm D.rf h1 h2 O.dn (fun e P hp => ?_) ?_
  · by_cases hT : T = "bool"
    · obtain ⟨c, rfl⟩ := hB hT
      cases (show v = Value.bool c from rx)
      exact dec X.A _ s C dy b c P hg hp
    · rw [h3 hT] at e
      cases e
  · exact wpAny_mono (run_fn (us := [.ref b, v]) (vs := [.ref b, x]) F hr hb .nil hx I (.cons rfl (.cons rx .nil)) q) (fun w s' z => by
      obtain ⟨z', H', I', rz, qz⟩ := z
      exact gy_back rz ⟨z', H', I', rz, qz⟩) fun _ _ e => e
theorem op_gyROadd (D : GyOp X.K C .Add g r) (F : FnOk X.prog X.w X.K X.mg X.base CX k r fd ps sp) (hr : Room k X.A) (hb : Binds X.K fd ps []) (hx : Passes CX X E) : OpR X (binaryOp .Add) (rGyRO X.K C .Add sp E) :=
  op_gyRO (fun A E s C dx x a P hx hp => PySem.GyDec.tryB_add hx hp) D F hr hb hx
theorem op_gyROsub (D : GyOp X.K C .Sub g r) (F : FnOk X.prog X.w X.K X.mg X.base CX k r fd ps sp) (hr : Room k X.A) (hb : Binds X.K fd ps []) (hx : Passes CX X E) : OpR X (binaryOp .Sub) (rGyRO X.K C .Sub sp E) :=
  op_gyRO (fun A E s C dx x a P hx hp => PySem.GyDec.tryB_sub hx hp) D F hr hb hx
theorem op_gyROmul (D : GyOp X.K C .Mult g r) (F : FnOk X.prog X.w X.K X.mg X.base CX k r fd ps sp) (hr : Room k X.A) (hb : Binds X.K fd ps []) (hx : Passes CX X E) : OpR X (binaryOp .Mult) (rGyRO X.K C .Mult sp E) :=
  op_gyRO (fun A E s C dx x a P hx hp => PySem.GyDec.tryB_mul hx hp) D F hr hb hx
end
/-- whether a type's two slots of an operator are those of no number, bool aside -/
def oddB (op : Operator) (T : String) : Bool := match PySem.W.findIn [] (.type T) (PySem.dunder op.info.2), PySem.W.findIn [] (.type T) (dunderR op.info.2) with
  | some fo, some ro => T == "bool" || !((fo.isSome && !isSeqSlot fo) || (ro.isSome && !isSeqSlot ro))
  | _, _ => false
theorem oddB_all : ([Operator.Add, .Sub, .Mult].all fun op => ["NoneType", "bool", "str", "list", "tuple", "dict"].all (oddB op)) = true := by kernel_rfl
theorem oddB_ok {K : PySem.W.Frag} {op : Operator} {T : String} (h : oddB op T = true) : ∃ fo ro, PySem.W.findIn K (.type T) (PySem.dunder op.info.2) = some fo ∧ PySem.W.findIn K (.type T) (dunderR op.info.2) = some ro ∧ (T ≠ "bool" → ((fo.isSome && !isSeqSlot fo) || (ro.isSome && !isSeqSlot ro)) = false) := by
  unfold oddB at h
  have e1 : PySem.W.findIn K (.type T) (PySem.dunder op.info.2) = PySem.W.findIn [] (.type T) (PySem.dunder op.info.2) := rfl
  have e2 : PySem.W.findIn K (.type T) (dunderR op.info.2) = PySem.W.findIn [] (.type T) (dunderR op.info.2) := rfl
  rw [e1, e2]
  split at h
  · rename_i fo ro h1 h2
    refine ⟨fo, ro, h1, h2, fun n => ?_⟩
    rw [beq_eq_false_iff_ne.mpr n, Bool.false_or] at h
    exact Bool.not_eq_true' _ ▸ h
  · cases h
/-- the built-in types that odd things have, beside + - * -/
theorem odd_T {K : PySem.W.Frag} {C : Addr} {op : Operator} {T : String} (ho : op ∈ [Operator.Add, .Sub, .Mult]) (hT : T ∈ ["NoneType", "bool", "str", "list", "tuple", "dict"]) (up : PySem.W.subIn K (.type T) (.ref C) = some false) (dn : PySem.W.subIn K (.ref C) (.type T) = some false) : OddT K C op T :=
  ⟨oddB_ok (List.all_eq_true.mp (List.all_eq_true.mp oddB_all op ho) T hT), up, dn⟩
end Gy
namespace Gy
open PySem L2
/-- where a code object's table stands -/
def codeAt (o : Obj) : Option Value := match o.data with
  | .fields vs => vs[11]?
  | _ => none
theorem pss_never {X : Cx} {sts : List Stmt} : PSs X sts tNever := ⟨fun _ _ _ _ _ _ h => h.elim⟩
/-- a heap without its tables -/
def noT (H : Hp) : Hp := fun b => match H b with
  | some (.tbl _) => none
  | o => o
theorem noT_le (H : Hp) : Same (noT H) H := fun b o e => by
  unfold noT at e
  split at e
  · cases e
  · exact e
theorem noT_tbl {H : Hp} {b : Addr} {o : HO} (e : noT H b = some o) : ∀ ps, o ≠ .tbl ps := fun ps z => by
  unfold noT at e
  split at e
  · cases e
  · rename_i h
    rw [z] at e
    exact h _ e
theorem noT_at {H : Hp} {b : Addr} {o : HO} (h : H b = some o) (n : ∀ ps, o ≠ .tbl ps) : noT H b = some o := by
  unfold noT
  rw [h]
  split
  · rename_i ps e
    cases e
    exact absurd rfl (n ps)
  · rfl
theorem noT_none {H : Hp} {b : Addr} (h : H b = none) : noT H b = none := by
  unfold noT
  rw [h]
theorem ext_noT {H H1 : Hp} {G : Hp} (s : Same (noT G) H) (e : LamX.ExtN H H1) : Same (noT G) H1 := fun b o z => e b o (s b o z) (noT_tbl z)
end Gy

set_option Elab.async false
set_option linter.all false
set_option maxRecDepth 100000
set_option maxHeartbeats 4000000
/-! Lay5: texts of numbers; a staticmethod called through its class; sep.join(reversed(a list)). -/
namespace Gy
open PySem L2 TL NumText

/-! ### digits -/
/-- one or more digits from 0 to 9 -/
def dig (l : List Nat) : Bool := !l.isEmpty && l.all fun c => decide (48 ≤ c) && decide (c ≤ 57)
theorem dig_iff {l : List Nat} : dig l = true ↔ l ≠ [] ∧ AllDigits l := by
  unfold dig AllDigits
  rw [Bool.and_eq_true, List.all_eq_true]
  constructor
  · rintro ⟨a, b⟩
    refine ⟨fun e => (by rw [e] at a; cases a), fun c hc => ?_⟩
    have := b c hc
    rw [Bool.and_eq_true] at this
    exact ⟨of_decide_eq_true this.1, of_decide_eq_true this.2⟩
  · rintro ⟨a, b⟩
    refine ⟨?_, fun c hc => ?_⟩
    · cases l with
      | nil => exact absurd rfl a
      | cons _ _ => rfl
    · obtain ⟨h1, h2⟩ := b c hc
      rw [decide_eq_true h1, decide_eq_true h2]
      rfl
/-- digits without a nought ahead -/
def nz (l : List Nat) : Bool := dig l && (decide (l = [48]) || decide (l.head? ≠ some 48))
theorem numL_head {n : Nat} (h : 0 < n) : ∃ c r, numL n = c :: r ∧ 49 ≤ c := by
  induction n using Nat.strongRecOn with
  | _ n ih =>
    by_cases h10 : n < 10
    · exact ⟨48 + n, [], numL_lt h10, by omega⟩
    · obtain ⟨c, r, e, h9⟩ := ih (n / 10) (by omega) (by omega)
      rw [numL_step (by omega), e]
      exact ⟨c, r ++ [48 + n % 10], rfl, h9⟩
theorem nz_num (n : Nat) : nz (numL n) = true := by
  unfold nz
  rw [dig_iff.mpr ⟨numL_ne n, numL_digits n⟩, Bool.true_and]
  by_cases h : n = 0
  · subst h
    rw [numL_lt (by decide)]
    rfl
  · obtain ⟨c, r, e, h9⟩ := numL_head (Nat.pos_of_ne_zero h)
    rw [e]
    have : decide ((c :: r).head? ≠ some 48) = true := decide_eq_true (by
      show some c ≠ some 48
      intro z
      cases z
      omega)
    rw [this, Bool.or_true]
theorem map_ofNat : ∀ {l : List Nat}, AllDigits l → (l.map Char.ofNat).map Char.toNat = l
  | [], _ => rfl
  | c :: r, h => by
    have hc := h.head
    rw [List.map_cons, List.map_cons, map_ofNat h.tail]
    have : (Char.ofNat c).toNat = c := by
      have : ∀ d : Nat, 48 ≤ d → d ≤ 57 → (Char.ofNat d).toNat = d := by
        intro d h1 h2
        have e : d = 48 + (d - 48) := by omega
        have f : ∀ k : Nat, k < 10 → (Char.ofNat (48 + k)).toNat = 48 + k := by decide
        rw [e]
        exact f _ (by omega)
      exact this c hc.1 hc.2
    rw [this]
theorem num_nz {l : List Nat} (h : nz l = true) : numL (digitsVal l) = l := by
  unfold nz at h
  rw [Bool.and_eq_true] at h
  obtain ⟨hd, hz⟩ := h
  obtain ⟨hne, had⟩ := dig_iff.mp hd
  have hn : l.length = (l.length - 1) + 1 := by
    have := List.length_pos_iff.mpr hne
    omega
  have hh : l.length - 1 = 0 ∨ ∃ c r, l = c :: r ∧ 49 ≤ c := by
    match l, hne, had with
    | c :: r, _, had =>
      rw [Bool.or_eq_true] at hz
      rcases hz with hz | hz
      · left
        have := of_decide_eq_true hz
        rw [this]
        rfl
      · right
        have := of_decide_eq_true hz
        have h8 := had.head
        refine ⟨c, r, rfl, ?_⟩
        have : c ≠ 48 := fun e => this (by rw [e]; rfl)
        omega
  have t := toDigits_digitsVal (l.length - 1) l hn had hh
  unfold numL
  rw [t, map_ofNat had]
theorem nz_val {l : List Nat} (h : nz l = true) : ∃ n, l = numL n := ⟨_, (num_nz h).symm⟩
theorem nz_dig {l : List Nat} (h : nz l = true) : dig l = true := by
  unfold nz at h
  rw [Bool.and_eq_true] at h
  exact h.1
theorem digitsVal_lt {l : List Nat} (h : AllDigits l) : digitsVal l < 10 ^ l.length := by
  have : ∀ (l : List Nat) (a : Nat), AllDigits l → l.foldl (fun acc c => acc * 10 + (c - 48)) a < (a + 1) * 10 ^ l.length := by
    intro l
    induction l with
    | nil => intro a _; show a < (a + 1) * 1; omega
    | cons c r ih =>
      intro a h
      have hc := h.head
      have := ih (a * 10 + (c - 48)) h.tail
      rw [List.foldl_cons, List.length_cons, Nat.pow_succ]
      refine Nat.lt_of_lt_of_le this ?_
      have e : (a + 1) * (10 ^ r.length * 10) = ((a + 1) * 10) * 10 ^ r.length := by
        rw [Nat.mul_comm (10 ^ r.length) 10, ← Nat.mul_assoc]
      rw [e]
      exact Nat.mul_le_mul_right _ (by omega)
  have := this l 0 h
  rw [Nat.zero_add, Nat.one_mul] at this
  exact this

/-! ### the text of a fraction -/
def signL (i : Int) : List Nat := if i < 0 then [45] else []
def underL (i : Int) : List Nat := if i = 1 then [] else 47 :: numL i.natAbs
def fracL (p : Int × Int) : List Nat := signL p.1 ++ (numL p.1.natAbs ++ underL p.2)
theorem tl_int (i : Int) : tl (Str.ofString (toString i)) = signL i ++ numL i.natAbs := by
  unfold signL
  cases i with
  | ofNat n =>
    rw [if_neg (by exact fun z => absurd z (Int.not_lt.mpr (Int.natCast_nonneg n)))]
    exact tl_num n
  | negSucc n =>
    rw [if_pos (Int.negSucc_lt_zero n)]
    have e1 : toString (Int.negSucc n) = "-" ++ toString (((n + 1 : Nat)) : Int) := rfl
    rw [e1, tl_ofString]
    have e2 := tl_num (n + 1)
    rw [tl_ofString] at e2
    rw [String.toList_append, List.map_append, e2]
    rfl
/-- cut at the first stroke -/
def cutA (l : List Nat) : List Nat := l.takeWhile (· != 47)
def cutB (l : List Nat) : List Nat := (l.dropWhile (· != 47)).tail
theorem cut_in {a r : List Nat} (h : 47 ∉ a) : cutA (a ++ 47 :: r) = a ∧ cutB (a ++ 47 :: r) = r := by
  have f : ∀ c ∈ a, (c != 47) = true := fun c hc => by
    rw [bne_iff_ne]
    exact fun e => h (e ▸ hc)
  unfold cutA cutB
  rw [List.takeWhile_append_of_pos f, List.dropWhile_append_of_pos f]
  constructor
  · show a ++ List.takeWhile (· != 47) (47 :: r) = a
    rw [List.takeWhile_cons_of_neg (by decide), List.append_nil]
  · show (List.dropWhile (· != 47) (47 :: r)).tail = r
    rw [List.dropWhile_cons_of_neg (by decide)]
    rfl

theorem cut_form {l : List Nat} (h : 47 ∈ l) : l = cutA l ++ 47 :: cutB l ∧ 47 ∉ cutA l := by
  induction l with
  | nil => cases h
  | cons c r ih =>
    by_cases e : c = 47
    · subst e
      unfold cutA cutB
      rw [List.takeWhile_cons_of_neg (by decide), List.dropWhile_cons_of_neg (by decide)]
      exact ⟨rfl, nofun⟩
    · have hr : 47 ∈ r := by
        rcases List.mem_cons.mp h with z | z
        · exact absurd z.symm e
        · exact z
      obtain ⟨h1, h2⟩ := ih hr
      have en : (c != 47) = true := bne_iff_ne.mpr e
      have ea : cutA (c :: r) = c :: cutA r := List.takeWhile_cons_of_pos en
      have eb : cutB (c :: r) = cutB r := congrArg List.tail (List.dropWhile_cons_of_pos en)
      rw [ea, eb]
      refine ⟨by rw [List.cons_append, ← h1], fun z => ?_⟩
      rcases List.mem_cons.mp z with z | z
      · exact e z.symm
      · exact h2 z
theorem cut_out {l : List Nat} (h : 47 ∉ l) : cutA l = l := by
  unfold cutA
  have := List.takeWhile_append_of_pos (p := (· != 47)) (l₁ := l) (l₂ := []) fun c hc => by
    rw [bne_iff_ne]
    exact fun e => h (e ▸ hc)
  rw [List.append_nil] at this
  rw [this]
  exact List.append_nil l
theorem par_cut (l : List Nat) : par [47] [] l = if 47 ∈ l then some (cutA l, cutB l) else none := by
  by_cases h : 47 ∈ l
  · rw [if_pos h]
    obtain ⟨e, n⟩ := cut_form h
    generalize cutA l = a at e n ⊢
    generalize cutB l = b at e ⊢
    subst e
    exact par_part1 n
  · rw [if_neg h]
    exact par_none1 h
/-- without a sign -/
def noSign (l : List Nat) : List Nat := if l.head? = some 45 then l.tail else l
def belowL (l : List Nat) : List Nat := if 47 ∈ l then cutB l else [49]
/-- what a text of that form is worth -/
def exN (l : List Nat) : Int × Int := red (if (cutA l).head? = some 45 then -(digitsVal (noSign (cutA l)) : Int) else (digitsVal (noSign (cutA l)) : Int)) (digitsVal (belowL l) : Int)
/-- the fraction with this text -/
def exOf (l : List Nat) : Option (Int × Int) :=
  if dig (noSign (cutA l)) = true ∧ dig (belowL l) = true ∧ digitsVal (belowL l) ≠ 0 then
    (if fracL (exN l) = l then some (exN l) else none)
  else none
/-- some reduced fraction has this text -/
def Canon (l : List Nat) : Prop := ∃ p, Rd p ∧ l = fracL p
theorem exOf_some {l : List Nat} {p : Int × Int} (h : exOf l = some p) : Rd p ∧ fracL p = l := by
  unfold exOf at h
  split at h
  · rename_i c
    split at h
    · rename_i e
      rw [← Option.some.inj h]
      exact ⟨red_rd (by have := c.2.2; omega), e⟩
    · cases h
  · cases h
theorem sign_free (i : Int) : 47 ∉ signL i ++ numL i.natAbs := fun h => by
  unfold signL at h
  rcases List.mem_append.mp h with h | h
  · split at h
    · rw [List.mem_singleton] at h
      cases h
    · cases h
  · exact numL_free (.inl (by decide)) h
theorem num_first (n : Nat) : (numL n).head? ≠ some 45 := fun h => by
  have hm : 45 ∈ numL n := List.mem_of_mem_head? h
  exact numL_free (.inl (by decide)) hm
theorem sign_no (i : Int) : noSign (signL i ++ numL i.natAbs) = numL i.natAbs ∧ ((signL i ++ numL i.natAbs).head? = some 45 ↔ i < 0) := by
  unfold signL noSign
  by_cases h : i < 0
  · rw [if_pos h]
    exact ⟨rfl, ⟨fun _ => h, fun _ => rfl⟩⟩
  · rw [if_neg h, List.nil_append, if_neg (num_first _)]
    exact ⟨rfl, ⟨fun e => absurd e (num_first _), fun e => absurd e h⟩⟩
theorem frac_cut {p : Int × Int} (h : 0 < p.2) : cutA (fracL p) = signL p.1 ++ numL p.1.natAbs ∧ digitsVal (belowL (fracL p)) = p.2.natAbs ∧ dig (belowL (fracL p)) = true := by
  unfold fracL underL belowL
  by_cases e : p.2 = 1
  · rw [if_pos e, List.append_nil, cut_out (sign_free _), if_neg (sign_free _), e]
    exact ⟨rfl, rfl, rfl⟩
  · rw [if_neg e, ← List.append_assoc]
    obtain ⟨h1, h2⟩ := cut_in (a := signL p.1 ++ numL p.1.natAbs) (r := numL p.2.natAbs) (sign_free _)
    have hm : 47 ∈ signL p.1 ++ numL p.1.natAbs ++ 47 :: numL p.2.natAbs := List.mem_append_right _ List.mem_cons_self
    rw [h1, if_pos hm, h2, numL_val]
    exact ⟨rfl, rfl, dig_iff.mpr ⟨numL_ne _, numL_digits _⟩⟩
theorem exOf_frac {p : Int × Int} (h : Rd p) : exOf (fracL p) = some p := by
  obtain ⟨e1, e2, e3⟩ := frac_cut h.1
  obtain ⟨s1, s2⟩ := sign_no p.1
  have h2 := h.1
  unfold exOf
  rw [e1, s1, e2]
  have c : dig (numL p.1.natAbs) = true ∧ dig (belowL (fracL p)) = true ∧ p.2.natAbs ≠ 0 := ⟨dig_iff.mpr ⟨numL_ne _, numL_digits _⟩, e3, by omega⟩
  rw [if_pos c]
  have e : (if (signL p.1 ++ numL p.1.natAbs).head? = some 45 then -(p.1.natAbs : Int) else (p.1.natAbs : Int)) = p.1 := by
    by_cases z : p.1 < 0
    · rw [if_pos (s2.mpr z)]
      omega
    · rw [if_neg (fun q => z (s2.mp q))]
      omega
  have e' : (p.2.natAbs : Int) = p.2 := by omega
  have en : exN (fracL p) = p := by
    unfold exN
    rw [e1, s1, e2, numL_val, e, e', red_self h]
  rw [en, if_pos rfl]
theorem exOf_iff {l : List Nat} {p : Int × Int} : exOf l = some p ↔ Rd p ∧ fracL p = l := ⟨exOf_some, fun ⟨h, e⟩ => e ▸ exOf_frac h⟩
theorem exOf_none {l : List Nat} : exOf l = none ↔ ¬ Canon l := by
  constructor
  · rintro h ⟨p, r, e⟩
    rw [e, exOf_frac r] at h
    cases h
  · intro h
    cases e : exOf l with
    | none => rfl
    | some p => exact absurd ⟨p, (exOf_some e).1, (exOf_some e).2.symm⟩ h
theorem fracL_inj {p q : Int × Int} (hp : Rd p) (hq : Rd q) (e : fracL p = fracL q) : p = q := by
  have := exOf_frac hp
  rw [e, exOf_frac hq] at this
  exact (Option.some.inj this).symm
/-! ### a text looked at another way: its parts between strokes -/
def isText (l : List Nat) : Bool :=
  match spl [47] 0 [] l with
  | [] => false
  | a :: r => ((noSign a) :: r).all nz && !(decide (r.length > 1) || decide (l.take 2 = [45, 48])) &&
    (match r with
     | [] => true
     | b :: _ => decide (1 < digitsVal b) && decide (Nat.gcd (digitsVal (noSign a)) (digitsVal b) = 1))
theorem isText_frac {p : Int × Int} (h : Rd p) : isText (fracL p) = true := by
  obtain ⟨h1, h2⟩ := h
  obtain ⟨s1, s2⟩ := sign_no p.1
  have tk : decide ((fracL p).take 2 = [45, 48]) = false := decide_eq_false fun z => by
    unfold fracL signL at z
    by_cases n : p.1 < 0
    · rw [if_pos n] at z
      obtain ⟨c, r, e, h9⟩ := numL_head (n := p.1.natAbs) (by omega)
      rw [e] at z
      have : [45, c] = [45, 48] := z
      cases this
      omega
    · rw [if_neg n, List.nil_append] at z
      obtain ⟨c, r, e⟩ := List.exists_cons_of_ne_nil (numL_ne p.1.natAbs)
      have hc := numL_digits p.1.natAbs c (by rw [e]; exact List.mem_cons_self)
      rw [e] at z
      have z' : (c :: (r ++ underL p.2)).take 2 = [45, 48] := z
      rw [List.take_succ_cons] at z'
      have := (List.cons.inj z').1
      omega
  unfold isText
  rw [tk]
  unfold fracL underL
  by_cases e : p.2 = 1
  · rw [if_pos e, List.append_nil, spl_last1 (sign_free _), List.nil_append]
    show (([noSign (signL p.1 ++ numL p.1.natAbs)] : List (List Nat)).all nz && _ && _) = true
    rw [s1]
    show ((nz (numL p.1.natAbs) && true) && !(decide (0 > 1) || false) && true) = true
    rw [nz_num]
    rfl
  · rw [if_neg e, ← List.append_assoc]
    have es : spl [47] 0 [] (signL p.1 ++ numL p.1.natAbs ++ 47 :: numL p.2.natAbs) = [signL p.1 ++ numL p.1.natAbs, numL p.2.natAbs] := by
      have := spl_part1 (s := 47) (S := []) (p := signL p.1 ++ numL p.1.natAbs) (rest := numL p.2.natAbs) (acc := []) (sign_free _)
      rw [spl_last1 (numL_free (.inl (by decide))), List.nil_append, List.nil_append] at this
      exact this
    rw [es]
    show ((noSign (signL p.1 ++ numL p.1.natAbs) :: [numL p.2.natAbs]).all nz && !(decide ([numL p.2.natAbs].length > 1) || false) && (decide (1 < digitsVal (numL p.2.natAbs)) && decide (Nat.gcd (digitsVal (noSign (signL p.1 ++ numL p.1.natAbs))) (digitsVal (numL p.2.natAbs)) = 1))) = true
    rw [s1, numL_val, numL_val]
    have g : Nat.gcd p.1.natAbs p.2.natAbs = 1 := h2
    rw [decide_eq_true g, decide_eq_true (by omega : 1 < p.2.natAbs)]
    show (nz (numL p.1.natAbs) && (nz (numL p.2.natAbs) && true) && _ && _) = true
    rw [nz_num, nz_num]
    rfl
theorem noSign_form (a : List Nat) : (a.head? = some 45 ∧ a = 45 :: noSign a) ∨ (a.head? ≠ some 45 ∧ a = noSign a) := by
  unfold noSign
  by_cases h : a.head? = some 45
  · left
    rw [if_pos h]
    cases a with
    | nil => cases h
    | cons c r => cases h; exact ⟨rfl, rfl⟩
  · right
    rw [if_neg h]
    exact ⟨h, rfl⟩
theorem signed_text {a : List Nat} {n : Nat} (e : noSign a = numL n) (hz : a.take 2 ≠ [45, 48] ) : ∃ i : Int, i.natAbs = n ∧ a = signL i ++ numL i.natAbs := by
  rcases noSign_form a with ⟨h, f⟩ | ⟨h, f⟩
  · rw [e] at f
    have hn : n ≠ 0 := fun z => hz (by rw [f, z]; rfl)
    refine ⟨-(n : Int), by omega, ?_⟩
    have e2 : (-(n : Int)).natAbs = n := by omega
    unfold signL
    rw [if_pos (by omega), e2]
    exact f
  · refine ⟨(n : Int), by omega, ?_⟩
    have e2 : ((n : Int)).natAbs = n := by omega
    unfold signL
    rw [if_neg (by omega), e2, ← e]
    exact f
theorem isText_canon {l : List Nat} (h : isText l = true) : Canon l := by
  unfold isText at h
  by_cases hm : 47 ∈ l
  · obtain ⟨e, hn⟩ := cut_form hm
    generalize cutA l = a at e hn
    generalize cutB l = b at e
    have es : spl [47] 0 [] l = a :: spl [47] 0 [] b := by
      rw [e]
      have := spl_part1 (s := 47) (S := []) (p := a) (rest := b) (acc := []) hn
      rw [List.nil_append] at this
      exact this
    rw [es] at h
    by_cases hb : 47 ∈ b
    · obtain ⟨e', hn'⟩ := cut_form hb
      generalize cutA b = a' at e' hn'
      generalize cutB b = b' at e'
      have es' : spl [47] 0 [] b = a' :: spl [47] 0 [] b' := by
        rw [e']
        have := spl_part1 (s := 47) (S := []) (p := a') (rest := b') (acc := []) hn'
        rw [List.nil_append] at this
        exact this
      have hne : spl [47] 0 [] b' ≠ [] := by
        by_cases hb' : 47 ∈ b'
        · obtain ⟨e2, n2⟩ := cut_form hb'
          rw [e2]
          have := spl_part1 (s := 47) (S := []) (p := cutA b') (rest := cutB b') (acc := []) n2
          intro z
          have y : spl [47] 0 [] (cutA b' ++ 47 :: cutB b') = [] ++ cutA b' :: spl [47] 0 [] (cutB b') := this
          rw [z] at y
          cases y
        · rw [spl_last1 hb']
          simp
      rw [es'] at h
      have : decide ((a' :: spl [47] 0 [] b').length > 1) = true := decide_eq_true (by
        rw [List.length_cons]
        have := List.length_pos_iff.mpr hne
        omega)
      dsimp only at h
      rw [this] at h
      simp at h
    · rw [spl_last1 hb, List.nil_append] at h
      dsimp only at h
      simp only [Bool.and_eq_true, List.all_cons, List.all_nil, Bool.and_true, decide_eq_true_eq, Bool.not_eq_true', Bool.or_eq_false_iff, decide_eq_false_iff_not] at h
      obtain ⟨⟨⟨ha, hb2⟩, _, ht⟩, hv, hg⟩ := h
      obtain ⟨m, em⟩ := nz_val ha
      obtain ⟨k, ek⟩ := nz_val hb2
      rw [ek, numL_val] at hv
      rw [em, ek, numL_val, numL_val] at hg
      have hta : a.take 2 ≠ [45, 48] := fun z => ht (by
        rw [e]
        have hl : 2 ≤ a.length := by
          have := congrArg List.length z
          rw [List.length_take] at this
          have e2 : ([45, 48] : List Nat).length = 2 := rfl
          rw [e2] at this
          omega
        rw [List.take_append_of_le_length hl]
        exact z)
      obtain ⟨i, hi, ea⟩ := signed_text em hta
      refine ⟨(i, (k : Int)), ⟨by show (0 : Int) < (k : Int); omega, ?_⟩, ?_⟩
      · show Nat.gcd i.natAbs (k : Int).natAbs = 1
        have : ((k : Int)).natAbs = k := by omega
        rw [this, hi]
        exact hg
      · show l = signL i ++ (numL i.natAbs ++ underL (k : Int))
        unfold underL
        have e2 : ((k : Int)).natAbs = k := by omega
        rw [if_neg (by omega), e, ea, ek, e2, List.append_assoc]
  · rw [spl_last1 hm, List.nil_append] at h
    dsimp only at h
    simp only [Bool.and_eq_true, List.all_cons, List.all_nil, Bool.and_true, decide_eq_true_eq, Bool.not_eq_true', Bool.or_eq_false_iff, decide_eq_false_iff_not] at h
    obtain ⟨ha, _, ht⟩ := h
    obtain ⟨m, em⟩ := nz_val ha
    obtain ⟨i, hi, ea⟩ := signed_text em ht
    refine ⟨(i, 1), rd_int i, ?_⟩
    show l = signL i ++ (numL i.natAbs ++ underL 1)
    unfold underL
    rw [if_pos rfl, List.append_nil]
    exact ea
theorem isText_iff {l : List Nat} : isText l = true ↔ Canon l := ⟨isText_canon, fun ⟨p, h, e⟩ => e ▸ isText_frac h⟩
theorem told_iff {l : List Nat} : (exOf l).isSome = isText l := by
  cases h : isText l with
  | true =>
    obtain ⟨p, r, e⟩ := isText_canon h
    rw [e, exOf_frac r]
    rfl
  | false =>
    cases e : exOf l with
    | none => rfl
    | some p =>
      obtain ⟨r, f⟩ := exOf_some e
      rw [← f, isText_frac r] at h
      cases h
end Gy

namespace L2
open PySem PySem.Spec PyProof.Rows
/-! ### C.m(..), m a staticmethod of the class at C -/
structure SMet (K : PySem.W.Frag) (C : Addr) (m : Str) (p f : Addr) : Prop where
  rd : PySem.W.readsIn K C (.type "type") = true
  ga : PySem.W.specialIn K (.ref C) "__getattribute__" = some (some (.builtin "type.__getattribute__"))
  at_ : PySem.W.findCls K (.ref C) (.type "type") m = some (.get (.builtin "staticmethod.__get__") (.ref p) .none (.ref C))
  rc : ∃ rest, PySem.W.recIn K p "staticmethod" = some (.ref f :: rest)
def tSMeth (C : Addr) (sp : Sp) (dvs : List V) (E : XK) (ta : TE) (t : TA) : TE := fun σ H Q => ta σ H fun x H1 => x = .ref C ∧ t σ H1 fun vs H2 => sp (vs ++ dvs) H2 Q E
theorem pe_smeth {X : Cx} {CX : CXT} {k : Nat} {C p f : Addr} {fd : FuncData} {ps : List Str} {ds : List Value} {dvs : List V} {sp : Sp} {E : XK} {o e : Expr} {es : List Expr} {m : Str} {pos apos : Pos} {ta : TE} {t : TA} {pl : Sem Bool}
    (he : PE X o ta) (c : SMet X.K C m p f) (F : FnOk X.prog X.w X.K X.mg X.base CX k f fd ps sp) (hr : Room k X.A) (hk : PySem.W.keepIn X.K (.ref f) = true) (hb : Binds X.K fd ps ds) (hd : Vals dvs ds) (hx : Passes CX X E) (ha : PA X (e :: es) t)
    (hst : starEach (e :: es) X.env = (false, eval e X.env) :: starEach es X.env := by rfl) (hpl : (backTo pos (starEach es X.env)).any (·.1) = false := by rfl)
    (ht : eval (.Call (.Attribute o m apos) (e :: es) [] pos) X.env = (do
      let ov ← eval o X.env
      standAt apos.atName
      let (f, first) ← holding [ov] (getMethod ov m pl)
      callWith pos f first (backTo pos (starEach (e :: es) X.env)) (backToKw pos (keywordEach [] X.env))) := by rfl) :
    PE X (.Call (.Attribute o m apos) (e :: es) [] pos) (tSMeth C sp dvs E ta t) := by
  refine ⟨fun pins s σ H Q I h => ?_⟩
  refine PySem.W.methodCall_KW (pl := pl) (thn (he.run pins s σ H _ I h) fun u s1 ⟨x, H1, I1, rx, ex, q⟩ => ?_) ht
  subst ex
  obtain rfl : u = Value.ref C := rx
  obtain ⟨rest, hp⟩ := c.rc
  refine PySem.W.method_cls I1.kIn c.ga (PySem.W.cls_bind I1.kIn c.rd c.at_ (wpAny_call (PySem.W.sm_get (s := { s1 with toks := s1.toks + 1 }) I1.kIn hp (PySem.W.handed_on rfl ?_))))
  exact PySem.W.callWith_K (h₀ := X.base) I.ok.mod.kin hk (thn (ha.run pos pins _ σ H1 _ (I1.tok _) q) fun us s3 ⟨vs, H2, I3, r, q2⟩ => ⟨I3.kIn, run_fn F hr hb hd hx I3 r q2⟩) hst hpl
end L2
namespace PySem.SC
open PySem PyProof.Rows Builtin Builtin.Str Builtin.Int
/-! ### sep.join(reversed(a list of texts)) -/
theorem joinRev {prog : Program} {w : World} {A : Around} {E : Value → Shared → Prop} {s : Shared} {x : Str} {t : Tok} {Q : Value → Shared → Prop} {it l : Addr} {items : Array Value} {ys : List Str}
    (hh : A.handled = none) (hit : s.heap.IsRevIter it l ((items.size : Int) - 1)) (hl : s.heap.IsList l items) (hne : l ≠ it) (hn : items.size ≤ sizeLine) (hlen : ys.length = items.size)
    (hs : ∀ (i : Nat) (v : Value), items[i]? = some v → ∃ y u, ys[i]? = some y ∧ v = Value.str y u) (hok : JoinOk x ys.reverse = true)
    (hq : ∀ (h' : Heap) (t' : Tok) (tk : Nat), (∀ b o, b ≠ it → s.heap.get? b = some o → h'.get? b = some o) → Q (.str (Txt.join x ys.reverse) t') { s with heap := h', toks := tk }) :
    wpAny (model prog w) A (call (.builtin "str.join") [.str x t, .ref it]) Q E s := by
  refine wpAny_call (codeAny_call_builtin F.slot_str_join.plain F.entry_str_join (F.slot_str_join.check _ _ _ _ _ _ _ _ (typeIs_str _ _ _) (F.args_str_join_2 _ _) ?_))
  rw [join_tree_other]
  refine wpAny_bind (wpAny_typeOf hit.typeIs ?_)
  show wpAny _ A.in1 ((pyIter (.ref it)).tryCatch _ >>= fun i => collect i >>= fun items => joinTail x items) _ _ s
  refine wpAny_bind (wpAny_tryCatch (wpAny_pyIter_revIter hit ?_))
  refine wpAny_bind (RT.collect_rev (A := A.in1) hh hit hl hne hn fun h' tk acc hk hacc => ?_)
  have el : acc.toList.length = ys.length := by rw [Array.length_toList, hacc.1, hlen]
  have hv : ∀ (j : Nat) (v : Value), acc.toList[j]? = some v → ∃ y u, ys.reverse[j]? = some y ∧ v = Value.str y u := fun j v e => by
    have hj : j < acc.toList.length := (List.getElem?_eq_some_iff.mp e).1
    obtain ⟨y, u, e1, e2⟩ := hs _ _ (hacc.2 j v (by rw [← Array.getElem?_toList]; exact e))
    refine ⟨y, u, ?_, e2⟩
    rw [List.getElem?_reverse (by omega), hlen]
    exact e1
  obtain ⟨l', hl'⟩ := exists_strValues acc.toList fun v hv' => by
    obtain ⟨j, hj⟩ := List.mem_iff_getElem?.mp hv'
    obtain ⟨y, u, _, e⟩ := hv j v hj
    exact ⟨y, u, e⟩
  have ej : l'.map (·.1) = ys.reverse := by
    refine List.ext_getElem? fun j => ?_
    have h9 : (strValues l')[j]? = acc.toList[j]? := by rw [hl']
    unfold strValues at h9
    rw [List.getElem?_map] at h9
    rw [List.getElem?_map]
    cases hj : l'[j]? with
    | none =>
      rw [hj] at h9
      have h8 : acc.toList[j]? = none := h9.symm
      rw [List.getElem?_eq_none_iff] at h8
      show none = ys.reverse[j]?
      rw [eq_comm, List.getElem?_eq_none_iff, List.length_reverse]
      omega
    | some p =>
      rw [hj] at h9
      obtain ⟨y, u, e1, e2⟩ := hv j _ h9.symm
      show some p.1 = ys.reverse[j]?
      rw [e1]
      injection e2 with e3
      rw [e3]
  rw [← hl']
  rw [← ej] at hok hq
  have hok' := hok
  unfold JoinOk at hok
  rw [Bool.not_eq_true'] at hok
  have g : Gives (joinTail x (strValues l')) (joinMade x l') := by
    have g0 := gives_joinTail x l' hok
    cases l' with
    | nil => exact g0
    | cons p r => cases r with
      | nil => exact g0
      | cons q r' => exact g0
  exact g prog w A (wants Q E) _ (post_join l' ⟨joinFit_length hok, fun t' k => hq h' t' k hk⟩)
end PySem.SC
namespace L2
open PySem PySem.Spec PyProof.Rows
def tJoinRev (K : PySem.W.Frag) (to te : TE) : TE := fun σ H Q => to σ H fun v H1 => ∃ sep : Str, v = .str sep ∧ te σ H1 fun u H2 => ∃ (a : Addr) (ws : List Str), u = .ref a ∧ SqL K H2 a (ws.map V.str) ∧ JoinOk sep ws.reverse = true ∧ Q (.str (Txt.join sep ws.reverse)) H2
theorem pe_joinRev {X : Cx} {o e : Expr} {to te : TE} {p2 apos cpos pos2 : Pos} (hc : X.calm = true) (hg2 : Gl X "reversed") (hm2 : X.mg "reversed" = none) (ho : PE X o to) (he : PE X e te)
    (hbase : attributeBase o "join" X.env (eval o X.env) = eval o X.env := by rfl)
    (hfew : ((backTo cpos (starEach [.Call (.Name "reversed" p2) [e] [] pos2] X.env)).all (fun x => !x.1) && (backToKw cpos (keywordEach [] X.env)).all (fun x => x.1.isSome)
      && decide (([.Call (.Name "reversed" p2) [e] [] pos2] : List Expr).length + ([] : List Keyword).length + (if ([] : List Keyword).isEmpty then 0 else 1) < 30)) = true := by rfl)
    (hline : (apos.endLine == cpos.line) = true := by rfl)
    (hs : starEach [e] X.env = (false, eval e X.env) :: starEach [] X.env := by rfl)
    (hs2 : starEach [.Call (.Name "reversed" p2) [e] [] pos2] X.env = (false, eval (.Call (.Name "reversed" p2) [e] [] pos2) X.env) :: starEach [] X.env := by rfl)
    (hplain : (backTo cpos (starEach [] X.env)).any (·.1) = false := by rfl) :
    PE X (.Call (.Attribute o "join" apos) [.Call (.Name "reversed" p2) [e] [] pos2] [] cpos) (tJoinRev X.K to te) := by
  refine ⟨fun pins s σ H Q I h => ?_⟩
  refine wpAny_Call_method_late hbase hfew hline rfl (thn (ho.run pins s σ H _ I h) fun v s1 ⟨x', H1, I1, r1, sep, ex, q1⟩ => ?_)
  subst ex
  obtain ⟨tk, rfl⟩ := (show ∃ t, v = Value.str sep t from r1)
  refine ⟨"str", _, PySem.F.plainAttrs_str, PySem.F.slot_str_join, PySem.F.type_str_join, typeIs_str _ _ _, (fun _ e => nomatch e), ?_⟩
  rw [hs2]
  refine Calls.callWith_builtin (by show (false || (backTo cpos (starEach [] X.env)).any (·.1)) = false; rw [hplain] <;> rfl) (Calls.evalArgs_plain ?_)
  show wpAny _ _ (spliced ((false, eval (.Call (.Name "reversed" p2) [e] [] pos2) X.env) :: backTo cpos (starEach [] X.env))) _ _ s1
  refine Calls.spliced_cons (Call_ (ld_blt I1 hg2 hm2 PyProof.Rows.boot_reversed (PyProof.Rows.callWith_type1 (args_cons (thn (he.run pins s1 σ H1 _ I1 q1) fun u s2 ⟨v, H2, I2, r2, q2⟩ => args_nil ?_) hs) hs rfl)))
  obtain ⟨a, ws, ev, hq, hj, q⟩ := q2
  subst ev
  obtain rfl : u = Value.ref a := r2
  obtain ⟨its, rv, p', hz⟩ := I2.list hq
  refine call_reversed_list p'.isList (Calls.spliced_nil ?_)
  have k0 : ∀ b o, s2.heap.get? b = some o → (s2.heap.push (revObj a ((its.toArray.size : Int) - 1))).get? b = some o := fun b o e => Heap.get?_push_of_some _ e
  have I3 : Inv X pins σ H2 { s2 with heap := s2.heap.push (revObj a ((its.toArray.size : Int) - 1)) } := I2.kept (t' := s2.toks) k0
  obtain ⟨f0, f1, f2, f3, f4, f5⟩ := I2.fpOk (H' := H2) (b := s2.heap.objs.size) (Nat.le_refl _) (I2.hok.fresh (Nat.le_refl _))
  have hl := p'.isList
  obtain ⟨ol, hol, _⟩ := id hl
  have hne : a ≠ s2.heap.objs.size := Nat.ne_of_lt (Heap.lt_size hol)
  have hlen : its.length = ws.length := by rw [← rv.length, List.length_map]
  have hn : its.toArray.size ≤ sizeLine := by rw [List.size_toArray, ← rv.length]; exact hz
  refine PySem.SC.joinRev (s := { s2 with heap := s2.heap.push (revObj a ((its.toArray.size : Int) - 1)) }) (ys := ws) (I2.ok.hd hc) ⟨_, Heap.get?_push_size _ rfl, rfl, rfl⟩ (hl.push _) hne hn (by rw [List.size_toArray, hlen]) (fun i v hv => ?_) hj fun h' t' tk' hk => ?_
  · have hv2 : its[i]? = some v := by simpa using hv
    have hi2 : i < its.length := (List.getElem?_eq_some_iff.mp hv2).1
    obtain ⟨b, ha⟩ : ∃ b, ws[i]? = some b := ⟨ws[i]'(by omega), List.getElem?_eq_getElem _⟩
    have hb : (ws.map V.str)[i]? = some (V.str b) := by rw [List.getElem?_map, ha] <;> rfl
    obtain ⟨u, hu, ru⟩ := rv.get hb
    rw [hv2] at hu
    cases hu
    obtain ⟨t, e⟩ := (show ∃ t, v = Value.str b t from ru)
    exact ⟨b, t, ha, e⟩
  · have I4 : Inv X pins σ H2 { s2 with heap := h', toks := tk' } := I3.turned (t' := tk') (fun b o hb e => hk b o hb e) f0 f1 f3 f4 f5
    exact ⟨.str _, H2, I4, ⟨t', rfl⟩, q⟩
end L2

set_option Elab.async false
set_option linter.all false
set_option maxRecDepth 100000
set_option maxHeartbeats 4000000
/-! Lay6: walks over a list or a tuple, whichever it is. -/
namespace L2
open PySem PySem.Spec PyProof.Rows
theorem PI.or {X : Cx} {tg e : Expr} {w1 w2 : TI} (h1 : PI X tg e w1) (h2 : PI X tg e w2) : PI X tg e (fun σ H R => w1 σ H R ∨ w2 σ H R) :=
  ⟨fun pins s σ H R I h => h.elim (fun z => h1.run pins s σ H R I z) fun z => h2.run pins s σ H R I z⟩
/-- a list or a tuple -/
theorem pi_lt {X : Cx} {tg l : Expr} {tl : TE} (hl : PE X l tl) : PI X tg l (fun σ H R => iList X.K tl σ H R ∨ iTup X.K tl σ H R) := (pi_list hl).or (pi_tup hl)
theorem pi_enumE {X : Cx} {e : Expr} {ta : TA} {p pos tpos : Pos} {elts : List Expr} {kk : Nat} (hg : Gl X "enumerate") (hm : X.mg "enumerate" = none) (ha : PA X [e] ta) (hs : starEach [e] X.env = [(false, eval e X.env)] := by rfl) :
    PI X (.Tuple elts kk tpos) (.Call (.Name "enumerate" p) [e] [] pos) (fun σ H R => iEnum X.K ta σ H R ∨ iEnumT X.K ta σ H R) := (pi_enum hg hm ha hs).or (pi_enumT hg hm ha hs)
end L2
namespace L2
open PySem PySem.Spec PyProof.Rows
/-- a promise that speaks of exceptions, where none may come -/
theorem FnOk.still {P : Program} {w : World} {K : PySem.W.Frag} {mg : Str → Option Value} {base : Heap} {k : Nat} {f : Addr} {fd : FuncData} {ps : List Str} {sp : Sp} (F : FnOk P w K mg base (L2.CX P w) k f fd ps sp) :
    FnOk P w K mg base CX0 k f fd ps (fun vs H Q _ => sp vs H Q E0) :=
  ⟨fun vs H Q E h => F.len _ _ _ _ h, fun A outer s H args us vs Q E hr e0 b r h => codeAny_mono (F.run A outer s H args us vs Q E0 hr e0 b r h) fun r s' z => by
    cases r with
    | error e =>
      obtain ⟨_, _, _, _, _, _, _, _, _, _, _, _, q⟩ := z
      exact q.elim
    | ok fl => cases fl <;> exact z⟩
end L2
namespace L2
open PySem PySem.Spec PyProof.Rows
theorem walk_enumT {K : PySem.W.Frag} {a : Addr} {xs : List V} : Walk (IteT K a) xs.length (fun H => SqT K H a xs) (YPair (fun i => some (.int (i : Nat))) (fun i => xs[i]?)) := by
  refine ⟨fun i _ hi q => ⟨xs, xs[i], q, by simp [hi]⟩, fun _ q => ⟨xs, q, Nat.le_refl _⟩, fun i H v H' _ q y => ?_⟩
  obtain ⟨T, x, h1, h2, h3, h4⟩ := y
  exact ⟨T, .int (i : Nat), x, h1, h2, h3, rfl, h4 xs q⟩
end L2
namespace L2
open PySem PySem.Spec PyProof.Rows
/-- an expression that no way leads to -/
theorem pe_never {X : Cx} {e : Expr} : PE X e (fun _ _ _ => False) := ⟨fun _ _ _ _ _ _ h => h.elim⟩
end L2
namespace L2
open PySem PySem.Spec PyProof.Rows
/-- two lists of the very same things -/
def rNeI (K : PySem.W.Frag) : R2 := fun x y H Q => ∃ (a b : Addr) (rs : List Addr), x = .ref a ∧ y = .ref b ∧ SqL K H a (rs.map V.ref) ∧ SqL K H b (rs.map V.ref) ∧ Q (.bl false) H
theorem vals_refs : ∀ {rs : List Addr} {us : List Value}, Vals (rs.map V.ref) us → us = rs.map Value.ref
  | [], _, .nil => rfl
  | r :: rs, _, .cons h t => by
    rw [vals_refs t, show _ = Value.ref r from h]
    rfl
theorem op_neI {X : Cx} (hu : X.A.units < cLine) : OpR X (compareOp .NotEq) (rNeI X.K) := by
  intro pins s σ H x y v u Q I rx ry h
  obtain ⟨a, b, rs, rfl, rfl, ha, hb, q⟩ := h
  obtain rfl : v = Value.ref a := rx
  obtain rfl : u = Value.ref b := ry
  obtain ⟨i1, r1, p1, _⟩ := I.list ha
  obtain ⟨i2, r2, p2, _⟩ := I.list hb
  have e1 := vals_refs r1
  have e2 := vals_refs r2
  subst e1 e2
  have hh := PySem.SeqAt.RcNeAt.lists (A := X.A) (e := fun _ => true) p1.isList p2.isList rfl hu (fun j h1 h2 => PySem.SeqAt.EqAt.same _)
  refine hh X.prog X.w X.xe _ ?_
  rw [show (List.range (rs.map Value.ref).toArray.size).all (fun _ => true) = true from List.all_eq_true.mpr fun _ _ => rfl]
  exact ⟨.bl false, H, I, rfl, q⟩
end L2
namespace L2
open PySem PySem.Spec PyProof.Rows
/-- an instance called -/
def tCallI (C : Addr) (sp : Sp) (E : XK) (tf : TE) (t : TA) : TE := fun σ H Q => tf σ H fun y H1 => ∃ a, y = V.ref a ∧ t σ H1 fun vs H2 => ((∃ dx vs, SlX.Slt H2 a C dx vs) ∨ ∃ dx fs, H2 a = some (.ins C dx fs)) ∧ sp (V.ref a :: vs) H2 Q E
theorem pe_callI {X : Cx} {CX : CXT} {k : Nat} {C g : Addr} {sp : Sp} {E : XK} {e fe : Expr} {es : List Expr} {tf : TE} {t : TA} {pos : Pos} (hf : PE X fe tf) (c : StX.CallO X.K C g) (F : FnR X.prog X.w X.K X.mg X.base CX k g sp) (hr : Room k X.A) (hx : Passes CX X E) (ha : PA X (e :: es) t)
    (ht : eval (.Call fe (e :: es) [] pos) X.env = (do callWith pos (← eval fe X.env) [] (backTo pos (starEach (e :: es) X.env)) (backToKw pos (keywordEach [] X.env))) := by rfl)
    (he : starEach (e :: es) X.env = (false, eval e X.env) :: starEach es X.env := by rfl) (hpl : (backTo pos (starEach es X.env)).any (·.1) = false := by rfl) : PE X (.Call fe (e :: es) [] pos) (tCallI C sp E tf t) :=
  StX.pe_callO hf c F hr hx ha ht he hpl
end L2

set_option Elab.async false
set_option linter.all false
set_option maxRecDepth 100000
set_option maxHeartbeats 4000000
/-! Lay7: == of two lists, of two tuples, whose items' own == runs code: what is asked of the state (J) is kept from item to item. -/
namespace PySem.Gj
open PySem PySem.SeqAt MeetsSeq MeetsSeq2 MeetsSeq3 SeqRoads2

section
variable (prog : Program) (w : World) (J : Shared → Prop)
/-- y == x as a bool, told b, wherever J holds; J holds behind it -/
def Eqs (A : Around) (y x : Value) (c : Bool) : Prop := ∀ (E : Value → Shared → Prop) (Q : Bool → Shared → Prop) (s : Shared), J s → (∀ s', J s' → Q c s') → wpAny (model prog w) A (eqBool y x) Q E s
/-- the rich comparison -/
def Rcs (A : Around) (y x : Value) (c : Bool) : Prop := ∀ (E : Value → Shared → Prop) (Q : Value → Shared → Prop) (s : Shared), J s → (∀ s', J s' → Q (.bool c) s') → wpAny (model prog w) A (richCompare .Eq y x) Q E s
end
section
variable {prog : Program} {w : World} {J : Shared → Prop}
abbrev finOf (prog : Program) (w : World) (A : Around) (R : Result → Shared → Prop) : Fin → Shared → Prop := fun fin s' => match fin with
  | .done f => R (.ok f) s'
  | .again c' => c'.quiet = true ∧ codeAny (model prog w) A c' R s'
theorem Eqs.here {A : Around} {v : Value} : Eqs prog w J A v v true := fun E Q s hj hq => EqAt.same v prog w E Q (hq s hj)
theorem Eqs.pure {A : Around} {y x : Value} {c : Bool} (h : ∀ s, J s → EqAt A s y x c) : Eqs prog w J A y x c := fun E Q s hj hq => h s hj prog w E Q (hq s hj)
theorem Eqs.rc {A : Around} {v u : Value} {c : Bool} (hv : (∃ i t, v = .int i t) ∨ ∃ a, v = .ref a) (hs : v = u → c = true) (h : Rcs prog w J A v u c) : Eqs prog w J A v u c := fun E Q s hj hq => by
  unfold eqBool
  refine wpAny_holding ?_
  refine wpAny_ite_split (fun z => ?_) (fun _ => ?_)
  · cases hs (eq_of_beq z)
    exact wpAny_bind (wpAny_rule (wpAny_pure (hq s hj)))
  · have go : wpAny (model prog w) A (do truthOfDropped (← richCompare .Eq v u)) Q E s := wpAny_bind (h E _ s hj fun s' hj' => wpAny_truthy_bool (hq s' hj'))
    rcases hv with ⟨i, t, rfl⟩ | ⟨a, rfl⟩ <;> exact go
theorem Eqs.refs {A : Around} {l b : Addr} {c : Bool} (hne : l ≠ b) (h : Rcs prog w J A (.ref l) (.ref b) c) : Eqs prog w J A (.ref l) (.ref b) c := fun E Q s hj hq => by
  unfold eqBool
  refine wpAny_holding ?_
  refine wpAny_ite_split (fun z => absurd (by have := eq_of_beq z; injection this) hne) (fun _ => ?_)
  exact wpAny_bind (h E _ s hj fun s' hj' => wpAny_truthy_bool (hq s' hj'))
theorem rc_at {A : Around} {T id : String} {B : Builtin} {a b : Value} {E : Value → Shared → Prop} {Q : Value → Shared → Prop} {s : Shared} (ha : s.TypeIs a T) (hb : s.TypeIs b T) (slot : Slot T (cmpInfo .Eq).2.1 id) (entry : entryFor table id = some B) (args : argsOk id ⟨[a, b], []⟩) (hu : A.units < cLine)
    (h : wpAny (model prog w) A.in1 (B ⟨[a, b], []⟩) (finOf prog w A (wants (fun v s' => v ≠ .notImplemented ∧ Q v s') E)) E s) : wpAny (model prog w) A (richCompare .Eq a b) Q E s :=
  wpAny_richCompare_same_room ha hb slot (wpAny_call (codeAny_call_builtin slot.plain entry (slot.check _ _ _ _ _ _ _ _ ha args h))) hu
theorem loopJ {l b : Addr} {us vs : Array Value} (hsz : us.size = vs.size) (hJ : ∀ s, J s → s.heap.IsList l us ∧ s.heap.IsList b vs) {A : Around} {e : Nat → Bool}
    (he : ∀ j (h1 : j < us.size) (h2 : j < vs.size), Eqs prog w J A.in1 us[j] vs[j] (e j)) {R : Result → Shared → Prop} (k : Nat) :
    ∀ (i : Nat) (s : Shared), us.size - i = k → J s → (∀ s', J s' → R (.ok (.ret (.bool (((List.range us.size).drop i).all e)))) s') →
      wpAny (model prog w) A.in1 (Builtin.«list.__eq__.loop» ⟨[.ref l, .ref b, rawInt i, rawInt 2], []⟩) (finOf prog w A R) (fun x s' => R (.error x) s') s := by
  induction k with
  | zero =>
    intro i s hk hj hR
    obtain ⟨⟨⟨cls, dd, data, sl⟩, hA, hc, n, hd⟩, ⟨⟨cls2, dd2, data2, sl2⟩, hB, hc2, n2, hd2⟩⟩ := hJ s hj
    simp only at hc hd hc2 hd2
    subst hc hd hc2 hd2
    have g1 : us[((i : Nat) : Int).toNat]? = none := Array.getElem?_eq_none (by omega)
    have g2 : vs[((i : Nat) : Int).toNat]? = none := Array.getElem?_eq_none (by omega)
    have gd : (List.range us.size).drop i = [] := List.drop_of_length_le (by rw [List.length_range]; omega)
    have hq := hR s hj
    rw [gd] at hq
    clear hR hj
    obtain ⟨hp, g, d, tk, os⟩ := s
    wp_walk using AutoSeq1.wpAny_loadPart' hA, AutoSeq1.wpAny_loadPart' hB
    rw [g1, g2]
    wp_walk using AutoSeq1.wpAny_loadPart' hA, AutoSeq1.wpAny_loadPart' hB
    show R (.ok (.ret (.bool (us.size == vs.size)))) _
    rw [hsz, beq_self_eq_true]
    exact hq
  | succ k ih =>
    intro i s hk hj hR
    obtain ⟨⟨⟨cls, dd, data, sl⟩, hA, hc, n, hd⟩, ⟨⟨cls2, dd2, data2, sl2⟩, hB, hc2, n2, hd2⟩⟩ := hJ s hj
    simp only at hc hd hc2 hd2
    subst hc hd hc2 hd2
    have l1 : i < us.size := by omega
    have l2 : i < vs.size := by omega
    have g1 : us[((i : Nat) : Int).toNat]? = some us[i] := Array.getElem?_eq_getElem l1
    have g2 : vs[((i : Nat) : Int).toNat]? = some vs[i] := Array.getElem?_eq_getElem l2
    have gd : (List.range us.size).drop i = i :: (List.range us.size).drop (i + 1) := by
      rw [List.drop_eq_getElem_cons (by rw [List.length_range]; exact l1), List.getElem_range]
    have gc : ((i : Int) + 1) = ((i + 1 : Nat) : Int) := by omega
    rw [gd, List.all_cons] at hR
    have hj0 := hj
    clear hj
    obtain ⟨hp, g, d, tk, os⟩ := s
    wp_walk using AutoSeq1.wpAny_loadPart' hA, AutoSeq1.wpAny_loadPart' hB
    rw [g1, g2]
    refine wpAny_bind (he i l1 l2 _ _ _ hj0 fun s' hj' => ?_)
    obtain ⟨⟨⟨cls, dd', data, sl'⟩, hA', hc, n', hd⟩, ⟨⟨cls2, dd2', data2, sl2'⟩, hB', hc2, n2', hd2⟩⟩ := hJ s' hj'
    simp only at hc hd hc2 hd2
    subst hc hd hc2 hd2
    cases hb' : e i with
    | true =>
      rw [hb', Bool.true_and] at hR
      obtain ⟨hp', g', d', tk', os'⟩ := s'
      wp_walk
      rw [gc]
      refine ⟨plainId_quiet plain_eq_loop _, codeAny_builtin entry_eq_loop ?_⟩
      rw [Around.under_plainId plain_eq_loop _]
      exact ih (i + 1) _ (by omega) hj' hR
    | false =>
      rw [hb', Bool.false_and] at hR
      have hq := hR s' hj'
      clear hR
      obtain ⟨hp', g', d', tk', os'⟩ := s'
      wp_walk using AutoSeq1.wpAny_loadPart' hA', AutoSeq1.wpAny_loadPart' hB'
      rw [g1, g2]
      wp_walk
      exact hq
theorem listJ {l b : Addr} {us vs : Array Value} (hsz : us.size = vs.size) (hJ : ∀ s, J s → s.heap.IsList l us ∧ s.heap.IsList b vs) {A : Around} (hu : A.units < cLine) {e : Nat → Bool}
    (he : ∀ j (h1 : j < us.size) (h2 : j < vs.size), Eqs prog w J A.in1 us[j] vs[j] (e j)) : Rcs prog w J A (.ref l) (.ref b) ((List.range us.size).all e) := fun E Q s hj hq => by
  obtain ⟨⟨⟨cls, dd, data, sl⟩, hA, hc, n, hd⟩, ⟨⟨cls2, dd2, data2, sl2⟩, hB, hc2, n2, hd2⟩⟩ := hJ s hj
  simp only at hc hd hc2 hd2
  subst hc hd hc2 hd2
  refine rc_at ⟨_, hA, rfl⟩ ⟨_, hB, rfl⟩ F.slot_list_eq F.entry_list_eq (F.args_list_eq_2 _ _) hu ?_
  have f3 := AutoSeq1.sub_list_list
  have gn : ¬ (us.size != vs.size) = true := by rw [hsz, bne_self_eq_false]; exact Bool.false_ne_true
  have hj0 := hj
  clear hj
  obtain ⟨hp, g, d, tk, os⟩ := s
  wp_walk using AutoSeq1.wpAny_loadPart' hA, AutoSeq1.wpAny_loadPart' hB
  refine ⟨plainId_quiet plain_eq_loop _, codeAny_builtin entry_eq_loop ?_⟩
  rw [Around.under_plainId plain_eq_loop _]
  exact loopJ hsz hJ he _ 0 _ rfl hj0 fun s' hj' => ⟨(fun z => nomatch z), hq s' hj'⟩
/-- of two lists of unlike lengths no item is asked -/
theorem lensJ {l b : Addr} {us vs : Array Value} (hsz : us.size ≠ vs.size) (hJ : ∀ s, J s → s.heap.IsList l us ∧ s.heap.IsList b vs) {A : Around} (hu : A.units < cLine) : Rcs prog w J A (.ref l) (.ref b) false := fun E Q s hj hq =>
  RcAt.lists_lengths (hJ s hj).1 (hJ s hj).2 (bne_iff_ne.mpr hsz) hu prog w E Q (hq s hj)
/-- two pairs: the second items are asked where the first ones are equal -/
theorem pairJ {l b : Addr} {u1 u2 v1 v2 : Value} {s : Shared} (hA : s.heap.IsTuple l #[u1, u2]) (hB : s.heap.IsTuple b #[v1, v2]) {A : Around} (hu : A.units < cLine) {c1 c2 : Bool}
    (h1 : Eqs prog w J A.in1 u1 v1 c1) (h2 : Eqs prog w J A.in1 u2 v2 c2) {E : Value → Shared → Prop} {Q : Value → Shared → Prop} (hj : J s) (hq : ∀ s', J s' → Q (.bool (c1 && c2)) s') : wpAny (model prog w) A (richCompare .Eq (.ref l) (.ref b)) Q E s := by
  obtain ⟨⟨cls, dd, data, sl⟩, hA, hc, n, hd⟩ := hA
  obtain ⟨⟨cls2, dd2, data2, sl2⟩, hB, hc2, n2, hd2⟩ := hB
  simp only at hc hd hc2 hd2
  subst hc hd hc2 hd2
  refine rc_at ⟨_, hA, rfl⟩ ⟨_, hB, rfl⟩ F.slot_tuple_eq F.entry_tuple_eq (F.args_tuple_eq_2 _ _) hu ?_
  have f3 := AutoSeq1.sub_tuple_tuple
  have hj0 := hj
  clear hj
  obtain ⟨hp, g, d, tk, os⟩ := s
  wp_walk using AutoSeq1.wpAny_loadPart' hA, AutoSeq1.wpAny_loadPart' hB, wpAny_forIn_list _ (fun rest m s' => m.1 = none ∧ J s' ∧ (rest = [(u1, v1), (u2, v2)] ∨ rest = [(u2, v2)] ∧ c1 = true ∨ rest = [] ∧ c1 = true ∧ c2 = true)) _
  case turn =>
    rintro ⟨y, x⟩ rest m s' ⟨hm, hj', z⟩
    rcases z with z | ⟨z, k1⟩ | ⟨z, _⟩
    · injection z with z1 z2
      injection z1 with z3 z4
      subst z2 z3 z4
      refine wpAny_bind (h1 _ _ s' hj' fun s2 hj2 => ?_)
      cases c1 with
      | true =>
        wp_walk
        exact ⟨rfl, hj2, .inr (.inl ⟨rfl, rfl⟩)⟩
      | false =>
        have hq2 := hq s2 hj2
        wp_walk
        exact ⟨(fun z => nomatch z), hq2⟩
    · injection z with z1 z2
      injection z1 with z3 z4
      subst z2 z3 z4
      refine wpAny_bind (h2 _ _ s' hj' fun s2 hj2 => ?_)
      cases c2 with
      | true =>
        wp_walk
        exact ⟨rfl, hj2, .inr (.inr ⟨rfl, k1, rfl⟩)⟩
      | false =>
        have hq2 := hq s2 hj2
        rw [Bool.and_false] at hq2
        wp_walk
        exact ⟨(fun z => nomatch z), hq2⟩
    · exact nomatch z
  case fin =>
    rintro ⟨m1, m2⟩ s' ⟨hm, hj', z⟩
    simp only at hm
    subst hm
    rcases z with z | ⟨z, _⟩ | ⟨_, k1, k2⟩
    · exact nomatch z
    · exact nomatch z
    · have hq2 := hq s' hj'
      rw [k1, k2] at hq2
      wp_walk
      exact ⟨(fun z => nomatch z), hq2⟩
  case h => exact ⟨rfl, hj0, .inl rfl⟩
end
end PySem.Gj
namespace L2
open PySem PySem.Spec PyProof.Rows PySem.Gj
section
variable {X : Cx} {pins : List (Addr × Obj)} {σ : St} {H : Hp} {s : Shared}
/-- the same frames, deeper down -/
abbrev Cx.in2 (X : Cx) : Cx := { X with A := X.A.in1.in1 }
theorem Cx.Ok.in2 (ok : X.Ok) : (Cx.in2 X).Ok := ⟨ok.mod, ok.kind, ok.glob, ok.blt, ok.above, ok.inj, ok.has, ok.cab, ok.hd, ok.frames, ok.stk, ok.exf, ok.bs, ok.bsz, ok.noex, ok.exfs, ok.funs, ok.frf⟩
theorem Cx.Ok.out2 (ok : (Cx.in2 X).Ok) : X.Ok := ⟨ok.mod, ok.kind, ok.glob, ok.blt, ok.above, ok.inj, ok.has, ok.cab, ok.hd, ok.frames, ok.stk, ok.exf, ok.bs, ok.bsz, ok.noex, ok.exfs, ok.funs, ok.frf⟩
theorem Inv.in2 (I : Inv X pins σ H s) : Inv (Cx.in2 X) pins σ H s := ⟨I.ok.in2, I.os, I.bare, I.base, I.loc, I.cell, I.free, I.freeC, I.pin, I.hok, I.len⟩
theorem Inv.out2 (I : Inv (Cx.in2 X) pins σ H s) : Inv X pins σ H s := ⟨I.ok.out2, I.os, I.bare, I.base, I.loc, I.cell, I.free, I.freeC, I.pin, I.hok, I.len⟩
/-- what stands, stands still -/
def JS (X : Cx) (pins : List (Addr × Obj)) (σ : St) (H : Hp) : Shared → Prop := fun s => ∃ H', Inv X pins σ H' s ∧ Same H H'
theorem eqs_op {c : Bool} {r : (Value → Shared → Prop) → R2} {x y : V} {v u : Value} (op : ∀ E, OpR ((Cx.in2 X).wish E) (compareOp .Eq) (r E)) (rx : RelV x v) (ry : RelV y u) (hv : (∃ i t, v = .int i t) ∨ ∃ a, v = .ref a) (hs : v = u → c = true)
    (h : ∀ E H', Same H H' → r E x y H' (fun z H'' => z = .bl c ∧ Same H' H'')) : Eqs X.prog X.w (JS X pins σ H) X.A.in1.in1 v u c :=
  Eqs.rc hv hs fun E Q s ⟨H', I, e⟩ hq => wpAny_mono (op E pins s σ H' x y v u _ (I.in2.wish E) rx ry (h E H' e)) (fun z s' ⟨z', H2, I2, rz, ez, e2⟩ => by
    subst ez
    cases (show z = Value.bool c from rz)
    exact hq s' ⟨H2, I2.unwish.out2, e.trans e2⟩) fun _ _ z => z
end
end L2

/-! Lines told. -/
namespace Gy
open PySem L2

def top (i : Nat) : Stmt := PySem.Challenge.pw_surelevels_k11_lines_told.main.body.getD i (.Pass ⟨0, 0, 0, 0⟩)
abbrev s_BadPoint_init : Stmt := (inClass (top 4) 0)
theorem sc_BadPoint_init : FnScope ["self", "index"] ["self", "index"] (defScope s_BadPoint_init) :=
  ⟨rfl, rfl, rfl, by decide +kernel, rfl, by decide +kernel, by decide +kernel⟩
abbrev s_BadMoment_init : Stmt := (inClass (top 5) 0)
theorem sc_BadMoment_init : FnScope ["self", "moment"] ["self", "moment"] (defScope s_BadMoment_init) :=
  ⟨rfl, rfl, rfl, by decide +kernel, rfl, by decide +kernel, by decide +kernel⟩
abbrev s_is_whole : Stmt := (top 7)
theorem sc_is_whole : FnScope ["thing"] ["thing"] (defScope s_is_whole) :=
  ⟨rfl, rfl, rfl, by decide +kernel, rfl, by decide +kernel, by decide +kernel⟩
abbrev s_is_list : Stmt := (top 8)
theorem sc_is_list : FnScope ["thing"] ["thing"] (defScope s_is_list) :=
  ⟨rfl, rfl, rfl, by decide +kernel, rfl, by decide +kernel, by decide +kernel⟩
abbrev s_Exact_init : Stmt := (inClass (top 10) 0)
theorem sc_Exact_init : FnScope ["self", "over", "under", "part", "shared"] ["self", "over", "under"] (defScope s_Exact_init) :=
  ⟨rfl, rfl, rfl, by decide +kernel, rfl, by decide +kernel, by decide +kernel⟩
abbrev s_Exact_add : Stmt := (inClass (top 10) 1)
theorem sc_Exact_add : FnScope ["self", "other", "over", "under"] ["self", "other"] (defScope s_Exact_add) :=
  ⟨rfl, rfl, rfl, by decide +kernel, rfl, by decide +kernel, by decide +kernel⟩
abbrev s_Exact_radd : Stmt := (inClass (top 10) 2)
theorem sc_Exact_radd : FnScope ["self", "other"] ["self", "other"] (defScope s_Exact_radd) :=
  ⟨rfl, rfl, rfl, by decide +kernel, rfl, by decide +kernel, by decide +kernel⟩
abbrev s_Exact_sub : Stmt := (inClass (top 10) 3)
theorem sc_Exact_sub : FnScope ["self", "other", "over", "under"] ["self", "other"] (defScope s_Exact_sub) :=
  ⟨rfl, rfl, rfl, by decide +kernel, rfl, by decide +kernel, by decide +kernel⟩
abbrev s_Exact_rsub : Stmt := (inClass (top 10) 4)
theorem sc_Exact_rsub : FnScope ["self", "other", "over", "under"] ["self", "other"] (defScope s_Exact_rsub) :=
  ⟨rfl, rfl, rfl, by decide +kernel, rfl, by decide +kernel, by decide +kernel⟩
abbrev s_Exact_mul : Stmt := (inClass (top 10) 5)
theorem sc_Exact_mul : FnScope ["self", "other", "over", "under"] ["self", "other"] (defScope s_Exact_mul) :=
  ⟨rfl, rfl, rfl, by decide +kernel, rfl, by decide +kernel, by decide +kernel⟩
abbrev s_Exact_rmul : Stmt := (inClass (top 10) 6)
theorem sc_Exact_rmul : FnScope ["self", "other"] ["self", "other"] (defScope s_Exact_rmul) :=
  ⟨rfl, rfl, rfl, by decide +kernel, rfl, by decide +kernel, by decide +kernel⟩
abbrev s_Exact_neg : Stmt := (inClass (top 10) 7)
theorem sc_Exact_neg : FnScope ["self"] ["self"] (defScope s_Exact_neg) :=
  ⟨rfl, rfl, rfl, by decide +kernel, rfl, by decide +kernel, by decide +kernel⟩
abbrev s_Exact_eq : Stmt := (inClass (top 10) 8)
theorem sc_Exact_eq : FnScope ["self", "other"] ["self", "other"] (defScope s_Exact_eq) :=
  ⟨rfl, rfl, rfl, by decide +kernel, rfl, by decide +kernel, by decide +kernel⟩
abbrev s_Exact_lt : Stmt := (inClass (top 10) 9)
theorem sc_Exact_lt : FnScope ["self", "other", "over", "under"] ["self", "other"] (defScope s_Exact_lt) :=
  ⟨rfl, rfl, rfl, by decide +kernel, rfl, by decide +kernel, by decide +kernel⟩
abbrev s_Exact_le : Stmt := (inClass (top 10) 10)
theorem sc_Exact_le : FnScope ["self", "other", "over", "under"] ["self", "other"] (defScope s_Exact_le) :=
  ⟨rfl, rfl, rfl, by decide +kernel, rfl, by decide +kernel, by decide +kernel⟩
abbrev s_Exact_gt : Stmt := (inClass (top 10) 11)
theorem sc_Exact_gt : FnScope ["self", "other", "over", "under"] ["self", "other"] (defScope s_Exact_gt) :=
  ⟨rfl, rfl, rfl, by decide +kernel, rfl, by decide +kernel, by decide +kernel⟩
abbrev s_Exact_ge : Stmt := (inClass (top 10) 12)
theorem sc_Exact_ge : FnScope ["self", "other", "over", "under"] ["self", "other"] (defScope s_Exact_ge) :=
  ⟨rfl, rfl, rfl, by decide +kernel, rfl, by decide +kernel, by decide +kernel⟩
abbrev s_divisor : Stmt := (top 11)
theorem sc_divisor : FnScope ["one", "other"] ["one", "other"] (defScope s_divisor) :=
  ⟨rfl, rfl, rfl, by decide +kernel, rfl, by decide +kernel, by decide +kernel⟩
abbrev s_is_number : Stmt := (top 12)
theorem sc_is_number : FnScope ["thing"] ["thing"] (defScope s_is_number) :=
  ⟨rfl, rfl, rfl, by decide +kernel, rfl, by decide +kernel, by decide +kernel⟩
abbrev s_parts : Stmt := (top 13)
theorem sc_parts : FnScope ["number"] ["number"] (defScope s_parts) :=
  ⟨rfl, rfl, rfl, by decide +kernel, rfl, by decide +kernel, by decide +kernel⟩
abbrev s_plain : Stmt := (top 14)
theorem sc_plain : FnScope ["number", "over", "under"] ["number"] (defScope s_plain) :=
  ⟨rfl, rfl, rfl, by decide +kernel, rfl, by decide +kernel, by decide +kernel⟩
abbrev s_quotient : Stmt := (top 15)
theorem sc_quotient : FnScope ["one", "other", "over", "under", "below", "above"] ["one", "other"] (defScope s_quotient) :=
  ⟨rfl, rfl, rfl, by decide +kernel, rfl, by decide +kernel, by decide +kernel⟩
abbrev s_copied : Stmt := (top 17)
theorem sc_copied : FnScope ["row", "part"] ["row"] (defScope s_copied) :=
  ⟨rfl, rfl, rfl, by decide +kernel, rfl, by decide +kernel, by decide +kernel⟩
abbrev s_Line_init : Stmt := (inClass (top 19) 0)
theorem sc_Line_init : FnScope ["self", "points"] ["self", "points"] (defScope s_Line_init) :=
  ⟨rfl, rfl, rfl, by decide +kernel, rfl, by decide +kernel, by decide +kernel⟩
abbrev s_Line_call : Stmt := (inClass (top 19) 1)
theorem sc_Line_call : FnScope ["self", "moment"] ["self", "moment"] (defScope s_Line_call) :=
  ⟨rfl, rfl, rfl, by decide +kernel, rfl, by decide +kernel, by decide +kernel⟩
abbrev s_Line_eq : Stmt := (inClass (top 19) 2)
theorem sc_Line_eq : FnScope ["self", "other"] ["self", "other"] (defScope s_Line_eq) :=
  ⟨rfl, rfl, rfl, by decide +kernel, rfl, by decide +kernel, by decide +kernel⟩
abbrev s_Line_points : Stmt := (inClass (top 19) 3)
theorem sc_Line_points : FnScope ["self", "spot"] ["self"] (defScope s_Line_points) :=
  ⟨rfl, rfl, rfl, by decide +kernel, rfl, by decide +kernel, by decide +kernel⟩
abbrev s_checked_points : Stmt := (top 20)
theorem sc_checked_points : FnScope ["things", "spots", "index", "thing"] ["things"] (defScope s_checked_points) :=
  ⟨rfl, rfl, rfl, by decide +kernel, rfl, by decide +kernel, by decide +kernel⟩
abbrev s_is_point : Stmt := (top 21)
theorem sc_is_point : FnScope ["thing"] ["thing"] (defScope s_is_point) :=
  ⟨rfl, rfl, rfl, by decide +kernel, rfl, by decide +kernel, by decide +kernel⟩
abbrev s_bent : Stmt := (top 22)
theorem sc_bent : FnScope ["spots", "kept", "spot", "following"] ["spots"] (defScope s_bent) :=
  ⟨rfl, rfl, rfl, by decide +kernel, rfl, by decide +kernel, by decide +kernel⟩
abbrev s_is_straight : Stmt := (top 23)
theorem sc_is_straight : FnScope ["one", "two", "three", "ahead", "behind"] ["one", "two", "three"] (defScope s_is_straight) :=
  ⟨rfl, rfl, rfl, by decide +kernel, rfl, by decide +kernel, by decide +kernel⟩
abbrev s_heights_at : Stmt := (top 24)
theorem sc_heights_at : FnScope ["spots", "moments", "heights", "at", "moment"] ["spots", "moments"] (defScope s_heights_at) :=
  ⟨rfl, rfl, rfl, by decide +kernel, rfl, by decide +kernel, by decide +kernel⟩
abbrev s_height_between : Stmt := (top 25)
theorem sc_height_between : FnScope ["one", "other", "moment", "since", "height", "until", "last"] ["one", "other", "moment"] (defScope s_height_between) :=
  ⟨rfl, rfl, rfl, by decide +kernel, rfl, by decide +kernel, by decide +kernel⟩
abbrev s_law_fresh : Stmt := (top 27)
theorem sc_law_fresh : FnScope ["_law_script"] ["_law_script"] (defScope s_law_fresh) :=
  ⟨rfl, rfl, rfl, by decide +kernel, rfl, by decide +kernel, by decide +kernel⟩
abbrev s_law_fill : Stmt := (top 28)
theorem sc_law_fill : FnScope ["_law_state", "_law_cells", "_law_nth", "_law_seed", "_law_k", "_law_prime", "_law_far"] ["_law_state"] (defScope s_law_fill) :=
  ⟨rfl, rfl, rfl, by decide +kernel, rfl, by decide +kernel, by decide +kernel⟩
abbrev s_law_take : Stmt := (top 29)
theorem sc_law_take : FnScope ["_law_state", "_law_many", "_law_laps", "_law_digit"] ["_law_state", "_law_many"] (defScope s_law_take) :=
  ⟨rfl, rfl, rfl, by decide +kernel, rfl, by decide +kernel, by decide +kernel⟩
abbrev s_law_handed : Stmt := (top 30)
theorem sc_law_handed : FnScope ["_law_state", "_law_things"] ["_law_state", "_law_things"] (defScope s_law_handed) :=
  ⟨rfl, rfl, rfl, by decide +kernel, rfl, by decide +kernel, by decide +kernel⟩
abbrev s_law_same : Stmt := (top 31)
theorem sc_law_same : FnScope ["_law_found", "_law_due", "_law_a", "_law_b"] ["_law_found", "_law_due"] (defScope s_law_same) :=
  ⟨rfl, rfl, rfl, by decide +kernel, rfl, by decide +kernel, by decide +kernel⟩
abbrev s_law_spoil : Stmt := (top 32)
theorem sc_law_spoil : FnScope ["_law_x", "_law_y"] ["_law_x"] (defScope s_law_spoil) :=
  ⟨rfl, rfl, rfl, by decide +kernel, rfl, by decide +kernel, by decide +kernel⟩
abbrev s_law_gcd : Stmt := (top 33)
theorem sc_law_gcd : FnScope ["_law_a", "_law_b"] ["_law_a", "_law_b"] (defScope s_law_gcd) :=
  ⟨rfl, rfl, rfl, by decide +kernel, rfl, by decide +kernel, by decide +kernel⟩
abbrev s_law_frac : Stmt := (top 34)
theorem sc_law_frac : FnScope ["_law_over", "_law_under", "_law_whole"] ["_law_over", "_law_under"] (defScope s_law_frac) :=
  ⟨rfl, rfl, rfl, by decide +kernel, rfl, by decide +kernel, by decide +kernel⟩
abbrev s_law_add : Stmt := (top 35)
theorem sc_law_add : FnScope ["_law_a", "_law_b"] ["_law_a", "_law_b"] (defScope s_law_add) :=
  ⟨rfl, rfl, rfl, by decide +kernel, rfl, by decide +kernel, by decide +kernel⟩
abbrev s_law_mul : Stmt := (top 36)
theorem sc_law_mul : FnScope ["_law_a", "_law_b"] ["_law_a", "_law_b"] (defScope s_law_mul) :=
  ⟨rfl, rfl, rfl, by decide +kernel, rfl, by decide +kernel, by decide +kernel⟩
abbrev s_law_less : Stmt := (top 37)
theorem sc_law_less : FnScope ["_law_a", "_law_b"] ["_law_a", "_law_b"] (defScope s_law_less) :=
  ⟨rfl, rfl, rfl, by decide +kernel, rfl, by decide +kernel, by decide +kernel⟩
abbrev s_law_as_number : Stmt := (top 38)
theorem sc_law_as_number : FnScope ["_law_state", "_law_a", "_law_far"] ["_law_state", "_law_a"] (defScope s_law_as_number) :=
  ⟨rfl, rfl, rfl, by decide +kernel, rfl, by decide +kernel, by decide +kernel⟩
abbrev s_law_plain : Stmt := (top 39)
theorem sc_law_plain : FnScope ["_law_a"] ["_law_a"] (defScope s_law_plain) :=
  ⟨rfl, rfl, rfl, by decide +kernel, rfl, by decide +kernel, by decide +kernel⟩
abbrev s_law_is_told : Stmt := (top 40)
theorem sc_law_is_told : FnScope ["_law_x", "_law_due", "_law_a", "_law_b"] ["_law_x", "_law_due"] (defScope s_law_is_told) :=
  ⟨rfl, rfl, rfl, by decide +kernel, rfl, by decide +kernel, by decide +kernel⟩
abbrev s_law_on : Stmt := (top 41)
theorem sc_law_on : FnScope ["_law_course", "_law_t", "_law_k", "_law_a", "_law_x", "_law_b", "_law_y", "_law_one", "_law_whole", "_law_share"] ["_law_course", "_law_t"] (defScope s_law_on) :=
  ⟨rfl, rfl, rfl, by decide +kernel, rfl, by decide +kernel, by decide +kernel⟩
abbrev s_law_course_of : Stmt := (top 42)
theorem sc_law_course_of : FnScope ["_law_state", "_law_t", "_law_x", "_law_found", "_law_tilt", "_law_k", "_law_span"] ["_law_state"] (defScope s_law_course_of) :=
  ⟨rfl, rfl, rfl, by decide +kernel, rfl, by decide +kernel, by decide +kernel⟩
abbrev s_law_bends : Stmt := (top 43)
theorem sc_law_bends : FnScope ["_law_course", "_law_found", "_law_k", "_law_far"] ["_law_course"] (defScope s_law_bends) :=
  ⟨rfl, rfl, rfl, by decide +kernel, rfl, by decide +kernel, by decide +kernel⟩
abbrev s_law : Stmt := (top 44)
theorem sc_law : FnScope ["_law_script", "_law_state", "_law_turn", "_law_course", "_law_given", "_law_line", "_law_due", "_law_a", "_law_b", "_law_k", "_law_share", "_law_t", "_law_other", "_law_moved", "_law_x", "_law_y"] ["_law_script"] (defScope s_law) :=
  ⟨rfl, rfl, rfl, by decide +kernel, rfl, by decide +kernel, by decide +kernel⟩
structure Tx (K : PySem.W.Frag) (mg : Str → Option Value) where
  LevelError_a : Addr
  LevelError_m : mg "LevelError" = some (.ref LevelError_a)
  LevelError_e : ErrT K LevelError_a LevelError_a
  BadPoint_a : Addr
  BadPoint_m : mg "BadPoint" = some (.ref BadPoint_a)
  BadPoint_e : ErrT K LevelError_a BadPoint_a
  BadPoint_n_index : PySem.W.findIn K (.ref BadPoint_a) "index" = some none
  BadMoment_a : Addr
  BadMoment_m : mg "BadMoment" = some (.ref BadMoment_a)
  BadMoment_e : ErrT K LevelError_a BadMoment_a
  BadMoment_n_moment : PySem.W.findIn K (.ref BadMoment_a) "moment" = some none
  E_g : ErrG K
  E_nd : List.Nodup [LevelError_a, BadPoint_a, BadMoment_a]
  E_v : PySem.W.findCls K (.type "ValueError") (.type "type") "__init__" = some (.val (.builtin "ValueError.__init__"))
  Exact_a : Addr
  Exact_m : mg "Exact" = some (.ref Exact_a)
  Exact_cl : Cls K Exact_a
  Exact_n_over : NoAttr K Exact_a "over"
  Exact_n_under : NoAttr K Exact_a "under"
  Exact_i1 : PySem.W.findIn K (.ref Exact_a) "__class__" = some (some (.builtin "object.__class__"))
  Exact_i2 : PySem.W.specialIn K (.builtin "object.__class__") "__get__" = some (some (.builtin "getset_descriptor.__get__"))
  Exact_i3 : PySem.W.takesIn K (.builtin "object.__class__") = some true
  Exact_i4 : PySem.W.mroIn K Exact_a (.type "object") = some true
  Exact_k0 : PySem.W.kitOne K (.ref Exact_a) (.ref Exact_a) = some true
  Exact_kt_int : PySem.W.kitOne K (.type "int") (.ref Exact_a) = some false
  Exact_ko_int : PySem.W.kitOne K (.ref Exact_a) (.type "int") = some false
  Exact_up_int : PySem.W.subIn K (.type "int") (.ref Exact_a) = some false
  Exact_dn_int : PySem.W.subIn K (.ref Exact_a) (.type "int") = some false
  Exact_kt_bool : PySem.W.kitOne K (.type "bool") (.ref Exact_a) = some false
  Exact_ko_bool : PySem.W.kitOne K (.ref Exact_a) (.type "bool") = some false
  Exact_kt_str : PySem.W.kitOne K (.type "str") (.ref Exact_a) = some false
  Exact_kt_list : PySem.W.kitOne K (.type "list") (.ref Exact_a) = some false
  Exact_ko_list : PySem.W.kitOne K (.ref Exact_a) (.type "list") = some false
  Exact_kt_tuple : PySem.W.kitOne K (.type "tuple") (.ref Exact_a) = some false
  Exact_ko_tuple : PySem.W.kitOne K (.ref Exact_a) (.type "tuple") = some false
  Exact_kt_NoneType : PySem.W.kitOne K (.type "NoneType") (.ref Exact_a) = some false
  Line_a : Addr
  Line_m : mg "Line" = some (.ref Line_a)
  Line_cl : Cls K Line_a
  Line_n_spots : NoAttr K Line_a "spots"
  Line_i1 : PySem.W.findIn K (.ref Line_a) "__class__" = some (some (.builtin "object.__class__"))
  Line_i2 : PySem.W.specialIn K (.builtin "object.__class__") "__get__" = some (some (.builtin "getset_descriptor.__get__"))
  Line_i3 : PySem.W.takesIn K (.builtin "object.__class__") = some true
  Line_i4 : PySem.W.mroIn K Line_a (.type "object") = some true
  Line_ne : PySem.W.findIn K (.ref Line_a) "__ne__" = some (some (.builtin "object.__ne__"))
  Line_k0 : PySem.W.kitOne K (.ref Line_a) (.ref Line_a) = some true
  Line_kt_int : PySem.W.kitOne K (.type "int") (.ref Line_a) = some false
  Line_up_int : PySem.W.subIn K (.type "int") (.ref Line_a) = some false
  Line_kt_list : PySem.W.kitOne K (.type "list") (.ref Line_a) = some false
  Line_up_list : PySem.W.subIn K (.type "list") (.ref Line_a) = some false
  Line_kt_dict : PySem.W.kitOne K (.type "dict") (.ref Line_a) = some false
  Line_up_dict : PySem.W.subIn K (.type "dict") (.ref Line_a) = some false
  Line_kt_NoneType : PySem.W.kitOne K (.type "NoneType") (.ref Line_a) = some false
  Line_up_NoneType : PySem.W.subIn K (.type "NoneType") (.ref Line_a) = some false
  BadPoint_init_a : Addr
  BadPoint_init_d : FuncData
  BadPoint_init_F : Fun K "__init__" "BadPoint.__init__" s_BadPoint_init BadPoint_init_a BadPoint_init_d
  BadPoint_init_b : Binds K BadPoint_init_d ["self", "index"] []
  BadPoint_init_M : Meth K BadPoint_a "__init__" BadPoint_init_a
  BadPoint_init_kb : KwB K BadPoint_init_d ["self", "index"] "index"
  BadMoment_init_a : Addr
  BadMoment_init_d : FuncData
  BadMoment_init_F : Fun K "__init__" "BadMoment.__init__" s_BadMoment_init BadMoment_init_a BadMoment_init_d
  BadMoment_init_b : Binds K BadMoment_init_d ["self", "moment"] []
  BadMoment_init_M : Meth K BadMoment_a "__init__" BadMoment_init_a
  BadMoment_init_kb : KwB K BadMoment_init_d ["self", "moment"] "moment"
  is_whole_a : Addr
  is_whole_d : FuncData
  is_whole_F : Fun K "is_whole" "is_whole" s_is_whole is_whole_a is_whole_d
  is_whole_b : Binds K is_whole_d ["thing"] []
  is_whole_m : mg "is_whole" = some (.ref is_whole_a)
  is_list_a : Addr
  is_list_d : FuncData
  is_list_F : Fun K "is_list" "is_list" s_is_list is_list_a is_list_d
  is_list_b : Binds K is_list_d ["thing"] []
  is_list_m : mg "is_list" = some (.ref is_list_a)
  Exact_init_a : Addr
  Exact_init_d : FuncData
  Exact_init_F : FunD K "__init__" "Exact.__init__" (defArgs s_Exact_init) (defBody s_Exact_init) (defScope s_Exact_init) [V.int 1] [] Exact_init_a Exact_init_d
  Exact_init_b : Binds K Exact_init_d ["self", "over", "under"] []
  Exact_init_M : Meth K Exact_a "__init__" Exact_init_a
  Exact_mk : Mk K Exact_a Exact_init_a
  Exact_add_a : Addr
  Exact_add_d : FuncData
  Exact_add_F : Fun K "__add__" "Exact.__add__" s_Exact_add Exact_add_a Exact_add_d
  Exact_add_b : Binds K Exact_add_d ["self", "other"] []
  Exact_add_M : Meth K Exact_a "__add__" Exact_add_a
  Exact_radd_a : Addr
  Exact_radd_d : FuncData
  Exact_radd_F : Fun K "__radd__" "Exact.__radd__" s_Exact_radd Exact_radd_a Exact_radd_d
  Exact_radd_b : Binds K Exact_radd_d ["self", "other"] []
  Exact_radd_M : Meth K Exact_a "__radd__" Exact_radd_a
  Exact_sub_a : Addr
  Exact_sub_d : FuncData
  Exact_sub_F : Fun K "__sub__" "Exact.__sub__" s_Exact_sub Exact_sub_a Exact_sub_d
  Exact_sub_b : Binds K Exact_sub_d ["self", "other"] []
  Exact_sub_M : Meth K Exact_a "__sub__" Exact_sub_a
  Exact_rsub_a : Addr
  Exact_rsub_d : FuncData
  Exact_rsub_F : Fun K "__rsub__" "Exact.__rsub__" s_Exact_rsub Exact_rsub_a Exact_rsub_d
  Exact_rsub_b : Binds K Exact_rsub_d ["self", "other"] []
  Exact_rsub_M : Meth K Exact_a "__rsub__" Exact_rsub_a
  Exact_mul_a : Addr
  Exact_mul_d : FuncData
  Exact_mul_F : Fun K "__mul__" "Exact.__mul__" s_Exact_mul Exact_mul_a Exact_mul_d
  Exact_mul_b : Binds K Exact_mul_d ["self", "other"] []
  Exact_mul_M : Meth K Exact_a "__mul__" Exact_mul_a
  Exact_rmul_a : Addr
  Exact_rmul_d : FuncData
  Exact_rmul_F : Fun K "__rmul__" "Exact.__rmul__" s_Exact_rmul Exact_rmul_a Exact_rmul_d
  Exact_rmul_b : Binds K Exact_rmul_d ["self", "other"] []
  Exact_rmul_M : Meth K Exact_a "__rmul__" Exact_rmul_a
  Exact_neg_a : Addr
  Exact_neg_d : FuncData
  Exact_neg_F : Fun K "__neg__" "Exact.__neg__" s_Exact_neg Exact_neg_a Exact_neg_d
  Exact_neg_b : Binds K Exact_neg_d ["self"] []
  Exact_neg_M : Meth K Exact_a "__neg__" Exact_neg_a
  Exact_eq_a : Addr
  Exact_eq_d : FuncData
  Exact_eq_F : Fun K "__eq__" "Exact.__eq__" s_Exact_eq Exact_eq_a Exact_eq_d
  Exact_eq_b : Binds K Exact_eq_d ["self", "other"] []
  Exact_eq_M : Meth K Exact_a "__eq__" Exact_eq_a
  Exact_lt_a : Addr
  Exact_lt_d : FuncData
  Exact_lt_F : Fun K "__lt__" "Exact.__lt__" s_Exact_lt Exact_lt_a Exact_lt_d
  Exact_lt_b : Binds K Exact_lt_d ["self", "other"] []
  Exact_lt_M : Meth K Exact_a "__lt__" Exact_lt_a
  Exact_le_a : Addr
  Exact_le_d : FuncData
  Exact_le_F : Fun K "__le__" "Exact.__le__" s_Exact_le Exact_le_a Exact_le_d
  Exact_le_b : Binds K Exact_le_d ["self", "other"] []
  Exact_le_M : Meth K Exact_a "__le__" Exact_le_a
  Exact_gt_a : Addr
  Exact_gt_d : FuncData
  Exact_gt_F : Fun K "__gt__" "Exact.__gt__" s_Exact_gt Exact_gt_a Exact_gt_d
  Exact_gt_b : Binds K Exact_gt_d ["self", "other"] []
  Exact_gt_M : Meth K Exact_a "__gt__" Exact_gt_a
  Exact_ge_a : Addr
  Exact_ge_d : FuncData
  Exact_ge_F : Fun K "__ge__" "Exact.__ge__" s_Exact_ge Exact_ge_a Exact_ge_d
  Exact_ge_b : Binds K Exact_ge_d ["self", "other"] []
  Exact_ge_M : Meth K Exact_a "__ge__" Exact_ge_a
  divisor_a : Addr
  divisor_d : FuncData
  divisor_F : Fun K "divisor" "divisor" s_divisor divisor_a divisor_d
  divisor_b : Binds K divisor_d ["one", "other"] []
  divisor_m : mg "divisor" = some (.ref divisor_a)
  is_number_a : Addr
  is_number_d : FuncData
  is_number_F : Fun K "is_number" "is_number" s_is_number is_number_a is_number_d
  is_number_b : Binds K is_number_d ["thing"] []
  is_number_m : mg "is_number" = some (.ref is_number_a)
  parts_a : Addr
  parts_d : FuncData
  parts_F : Fun K "parts" "parts" s_parts parts_a parts_d
  parts_b : Binds K parts_d ["number"] []
  parts_m : mg "parts" = some (.ref parts_a)
  plain_a : Addr
  plain_d : FuncData
  plain_F : Fun K "plain" "plain" s_plain plain_a plain_d
  plain_b : Binds K plain_d ["number"] []
  plain_m : mg "plain" = some (.ref plain_a)
  quotient_a : Addr
  quotient_d : FuncData
  quotient_F : Fun K "quotient" "quotient" s_quotient quotient_a quotient_d
  quotient_b : Binds K quotient_d ["one", "other"] []
  quotient_m : mg "quotient" = some (.ref quotient_a)
  copied_a : Addr
  copied_d : FuncData
  copied_F : Fun K "copied" "copied" s_copied copied_a copied_d
  copied_b : Binds K copied_d ["row"] []
  copied_m : mg "copied" = some (.ref copied_a)
  Line_init_a : Addr
  Line_init_d : FuncData
  Line_init_F : Fun K "__init__" "Line.__init__" s_Line_init Line_init_a Line_init_d
  Line_init_b : Binds K Line_init_d ["self", "points"] []
  Line_init_M : Meth K Line_a "__init__" Line_init_a
  Line_mk : Mk K Line_a Line_init_a
  Line_call_a : Addr
  Line_call_d : FuncData
  Line_call_F : Fun K "__call__" "Line.__call__" s_Line_call Line_call_a Line_call_d
  Line_call_b : Binds K Line_call_d ["self", "moment"] []
  Line_call_M : Meth K Line_a "__call__" Line_call_a
  Line_call_O : StX.CallO K Line_a Line_call_a
  Line_eq_a : Addr
  Line_eq_d : FuncData
  Line_eq_F : Fun K "__eq__" "Line.__eq__" s_Line_eq Line_eq_a Line_eq_d
  Line_eq_b : Binds K Line_eq_d ["self", "other"] []
  Line_eq_M : Meth K Line_a "__eq__" Line_eq_a
  Line_points_a : Addr
  Line_points_d : FuncData
  Line_points_F : Fun K "points" "Line.points" s_Line_points Line_points_a Line_points_d
  Line_points_b : Binds K Line_points_d ["self"] []
  Line_points_M : Meth K Line_a "points" Line_points_a
  checked_points_a : Addr
  checked_points_d : FuncData
  checked_points_F : Fun K "checked_points" "checked_points" s_checked_points checked_points_a checked_points_d
  checked_points_b : Binds K checked_points_d ["things"] []
  checked_points_m : mg "checked_points" = some (.ref checked_points_a)
  is_point_a : Addr
  is_point_d : FuncData
  is_point_F : Fun K "is_point" "is_point" s_is_point is_point_a is_point_d
  is_point_b : Binds K is_point_d ["thing"] []
  is_point_m : mg "is_point" = some (.ref is_point_a)
  bent_a : Addr
  bent_d : FuncData
  bent_F : Fun K "bent" "bent" s_bent bent_a bent_d
  bent_b : Binds K bent_d ["spots"] []
  bent_m : mg "bent" = some (.ref bent_a)
  is_straight_a : Addr
  is_straight_d : FuncData
  is_straight_F : Fun K "is_straight" "is_straight" s_is_straight is_straight_a is_straight_d
  is_straight_b : Binds K is_straight_d ["one", "two", "three"] []
  is_straight_m : mg "is_straight" = some (.ref is_straight_a)
  heights_at_a : Addr
  heights_at_d : FuncData
  heights_at_F : Fun K "heights_at" "heights_at" s_heights_at heights_at_a heights_at_d
  heights_at_b : Binds K heights_at_d ["spots", "moments"] []
  heights_at_m : mg "heights_at" = some (.ref heights_at_a)
  height_between_a : Addr
  height_between_d : FuncData
  height_between_F : Fun K "height_between" "height_between" s_height_between height_between_a height_between_d
  height_between_b : Binds K height_between_d ["one", "other", "moment"] []
  height_between_m : mg "height_between" = some (.ref height_between_a)
  law_fresh_a : Addr
  law_fresh_d : FuncData
  law_fresh_F : Fun K "_law_fresh" "_law_fresh" s_law_fresh law_fresh_a law_fresh_d
  law_fresh_b : Binds K law_fresh_d ["_law_script"] []
  law_fresh_m : mg "_law_fresh" = some (.ref law_fresh_a)
  law_fill_a : Addr
  law_fill_d : FuncData
  law_fill_F : Fun K "_law_fill" "_law_fill" s_law_fill law_fill_a law_fill_d
  law_fill_b : Binds K law_fill_d ["_law_state"] []
  law_fill_m : mg "_law_fill" = some (.ref law_fill_a)
  law_take_a : Addr
  law_take_d : FuncData
  law_take_F : Fun K "_law_take" "_law_take" s_law_take law_take_a law_take_d
  law_take_b : Binds K law_take_d ["_law_state", "_law_many"] []
  law_take_m : mg "_law_take" = some (.ref law_take_a)
  law_handed_a : Addr
  law_handed_d : FuncData
  law_handed_F : Fun K "_law_handed" "_law_handed" s_law_handed law_handed_a law_handed_d
  law_handed_b : Binds K law_handed_d ["_law_state", "_law_things"] []
  law_handed_m : mg "_law_handed" = some (.ref law_handed_a)
  law_same_a : Addr
  law_same_d : FuncData
  law_same_F : Fun K "_law_same" "_law_same" s_law_same law_same_a law_same_d
  law_same_b : Binds K law_same_d ["_law_found", "_law_due"] []
  law_same_m : mg "_law_same" = some (.ref law_same_a)
  law_spoil_a : Addr
  law_spoil_d : FuncData
  law_spoil_F : Fun K "_law_spoil" "_law_spoil" s_law_spoil law_spoil_a law_spoil_d
  law_spoil_b : Binds K law_spoil_d ["_law_x"] []
  law_spoil_m : mg "_law_spoil" = some (.ref law_spoil_a)
  law_gcd_a : Addr
  law_gcd_d : FuncData
  law_gcd_F : Fun K "_law_gcd" "_law_gcd" s_law_gcd law_gcd_a law_gcd_d
  law_gcd_b : Binds K law_gcd_d ["_law_a", "_law_b"] []
  law_gcd_m : mg "_law_gcd" = some (.ref law_gcd_a)
  law_frac_a : Addr
  law_frac_d : FuncData
  law_frac_F : Fun K "_law_frac" "_law_frac" s_law_frac law_frac_a law_frac_d
  law_frac_b : Binds K law_frac_d ["_law_over", "_law_under"] []
  law_frac_m : mg "_law_frac" = some (.ref law_frac_a)
  law_add_a : Addr
  law_add_d : FuncData
  law_add_F : Fun K "_law_add" "_law_add" s_law_add law_add_a law_add_d
  law_add_b : Binds K law_add_d ["_law_a", "_law_b"] []
  law_add_m : mg "_law_add" = some (.ref law_add_a)
  law_mul_a : Addr
  law_mul_d : FuncData
  law_mul_F : Fun K "_law_mul" "_law_mul" s_law_mul law_mul_a law_mul_d
  law_mul_b : Binds K law_mul_d ["_law_a", "_law_b"] []
  law_mul_m : mg "_law_mul" = some (.ref law_mul_a)
  law_less_a : Addr
  law_less_d : FuncData
  law_less_F : Fun K "_law_less" "_law_less" s_law_less law_less_a law_less_d
  law_less_b : Binds K law_less_d ["_law_a", "_law_b"] []
  law_less_m : mg "_law_less" = some (.ref law_less_a)
  law_as_number_a : Addr
  law_as_number_d : FuncData
  law_as_number_F : Fun K "_law_as_number" "_law_as_number" s_law_as_number law_as_number_a law_as_number_d
  law_as_number_b : Binds K law_as_number_d ["_law_state", "_law_a"] []
  law_as_number_m : mg "_law_as_number" = some (.ref law_as_number_a)
  law_plain_a : Addr
  law_plain_d : FuncData
  law_plain_F : Fun K "_law_plain" "_law_plain" s_law_plain law_plain_a law_plain_d
  law_plain_b : Binds K law_plain_d ["_law_a"] []
  law_plain_m : mg "_law_plain" = some (.ref law_plain_a)
  law_is_told_a : Addr
  law_is_told_d : FuncData
  law_is_told_F : Fun K "_law_is_told" "_law_is_told" s_law_is_told law_is_told_a law_is_told_d
  law_is_told_b : Binds K law_is_told_d ["_law_x", "_law_due"] []
  law_is_told_m : mg "_law_is_told" = some (.ref law_is_told_a)
  law_on_a : Addr
  law_on_d : FuncData
  law_on_F : Fun K "_law_on" "_law_on" s_law_on law_on_a law_on_d
  law_on_b : Binds K law_on_d ["_law_course", "_law_t"] []
  law_on_m : mg "_law_on" = some (.ref law_on_a)
  law_course_of_a : Addr
  law_course_of_d : FuncData
  law_course_of_F : Fun K "_law_course_of" "_law_course_of" s_law_course_of law_course_of_a law_course_of_d
  law_course_of_b : Binds K law_course_of_d ["_law_state"] []
  law_course_of_m : mg "_law_course_of" = some (.ref law_course_of_a)
  law_bends_a : Addr
  law_bends_d : FuncData
  law_bends_F : Fun K "_law_bends" "_law_bends" s_law_bends law_bends_a law_bends_d
  law_bends_b : Binds K law_bends_d ["_law_course"] []
  law_bends_m : mg "_law_bends" = some (.ref law_bends_a)
  law_a : Addr
  law_d : FuncData
  law_F : Fun K "law" "law" s_law law_a law_d
  law_b : Binds K law_d ["_law_script"] []
  law_m : mg "law" = some (.ref law_a)
  z_abs : mg "abs" = none
  z_all : mg "all" = none
  z_any : mg "any" = none
  z_bool : mg "bool" = none
  z_enumerate : mg "enumerate" = none
  z_int : mg "int" = none
  z_isinstance : mg "isinstance" = none
  z_len : mg "len" = none
  z_list : mg "list" = none
  z_range : mg "range" = none
  z_tuple : mg "tuple" = none
  z_zip : mg "zip" = none
  op_add : GyOp K Exact_a .Add Exact_add_a Exact_radd_a
  op_sub : GyOp K Exact_a .Sub Exact_sub_a Exact_rsub_a
  op_mul : GyOp K Exact_a .Mult Exact_mul_a Exact_rmul_a
  Line_ne_Exact : Line_a ≠ Exact_a


section
variable {P : Program} {w : World} {K : PySem.W.Frag} {mg : Str → Option Value} {base : Heap}
/-! ### numbers: is_whole, parts, divisor, Exact -/
/-- an Exact's attributes -/
def exF (p q : V) : List (Str × V) := [(("over" : Str), p), (("under" : Str), q)]
/-- an Exact stands at v -/
def ExAt (C : Addr) (H : Hp) (v : V) (p : Int × Int) : Prop := ∃ a dx, v = .ref a ∧ H a = some (.ins C dx (exF (.int p.1) (.int p.2)))
/-- a number as it is passed -/
def NumAt (C : Addr) (H : Hp) (v : V) (p : Int × Int) : Prop := (v = .int p.1 ∧ p.2 = 1) ∨ ExAt C H v p
theorem ExAt.same {C : Addr} {H H' : Hp} {v : V} {p : Int × Int} (h : ExAt C H v p) (e : Same H H') : ExAt C H' v p := let ⟨a, dx, r, z⟩ := h; ⟨a, dx, r, e _ _ z⟩
theorem NumAt.same {C : Addr} {H H' : Hp} {v : V} {p : Int × Int} (h : NumAt C H v p) (e : Same H H') : NumAt C H' v p := h.elim .inl fun z => .inr (z.same e)
theorem fl_ne : ¬ (("over" : Str) = "under") := by decide +kernel
theorem fl_eq (p q : V) : putF "under" q (putF "over" p []) = exF p q := by
  show (if ("over" : Str) = "under" then [(("over" : Str), q)] else (("over" : Str), p) :: putF "under" q []) = ([(("over" : Str), p), (("under" : Str), q)] : List (Str × V))
  rw [if_neg fl_ne]
  all_goals rfl
theorem fl_over {x y : V} : (exF x y).lookup ("over" : Str) = some x := by
  rw [← fl_eq, lookup_putF, if_neg fl_ne, lookup_putF, if_pos rfl]
theorem fl_under {x y : V} : (exF x y).lookup ("under" : Str) = some y := by
  rw [← fl_eq, lookup_putF, if_pos rfl]
theorem fl_no {x y : V} {m : Str} (h1 : ¬ m = "over") (h2 : ¬ m = "under") : (exF x y).lookup m = none := by
  rw [← fl_eq, lookup_putF, if_neg h2, lookup_putF, if_neg h1]
  all_goals rfl
/-- no number -/
def NoNum (K : PySem.W.Frag) (C : Addr) (H : Hp) (v : V) : Prop := ∃ t b, TyX K H v t ∧ PySem.W.kitOne K t (.type "int") = some b ∧ (b = true → PySem.W.kitOne K t (.type "bool") = some true) ∧ PySem.W.kitOne K t (.ref C) = some false
/-- an int, an Exact, no number: whether it is an int -/
def spWhole (K : PySem.W.Frag) (C : Addr) : Sp := fun vs H Q _ => ∃ v, vs = [v] ∧ ((∃ i, v = .int i) ∧ Q (.bl true) H ∨ (∃ p, ExAt C H v p) ∧ Q (.bl false) H ∨ NoNum K C H v ∧ Q (.bl false) H)
theorem ok_is_whole (T : Tx K mg) : FnOk P w K mg base CX0 1 T.is_whole_a T.is_whole_d ["thing"] (spWhole K T.Exact_a) := by
  refine T.is_whole_F.ok sc_is_whole (fun vs H Q E h => ?_) (fun cdv A outer s H vs Q E hr h => ?_)
  · obtain ⟨v, rfl, _⟩ := h
    rfl
  · obtain ⟨v, rfl, h⟩ := h
    refine ⟨_, (pss_one (ps_ret (pe_and (pe_callB call_isi (by rfl) T.z_isinstance (by decide +kernel) (pa_cons (pv 0) (pa_cons (pe_bltn (v := .ty "int") (by rfl) T.z_int (by decide +kernel) rfl) pa_nil))) (pe_one (pe_not (pe_callB call_isi (by rfl) T.z_isinstance (by decide +kernel) (pa_cons (pv 0) (pa_cons (pe_bltn (v := .ty "bool") (by rfl) T.z_bool (by decide +kernel) rfl) pa_nil)))))))), ?_⟩
    rcases h with ⟨⟨i, rfl⟩, k⟩ | ⟨⟨p, a, dx, rfl, ha⟩, k⟩ | ⟨⟨t, b, ty, ki, kb, _⟩, k⟩
    · refine ⟨_, rfl, _, _, _, _, true, rfl, .ty "int", .base (.int i), kit_ty (by decide +kernel), true, rfl, ?_⟩
      refine iteT ?_
      refine ⟨_, rfl, _, _, _, _, false, rfl, .ty "bool", .base (.int i), kit_ty (by decide +kernel), false, rfl, k⟩
    · refine ⟨_, rfl, _, _, _, _, false, rfl, .ty "int", .base (.ins ha T.Exact_cl T.Exact_i1 T.Exact_i2 T.Exact_i3 T.Exact_i4), T.Exact_ko_int, false, rfl, ?_⟩
      exact iteF k
    · refine ⟨_, rfl, _, _, _, _, b, rfl, .ty "int", ty, ki, b, rfl, ?_⟩
      cases b with
      | false => exact iteF k
      | true =>
        refine iteT ?_
        exact ⟨_, rfl, _, _, _, _, true, rfl, .ty "bool", ty, kb rfl, true, rfl, k⟩
/-- the greatest common part of two ints that are not below 0 -/
def spDivisor : Sp := fun vs H Q _ => ∃ a b : Int, vs = [.int a, .int b] ∧ 0 ≤ a ∧ 0 ≤ b ∧ Q (.int (Int.gcd a b)) H
theorem ok_divisor (T : Tx K mg) : FnOk P w K mg base CX0 1 T.divisor_a T.divisor_d ["one", "other"] spDivisor := by
  refine T.divisor_F.ok sc_divisor (fun vs H Q E h => ?_) (fun cdv A outer s H vs Q E hr h => ?_)
  · obtain ⟨a, b, rfl, _⟩ := h
    rfl
  · obtain ⟨a, b, rfl, ha, hb, k⟩ := h
    refine ⟨_, (pss_cons (ps_while PassesOwn.never (pt_cmpR op_ne (pv 1) pe_int (nomark _))
  (pss_one (ps_par (i := 0) (j := 1) (by rfl) sc_divisor.nd rfl rfl (by decide) rfl rfl (pa_cons (pv 1) (pa_cons (pe_op (op_modN) (pv 0) (pv 1)) pa_nil)) (by rfl))))
  (pss_one (ps_ret (pv 0)))), ?_⟩
    refine ⟨fun m σ H' => ∃ x y : Int, σ = [some (.int x), some (.int y)] ∧ 0 ≤ x ∧ 0 ≤ y ∧ Int.gcd x y = Int.gcd a b ∧ m = y.toNat ∧ H' = H, ⟨_, a, b, rfl, ha, hb, rfl, rfl, rfl⟩, ?_⟩
    rintro m σ H' ⟨x, y, rfl, hx, hy, hg, rfl, rfl⟩
    refine ⟨_, rfl, rfl, _, rfl, ?_⟩
    by_cases h0 : y = 0
    · subst h0
      refine iteF ?_
      refine ⟨_, rfl, ?_⟩
      have e : x = (Int.gcd a b : Int) := by rw [← hg, Int.gcd_zero_right]; omega
      rw [e]
      exact k
    · rw [show (!decide (V.int y = V.int 0)) = true by simp [h0]]
      refine iteT ?_
      refine ⟨_, fun σ' H' z => z, ?_⟩
      refine ⟨_, rfl, _, rfl, _, rfl, _, _, rfl, rfl, h0, _, _, rfl, ?_⟩
      have h1 := Int.fmod_nonneg_of_pos x (b := y) (by omega)
      have h2 := Int.fmod_lt_of_pos x (b := y) (by omega)
      exact ⟨_, by omega, y, x.fmod y, rfl, hy, h1, (gcd_step x y).trans hg, rfl, rfl⟩
/-- Exact(a, b), b not 0 -/
def spExInit (C : Addr) : Sp := fun vs H Q _ => ∃ (x dx : Addr) (a b : Int), vs = [.ref x, .int a, .int b] ∧ b ≠ 0 ∧ b.natAbs < 2 ^ 8000 ∧ H x = some (.ins C dx []) ∧
  ∀ H', H' x = some (.ins C dx (exF (.int (red a b).1) (.int (red a b).2))) → (∀ c o, H c = some o → c ≠ x → H' c = some o) → Q .non H'
theorem ok_Exact_init (T : Tx K mg) : FnOk P w K mg base CX0 3 T.Exact_init_a T.Exact_init_d ["self", "over", "under"] (spExInit T.Exact_a) := by
  refine T.Exact_init_F.ok0 sc_Exact_init (fun vs H Q E h => ?_) (fun cdv A outer s H vs Q E hr h => ?_)
  · obtain ⟨x, dx, a, b, rfl, _⟩ := h
    rfl
  · obtain ⟨x, dx, a, b, rfl, hb, hz, hx, k⟩ := h
    refine ⟨_, (pss_cons (ps_for PassesOwn.never rfl (pi_tup (pe_tup (pa_cons (pv 1) (pa_cons (pv 2) pa_nil)))) (pg_name (i := 3) sc_Exact_init.nd rfl (Or.inl rfl))
  (pss_one (ps_if (pt_not (pt_val (pe_call (ok_is_whole T) (hr.mono (by decide)) rfl T.is_whole_m T.is_whole_F.kp T.is_whole_b .nil pass0 (pa_cons (pv 3) pa_nil))))
  (pss_one ps_never)
  pss_nil)))
  (pss_cons (ps_if (pt_cmpR op_eq (pv 2) pe_int (nomark _))
  (pss_one ps_never)
  pss_nil)
  (pss_cons (ps_set (i := 4) sc_Exact_init.nd rfl (Or.inl rfl) (pe_call (ok_divisor T) (hr.mono (by decide)) rfl T.divisor_m T.divisor_F.kp T.divisor_b .nil pass0 (pa_cons (pe_callB (call_abs) (by rfl) T.z_abs (by decide +kernel) (pa_cons (pv 1) pa_nil)) (pa_cons (pe_callB (call_abs) (by rfl) T.z_abs (by decide +kernel) (pa_cons (pv 2) pa_nil)) pa_nil))))
  (pss_cons (ps_if (pt_cmpR op_lt (pv 2) pe_int (nomark _))
  (pss_one (ps_set (i := 4) sc_Exact_init.nd rfl (Or.inl rfl) (pe_un (un_neg) (pv 4))))
  pss_nil)
  (pss_cons (ps_fld (pv 0) (pe_op (op_fdivG) (pv 1) (pv 4)) rfl)
  (pss_one (ps_fld (pv 0) (pe_op (op_fdivG) (pv 2) (pv 4)) rfl))))))), ?_⟩
    refine ⟨_, rfl, _, rfl, (by show 2 ≤ sizeLine; decide), fun t nt => ?_⟩
    have s1 : Same H (upd H t (.tup [.int a, .int b])) := same_upd nt
    have ht : (upd H t (.tup [.int a, .int b])) t = some (.tup [.int a, .int b]) := upd_same
    generalize upd H t (.tup [.int a, .int b]) = H1 at s1 ht ⊢
    refine ⟨t, rfl, ⟨_, .inl (.inl ht)⟩, for_tup (K := K) (a := t) (xs := [.int a, .int b]) (fun i σ H2 => (∃ v, σ = [some (.ref x), some (.int a), some (.int b), v, none]) ∧ H2 = H1) ⟨⟨none, rfl⟩, rfl⟩ (fun i σ H2 _ e => by rw [e.2]; exact .inl (.inl ht)) ?_ ?_⟩
    · rintro i y σ H2 hi ⟨⟨v, rfl⟩, rfl⟩
      have hy : ∃ n, y = V.int n := by
        match i, hi with
        | 0, hi => exact ⟨a, (Option.some.inj hi).symm⟩
        | 1, hi => exact ⟨b, (Option.some.inj hi).symm⟩
      obtain ⟨n, rfl⟩ := hy
      refine ⟨_, rfl, _, rfl, .inl ⟨⟨n, rfl⟩, true, rfl, ?_⟩⟩
      exact iteF ⟨⟨_, rfl⟩, rfl⟩
    · rintro σ H2 ⟨⟨v, rfl⟩, rfl⟩
      refine ⟨_, rfl, rfl, _, rfl, ?_⟩
      rw [show decide (V.int b = V.int 0) = false by simp [hb]]
      refine iteF ?_
      refine ⟨_, rfl, _, rfl, _, rfl, _, rfl, a.natAbs, b.natAbs, ?_, by omega, by omega, ?_⟩
      · show ([V.int _, V.int _] : List V) = [V.int _, V.int _]
        have f : ∀ z : Int, (if z < 0 then -z else z) = (z.natAbs : Int) := fun z => by split <;> omega
        rw [f, f]
      rw [show Int.gcd (a.natAbs : Int) (b.natAbs : Int) = Int.gcd a b from rfl]
      have hx2 := s1 _ _ hx
      -- the sign, then the two fields: both ways end alike
      have fin : ∀ w : Int, w = red_w a b → tSeq (sFld K (tVar 0) (tOp (rI GDiv fun i j => .int (i.fdiv j)) (tVar 1) (tVar 4)) "over") (sFld K (tVar 0) (tOp (rI GDiv fun i j => .int (i.fdiv j)) (tVar 2) (tVar 4)) "under")
          { nx := fun _ H' => Q .non H', rt := Q } [some (.ref x), some (.int a), some (.int b), v, some (.int w)] H2 := by
        rintro w rfl
        have gd : ∀ i, GDiv i (red_w a b) := fun i => gDiv_lt (red_w_ne hb) (red_w_sz hb hz) (by decide) (by decide)
        refine ⟨_, rfl, _, rfl, _, _, rfl, rfl, gd _, _, rfl, x, T.Exact_a, dx, _, rfl, hx2, T.Exact_cl, T.Exact_n_over, (by show 0 < 1000; decide), ?_⟩
        refine ⟨_, rfl, _, rfl, _, _, rfl, rfl, gd _, _, rfl, x, T.Exact_a, dx, _, rfl, upd_same, T.Exact_cl, T.Exact_n_under, (by show 1 < 1000; decide), ?_⟩
        refine k _ ?_ fun c o e hc => ?_
        · rw [upd_same]
          exact congrArg (fun l => some (HO.ins T.Exact_a dx l)) (fl_eq _ _)
        · rw [upd_ne hc, upd_ne hc]
          exact s1 _ _ e
      refine ⟨_, rfl, _, _, rfl, rfl, _, rfl, ?_⟩
      refine ite2 (fun hneg => ?_) (fun hneg => ?_)
      · have hneg : b < 0 := of_decide_eq_true hneg
        exact ⟨_, rfl, _, rfl, fin _ (by unfold red_w; rw [if_pos hneg])⟩
      · have hneg : ¬ b < 0 := fun z => hneg (decide_eq_true z)
        exact fin _ (by unfold red_w; rw [if_neg hneg])
/-- Exact(A, B) as a value -/
theorem mk_ex {C : Addr} {H1 : Hp} {Q : VK} {E : XK} {A B : Int} (hB : B ≠ 0) (hz : B.natAbs < 2 ^ 8000) (k : ∀ v H2, Same H1 H2 → ExAt C H2 v (red A B) → Q v H2) :
    ∀ x dx, H1 x = none → H1 dx = none → dx ≠ x → spExInit C (.ref x :: ([.int A, .int B] ++ [])) (upd (upd H1 dx (.own x)) x (.ins C dx [])) (fun v H2 => v = .non ∧ Q (.ref x) H2) E := fun x dx nx nd ne =>
  ⟨x, dx, A, B, rfl, hB, hz, upd_same, fun H2 hx kp => ⟨rfl, k _ H2 (Same.made nx nd kp) ⟨x, dx, rfl, hx⟩⟩⟩
/-- the same, where what follows is no letter -/
theorem mk_ex1 {C : Addr} {H1 : Hp} {Q : Hp → Prop} {E : XK} {A B : Int} {x dx : Addr} (nx : H1 x = none) (nd : H1 dx = none) (hB : B ≠ 0) (hz : B.natAbs < 2 ^ 8000) (k : ∀ H2, Same H1 H2 → ExAt C H2 (.ref x) (red A B) → Q H2) :
    spExInit C (.ref x :: ([.int A, .int B] ++ [])) (upd (upd H1 dx (.own x)) x (.ins C dx [])) (fun v H2 => v = .non ∧ Q H2) E :=
  ⟨x, dx, A, B, rfl, hB, hz, upd_same, fun H2 hx kp => ⟨rfl, k H2 (Same.made nx nd kp) ⟨x, dx, rfl, hx⟩⟩⟩
/-- a number that may be reckoned with -/
def Nm (p : Int × Int) : Prop := 0 < p.2 ∧ p.1.natAbs < 2 ^ 1000 ∧ p.2.natAbs < 2 ^ 1000
theorem ok1000 {a b : Int} (ha : a.natAbs < 2 ^ 1000) (hb : b.natAbs < 2 ^ 1000) : IntMulOk a b := mulOk ha hb (by decide) (by decide) (by decide)
theorem un_ok {a b : Int × Int} (ha : Nm a) (hb : Nm b) : a.2 * b.2 ≠ 0 ∧ (a.2 * b.2).natAbs < 2 ^ 8000 :=
  ⟨Int.ne_of_gt (Int.mul_pos ha.1 hb.1), sz_up (sz_mul ha.2.2 hb.2.2) (by decide)⟩
theorem NumAt.cases {C : Addr} {H : Hp} {v : V} {p : Int × Int} (h : NumAt C H v p) : (v = .int p.1 ∧ p.2 = 1) ∨ ∃ a dx, v = .ref a ∧ H a = some (.ins C dx (exF (.int p.1) (.int p.2))) := h
def spParts (C : Addr) : Sp := fun vs H Q _ => ∃ v p, vs = [v] ∧ NumAt C H v p ∧ ∀ t H', Same H H' → H' t = some (.tup [.int p.1, .int p.2]) → Q (.ref t) H'
theorem ok_parts (T : Tx K mg) : FnOk P w K mg base CX0 3 T.parts_a T.parts_d ["number"] (spParts T.Exact_a) := by
  refine T.parts_F.ok sc_parts (fun vs H Q E h => ?_) (fun cdv A outer s H vs Q E hr h => ?_)
  · obtain ⟨v, p, rfl, _⟩ := h
    rfl
  · obtain ⟨v, p, rfl, hv, k⟩ := h
    refine ⟨_, (pss_cons (ps_if (pt_val (pe_callB call_isi (by rfl) T.z_isinstance (by decide +kernel) (pa_cons (pv 0) (pa_cons (pe_glob (v := .ref T.Exact_a) rfl T.Exact_m rfl) pa_nil))))
  (pss_one (ps_ret (pe_tup (pa_cons (pe_fld (pv 0) rfl) (pa_cons (pe_fld (pv 0) rfl) pa_nil)))))
  pss_nil)
  (pss_cons (ps_if (pt_val (pe_call (ok_is_whole T) (hr.mono (by decide)) rfl T.is_whole_m T.is_whole_F.kp T.is_whole_b .nil pass0 (pa_cons (pv 0) pa_nil)))
  (pss_one (ps_ret (pe_tup (pa_cons (pv 0) (pa_cons pe_int pa_nil)))))
  pss_nil)
  (pss_one ps_never))), ?_⟩
    rcases hv.cases with ⟨rfl, h1⟩ | ⟨x, dx, rfl, hx⟩
    · refine ⟨_, rfl, _, _, _, _, false, rfl, .own _, .base (.int _), T.Exact_kt_int, false, rfl, ?_⟩
      refine iteF ?_
      refine ⟨_, rfl, _, rfl, .inl ⟨⟨_, rfl⟩, true, rfl, ?_⟩⟩
      refine iteT ?_
      refine ⟨_, rfl, (by show 2 ≤ sizeLine; decide), fun t nt => ?_⟩
      rw [← h1]
      exact k t _ (same_upd nt) upd_same
    · refine ⟨_, rfl, _, _, _, _, true, rfl, .own _, .base (.ins hx T.Exact_cl T.Exact_i1 T.Exact_i2 T.Exact_i3 T.Exact_i4), T.Exact_k0, true, rfl, ?_⟩
      refine iteT ?_
      refine ⟨_, rfl, x, _, dx, _, _, rfl, hx, T.Exact_cl, T.Exact_n_over, fl_over, _, rfl, x, _, dx, _, _, rfl, hx, T.Exact_cl, T.Exact_n_under, fl_under, (by show 2 ≤ sizeLine; decide), fun t nt => ?_⟩
      exact k t _ (same_upd nt) upd_same
def fAdd (a b : Int × Int) : Int × Int := (a.1 * b.2 + b.1 * a.2, a.2 * b.2)
def fSub (a b : Int × Int) : Int × Int := (a.1 * b.2 - b.1 * a.2, a.2 * b.2)
def fRsub (a b : Int × Int) : Int × Int := (b.1 * a.2 - a.1 * b.2, a.2 * b.2)
def fMul (a b : Int × Int) : Int × Int := (a.1 * b.1, a.2 * b.2)
def fBy (a b : Int × Int) : Int × Int := (a.1 * b.2, a.2 * b.1)

/-- self and another number: an Exact of f -/
def spBin (C : Addr) (f : Int × Int → Int × Int → Int × Int) : Sp := fun vs H Q _ => ∃ v u a b, vs = [v, u] ∧ ExAt C H v a ∧ NumAt C H u b ∧ Nm a ∧ Nm b ∧ ∀ v' H', Same H H' → ExAt C H' v' (red (f a b).1 (f a b).2) → Q v' H'
theorem spBin_len {C : Addr} {f : Int × Int → Int × Int → Int × Int} {vs : List V} {H : Hp} {Q : VK} {E : XK} (h : spBin C f vs H Q E) : vs.length = 2 := by
  obtain ⟨v, u, a, b, rfl, _⟩ := h
  rfl
theorem ok_Exact_add (T : Tx K mg) : FnOk P w K mg base CX0 5 T.Exact_add_a T.Exact_add_d ["self", "other"] (spBin T.Exact_a fAdd) := by
  refine T.Exact_add_F.ok sc_Exact_add (fun vs H Q E h => spBin_len h) (fun cdv A outer s H vs Q E hr h => ?_)
  obtain ⟨v, u, a, b, rfl, hv, hu, na, nb, k⟩ := h
  refine ⟨_, (pss_cons (ps_asg (pe_call (ok_parts T) (hr.mono (by decide)) rfl T.parts_m T.parts_F.kp T.parts_b .nil pass0 (pa_cons (pv 1) pa_nil)) (pg_tup (by rfl) (pgs_cons (pg_name (i := 2) sc_Exact_add.nd rfl (Or.inl rfl)) (pgs_cons (pg_name (i := 3) sc_Exact_add.nd rfl (Or.inl rfl)) pgs_nil))))
  (pss_one (ps_ret (pe_make T.Exact_mk (ok_Exact_init T) (hr.mono (by decide)) rfl T.Exact_m T.Exact_init_b .nil pass0 (pa_cons (pe_op (op_add) (pe_op (op_mulG) (pe_fld (pv 0) rfl) (pv 3)) (pe_op (op_mulG) (pv 2) (pe_fld (pv 0) rfl))) (pa_cons (pe_op (op_mulG) (pe_fld (pv 0) rfl) (pv 3)) pa_nil)))))), ?_⟩
  refine ⟨_, rfl, u, b, rfl, hu, fun t H1 s1 ht => ⟨t, _, rfl, .inl (.inl ht), rfl, _, _, rfl, _, _, rfl, rfl, ?_⟩⟩
  obtain ⟨x, dx, rfl, hx⟩ := hv.same s1
  refine ⟨_, rfl, x, _, dx, _, _, rfl, hx, T.Exact_cl, T.Exact_n_over, fl_over, _, rfl, _, _, rfl, rfl, ok1000 na.2.1 nb.2.2, _, rfl, _, rfl, x, _, dx, _, _, rfl, hx, T.Exact_cl, T.Exact_n_under, fl_under, _, _, rfl, rfl, ok1000 nb.2.1 na.2.2, _, _, rfl, rfl, _, rfl, x, _, dx, _, _, rfl, hx, T.Exact_cl, T.Exact_n_under, fl_under, _, rfl, _, _, rfl, rfl, ok1000 na.2.2 nb.2.2, ?_⟩
  exact mk_ex (un_ok na nb).1 (un_ok na nb).2 fun v' H2 s2 h2 => k v' H2 (s1.trans s2) h2
theorem ok_Exact_sub (T : Tx K mg) : FnOk P w K mg base CX0 5 T.Exact_sub_a T.Exact_sub_d ["self", "other"] (spBin T.Exact_a fSub) := by
  refine T.Exact_sub_F.ok sc_Exact_sub (fun vs H Q E h => spBin_len h) (fun cdv A outer s H vs Q E hr h => ?_)
  obtain ⟨v, u, a, b, rfl, hv, hu, na, nb, k⟩ := h
  refine ⟨_, (pss_cons (ps_asg (pe_call (ok_parts T) (hr.mono (by decide)) rfl T.parts_m T.parts_F.kp T.parts_b .nil pass0 (pa_cons (pv 1) pa_nil)) (pg_tup (by rfl) (pgs_cons (pg_name (i := 2) sc_Exact_sub.nd rfl (Or.inl rfl)) (pgs_cons (pg_name (i := 3) sc_Exact_sub.nd rfl (Or.inl rfl)) pgs_nil))))
  (pss_one (ps_ret (pe_make T.Exact_mk (ok_Exact_init T) (hr.mono (by decide)) rfl T.Exact_m T.Exact_init_b .nil pass0 (pa_cons (pe_op (op_sub) (pe_op (op_mulG) (pe_fld (pv 0) rfl) (pv 3)) (pe_op (op_mulG) (pv 2) (pe_fld (pv 0) rfl))) (pa_cons (pe_op (op_mulG) (pe_fld (pv 0) rfl) (pv 3)) pa_nil)))))), ?_⟩
  refine ⟨_, rfl, u, b, rfl, hu, fun t H1 s1 ht => ⟨t, _, rfl, .inl (.inl ht), rfl, _, _, rfl, _, _, rfl, rfl, ?_⟩⟩
  obtain ⟨x, dx, rfl, hx⟩ := hv.same s1
  refine ⟨_, rfl, x, _, dx, _, _, rfl, hx, T.Exact_cl, T.Exact_n_over, fl_over, _, rfl, _, _, rfl, rfl, ok1000 na.2.1 nb.2.2, _, rfl, _, rfl, x, _, dx, _, _, rfl, hx, T.Exact_cl, T.Exact_n_under, fl_under, _, _, rfl, rfl, ok1000 nb.2.1 na.2.2, _, _, rfl, rfl, _, rfl, x, _, dx, _, _, rfl, hx, T.Exact_cl, T.Exact_n_under, fl_under, _, rfl, _, _, rfl, rfl, ok1000 na.2.2 nb.2.2, ?_⟩
  exact mk_ex (un_ok na nb).1 (un_ok na nb).2 fun v' H2 s2 h2 => k v' H2 (s1.trans s2) h2
theorem ok_Exact_rsub (T : Tx K mg) : FnOk P w K mg base CX0 5 T.Exact_rsub_a T.Exact_rsub_d ["self", "other"] (spBin T.Exact_a fRsub) := by
  refine T.Exact_rsub_F.ok sc_Exact_rsub (fun vs H Q E h => spBin_len h) (fun cdv A outer s H vs Q E hr h => ?_)
  obtain ⟨v, u, a, b, rfl, hv, hu, na, nb, k⟩ := h
  refine ⟨_, (pss_cons (ps_asg (pe_call (ok_parts T) (hr.mono (by decide)) rfl T.parts_m T.parts_F.kp T.parts_b .nil pass0 (pa_cons (pv 1) pa_nil)) (pg_tup (by rfl) (pgs_cons (pg_name (i := 2) sc_Exact_rsub.nd rfl (Or.inl rfl)) (pgs_cons (pg_name (i := 3) sc_Exact_rsub.nd rfl (Or.inl rfl)) pgs_nil))))
  (pss_one (ps_ret (pe_make T.Exact_mk (ok_Exact_init T) (hr.mono (by decide)) rfl T.Exact_m T.Exact_init_b .nil pass0 (pa_cons (pe_op (op_sub) (pe_op (op_mulG) (pv 2) (pe_fld (pv 0) rfl)) (pe_op (op_mulG) (pe_fld (pv 0) rfl) (pv 3))) (pa_cons (pe_op (op_mulG) (pe_fld (pv 0) rfl) (pv 3)) pa_nil)))))), ?_⟩
  refine ⟨_, rfl, u, b, rfl, hu, fun t H1 s1 ht => ⟨t, _, rfl, .inl (.inl ht), rfl, _, _, rfl, _, _, rfl, rfl, ?_⟩⟩
  obtain ⟨x, dx, rfl, hx⟩ := hv.same s1
  refine ⟨_, rfl, _, rfl, x, _, dx, _, _, rfl, hx, T.Exact_cl, T.Exact_n_under, fl_under, _, _, rfl, rfl, ok1000 nb.2.1 na.2.2, _, rfl, x, _, dx, _, _, rfl, hx, T.Exact_cl, T.Exact_n_over, fl_over, _, rfl, _, _, rfl, rfl, ok1000 na.2.1 nb.2.2, _, _, rfl, rfl, _, rfl, x, _, dx, _, _, rfl, hx, T.Exact_cl, T.Exact_n_under, fl_under, _, rfl, _, _, rfl, rfl, ok1000 na.2.2 nb.2.2, ?_⟩
  exact mk_ex (un_ok na nb).1 (un_ok na nb).2 fun v' H2 s2 h2 => k v' H2 (s1.trans s2) h2
theorem ok_Exact_mul (T : Tx K mg) : FnOk P w K mg base CX0 5 T.Exact_mul_a T.Exact_mul_d ["self", "other"] (spBin T.Exact_a fMul) := by
  refine T.Exact_mul_F.ok sc_Exact_mul (fun vs H Q E h => spBin_len h) (fun cdv A outer s H vs Q E hr h => ?_)
  obtain ⟨v, u, a, b, rfl, hv, hu, na, nb, k⟩ := h
  refine ⟨_, (pss_cons (ps_asg (pe_call (ok_parts T) (hr.mono (by decide)) rfl T.parts_m T.parts_F.kp T.parts_b .nil pass0 (pa_cons (pv 1) pa_nil)) (pg_tup (by rfl) (pgs_cons (pg_name (i := 2) sc_Exact_mul.nd rfl (Or.inl rfl)) (pgs_cons (pg_name (i := 3) sc_Exact_mul.nd rfl (Or.inl rfl)) pgs_nil))))
  (pss_one (ps_ret (pe_make T.Exact_mk (ok_Exact_init T) (hr.mono (by decide)) rfl T.Exact_m T.Exact_init_b .nil pass0 (pa_cons (pe_op (op_mulG) (pe_fld (pv 0) rfl) (pv 2)) (pa_cons (pe_op (op_mulG) (pe_fld (pv 0) rfl) (pv 3)) pa_nil)))))), ?_⟩
  refine ⟨_, rfl, u, b, rfl, hu, fun t H1 s1 ht => ⟨t, _, rfl, .inl (.inl ht), rfl, _, _, rfl, _, _, rfl, rfl, ?_⟩⟩
  obtain ⟨x, dx, rfl, hx⟩ := hv.same s1
  refine ⟨_, rfl, x, _, dx, _, _, rfl, hx, T.Exact_cl, T.Exact_n_over, fl_over, _, rfl, _, _, rfl, rfl, ok1000 na.2.1 nb.2.1, _, rfl, x, _, dx, _, _, rfl, hx, T.Exact_cl, T.Exact_n_under, fl_under, _, rfl, _, _, rfl, rfl, ok1000 na.2.2 nb.2.2, ?_⟩
  exact mk_ex (un_ok na nb).1 (un_ok na nb).2 fun v' H2 s2 h2 => k v' H2 (s1.trans s2) h2
theorem ok_Exact_radd (T : Tx K mg) : FnOk P w K mg base CX0 6 T.Exact_radd_a T.Exact_radd_d ["self", "other"] (spBin T.Exact_a fAdd) := by
  refine T.Exact_radd_F.ok sc_Exact_radd (fun vs H Q E h => spBin_len h) (fun cdv A outer s H vs Q E hr h => ?_)
  obtain ⟨v, u, a, b, rfl, hv, hu, na, nb, k⟩ := h
  refine ⟨_, (pss_one (ps_ret (pe_op (op_gyD T.op_add (ok_Exact_add T) (hr.mono (by decide)) T.Exact_add_b pass0) (pv 0) (pv 1)))), ?_⟩
  obtain ⟨x, dx, rfl, hx⟩ := id hv
  refine ⟨_, rfl, _, rfl, x, dx, _, rfl, hx, ?_, _, _, a, b, rfl, hv, hu, na, nb, k⟩
  rcases hu.cases with ⟨rfl, _⟩ | ⟨y, dy, rfl, hy⟩
  · exact .inr ⟨_, rfl⟩
  · exact .inl ⟨y, dy, _, rfl, hy⟩
theorem ok_Exact_rmul (T : Tx K mg) : FnOk P w K mg base CX0 6 T.Exact_rmul_a T.Exact_rmul_d ["self", "other"] (spBin T.Exact_a fMul) := by
  refine T.Exact_rmul_F.ok sc_Exact_rmul (fun vs H Q E h => spBin_len h) (fun cdv A outer s H vs Q E hr h => ?_)
  obtain ⟨v, u, a, b, rfl, hv, hu, na, nb, k⟩ := h
  refine ⟨_, (pss_one (ps_ret (pe_op (op_gyD T.op_mul (ok_Exact_mul T) (hr.mono (by decide)) T.Exact_mul_b pass0) (pv 0) (pv 1)))), ?_⟩
  obtain ⟨x, dx, rfl, hx⟩ := id hv
  refine ⟨_, rfl, _, rfl, x, dx, _, rfl, hx, ?_, _, _, a, b, rfl, hv, hu, na, nb, k⟩
  rcases hu.cases with ⟨rfl, _⟩ | ⟨y, dy, rfl, hy⟩
  · exact .inr ⟨_, rfl⟩
  · exact .inl ⟨y, dy, _, rfl, hy⟩
def spNeg (C : Addr) : Sp := fun vs H Q _ => ∃ v a, vs = [v] ∧ ExAt C H v a ∧ Nm a ∧ ∀ v' H', Same H H' → ExAt C H' v' (red (-a.1) a.2) → Q v' H'
theorem ok_Exact_neg (T : Tx K mg) : FnOk P w K mg base CX0 5 T.Exact_neg_a T.Exact_neg_d ["self"] (spNeg T.Exact_a) := by
  refine T.Exact_neg_F.ok sc_Exact_neg (fun vs H Q E h => ?_) (fun cdv A outer s H vs Q E hr h => ?_)
  · obtain ⟨v, a, rfl, _⟩ := h
    rfl
  · obtain ⟨v, a, rfl, hv, na, k⟩ := h
    refine ⟨_, (pss_one (ps_ret (pe_make T.Exact_mk (ok_Exact_init T) (hr.mono (by decide)) rfl T.Exact_m T.Exact_init_b .nil pass0 (pa_cons (pe_un (un_neg) (pe_fld (pv 0) rfl)) (pa_cons (pe_fld (pv 0) rfl) pa_nil))))), ?_⟩
    obtain ⟨x, dx, rfl, hx⟩ := hv
    refine ⟨_, rfl, x, _, dx, _, _, rfl, hx, T.Exact_cl, T.Exact_n_over, fl_over, _, rfl, _, rfl, x, _, dx, _, _, rfl, hx, T.Exact_cl, T.Exact_n_under, fl_under, ?_⟩
    exact mk_ex (Int.ne_of_gt na.1) (sz_up na.2.2 (by decide)) fun v' H2 s2 h2 => k v' H2 s2 h2
/-- the quotient, the divisor not 0 -/
def spBy (C : Addr) : Sp := fun vs H Q _ => ∃ v u a b, vs = [v, u] ∧ ExAt C H v a ∧ NumAt C H u b ∧ Nm a ∧ Nm b ∧ b.1 ≠ 0 ∧ ∀ v' H', Same H H' → ExAt C H' v' (red (fBy a b).1 (fBy a b).2) → Q v' H'
/-- a number as it is told: an int, or an Exact -/
def ToldAt (C : Addr) (H : Hp) (v : V) (p : Int × Int) : Prop := (p.2 = 1 ∧ v = .int p.1) ∨ (p.2 ≠ 1 ∧ ExAt C H v p)
theorem ToldAt.same {C : Addr} {H H' : Hp} {v : V} {p : Int × Int} (h : ToldAt C H v p) (e : Same H H') : ToldAt C H' v p := h.elim .inl fun z => .inr ⟨z.1, z.2.same e⟩
theorem ToldAt.num {C : Addr} {H : Hp} {v : V} {p : Int × Int} (h : ToldAt C H v p) : NumAt C H v p := h.elim (fun z => .inl ⟨z.2, z.1⟩) fun z => .inr z.2
def spPlain (C : Addr) : Sp := fun vs H Q _ => ∃ v p, vs = [v] ∧ NumAt C H v p ∧ Rd p ∧ p.2.natAbs < 2 ^ 8000 ∧ ∀ v' H', Same H H' → ToldAt C H' v' p → Q v' H'
theorem ok_plain (T : Tx K mg) : FnOk P w K mg base CX0 5 T.plain_a T.plain_d ["number"] (spPlain T.Exact_a) := by
  refine T.plain_F.ok sc_plain (fun vs H Q E h => ?_) (fun cdv A outer s H vs Q E hr h => ?_)
  · obtain ⟨v, p, rfl, _⟩ := h
    rfl
  · obtain ⟨v, p, rfl, hv, rd, sz, k⟩ := h
    refine ⟨_, (pss_cons (ps_asg (pe_call (ok_parts T) (hr.mono (by decide)) rfl T.parts_m T.parts_F.kp T.parts_b .nil pass0 (pa_cons (pv 0) pa_nil)) (pg_tup (by rfl) (pgs_cons (pg_name (i := 1) sc_plain.nd rfl (Or.inl rfl)) (pgs_cons (pg_name (i := 2) sc_plain.nd rfl (Or.inl rfl)) pgs_nil))))
  (pss_cons (ps_if (pt_cmpR op_eq (pv 2) pe_int (nomark _))
  (pss_one (ps_ret (pv 1)))
  pss_nil)
  (pss_one (ps_ret (pe_make T.Exact_mk (ok_Exact_init T) (hr.mono (by decide)) rfl T.Exact_m T.Exact_init_b .nil pass0 (pa_cons (pv 1) (pa_cons (pv 2) pa_nil))))))), ?_⟩
    refine ⟨_, rfl, v, p, rfl, hv, fun t H1 s1 ht => ⟨t, _, rfl, .inl (.inl ht), rfl, _, _, rfl, _, _, rfl, rfl, ?_⟩⟩
    refine ⟨_, rfl, rfl, _, rfl, ?_⟩
    by_cases h1 : p.2 = 1
    · rw [show decide (V.int p.2 = V.int 1) = true by simp [h1]]
      refine iteT ?_
      exact ⟨_, rfl, k _ H1 s1 (.inl ⟨h1, rfl⟩)⟩
    · rw [show decide (V.int p.2 = V.int 1) = false by simp [h1]]
      refine iteF ?_
      refine ⟨_, rfl, _, rfl, ?_⟩
      exact mk_ex (Int.ne_of_gt rd.1) sz fun v' H2 s2 h2 => k v' H2 (s1.trans s2) (.inr ⟨h1, by rw [red_self rd] at h2; exact h2⟩)


end


section
variable {P : Program} {w : World} {K : PySem.W.Frag} {mg : Str → Option Value} {base : Heap}
/-! ### the law's draws -/
theorem cut63 (ns : List Int) (h : ns.length ≤ 63) : cutV (ns.map V.int) none (some 63) = ns.map V.int := by
  have hl : (ns.map V.int).length = ns.length := List.length_map ..
  have e : HT.sIx (ns.map V.int).length (ns.map V.int).length (some (63 : Int)) = (ns.map V.int).length := by
    have := HT.sIx_nat (ns.map V.int).length (ns.map V.int).length 63
    rw [show (((63 : Nat) : Int)) = (63 : Int) from rfl] at this
    rw [this, hl]
    omega
  unfold cutV
  rw [e, HT.sIx_none, Nat.sub_zero, List.drop_zero, List.take_length]
def spFresh (K : PySem.W.Frag) : Sp := fun vs H Q _ => ∃ (a : Addr) (ns : List Int), vs = [.ref a] ∧ SqL K H a (ns.map V.int) ∧ ns.length ≤ 63 ∧ ∀ st c H', Same H H' → StAt H' st c ns → Q (.ref st) H'
theorem ok_law_fresh (T : Tx K mg) : FnOk P w K mg base CX0 1 T.law_fresh_a T.law_fresh_d ["_law_script"] (spFresh K) := by
  refine T.law_fresh_F.ok sc_law_fresh (fun vs H Q E h => ?_) (fun cdv A outer s H vs Q E hr h => ?_)
  · obtain ⟨a, ns, rfl, _⟩ := h
    rfl
  · obtain ⟨a, ns, rfl, hS, hl, k⟩ := h
    refine ⟨_, (pss_one (ps_ret (pe_lst (pa_cons (pe_slice sl_list (pv 0) po_none (po_some pe_int)) (pa_cons pe_int (pa_cons pe_int (pa_cons pe_bl pa_nil))))))), ?_⟩
    refine ⟨_, rfl, 63, rfl, a, _, rfl, hS, fun c nc => ?_⟩
    refine ⟨(by show 4 ≤ sizeLine; decide), fun st ns' => ?_⟩
    have hne : c ≠ st := ne_of_none upd_same ns'
    refine k st c _ (Same.trans (same_upd nc) (same_upd ns')) ⟨⟨0, 0, false, upd_same⟩, ?_, hne⟩
    rw [upd_ne hne, upd_same, cut63 ns hl]
theorem prime_at {i : Nat} {x : V} (h : ([.int 2147483647, .int 2147483629, .int 2147483587, .int 2147483579, .int 2147483563] : List V)[i]? = some x) : ∃ p : Int, x = .int p ∧ 0 < p ∧ p < 2 ^ 31 ∧ i < 5 := by
  match i, h with
  | 0, h => exact ⟨_, (Option.some.inj h).symm, by decide, by decide, by decide⟩
  | 1, h => exact ⟨_, (Option.some.inj h).symm, by decide, by decide, by decide⟩
  | 2, h => exact ⟨_, (Option.some.inj h).symm, by decide, by decide, by decide⟩
  | 3, h => exact ⟨_, (Option.some.inj h).symm, by decide, by decide, by decide⟩
  | 4, h => exact ⟨_, (Option.some.inj h).symm, by decide, by decide, by decide⟩
def spFill : Sp := fun vs H Q _ => ∃ (st c : Addr) (ns : List Int), vs = [.ref st] ∧ StAt H st c ns ∧ ns.length ≤ 63 ∧ ∀ H', StAt H' st c ns → Keep st H H' → Q .non H'
theorem ok_law_fill (T : Tx K mg) : FnOk P w K mg base CX0 1 T.law_fill_a T.law_fill_d ["_law_state"] spFill := by
  refine T.law_fill_F.ok sc_law_fill (fun vs H Q E h => ?_) (fun cdv A outer s H vs Q E hr h => ?_)
  · obtain ⟨st, c, ns, rfl, _⟩ := h
    rfl
  · obtain ⟨st, c, ns, rfl, ⟨⟨nth, left, mx, hL⟩, hc, hne⟩, hl, k⟩ := h
    refine ⟨_, (pss_cons (ps_par (i := 1) (j := 2) (by rfl) sc_law_fill.nd rfl rfl (by decide) rfl rfl (pa_cons (pe_ix ix_list (pv 0) pe_int (fun _ _ => rfl)) (pa_cons (pe_ix ix_list (pv 0) pe_int (fun _ _ => rfl)) pa_nil)) (by rfl))
  (pss_cons (ps_set (i := 3) sc_law_fill.nd rfl (Or.inl rfl) (pe_op (op_add) (pe_op (op_mulG) pe_int (pv 2)) pe_int))
  (pss_cons (ps_if (pt_cmpR op_gt (pe_callB (call_len_seq) (by rfl) T.z_len (by decide +kernel) (pa_cons (pv 1) pa_nil)) pe_int (nomark _))
  (pss_one (ps_set (i := 3) sc_law_fill.nd rfl (Or.inl rfl) (pe_op (op_add) (pe_op (op_mulG) pe_int (pe_op (op_fdivG) (pv 2) (pe_callB (call_len_seq) (by rfl) T.z_len (by decide +kernel) (pa_cons (pv 1) pa_nil)))) (pe_ix ix_list (pv 1) (pe_op (op_modN) (pe_callTy call_int1 (by rfl) T.z_int (by decide +kernel) (pa_cons (pv 2) pa_nil)) (pe_callB (call_len_seq) (by rfl) T.z_len (by decide +kernel) (pa_cons (pv 1) pa_nil))) (fun _ _ => rfl)))))
  pss_nil)
  (pss_cons (ps_asg (pe_op (op_add) (pv 2) pe_int) (pg_sub (pv 0) pe_int set_list))
  (pss_cons (ps_asg (pe_or (pe_cmpR op_ge (pv 2) (pe_callB (call_len_seq) (by rfl) T.z_len (by decide +kernel) (pa_cons (pv 1) pa_nil)) (nomark _)) (pe_one (pe_cmpR op_lt (pv 3) (pe_op (op_pow) pe_int pe_int) (nomark _)))) (pg_sub (pv 0) pe_int set_list))
  (pss_cons (ps_asg (pe_op (op_sub) (pv 3) (pe_op (op_pow) pe_int pe_int)) (pg_sub (pv 0) pe_int set_list))
  (pss_one (ps_if (pt_val (pe_ix ix_list (pv 0) pe_int (fun _ _ => rfl)))
  (pss_cons (ps_asg pe_int (pg_sub (pv 0) pe_int set_list))
  (pss_one (ps_for PassesOwn.never rfl (pi_enumT (by rfl) T.z_enumerate (pa_cons (pe_tup (pa_cons pe_int (pa_cons pe_int (pa_cons pe_int (pa_cons pe_int (pa_cons pe_int pa_nil)))))) pa_nil)) (pg_tup (by rfl) (pgs_cons (pg_name (i := 4) sc_law_fill.nd rfl (Or.inl rfl)) (pgs_cons (pg_name (i := 5) sc_law_fill.nd rfl (Or.inl rfl)) pgs_nil)))
  (pss_cons (ps_set (i := 6) sc_law_fill.nd rfl (Or.inl rfl) (pe_op (op_modN) (pe_callTy call_int1 (by rfl) T.z_int (by decide +kernel) (pa_cons (pe_op (op_mulG) (pe_op (op_add) (pe_op (op_add) (pv 3) (pe_op (op_mulG) (pe_op (op_mulG) pe_int (pv 4)) (pv 4))) (pe_op (op_mulG) pe_int (pv 4))) (pe_op (op_add) pe_int (pe_op (op_mulG) pe_int (pv 4)))) pa_nil)) (pv 5)))
  (pss_one (ps_asg (pe_op (op_add) (pe_op (op_mulG) (pe_ix ix_list (pv 0) pe_int (fun _ _ => rfl)) (pv 5)) (pe_op (op_modN) (pe_callTy call_int1 (by rfl) T.z_int (by decide +kernel) (pa_cons (pe_op (op_pow) (pv 6) pe_int) pa_nil)) (pv 5))) (pg_sub (pv 0) pe_int set_list)))))))
  pss_nil)))))))), ?_⟩
    refine ⟨_, rfl, st, _, _, _, rfl, rfl, .inl (.inl hL), rfl, _, rfl, st, _, _, _, rfl, rfl, .inl (.inl hL), rfl, _, _, rfl, ?_⟩
    refine ⟨_, rfl, _, _, rfl, rfl, mulOk_l ⟨by decide, by decide⟩, _, _, rfl, rfl, ?_⟩
    refine ⟨_, rfl, c, _, rfl, .inl (.inl (.inl hc)), _, _, rfl, rfl, _, rfl, ?_⟩
    have hcU : ∀ o, (upd H st o) c = some (.lst (ns.map V.int)) := fun o => by rw [upd_ne hne]; exact hc
    -- what comes behind the seed, whatever it is
    have tail : ∀ (mx' : Bool) (H1 : Hp), Keep st H H1 → (∃ left, H1 st = some (.lst [.ref c, .int (nth + 1), .int left, .bl mx'])) → Q .non H1 := fun mx' H1 kp ⟨l, hl⟩ =>
      k H1 ⟨⟨_, _, _, hl⟩, kp c _ hc hne, hne⟩ kp
    refine ite2 (fun h0 => ?_) (fun h0 => ?_)
    · have h0 : (0 : Int) < ((ns.map V.int).length : Int) := of_decide_eq_true h0
      have hlen : (ns.map V.int).length = ns.length := List.length_map ..
      have hn0 : ((ns.map V.int).length : Int) ≠ 0 := by omega
      have f1 := Int.fmod_nonneg_of_pos nth h0
      have f2 := Int.fmod_lt_of_pos nth h0
      obtain ⟨j, hj⟩ : ∃ j : Nat, nth.fmod ((ns.map V.int).length : Int) = (j : Int) := ⟨_, (Int.toNat_of_nonneg f1).symm⟩
      have hjl : j < ns.length := by omega
      have hat : atI (ns.map V.int) (nth.fmod ((ns.map V.int).length : Int)) = some (.int ns[j]) := by
        rw [hj]
        exact atI_nat (by rw [List.getElem?_map, List.getElem?_eq_getElem hjl]; rfl)
      refine ⟨_, rfl, _, rfl, c, _, rfl, .inl (.inl (.inl hc)), _, _, rfl, rfl, gDiv_lt (b := 6) hn0 (by rw [hlen]; show ns.length < 64; omega) (by decide) (by decide), _, _, rfl, rfl, mulOk_l ⟨by decide, by decide⟩,
        _, rfl, _, rfl, .inl ⟨_, rfl, _, rfl, c, _, rfl, .inl (.inl (.inl hc)), _, _, rfl, rfl, hn0, c, _, _, _, rfl, rfl, .inl (.inl hc), hat, _, _, rfl, rfl, ?_⟩⟩
      -- the place is counted on
      refine ⟨_, rfl, _, _, rfl, rfl, _, rfl, st, _, 1, 1, rfl, rfl, hL, rfl, ?_⟩
      -- is it mixed
      refine ⟨_, rfl, _, rfl, c, _, rfl, .inl (.inl (.inl (hcU _))), _, _, rfl, rfl, _, rfl, ?_⟩
      refine ite2 (fun h1 => ?_) (fun h1 => ?_)
      · refine ⟨_, rfl, st, _, 3, 3, rfl, rfl, upd_same, rfl, ?_⟩
        refine ⟨_, rfl, _, _, rfl, rfl, ⟨by decide, by decide, by decide⟩, _, _, rfl, rfl, _, rfl, st, _, 2, 2, rfl, rfl, upd_same, rfl, ?_⟩
        refine ⟨_, rfl, st, _, _, _, rfl, rfl, .inl (.inl upd_same), rfl, _, rfl, ?_⟩
        refine iteT ?_
        refine ⟨_, rfl, st, _, 2, 2, rfl, rfl, upd_same, rfl, ?_⟩
        refine ⟨(by show 5 ≤ sizeLine; decide), fun t nt => ?_⟩
        refine ⟨t, _, rfl, .inl (.inl upd_same), for_enumT (K := K) (a := t) (xs := [.int 2147483647, .int 2147483629, .int 2147483587, .int 2147483579, .int 2147483563]) (fun i σ H2 => ∃ kk pp ff l b seed, σ = [some (.ref st), some (.ref c), some (.int nth), some (.int seed), kk, pp, ff] ∧ H2 st = some (.lst [.ref c, .int (nth + 1), .int l, .bl b]) ∧
          H2 t = some (.tup [.int 2147483647, .int 2147483629, .int 2147483587, .int 2147483579, .int 2147483563]) ∧ Keep st H H2) ⟨_, _, _, _, _, _, rfl, (upd_ne (ne_of_none upd_same nt)).trans upd_same, upd_same, ?_⟩ (fun i σ H2 _ ⟨_, _, _, _, _, _, _, _, ht, _⟩ => .inl (.inl ht)) ?_ ?_⟩
        · exact fun b o e n => same_upd nt b o (by rw [upd_ne n, upd_ne n, upd_ne n, upd_ne n]; exact e)
        · rintro i x σ H2 T' hx ⟨kk, pp, ff, l, b, seed, rfl, hS, hT, kp⟩ nT
          obtain ⟨p, rfl, p0, p1, i5⟩ := prime_at hx
          refine ⟨T', _, rfl, .inl (.inl upd_same), rfl, _, _, rfl, _, _, rfl, rfl, ?_⟩
          have hS' : ∀ o, (upd H2 T' o) st = some (.lst [.ref c, .int (nth + 1), .int l, .bl b]) := fun o => by rw [upd_ne (ne_of_none hS nT)]; exact hS
          have f1 : ∀ z : Int, 0 ≤ z.fmod p := fun z => Int.fmod_nonneg_of_pos z p0
          have f2 : ∀ z : Int, z.fmod p < p := fun z => Int.fmod_lt_of_pos z p0
          refine ⟨_, rfl, _, rfl, _, _, rfl, rfl, mulOk_l ⟨by decide, by decide⟩, _, rfl, _, _, rfl, rfl, mulOk_r ⟨by omega, by omega⟩, _, _, rfl, rfl, _, rfl, _, _, rfl, rfl, mulOk_l ⟨by decide, by decide⟩, _, _, rfl, rfl,
            _, rfl, _, _, rfl, rfl, mulOk_l ⟨by decide, by decide⟩, _, _, rfl, rfl, _, _, rfl, rfl, mulOk_r ⟨by omega, by omega⟩, .inl ⟨_, rfl, _, rfl, _, _, rfl, rfl, by omega, ?_⟩⟩
          refine ⟨_, rfl, st, _, _, _, rfl, rfl, .inl (.inl (hS' _)), rfl, _, rfl, _, _, rfl, rfl, mulOk_r ⟨by omega, by omega⟩, _, rfl, _, _, rfl, rfl, ⟨by decide, by decide, ?_⟩, .inl ⟨_, rfl, _, rfl, _, _, rfl, rfl, by omega, _, _, rfl, rfl, _, rfl, st, _, 2, 2, rfl, rfl, hS' _, rfl, ?_⟩⟩
          · have g1 := f1 ((seed + 10007 * (i : Int) * (i : Int) + 101 * (i : Int)) * (48271 + 2 * (i : Int)))
            have g2 := f2 ((seed + 10007 * (i : Int) * (i : Int) + 101 * (i : Int)) * (48271 + 2 * (i : Int)))
            omega
          · refine ⟨_, _, _, _, _, _, rfl, upd_same, ?_, fun b' o e n => ?_⟩
            · rw [upd_ne (ne_of hT hS (by intro z; cases z)), upd_ne (ne_of_none hT nT)]
              exact hT
            · rw [upd_ne n]
              exact same_upd nT b' o (kp b' o e n)
        · rintro σ H2 ⟨kk, pp, ff, l, b, seed, rfl, hS, hT, kp⟩
          exact tail b H2 kp ⟨l, hS⟩
      · refine ⟨_, rfl, _, _, rfl, rfl, ⟨by decide, by decide, by decide⟩, _, _, rfl, rfl, _, rfl, st, _, 3, 3, rfl, rfl, upd_same, rfl, ?_⟩
        refine ⟨_, rfl, _, _, rfl, rfl, ⟨by decide, by decide, by decide⟩, _, _, rfl, rfl, _, rfl, st, _, 2, 2, rfl, rfl, upd_same, rfl, ?_⟩
        refine ⟨_, rfl, st, _, _, _, rfl, rfl, .inl (.inl upd_same), rfl, _, rfl, ?_⟩
        refine ite2 (fun h2 => ?_) (fun h2 => ?_)
        · skip
          refine ⟨_, rfl, st, _, 2, 2, rfl, rfl, upd_same, rfl, ?_⟩
          refine ⟨(by show 5 ≤ sizeLine; decide), fun t nt => ?_⟩
          refine ⟨t, _, rfl, .inl (.inl upd_same), for_enumT (K := K) (a := t) (xs := [.int 2147483647, .int 2147483629, .int 2147483587, .int 2147483579, .int 2147483563]) (fun i σ H2 => ∃ kk pp ff l b seed, σ = [some (.ref st), some (.ref c), some (.int nth), some (.int seed), kk, pp, ff] ∧ H2 st = some (.lst [.ref c, .int (nth + 1), .int l, .bl b]) ∧
            H2 t = some (.tup [.int 2147483647, .int 2147483629, .int 2147483587, .int 2147483579, .int 2147483563]) ∧ Keep st H H2) ⟨_, _, _, _, _, _, rfl, (upd_ne (ne_of_none upd_same nt)).trans upd_same, upd_same, ?_⟩ (fun i σ H2 _ ⟨_, _, _, _, _, _, _, _, ht, _⟩ => .inl (.inl ht)) ?_ ?_⟩
          · exact fun b o e n => same_upd nt b o (by rw [upd_ne n, upd_ne n, upd_ne n, upd_ne n]; exact e)
          · rintro i x σ H2 T' hx ⟨kk, pp, ff, l, b, seed, rfl, hS, hT, kp⟩ nT
            obtain ⟨p, rfl, p0, p1, i5⟩ := prime_at hx
            refine ⟨T', _, rfl, .inl (.inl upd_same), rfl, _, _, rfl, _, _, rfl, rfl, ?_⟩
            have hS' : ∀ o, (upd H2 T' o) st = some (.lst [.ref c, .int (nth + 1), .int l, .bl b]) := fun o => by rw [upd_ne (ne_of_none hS nT)]; exact hS
            have f1 : ∀ z : Int, 0 ≤ z.fmod p := fun z => Int.fmod_nonneg_of_pos z p0
            have f2 : ∀ z : Int, z.fmod p < p := fun z => Int.fmod_lt_of_pos z p0
            refine ⟨_, rfl, _, rfl, _, _, rfl, rfl, mulOk_l ⟨by decide, by decide⟩, _, rfl, _, _, rfl, rfl, mulOk_r ⟨by omega, by omega⟩, _, _, rfl, rfl, _, rfl, _, _, rfl, rfl, mulOk_l ⟨by decide, by decide⟩, _, _, rfl, rfl,
              _, rfl, _, _, rfl, rfl, mulOk_l ⟨by decide, by decide⟩, _, _, rfl, rfl, _, _, rfl, rfl, mulOk_r ⟨by omega, by omega⟩, .inl ⟨_, rfl, _, rfl, _, _, rfl, rfl, by omega, ?_⟩⟩
            refine ⟨_, rfl, st, _, _, _, rfl, rfl, .inl (.inl (hS' _)), rfl, _, rfl, _, _, rfl, rfl, mulOk_r ⟨by omega, by omega⟩, _, rfl, _, _, rfl, rfl, ⟨by decide, by decide, ?_⟩, .inl ⟨_, rfl, _, rfl, _, _, rfl, rfl, by omega, _, _, rfl, rfl, _, rfl, st, _, 2, 2, rfl, rfl, hS' _, rfl, ?_⟩⟩
            · have g1 := f1 ((seed + 10007 * (i : Int) * (i : Int) + 101 * (i : Int)) * (48271 + 2 * (i : Int)))
              have g2 := f2 ((seed + 10007 * (i : Int) * (i : Int) + 101 * (i : Int)) * (48271 + 2 * (i : Int)))
              omega
            · refine ⟨_, _, _, _, _, _, rfl, upd_same, ?_, fun b' o e n => ?_⟩
              · rw [upd_ne (ne_of hT hS (by intro z; cases z)), upd_ne (ne_of_none hT nT)]
                exact hT
              · rw [upd_ne n]
                exact same_upd nT b' o (kp b' o e n)
          · rintro σ H2 ⟨kk, pp, ff, l, b, seed, rfl, hS, hT, kp⟩
            exact tail b H2 kp ⟨l, hS⟩
        · exact tail _ _ (fun b o e n => by rw [upd_ne n, upd_ne n, upd_ne n]; exact e) ⟨_, upd_same⟩
    · skip
      -- the place is counted on
      refine ⟨_, rfl, _, _, rfl, rfl, _, rfl, st, _, 1, 1, rfl, rfl, hL, rfl, ?_⟩
      -- is it mixed
      refine ⟨_, rfl, _, rfl, c, _, rfl, .inl (.inl (.inl (hcU _))), _, _, rfl, rfl, _, rfl, ?_⟩
      refine ite2 (fun h1 => ?_) (fun h1 => ?_)
      · refine ⟨_, rfl, st, _, 3, 3, rfl, rfl, upd_same, rfl, ?_⟩
        refine ⟨_, rfl, _, _, rfl, rfl, ⟨by decide, by decide, by decide⟩, _, _, rfl, rfl, _, rfl, st, _, 2, 2, rfl, rfl, upd_same, rfl, ?_⟩
        refine ⟨_, rfl, st, _, _, _, rfl, rfl, .inl (.inl upd_same), rfl, _, rfl, ?_⟩
        refine iteT ?_
        refine ⟨_, rfl, st, _, 2, 2, rfl, rfl, upd_same, rfl, ?_⟩
        refine ⟨(by show 5 ≤ sizeLine; decide), fun t nt => ?_⟩
        refine ⟨t, _, rfl, .inl (.inl upd_same), for_enumT (K := K) (a := t) (xs := [.int 2147483647, .int 2147483629, .int 2147483587, .int 2147483579, .int 2147483563]) (fun i σ H2 => ∃ kk pp ff l b seed, σ = [some (.ref st), some (.ref c), some (.int nth), some (.int seed), kk, pp, ff] ∧ H2 st = some (.lst [.ref c, .int (nth + 1), .int l, .bl b]) ∧
          H2 t = some (.tup [.int 2147483647, .int 2147483629, .int 2147483587, .int 2147483579, .int 2147483563]) ∧ Keep st H H2) ⟨_, _, _, _, _, _, rfl, (upd_ne (ne_of_none upd_same nt)).trans upd_same, upd_same, ?_⟩ (fun i σ H2 _ ⟨_, _, _, _, _, _, _, _, ht, _⟩ => .inl (.inl ht)) ?_ ?_⟩
        · exact fun b o e n => same_upd nt b o (by rw [upd_ne n, upd_ne n, upd_ne n, upd_ne n]; exact e)
        · rintro i x σ H2 T' hx ⟨kk, pp, ff, l, b, seed, rfl, hS, hT, kp⟩ nT
          obtain ⟨p, rfl, p0, p1, i5⟩ := prime_at hx
          refine ⟨T', _, rfl, .inl (.inl upd_same), rfl, _, _, rfl, _, _, rfl, rfl, ?_⟩
          have hS' : ∀ o, (upd H2 T' o) st = some (.lst [.ref c, .int (nth + 1), .int l, .bl b]) := fun o => by rw [upd_ne (ne_of_none hS nT)]; exact hS
          have f1 : ∀ z : Int, 0 ≤ z.fmod p := fun z => Int.fmod_nonneg_of_pos z p0
          have f2 : ∀ z : Int, z.fmod p < p := fun z => Int.fmod_lt_of_pos z p0
          refine ⟨_, rfl, _, rfl, _, _, rfl, rfl, mulOk_l ⟨by decide, by decide⟩, _, rfl, _, _, rfl, rfl, mulOk_r ⟨by omega, by omega⟩, _, _, rfl, rfl, _, rfl, _, _, rfl, rfl, mulOk_l ⟨by decide, by decide⟩, _, _, rfl, rfl,
            _, rfl, _, _, rfl, rfl, mulOk_l ⟨by decide, by decide⟩, _, _, rfl, rfl, _, _, rfl, rfl, mulOk_r ⟨by omega, by omega⟩, .inl ⟨_, rfl, _, rfl, _, _, rfl, rfl, by omega, ?_⟩⟩
          refine ⟨_, rfl, st, _, _, _, rfl, rfl, .inl (.inl (hS' _)), rfl, _, rfl, _, _, rfl, rfl, mulOk_r ⟨by omega, by omega⟩, _, rfl, _, _, rfl, rfl, ⟨by decide, by decide, ?_⟩, .inl ⟨_, rfl, _, rfl, _, _, rfl, rfl, by omega, _, _, rfl, rfl, _, rfl, st, _, 2, 2, rfl, rfl, hS' _, rfl, ?_⟩⟩
          · have g1 := f1 ((seed + 10007 * (i : Int) * (i : Int) + 101 * (i : Int)) * (48271 + 2 * (i : Int)))
            have g2 := f2 ((seed + 10007 * (i : Int) * (i : Int) + 101 * (i : Int)) * (48271 + 2 * (i : Int)))
            omega
          · refine ⟨_, _, _, _, _, _, rfl, upd_same, ?_, fun b' o e n => ?_⟩
            · rw [upd_ne (ne_of hT hS (by intro z; cases z)), upd_ne (ne_of_none hT nT)]
              exact hT
            · rw [upd_ne n]
              exact same_upd nT b' o (kp b' o e n)
        · rintro σ H2 ⟨kk, pp, ff, l, b, seed, rfl, hS, hT, kp⟩
          exact tail b H2 kp ⟨l, hS⟩
      · refine ⟨_, rfl, _, _, rfl, rfl, ⟨by decide, by decide, by decide⟩, _, _, rfl, rfl, _, rfl, st, _, 3, 3, rfl, rfl, upd_same, rfl, ?_⟩
        refine ⟨_, rfl, _, _, rfl, rfl, ⟨by decide, by decide, by decide⟩, _, _, rfl, rfl, _, rfl, st, _, 2, 2, rfl, rfl, upd_same, rfl, ?_⟩
        refine ⟨_, rfl, st, _, _, _, rfl, rfl, .inl (.inl upd_same), rfl, _, rfl, ?_⟩
        refine ite2 (fun h2 => ?_) (fun h2 => ?_)
        · skip
          refine ⟨_, rfl, st, _, 2, 2, rfl, rfl, upd_same, rfl, ?_⟩
          refine ⟨(by show 5 ≤ sizeLine; decide), fun t nt => ?_⟩
          refine ⟨t, _, rfl, .inl (.inl upd_same), for_enumT (K := K) (a := t) (xs := [.int 2147483647, .int 2147483629, .int 2147483587, .int 2147483579, .int 2147483563]) (fun i σ H2 => ∃ kk pp ff l b seed, σ = [some (.ref st), some (.ref c), some (.int nth), some (.int seed), kk, pp, ff] ∧ H2 st = some (.lst [.ref c, .int (nth + 1), .int l, .bl b]) ∧
            H2 t = some (.tup [.int 2147483647, .int 2147483629, .int 2147483587, .int 2147483579, .int 2147483563]) ∧ Keep st H H2) ⟨_, _, _, _, _, _, rfl, (upd_ne (ne_of_none upd_same nt)).trans upd_same, upd_same, ?_⟩ (fun i σ H2 _ ⟨_, _, _, _, _, _, _, _, ht, _⟩ => .inl (.inl ht)) ?_ ?_⟩
          · exact fun b o e n => same_upd nt b o (by rw [upd_ne n, upd_ne n, upd_ne n, upd_ne n]; exact e)
          · rintro i x σ H2 T' hx ⟨kk, pp, ff, l, b, seed, rfl, hS, hT, kp⟩ nT
            obtain ⟨p, rfl, p0, p1, i5⟩ := prime_at hx
            refine ⟨T', _, rfl, .inl (.inl upd_same), rfl, _, _, rfl, _, _, rfl, rfl, ?_⟩
            have hS' : ∀ o, (upd H2 T' o) st = some (.lst [.ref c, .int (nth + 1), .int l, .bl b]) := fun o => by rw [upd_ne (ne_of_none hS nT)]; exact hS
            have f1 : ∀ z : Int, 0 ≤ z.fmod p := fun z => Int.fmod_nonneg_of_pos z p0
            have f2 : ∀ z : Int, z.fmod p < p := fun z => Int.fmod_lt_of_pos z p0
            refine ⟨_, rfl, _, rfl, _, _, rfl, rfl, mulOk_l ⟨by decide, by decide⟩, _, rfl, _, _, rfl, rfl, mulOk_r ⟨by omega, by omega⟩, _, _, rfl, rfl, _, rfl, _, _, rfl, rfl, mulOk_l ⟨by decide, by decide⟩, _, _, rfl, rfl,
              _, rfl, _, _, rfl, rfl, mulOk_l ⟨by decide, by decide⟩, _, _, rfl, rfl, _, _, rfl, rfl, mulOk_r ⟨by omega, by omega⟩, .inl ⟨_, rfl, _, rfl, _, _, rfl, rfl, by omega, ?_⟩⟩
            refine ⟨_, rfl, st, _, _, _, rfl, rfl, .inl (.inl (hS' _)), rfl, _, rfl, _, _, rfl, rfl, mulOk_r ⟨by omega, by omega⟩, _, rfl, _, _, rfl, rfl, ⟨by decide, by decide, ?_⟩, .inl ⟨_, rfl, _, rfl, _, _, rfl, rfl, by omega, _, _, rfl, rfl, _, rfl, st, _, 2, 2, rfl, rfl, hS' _, rfl, ?_⟩⟩
            · have g1 := f1 ((seed + 10007 * (i : Int) * (i : Int) + 101 * (i : Int)) * (48271 + 2 * (i : Int)))
              have g2 := f2 ((seed + 10007 * (i : Int) * (i : Int) + 101 * (i : Int)) * (48271 + 2 * (i : Int)))
              omega
            · refine ⟨_, _, _, _, _, _, rfl, upd_same, ?_, fun b' o e n => ?_⟩
              · rw [upd_ne (ne_of hT hS (by intro z; cases z)), upd_ne (ne_of_none hT nT)]
                exact hT
              · rw [upd_ne n]
                exact same_upd nT b' o (kp b' o e n)
          · rintro σ H2 ⟨kk, pp, ff, l, b, seed, rfl, hS, hT, kp⟩
            exact tail b H2 kp ⟨l, hS⟩
        · exact tail _ _ (fun b o e n => by rw [upd_ne n, upd_ne n, upd_ne n]; exact e) ⟨_, upd_same⟩
def spTake : Sp := fun vs H Q _ => ∃ (st c : Addr) (ns : List Int) (many : Int), vs = [.ref st, .int many] ∧ StAt H st c ns ∧ ns.length ≤ 63 ∧ 0 < many ∧ many.natAbs < 2 ^ 2000 ∧
  ∀ r H', 0 ≤ r → r < many → StAt H' st c ns → Keep st H H' → Q (.int r) H'
theorem ok_law_take (T : Tx K mg) : FnOk P w K mg base CX0 2 T.law_take_a T.law_take_d ["_law_state", "_law_many"] spTake := by
  refine T.law_take_F.ok sc_law_take (fun vs H Q E h => ?_) (fun cdv A outer s H vs Q E hr h => ?_)
  · obtain ⟨st, c, ns, many, rfl, _⟩ := h
    rfl
  · obtain ⟨st, c, ns, many, rfl, hSt, hl, h0, hz, k⟩ := h
    refine ⟨_, (pss_cons (ps_set (i := 2) sc_law_take.nd rfl (Or.inl rfl) pe_int)
  (pss_cons (ps_while PassesOwn.never (PW.pt (pw_and (pt_cmpR op_lt (pv 2) pe_int (nomark _)) (pw_and1 (PW.pt (pw_or (pt_cmpR op_eq (pe_ix ix_list (pv 0) pe_int (fun _ _ => rfl)) pe_int (nomark _)) (pw_or1 (PW.pt (pw_and (pt_val (pe_ix ix_list (pv 0) pe_int (fun _ _ => rfl))) (pw_and1 (pt_cmpR op_lt (pe_ix ix_list (pv 0) pe_int (fun _ _ => rfl)) (pe_op (op_mulG) (pv 1) pe_int) (nomark _)))))))))))
  (pss_cons (ps_expr (pe_call (ok_law_fill T) (hr.mono (by decide)) rfl T.law_fill_m T.law_fill_F.kp T.law_fill_b .nil pass0 (pa_cons (pv 0) pa_nil)))
  (pss_cons (ps_aug (i := 2) sc_law_take.nd rfl (Or.inl rfl) pe_int ip_add)
  (pss_one (ps_if (PW.pt (pw_and (pt_val (pe_ix ix_list (pv 0) pe_int (fun _ _ => rfl))) (pw_and1 (pt_cmpR op_lt (pe_ix ix_list (pv 0) pe_int (fun _ _ => rfl)) (pe_op (op_mulG) (pv 1) pe_int) (nomark _)))))
  (pss_one (ps_asg (pe_op (op_add) (pe_ix ix_list (pv 0) pe_int (fun _ _ => rfl)) (pe_op (op_mulG) (pe_op (op_mulG) (pv 1) pe_int) (pe_op (op_add) pe_int (pe_op (op_modN) (pe_callTy call_int1 (by rfl) T.z_int (by decide +kernel) (pa_cons (pe_ix ix_list (pv 0) pe_int (fun _ _ => rfl)) pa_nil)) pe_int)))) (pg_sub (pv 0) pe_int set_list)))
  pss_nil)))))
  (pss_cons (ps_set (i := 3) sc_law_take.nd rfl (Or.inl rfl) (pe_op (op_modN) (pe_callTy call_int1 (by rfl) T.z_int (by decide +kernel) (pa_cons (pe_ix ix_list (pv 0) pe_int (fun _ _ => rfl)) pa_nil)) (pv 1)))
  (pss_cons (ps_asg (pe_op (op_fdivG) (pe_ix ix_list (pv 0) pe_int (fun _ _ => rfl)) (pv 1)) (pg_sub (pv 0) pe_int set_list))
  (pss_one (ps_ret (pv 3))))))), ?_⟩
    refine while_any (fun m σ H2 => ∃ (l : Int) (d : Option V), σ = [some (.ref st), some (.int many), some (.int l), d] ∧ m = (64 - l).toNat ∧ StAt H2 st c ns ∧ Keep st H H2) ⟨_, 0, none, rfl, rfl, hSt, Keep.refl _ _⟩ ?_ ?_ ?_
    · rintro m σ H2 Q' ⟨l, d, rfl, rfl, ⟨⟨nth, left, mx, hL⟩, hc, hne⟩, kp⟩ hT hF
      refine ⟨_, rfl, _, _, rfl, rfl, _, rfl, ?_⟩
      refine ite2 (fun hlt => ?_) (fun _ => hF)
      have hlt : l < 64 := of_decide_eq_true hlt
      have all : ∀ b, Q' b H2 := fun b => by
        cases b with
        | true => exact hT (by omega)
        | false => exact hF
      refine ⟨_, rfl, st, _, _, _, rfl, rfl, .inl (.inl hL), rfl, rfl, _, rfl, ?_⟩
      refine ite2 (fun _ => all _) (fun _ => ?_)
      refine ⟨_, rfl, st, _, _, _, rfl, rfl, .inl (.inl hL), rfl, _, rfl, ?_⟩
      refine ite2 (fun _ => ?_) (fun _ => all _)
      exact ⟨_, rfl, st, _, _, _, rfl, rfl, .inl (.inl hL), rfl, _, rfl, _, _, rfl, rfl, mulOk_r ⟨by decide, by decide⟩, _, _, rfl, rfl, _, rfl, all _⟩
    · rintro m σ H2 hm ⟨l, d, rfl, rfl, hSt2, kp⟩
      refine ⟨_, rfl, st, c, ns, rfl, hSt2, hl, fun H3 hSt3 kp3 => ?_⟩
      refine ⟨_, rfl, _, _, rfl, rfl, ?_⟩
      obtain ⟨⟨nth, left, mx, hL⟩, hc, hne⟩ := id hSt3
      have fin : ∀ H4, StAt H4 st c ns → Keep st H H4 → ∃ m', m' < (64 - l).toNat ∧ ∃ (l' : Int) (d' : Option V), ([some (.ref st), some (.int many), some (.int (l + 1)), d] : L2.St) = [some (.ref st), some (.int many), some (.int l'), d'] ∧ m' = (64 - l').toNat ∧ StAt H4 st c ns ∧ Keep st H H4 :=
        fun H4 a b => ⟨_, by omega, l + 1, d, rfl, rfl, a, b⟩
      have kp13 := kp.trans kp3
      refine ⟨_, rfl, st, _, _, _, rfl, rfl, .inl (.inl hL), rfl, _, rfl, ?_⟩
      refine ite2 (fun _ => ?_) (fun _ => iteF (fin H3 hSt3 kp13))
      refine ⟨_, rfl, st, _, _, _, rfl, rfl, .inl (.inl hL), rfl, _, rfl, _, _, rfl, rfl, mulOk_r ⟨by decide, by decide⟩, _, _, rfl, rfl, _, rfl, ?_⟩
      refine ite2 (fun _ => ?_) (fun _ => fin H3 hSt3 kp13)
      have g1 := Int.fmod_nonneg_of_pos left (b := 4093) (by decide)
      have g2 := Int.fmod_lt_of_pos left (b := 4093) (by decide)
      refine ⟨_, rfl, st, _, _, _, rfl, rfl, .inl (.inl hL), rfl, _, rfl, _, _, rfl, rfl, mulOk_r ⟨by decide, by decide⟩, _, rfl, st, _, _, _, rfl, rfl, .inl (.inl hL), rfl, .inl ⟨_, rfl, _, _, rfl, rfl, (by show (4093 : Int) ≠ 0; decide), _, _, rfl, rfl, _, _, rfl, rfl, mulOk_r ⟨by omega, by omega⟩,
        _, _, rfl, rfl, _, rfl, st, _, 2, 2, rfl, rfl, hL, rfl, ?_⟩⟩
      exact fin _ hSt3.upd (kp13.trans keep_upd)
    · rintro m σ H2 ⟨l, d, rfl, rfl, hSt2, kp⟩
      obtain ⟨⟨nth, left, mx, hL⟩, hc, hne⟩ := id hSt2
      refine ⟨_, rfl, st, _, _, _, rfl, rfl, .inl (.inl hL), rfl, .inl ⟨_, rfl, _, rfl, _, _, rfl, rfl, by omega, ?_⟩⟩
      refine ⟨_, rfl, st, _, _, _, rfl, rfl, .inl (.inl hL), rfl, _, rfl, _, _, rfl, rfl, gDiv_lt (by omega) hz (by decide) (by decide), _, rfl, st, _, 2, 2, rfl, rfl, hL, rfl, ?_⟩
      exact ⟨_, rfl, k _ _ (Int.fmod_nonneg_of_pos _ h0) (Int.fmod_lt_of_pos _ h0) hSt2.upd (kp.trans keep_upd)⟩

end


section
variable {P : Program} {w : World} {K : PySem.W.Frag} {mg : Str → Option Value} {base : Heap}
/-! ### the law's own fractions -/
/-- a pair of ints stands at t -/
def PairAt (H : Hp) (t : Addr) (p : Int × Int) : Prop := H t = some (.tup [.int p.1, .int p.2])
theorem PairAt.same {H H' : Hp} {t : Addr} {p : Int × Int} (h : PairAt H t p) (e : Same H H') : PairAt H' t p := e _ _ h
theorem PairAt.keep {H H' : Hp} {t st c : Addr} {p : Int × Int} {ns : List Int} (h : PairAt H t p) (e : Keep st H H') (hs : StAt H st c ns) : PairAt H' t p :=
  e _ _ h (let ⟨_, _, _, z⟩ := hs.1; ne_of h z (by intro z; cases z))
theorem ExAt.keep {C : Addr} {H H' : Hp} {v : V} {st c : Addr} {p : Int × Int} {ns : List Int} (h : ExAt C H v p) (e : Keep st H H') (hs : StAt H st c ns) : ExAt C H' v p :=
  let ⟨a, dx, r, y⟩ := h; ⟨a, dx, r, e _ _ y (let ⟨_, _, _, z⟩ := hs.1; ne_of y z (by intro z; cases z))⟩
theorem NumAt.keep {C : Addr} {H H' : Hp} {v : V} {st c : Addr} {p : Int × Int} {ns : List Int} (h : NumAt C H v p) (e : Keep st H H') (hs : StAt H st c ns) : NumAt C H' v p := h.elim .inl fun z => .inr (z.keep e hs)
def spGcd : Sp := fun vs H Q _ => ∃ a b : Int, vs = [.int a, .int b] ∧ Q (.int (Int.gcd a b)) H
theorem ok_law_gcd (T : Tx K mg) : FnOk P w K mg base CX0 1 T.law_gcd_a T.law_gcd_d ["_law_a", "_law_b"] spGcd := by
  refine T.law_gcd_F.ok sc_law_gcd (fun vs H Q E h => ?_) (fun cdv A outer s H vs Q E hr h => ?_)
  · obtain ⟨a, b, rfl, _⟩ := h
    rfl
  · obtain ⟨a, b, rfl, k⟩ := h
    refine ⟨_, (pss_cons (ps_while PassesOwn.never (pt_cmpR op_ne (pv 1) pe_int (nomark _))
  (pss_one (ps_par (i := 0) (j := 1) (by rfl) sc_law_gcd.nd rfl rfl (by decide) rfl rfl (pa_cons (pv 1) (pa_cons (pe_op (op_modN) (pv 0) (pv 1)) pa_nil)) (by rfl))))
  (pss_one (ps_ret (pe_ifExp (pt_cmpR op_gt (pv 0) pe_int (nomark _)) (pv 0) (pe_un (un_neg) (pv 0)))))), ?_⟩
    refine ⟨fun m σ H' => ∃ x y : Int, σ = [some (.int x), some (.int y)] ∧ Int.gcd x y = Int.gcd a b ∧ m = y.natAbs ∧ H' = H, ⟨_, a, b, rfl, rfl, rfl, rfl⟩, ?_⟩
    rintro m σ H' ⟨x, y, rfl, hg, rfl, rfl⟩
    refine ⟨_, rfl, rfl, _, rfl, ?_⟩
    by_cases h0 : y = 0
    · subst h0
      refine iteF ?_
      have e : (Int.gcd a b : Int) = (x.natAbs : Int) := by rw [← hg, Int.gcd_zero_right]
      refine ⟨_, rfl, _, _, rfl, rfl, _, rfl, ?_⟩
      rw [e] at k
      refine ite2 (fun hp => ?_) (fun hp => ?_)
      · have hp : (0 : Int) < x := of_decide_eq_true hp
        refine ⟨_, rfl, ?_⟩
        rw [show (x.natAbs : Int) = x by omega] at k
        exact k
      · have hp : ¬ (0 : Int) < x := fun z => hp (decide_eq_true z)
        refine ⟨_, rfl, _, rfl, ?_⟩
        rw [show (x.natAbs : Int) = -x by omega] at k
        exact k
    · rw [show (!decide (V.int y = V.int 0)) = true by simp [h0]]
      refine iteT ?_
      refine ⟨_, fun σ' H' z => z, ?_⟩
      refine ⟨_, rfl, _, rfl, _, rfl, _, _, rfl, rfl, h0, _, _, rfl, ?_⟩
      exact ⟨_, fmod_lt h0, y, x.fmod y, rfl, (gcd_step x y).trans hg, rfl, rfl⟩
def spFrac : Sp := fun vs H Q _ => ∃ a b : Int, vs = [.int a, .int b] ∧ b ≠ 0 ∧ b.natAbs < 2 ^ 8000 ∧ ∀ t H', Same H H' → PairAt H' t (red a b) → Q (.ref t) H'
theorem ok_law_frac (T : Tx K mg) : FnOk P w K mg base CX0 2 T.law_frac_a T.law_frac_d ["_law_over", "_law_under"] spFrac := by
  refine T.law_frac_F.ok sc_law_frac (fun vs H Q E h => ?_) (fun cdv A outer s H vs Q E hr h => ?_)
  · obtain ⟨a, b, rfl, _⟩ := h
    rfl
  · obtain ⟨a, b, rfl, h0, hz, k⟩ := h
    refine ⟨_, (pss_cons (ps_set (i := 2) sc_law_frac.nd rfl (Or.inl rfl) (pe_call (ok_law_gcd T) (hr.mono (by decide)) rfl T.law_gcd_m T.law_gcd_F.kp T.law_gcd_b .nil pass0 (pa_cons (pv 0) (pa_cons (pv 1) pa_nil))))
  (pss_cons (ps_set (i := 2) sc_law_frac.nd rfl (Or.inl rfl) (pe_ifExp (pt_cmpR op_lt (pv 1) pe_int (nomark _)) (pe_un (un_neg) (pv 2)) (pv 2)))
  (pss_one (ps_ret (pe_tup (pa_cons (pe_op (op_fdivG) (pv 0) (pv 2)) (pa_cons (pe_op (op_fdivG) (pv 1) (pv 2)) pa_nil))))))), ?_⟩
    refine ⟨_, rfl, _, rfl, a, b, rfl, ?_⟩
    have gd : ∀ i, GDiv i (red_w a b) := fun i => gDiv_lt (red_w_ne h0) (red_w_sz h0 hz) (by decide) (by decide)
    refine ⟨_, rfl, _, _, rfl, rfl, _, rfl, ?_⟩
    refine ite2 (fun hn => ?_) (fun hn => ?_)
    · have hn : b < 0 := of_decide_eq_true hn
      have e : -(Int.gcd a b : Int) = red_w a b := by unfold red_w; rw [if_pos hn]
      refine ⟨_, rfl, _, rfl, ?_⟩
      refine ⟨_, rfl, _, rfl, _, _, rfl, rfl, e ▸ gd _, _, rfl, _, rfl, _, _, rfl, rfl, e ▸ gd _, (by show 2 ≤ sizeLine; decide), fun t nt => ?_⟩
      refine k t _ (same_upd nt) ?_
      show (upd _ _ _) _ = _
      rw [upd_same]
      show some (HO.tup [V.int (a.fdiv (-(Int.gcd a b : Int))), V.int (b.fdiv (-(Int.gcd a b : Int)))]) = _
      rw [e]
      rfl
    · have hn : ¬ b < 0 := fun z => hn (decide_eq_true z)
      have e : (Int.gcd a b : Int) = red_w a b := by unfold red_w; rw [if_neg hn]
      refine ⟨_, rfl, ?_⟩
      refine ⟨_, rfl, _, rfl, _, _, rfl, rfl, e ▸ gd _, _, rfl, _, rfl, _, _, rfl, rfl, e ▸ gd _, (by show 2 ≤ sizeLine; decide), fun t nt => ?_⟩
      refine k t _ (same_upd nt) ?_
      show (upd _ _ _) _ = _
      rw [upd_same]
      show some (HO.tup [V.int (a.fdiv (Int.gcd a b : Int)), V.int (b.fdiv (Int.gcd a b : Int))]) = _
      rw [e]
      rfl
/-- two pairs: the reduced one of f -/
def spPairs (f : Int × Int → Int × Int → Int × Int) : Sp := fun vs H Q _ => ∃ t1 t2 a b, vs = [.ref t1, .ref t2] ∧ PairAt H t1 a ∧ PairAt H t2 b ∧ a.1.natAbs < 2 ^ 1000 ∧ a.2.natAbs < 2 ^ 1000 ∧ b.1.natAbs < 2 ^ 1000 ∧ b.2.natAbs < 2 ^ 1000 ∧ (f a b).2 ≠ 0 ∧
  ∀ t H', Same H H' → PairAt H' t (red (f a b).1 (f a b).2) → Q (.ref t) H'
theorem spPairs_len {f : Int × Int → Int × Int → Int × Int} {vs : List V} {H : Hp} {Q : VK} {E : XK} (h : spPairs f vs H Q E) : vs.length = 2 := by
  obtain ⟨v, u, a, b, rfl, _⟩ := h
  rfl
theorem ok_law_add (T : Tx K mg) : FnOk P w K mg base CX0 3 T.law_add_a T.law_add_d ["_law_a", "_law_b"] (spPairs fAdd) := by
  refine T.law_add_F.ok sc_law_add (fun vs H Q E h => spPairs_len h) (fun cdv A outer s H vs Q E hr h => ?_)
  obtain ⟨t1, t2, a, b, rfl, h1, h2, z1, z2, z3, z4, h0, k⟩ := h
  refine ⟨_, (pss_one (ps_ret (pe_call (ok_law_frac T) (hr.mono (by decide)) rfl T.law_frac_m T.law_frac_F.kp T.law_frac_b .nil pass0 (pa_cons (pe_op (op_add) (pe_op (op_mulG) (pe_ix ix_tup (pv 0) pe_int (fun _ _ => rfl)) (pe_ix ix_tup (pv 1) pe_int (fun _ _ => rfl))) (pe_op (op_mulG) (pe_ix ix_tup (pv 1) pe_int (fun _ _ => rfl)) (pe_ix ix_tup (pv 0) pe_int (fun _ _ => rfl)))) (pa_cons (pe_op (op_mulG) (pe_ix ix_tup (pv 0) pe_int (fun _ _ => rfl)) (pe_ix ix_tup (pv 1) pe_int (fun _ _ => rfl))) pa_nil))))), ?_⟩
  refine ⟨_, rfl, t1, _, _, _, rfl, rfl, .inl (.inl h1), rfl, _, rfl, t2, _, _, _, rfl, rfl, .inl (.inl h2), rfl, _, _, rfl, rfl, ok1000 z1 z4, _, rfl, t2, _, _, _, rfl, rfl, .inl (.inl h2), rfl, _, rfl, t1, _, _, _, rfl, rfl, .inl (.inl h1), rfl, _, _, rfl, rfl, ok1000 z3 z2, _, _, rfl, rfl, _, rfl, t1, _, _, _, rfl, rfl, .inl (.inl h1), rfl, _, rfl, t2, _, _, _, rfl, rfl, .inl (.inl h2), rfl, _, _, rfl, rfl, ok1000 z2 z4, _, _, rfl, h0, sz_up (sz_mul z2 z4) (by decide), k⟩
theorem ok_law_mul (T : Tx K mg) : FnOk P w K mg base CX0 3 T.law_mul_a T.law_mul_d ["_law_a", "_law_b"] (spPairs fMul) := by
  refine T.law_mul_F.ok sc_law_mul (fun vs H Q E h => spPairs_len h) (fun cdv A outer s H vs Q E hr h => ?_)
  obtain ⟨t1, t2, a, b, rfl, h1, h2, z1, z2, z3, z4, h0, k⟩ := h
  refine ⟨_, (pss_one (ps_ret (pe_call (ok_law_frac T) (hr.mono (by decide)) rfl T.law_frac_m T.law_frac_F.kp T.law_frac_b .nil pass0 (pa_cons (pe_op (op_mulG) (pe_ix ix_tup (pv 0) pe_int (fun _ _ => rfl)) (pe_ix ix_tup (pv 1) pe_int (fun _ _ => rfl))) (pa_cons (pe_op (op_mulG) (pe_ix ix_tup (pv 0) pe_int (fun _ _ => rfl)) (pe_ix ix_tup (pv 1) pe_int (fun _ _ => rfl))) pa_nil))))), ?_⟩
  refine ⟨_, rfl, t1, _, _, _, rfl, rfl, .inl (.inl h1), rfl, _, rfl, t2, _, _, _, rfl, rfl, .inl (.inl h2), rfl, _, _, rfl, rfl, ok1000 z1 z3, _, rfl, t1, _, _, _, rfl, rfl, .inl (.inl h1), rfl, _, rfl, t2, _, _, _, rfl, rfl, .inl (.inl h2), rfl, _, _, rfl, rfl, ok1000 z2 z4, _, _, rfl, h0, sz_up (sz_mul z2 z4) (by decide), k⟩
/-- sizes that drawn fractions keep -/
def Dn (p : Int × Int) : Prop := 0 < p.2 ∧ p.1.natAbs < 2 ^ 130 ∧ p.2.natAbs < 2 ^ 50
theorem Dn.nm {p : Int × Int} (h : Dn p) : Nm p := ⟨h.1, sz_up h.2.1 (by decide), sz_up h.2.2 (by decide)⟩
def spAsNumber (C : Addr) : Sp := fun vs H Q _ => ∃ (st c t : Addr) (ns : List Int) (p : Int × Int), vs = [.ref st, .ref t] ∧ StAt H st c ns ∧ ns.length ≤ 63 ∧ PairAt H t p ∧ Rd p ∧ Nm p ∧ ∀ v H', StAt H' st c ns → Keep st H H' → NumAt C H' v p → Q v H'
theorem p_small : (3 : Int).natAbs < 2 ^ 2000 := Nat.lt_of_lt_of_le (by decide : 3 < 2 ^ 10) (Nat.pow_le_pow_right (by decide) (by decide))
theorem ok_law_as_number (T : Tx K mg) : FnOk P w K mg base CX0 5 T.law_as_number_a T.law_as_number_d ["_law_state", "_law_a"] (spAsNumber T.Exact_a) := by
  refine T.law_as_number_F.ok sc_law_as_number (fun vs H Q E h => ?_) (fun cdv A outer s H vs Q E hr h => ?_)
  · obtain ⟨st, c, t, ns, p, rfl, _⟩ := h
    rfl
  · obtain ⟨st, c, t2, ns, p, rfl, hSt, hl, h2, rd, nm, k⟩ := h
    refine ⟨_, (pss_cons (ps_if (PW.pt (pw_and (pt_cmpR op_eq (pe_ix ix_tup (pv 1) pe_int (fun _ _ => rfl)) pe_int (nomark _)) (pw_and1 (pt_cmpR op_gt (pe_call (ok_law_take T) (hr.mono (by decide)) rfl T.law_take_m T.law_take_F.kp T.law_take_b .nil pass0 (pa_cons (pv 0) (pa_cons pe_int pa_nil))) pe_int (nomark _)))))
  (pss_one (ps_ret (pe_ix ix_tup (pv 1) pe_int (fun _ _ => rfl))))
  pss_nil)
  (pss_cons (ps_set (i := 2) sc_law_as_number.nd rfl (Or.inl rfl) (pe_op (op_add) pe_int (pe_call (ok_law_take T) (hr.mono (by decide)) rfl T.law_take_m T.law_take_F.kp T.law_take_b .nil pass0 (pa_cons (pv 0) (pa_cons pe_int pa_nil)))))
  (pss_one (ps_ret (pe_make T.Exact_mk (ok_Exact_init T) (hr.mono (by decide)) rfl T.Exact_m T.Exact_init_b .nil pass0 (pa_cons (pe_op (op_mulG) (pe_ix ix_tup (pv 1) pe_int (fun _ _ => rfl)) (pv 2)) (pa_cons (pe_op (op_mulG) (pe_ix ix_tup (pv 1) pe_int (fun _ _ => rfl)) (pv 2)) pa_nil))))))), ?_⟩
    -- the second way, from any heap that is behind
    have go : ∀ H1, StAt H1 st c ns → Keep st H H1 → tSeq (tAsg (tOp (rI0 fun i j => .int (i + j)) (tC (.int 1)) (tCall spTake [] E0 (tCons (tVar 0) (tCons (tC (.int 3)) tNil)))) (gName 2))
        (tRet (tMake T.Exact_a (spExInit T.Exact_a) [] E0 (tCons (tOp (rI IntMulOk fun i j => .int (i * j)) (tOp (rIxT K) (tVar 1) (tC (.int 0))) (tVar 2)) (tCons (tOp (rI IntMulOk fun i j => .int (i * j)) (tOp (rIxT K) (tVar 1) (tC (.int 1))) (tVar 2)) tNil))))
        { nx := fun _ H' => Q .non H', rt := Q } [some (.ref st), some (.ref t2), none] H1 := by
      intro H1 s1 k1
      refine ⟨_, rfl, st, c, ns, 3, rfl, s1, hl, by decide, p_small, fun r H2 r0 r1 s2 k2 => ⟨_, _, rfl, rfl, ?_⟩⟩
      have h2 := (h2.keep k1 hSt).keep k2 s1
      have f0 : (1 : Int) + r ≠ 0 := by omega
      have fz : ((1 : Int) + r).natAbs < 2 ^ 1000 := Nat.lt_of_lt_of_le (by omega : ((1 : Int) + r).natAbs < 2 ^ 2) (Nat.pow_le_pow_right (by decide) (by decide))
      refine ⟨_, rfl, t2, _, _, _, rfl, rfl, .inl (.inl h2), rfl, _, rfl, _, _, rfl, rfl, ok1000 nm.2.1 fz, _, rfl, t2, _, _, _, rfl, rfl, .inl (.inl h2), rfl, _, rfl, _, _, rfl, rfl, ok1000 nm.2.2 fz, ?_⟩
      refine mk_ex (Int.mul_ne_zero (Int.ne_of_gt nm.1) f0) (sz_up (sz_mul nm.2.2 fz) (by decide)) fun v H3 s3 h3 => ?_
      rw [red_scale rd f0] at h3
      exact k v H3 (s2.same s3) ((k1.trans k2).trans (Same.keep s3)) (.inr h3)
    refine ⟨_, rfl, t2, _, _, _, rfl, rfl, .inl (.inl h2), rfl, rfl, _, rfl, ?_⟩
    by_cases e1 : p.2 = 1
    · rw [show decide (V.int p.2 = V.int 1) = true by simp [e1]]
      refine iteT ?_
      refine ⟨_, rfl, st, c, ns, 3, rfl, hSt, hl, by decide, p_small, fun r H2 r0 r1 s2 k2 => ⟨_, _, rfl, rfl, _, rfl, ?_⟩⟩
      have h2 := h2.keep k2 hSt
      refine ite2 (fun _ => ?_) (fun _ => go H2 s2 k2)
      exact ⟨_, rfl, t2, _, _, _, rfl, rfl, .inl (.inl h2), rfl, k _ H2 s2 k2 (.inl ⟨rfl, e1⟩)⟩
    · rw [show decide (V.int p.2 = V.int 1) = false by simp [e1]]
      exact iteF (iteF (go H hSt (Keep.refl _ _)))
def spLawPlain (C : Addr) : Sp := fun vs H Q _ => ∃ (t : Addr) (p : Int × Int), vs = [.ref t] ∧ PairAt H t p ∧ Rd p ∧ p.2.natAbs < 2 ^ 8000 ∧ ∀ v H', Same H H' → ToldAt C H' v p → Q v H'
theorem ok_law_plain (T : Tx K mg) : FnOk P w K mg base CX0 5 T.law_plain_a T.law_plain_d ["_law_a"] (spLawPlain T.Exact_a) := by
  refine T.law_plain_F.ok sc_law_plain (fun vs H Q E h => ?_) (fun cdv A outer s H vs Q E hr h => ?_)
  · obtain ⟨t, p, rfl, _⟩ := h
    rfl
  · obtain ⟨t1, p, rfl, h1, rd, sz, k⟩ := h
    refine ⟨_, (pss_one (ps_ret (pe_ifExp (pt_cmpR op_eq (pe_ix ix_tup (pv 0) pe_int (fun _ _ => rfl)) pe_int (nomark _)) (pe_ix ix_tup (pv 0) pe_int (fun _ _ => rfl)) (pe_make T.Exact_mk (ok_Exact_init T) (hr.mono (by decide)) rfl T.Exact_m T.Exact_init_b .nil pass0 (pa_cons (pe_ix ix_tup (pv 0) pe_int (fun _ _ => rfl)) (pa_cons (pe_ix ix_tup (pv 0) pe_int (fun _ _ => rfl)) pa_nil)))))), ?_⟩
    refine ⟨_, rfl, t1, _, _, _, rfl, rfl, .inl (.inl h1), rfl, rfl, _, rfl, ?_⟩
    by_cases e1 : p.2 = 1
    · rw [show decide (V.int p.2 = V.int 1) = true by simp [e1]]
      exact iteT ⟨_, rfl, t1, _, _, _, rfl, rfl, .inl (.inl h1), rfl, k _ H (Same.refl _) (.inl ⟨e1, rfl⟩)⟩
    · rw [show decide (V.int p.2 = V.int 1) = false by simp [e1]]
      refine iteF ?_
      refine ⟨_, rfl, t1, _, _, _, rfl, rfl, .inl (.inl h1), rfl, _, rfl, t1, _, _, _, rfl, rfl, .inl (.inl h1), rfl, ?_⟩
      exact mk_ex (Int.ne_of_gt rd.1) sz fun v H3 s3 h3 => k v H3 s3 (.inr ⟨e1, by rw [red_self rd] at h3; exact h3⟩)

end


/-! ### pairs as data; what the operators give, told by both kinds of operands -/
def dp (p : Int × Int) : PyData := .tuple [.int p.1, .int p.2]
theorem dpPair {K : PySem.W.Frag} {H : Hp} {t : Addr} {p : Int × Int} (h : PairAt H t p) : Dp K H (.ref t) (dp p) := .tup (.inl (.inl h)) (.cons (.int _) (.cons (.int _) .nil))
theorem dp_shaped (p : Int × Int) : SeqAt.shaped (dp p) = true := rfl
theorem eqv_self {d : PyData} (h : SeqAt.shaped d = true) : PyData.eqv d d = true := SeqAt.eqv_refl d (SeqAt.canLay_of_shaped h)
theorem sqT_same {K : PySem.W.Frag} {H H' : Hp} {a : Addr} {xs : List V} (e : Same H H') (h : SqT K H a xs) : SqT K H' a xs := by
  rcases h with (h | ⟨o, h⟩) | h
  · exact .inl (.inl (e _ _ h))
  · exact .inl (.inr ⟨o, e _ _ h⟩)
  · exact .inr h
mutual
theorem dp_same {K : PySem.W.Frag} {H H' : Hp} (e : Same H H') : ∀ {v : V} {d : PyData}, Dp K H v d → Dp K H' v d
  | _, _, .non => .non
  | _, _, .bl b => .bl b
  | _, _, .int i => .int i
  | _, _, .str s => .str s
  | _, _, .lst h d => .lst (e.seq h) (dpAll_same e d)
  | _, _, .tup h d => .tup (sqT_same e h) (dpAll_same e d)
theorem dpAll_same {K : PySem.W.Frag} {H H' : Hp} (e : Same H H') : ∀ {vs : List V} {ds : List PyData}, DpAll K H vs ds → DpAll K H' vs ds
  | _, _, .nil => .nil
  | _, _, .cons h t => .cons (dp_same e h) (dpAll_same e t)
end
theorem dpAll_snoc {K : PySem.W.Frag} {H : Hp} : ∀ {vs : List V} {ds : List PyData} {v : V} {d : PyData}, DpAll K H vs ds → Dp K H v d → DpAll K H (vs ++ [v]) (ds ++ [d])
  | _, _, _, _, .nil, h => .cons h .nil
  | _, _, _, _, .cons a t, h => .cons a (dpAll_snoc t h)
theorem dpAll_len {K : PySem.W.Frag} {H : Hp} : ∀ {vs : List V} {ds : List PyData}, DpAll K H vs ds → vs.length = ds.length
  | _, _, .nil => rfl
  | _, _, .cons _ t => congrArg (· + 1) (dpAll_len t)

/-! ### comparisons of Exacts -/
section
variable {P : Program} {w : World} {K : PySem.W.Frag} {mg : Str → Option Value} {base : Heap}
def spIsNumber (K : PySem.W.Frag) (C : Addr) : Sp := fun vs H Q _ => ∃ v, vs = [v] ∧ ((∃ p, NumAt C H v p) ∧ Q (.bl true) H ∨ NoNum K C H v ∧ Q (.bl false) H)
theorem ok_is_number (T : Tx K mg) : FnOk P w K mg base CX0 2 T.is_number_a T.is_number_d ["thing"] (spIsNumber K T.Exact_a) := by
  refine T.is_number_F.ok sc_is_number (fun vs H Q E h => ?_) (fun cdv A outer s H vs Q E hr h => ?_)
  · obtain ⟨v, rfl, _⟩ := h
    rfl
  · obtain ⟨v, rfl, h⟩ := h
    refine ⟨_, (pss_one (ps_ret (pe_or (pe_call (ok_is_whole T) (hr.mono (by decide)) rfl T.is_whole_m T.is_whole_F.kp T.is_whole_b .nil pass0 (pa_cons (pv 0) pa_nil)) (pe_one (pe_callB call_isi (by rfl) T.z_isinstance (by decide +kernel) (pa_cons (pv 0) (pa_cons (pe_glob (v := .ref T.Exact_a) rfl T.Exact_m rfl) pa_nil))))))), ?_⟩
    rcases h with ⟨⟨p, hp⟩, k⟩ | ⟨nn, k⟩
    · rcases hp.cases with ⟨rfl, _⟩ | ⟨x, dx, rfl, hx⟩
      · refine ⟨_, rfl, _, rfl, .inl ⟨⟨_, rfl⟩, true, rfl, ?_⟩⟩
        exact iteT k
      · refine ⟨_, rfl, _, rfl, .inr (.inl ⟨⟨p, x, dx, rfl, hx⟩, false, rfl, ?_⟩)⟩
        refine iteF ?_
        exact ⟨_, rfl, _, _, _, _, true, rfl, .own _, .base (.ins hx T.Exact_cl T.Exact_i1 T.Exact_i2 T.Exact_i3 T.Exact_i4), T.Exact_k0, k⟩
    · refine ⟨_, rfl, _, rfl, .inr (.inr ⟨nn, false, rfl, ?_⟩)⟩
      refine iteF ?_
      obtain ⟨t, b, ty, _, _, kC⟩ := nn
      exact ⟨_, rfl, _, _, _, _, false, rfl, .own _, ty, kC, k⟩
def spExEq (K : PySem.W.Frag) (C : Addr) : Sp := fun vs H Q _ => ∃ v u a, vs = [v, u] ∧ ExAt C H v a ∧ ((∃ b, NumAt C H u b ∧ ∀ H', Same H H' → Q (.bl (decide (a = b))) H') ∨ NoNum K C H u ∧ Q (.bl false) H)
theorem dp_eqv (a b : Int × Int) : PyData.eqv (dp a) (dp b) = decide (b = a) := by
  show (a.1 == b.1 && (a.2 == b.2 && true)) = decide (b = a)
  obtain ⟨a1, a2⟩ := a
  obtain ⟨b1, b2⟩ := b
  show (a1 == b1 && (a2 == b2 && true)) = decide ((b1, b2) = (a1, a2))
  rw [Bool.and_true]
  by_cases h1 : a1 = b1
  · by_cases h2 : a2 = b2
    · rw [decide_eq_true (Prod.ext h1.symm h2.symm), beq_iff_eq.mpr h1, beq_iff_eq.mpr h2]
      rfl
    · rw [decide_eq_false (fun q => h2 (Prod.mk.inj q).2.symm), beq_eq_false_iff_ne.mpr h2, Bool.and_false]
  · rw [decide_eq_false (fun q => h1 (Prod.mk.inj q).1.symm), beq_eq_false_iff_ne.mpr h1, Bool.false_and]
theorem ok_Exact_eq (T : Tx K mg) : FnOk P w K mg base CX0 6 T.Exact_eq_a T.Exact_eq_d ["self", "other"] (spExEq K T.Exact_a) := by
  refine T.Exact_eq_F.ok sc_Exact_eq (fun vs H Q E h => ?_) (fun cdv A outer s H vs Q E hr h => ?_)
  · obtain ⟨v, u, a, rfl, _⟩ := h
    rfl
  · obtain ⟨v, u, a, rfl, hv, h⟩ := h
    refine ⟨_, (pss_one (ps_ret (pe_and (pe_call (ok_is_number T) (hr.mono (by decide)) rfl T.is_number_m T.is_number_F.kp T.is_number_b .nil pass0 (pa_cons (pv 1) pa_nil)) (pe_one (pe_cmpR (op_eqD hr.units) (pe_call (ok_parts T) (hr.mono (by decide)) rfl T.parts_m T.parts_F.kp T.parts_b .nil pass0 (pa_cons (pv 1) pa_nil)) (pe_tup (pa_cons (pe_fld (pv 0) rfl) (pa_cons (pe_fld (pv 0) rfl) pa_nil))) (nomark _)))))), ?_⟩
    rcases h with ⟨b, hu, k⟩ | ⟨nn, k⟩
    · refine ⟨_, rfl, _, rfl, .inl ⟨⟨b, hu⟩, true, rfl, ?_⟩⟩
      refine iteT ?_
      refine ⟨_, rfl, u, b, rfl, hu, fun t H1 s1 ht => ?_⟩
      obtain ⟨x, dx, rfl, hx⟩ := hv.same s1
      refine ⟨_, rfl, x, _, dx, _, _, rfl, hx, T.Exact_cl, T.Exact_n_over, fl_over, _, rfl, x, _, dx, _, _, rfl, hx, T.Exact_cl, T.Exact_n_under, fl_under, (by show 2 ≤ sizeLine; decide), fun t2 nt2 => ?_⟩
      have s2 := same_upd (o := .tup [.int a.1, .int a.2]) nt2
      have h1 : PairAt H1 t b := ht
      refine ⟨dp b, dp a, dpPair (h1.same s2), dpPair (p := a) upd_same, rfl, rfl, ?_⟩
      rw [dp_eqv]
      exact k _ (s1.trans s2)
    · refine ⟨_, rfl, _, rfl, .inr ⟨nn, false, rfl, ?_⟩⟩
      exact iteF k
/-- an order of numbers -/
def spCmp (C : Addr) (f : Int × Int → Int × Int → Bool) : Sp := fun vs H Q _ => ∃ v u a b, vs = [v, u] ∧ ExAt C H v a ∧ NumAt C H u b ∧ Nm a ∧ Nm b ∧ ∀ H', Same H H' → Q (.bl (f a b)) H'
def bLt (a b : Int × Int) : Bool := decide (a.1 * b.2 < b.1 * a.2)
def bLe (a b : Int × Int) : Bool := decide (a.1 * b.2 ≤ b.1 * a.2)
def bGt (a b : Int × Int) : Bool := decide (b.1 * a.2 < a.1 * b.2)
def bGe (a b : Int × Int) : Bool := decide (b.1 * a.2 ≤ a.1 * b.2)
theorem ok_Exact_lt (T : Tx K mg) : FnOk P w K mg base CX0 6 T.Exact_lt_a T.Exact_lt_d ["self", "other"] (spCmp T.Exact_a bLt) := by
  refine T.Exact_lt_F.ok sc_Exact_lt (fun vs H Q E h => ?_) (fun cdv A outer s H vs Q E hr h => ?_)
  · obtain ⟨v, u, a, b, rfl, _⟩ := h
    rfl
  · obtain ⟨v, u, a, b, rfl, hv, hu, na, nb, k⟩ := h
    refine ⟨_, (pss_cons (ps_asg (pe_call (ok_parts T) (hr.mono (by decide)) rfl T.parts_m T.parts_F.kp T.parts_b .nil pass0 (pa_cons (pv 1) pa_nil)) (pg_tup (by rfl) (pgs_cons (pg_name (i := 2) sc_Exact_lt.nd rfl (Or.inl rfl)) (pgs_cons (pg_name (i := 3) sc_Exact_lt.nd rfl (Or.inl rfl)) pgs_nil))))
  (pss_one (ps_ret (pe_cmpR op_lt (pe_op (op_mulG) (pe_fld (pv 0) rfl) (pv 3)) (pe_op (op_mulG) (pv 2) (pe_fld (pv 0) rfl)) (nomark _))))), ?_⟩
    refine ⟨_, rfl, u, b, rfl, hu, fun t H1 s1 ht => ⟨t, _, rfl, .inl (.inl ht), rfl, _, _, rfl, _, _, rfl, rfl, ?_⟩⟩
    obtain ⟨x, dx, rfl, hx⟩ := hv.same s1
    refine ⟨_, rfl, x, _, dx, _, _, rfl, hx, T.Exact_cl, T.Exact_n_over, fl_over, _, rfl, _, _, rfl, rfl, ok1000 na.2.1 nb.2.2, _, rfl, _, rfl, x, _, dx, _, _, rfl, hx, T.Exact_cl, T.Exact_n_under, fl_under, _, _, rfl, rfl, ok1000 nb.2.1 na.2.2, _, _, rfl, rfl, k _ s1⟩
theorem ok_Exact_le (T : Tx K mg) : FnOk P w K mg base CX0 6 T.Exact_le_a T.Exact_le_d ["self", "other"] (spCmp T.Exact_a bLe) := by
  refine T.Exact_le_F.ok sc_Exact_le (fun vs H Q E h => ?_) (fun cdv A outer s H vs Q E hr h => ?_)
  · obtain ⟨v, u, a, b, rfl, _⟩ := h
    rfl
  · obtain ⟨v, u, a, b, rfl, hv, hu, na, nb, k⟩ := h
    refine ⟨_, (pss_cons (ps_asg (pe_call (ok_parts T) (hr.mono (by decide)) rfl T.parts_m T.parts_F.kp T.parts_b .nil pass0 (pa_cons (pv 1) pa_nil)) (pg_tup (by rfl) (pgs_cons (pg_name (i := 2) sc_Exact_le.nd rfl (Or.inl rfl)) (pgs_cons (pg_name (i := 3) sc_Exact_le.nd rfl (Or.inl rfl)) pgs_nil))))
  (pss_one (ps_ret (pe_cmpR op_le (pe_op (op_mulG) (pe_fld (pv 0) rfl) (pv 3)) (pe_op (op_mulG) (pv 2) (pe_fld (pv 0) rfl)) (nomark _))))), ?_⟩
    refine ⟨_, rfl, u, b, rfl, hu, fun t H1 s1 ht => ⟨t, _, rfl, .inl (.inl ht), rfl, _, _, rfl, _, _, rfl, rfl, ?_⟩⟩
    obtain ⟨x, dx, rfl, hx⟩ := hv.same s1
    refine ⟨_, rfl, x, _, dx, _, _, rfl, hx, T.Exact_cl, T.Exact_n_over, fl_over, _, rfl, _, _, rfl, rfl, ok1000 na.2.1 nb.2.2, _, rfl, _, rfl, x, _, dx, _, _, rfl, hx, T.Exact_cl, T.Exact_n_under, fl_under, _, _, rfl, rfl, ok1000 nb.2.1 na.2.2, _, _, rfl, rfl, k _ s1⟩
theorem ok_Exact_gt (T : Tx K mg) : FnOk P w K mg base CX0 6 T.Exact_gt_a T.Exact_gt_d ["self", "other"] (spCmp T.Exact_a bGt) := by
  refine T.Exact_gt_F.ok sc_Exact_gt (fun vs H Q E h => ?_) (fun cdv A outer s H vs Q E hr h => ?_)
  · obtain ⟨v, u, a, b, rfl, _⟩ := h
    rfl
  · obtain ⟨v, u, a, b, rfl, hv, hu, na, nb, k⟩ := h
    refine ⟨_, (pss_cons (ps_asg (pe_call (ok_parts T) (hr.mono (by decide)) rfl T.parts_m T.parts_F.kp T.parts_b .nil pass0 (pa_cons (pv 1) pa_nil)) (pg_tup (by rfl) (pgs_cons (pg_name (i := 2) sc_Exact_gt.nd rfl (Or.inl rfl)) (pgs_cons (pg_name (i := 3) sc_Exact_gt.nd rfl (Or.inl rfl)) pgs_nil))))
  (pss_one (ps_ret (pe_cmpR op_gt (pe_op (op_mulG) (pe_fld (pv 0) rfl) (pv 3)) (pe_op (op_mulG) (pv 2) (pe_fld (pv 0) rfl)) (nomark _))))), ?_⟩
    refine ⟨_, rfl, u, b, rfl, hu, fun t H1 s1 ht => ⟨t, _, rfl, .inl (.inl ht), rfl, _, _, rfl, _, _, rfl, rfl, ?_⟩⟩
    obtain ⟨x, dx, rfl, hx⟩ := hv.same s1
    refine ⟨_, rfl, x, _, dx, _, _, rfl, hx, T.Exact_cl, T.Exact_n_over, fl_over, _, rfl, _, _, rfl, rfl, ok1000 na.2.1 nb.2.2, _, rfl, _, rfl, x, _, dx, _, _, rfl, hx, T.Exact_cl, T.Exact_n_under, fl_under, _, _, rfl, rfl, ok1000 nb.2.1 na.2.2, _, _, rfl, rfl, k _ s1⟩
theorem ok_Exact_ge (T : Tx K mg) : FnOk P w K mg base CX0 6 T.Exact_ge_a T.Exact_ge_d ["self", "other"] (spCmp T.Exact_a bGe) := by
  refine T.Exact_ge_F.ok sc_Exact_ge (fun vs H Q E h => ?_) (fun cdv A outer s H vs Q E hr h => ?_)
  · obtain ⟨v, u, a, b, rfl, _⟩ := h
    rfl
  · obtain ⟨v, u, a, b, rfl, hv, hu, na, nb, k⟩ := h
    refine ⟨_, (pss_cons (ps_asg (pe_call (ok_parts T) (hr.mono (by decide)) rfl T.parts_m T.parts_F.kp T.parts_b .nil pass0 (pa_cons (pv 1) pa_nil)) (pg_tup (by rfl) (pgs_cons (pg_name (i := 2) sc_Exact_ge.nd rfl (Or.inl rfl)) (pgs_cons (pg_name (i := 3) sc_Exact_ge.nd rfl (Or.inl rfl)) pgs_nil))))
  (pss_one (ps_ret (pe_cmpR op_ge (pe_op (op_mulG) (pe_fld (pv 0) rfl) (pv 3)) (pe_op (op_mulG) (pv 2) (pe_fld (pv 0) rfl)) (nomark _))))), ?_⟩
    refine ⟨_, rfl, u, b, rfl, hu, fun t H1 s1 ht => ⟨t, _, rfl, .inl (.inl ht), rfl, _, _, rfl, _, _, rfl, rfl, ?_⟩⟩
    obtain ⟨x, dx, rfl, hx⟩ := hv.same s1
    refine ⟨_, rfl, x, _, dx, _, _, rfl, hx, T.Exact_cl, T.Exact_n_over, fl_over, _, rfl, _, _, rfl, rfl, ok1000 na.2.1 nb.2.2, _, rfl, _, rfl, x, _, dx, _, _, rfl, hx, T.Exact_cl, T.Exact_n_under, fl_under, _, _, rfl, rfl, ok1000 nb.2.1 na.2.2, _, _, rfl, rfl, k _ s1⟩
/-- the law's own order -/
def spLawLess : Sp := fun vs H Q _ => ∃ t1 t2 a b, vs = [.ref t1, .ref t2] ∧ PairAt H t1 a ∧ PairAt H t2 b ∧ a.1.natAbs < 2 ^ 1000 ∧ a.2.natAbs < 2 ^ 1000 ∧ b.1.natAbs < 2 ^ 1000 ∧ b.2.natAbs < 2 ^ 1000 ∧ Q (.bl (bLt a b)) H
theorem ok_law_less (T : Tx K mg) : FnOk P w K mg base CX0 1 T.law_less_a T.law_less_d ["_law_a", "_law_b"] spLawLess := by
  refine T.law_less_F.ok sc_law_less (fun vs H Q E h => ?_) (fun cdv A outer s H vs Q E hr h => ?_)
  · obtain ⟨t1, t2, a, b, rfl, _⟩ := h
    rfl
  · obtain ⟨t1, t2, a, b, rfl, h1, h2, z1, z2, z3, z4, k⟩ := h
    refine ⟨_, (pss_one (ps_ret (pe_cmpR op_lt (pe_op (op_mulG) (pe_ix ix_tup (pv 0) pe_int (fun _ _ => rfl)) (pe_ix ix_tup (pv 1) pe_int (fun _ _ => rfl))) (pe_op (op_mulG) (pe_ix ix_tup (pv 1) pe_int (fun _ _ => rfl)) (pe_ix ix_tup (pv 0) pe_int (fun _ _ => rfl))) (nomark _)))), ?_⟩
    refine ⟨_, rfl, t1, _, _, _, rfl, rfl, .inl (.inl h1), rfl, _, rfl, t2, _, _, _, rfl, rfl, .inl (.inl h2), rfl, _, _, rfl, rfl, ok1000 z1 z4, _, rfl, t2, _, _, _, rfl, rfl, .inl (.inl h2), rfl, _, rfl, t1, _, _, _, rfl, rfl, .inl (.inl h1), rfl, _, _, rfl, rfl, ok1000 z3 z2, _, _, rfl, rfl, k⟩
end



/-! ### numbers, ints and Exacts mixed: their operators and orders -/
theorem fAdd_c (a b : Int × Int) : fAdd b a = fAdd a b := by
  unfold fAdd
  rw [Int.add_comm, Int.mul_comm b.2 a.2]
theorem fMul_c (a b : Int × Int) : fMul b a = fMul a b := by
  unfold fMul
  rw [Int.mul_comm b.1 a.1, Int.mul_comm b.2 a.2]
theorem fRsub_c (a b : Int × Int) : fRsub a b = fSub b a := by
  unfold fRsub fSub
  rw [Int.mul_comm b.2 a.2]
theorem tyX_same {K : PySem.W.Frag} {H H' : Hp} (s : Same H H') {v : V} {t : Value} (h : TyX K H v t) : TyX K H' v t := by
  cases h with
  | base h =>
    refine .base ?_
    cases h with
    | non => exact .non
    | bl x => exact .bl x
    | int i => exact .int i
    | str x => exact .str x
    | flt x => exact .flt x
    | lst e => exact .lst (s _ _ e)
    | frz e => exact .frz (s _ _ e)
    | tup e => exact .tup (s _ _ e)
    | dK e => exact .dK (s _ _ e)
    | dT e => exact .dT (s _ _ e)
    | ins e c h1 h2 h3 h4 => exact .ins (s _ _ e) c h1 h2 h3 h4
  | byt b => exact .byt b
  | set e => exact .set (s _ _ e)
  | kList e c => exact .kList e c
  | kTuple e c => exact .kTuple e c
  | kDict e c => exact .kDict e c
  | fTuple e => exact .fTuple (s _ _ e)
  | fDict e => exact .fDict (s _ _ e)
theorem NoNum.same {K : PySem.W.Frag} {C : Addr} {H H' : Hp} {v : V} (h : NoNum K C H v) (s : Same H H') : NoNum K C H' v := by
  obtain ⟨t, b, ty, r⟩ := h
  exact ⟨t, b, tyX_same s ty, r⟩
theorem nf_ty {K : PySem.W.Frag} {C : Addr} {t : String} (h : PySem.W.subIn K (.type t) (.ref C) = some false) : PySem.W.notFirst K C (.type t) = true := by
  unfold PySem.W.notFirst
  rw [h]
  exact Bool.or_true _
theorem nf_own {K : PySem.W.Frag} {C : Addr} : PySem.W.notFirst K C (.ref C) = true := by
  unfold PySem.W.notFirst
  rw [beq_self_eq_true]
  exact Bool.true_or _
section
variable {K : PySem.W.Frag} {mg : Str → Option Value} {T : Tx K mg} {H : Hp} {x y : V} {a b : Int × Int} {Q : VK} {E : XK}
theorem num_ty (T : Tx K mg) (hy : NumAt T.Exact_a H y b) : ∃ t, TyX K H y t ∧ PySem.W.notFirst K T.Exact_a t = true := by
  rcases hy.cases with ⟨rfl, _⟩ | ⟨q, dy, rfl, hq⟩
  · exact ⟨_, .base (.int _), nf_ty T.Exact_up_int⟩
  · exact ⟨_, .base (.ins hq T.Exact_cl T.Exact_i1 T.Exact_i2 T.Exact_i3 T.Exact_i4), nf_own⟩
theorem n_bin {C : Addr} {f g h : Int × Int → Int × Int → Int × Int} {R : R2} (hx : NumAt C H x a) (hy : NumAt C H y b) (na : Nm a) (nb : Nm b) (e1 : f a b = h a b) (e2 : g b a = h a b)
    (ii : ∀ i j : Int, x = .int i → y = .int j → a = (i, 1) → b = (j, 1) → R x y H Q) (k : ∀ v' H', Same H H' → NumAt C H' v' (red (h a b).1 (h a b).2) → Q v' H') :
    R x y H Q ∨ rGyD C (spBin C f) E x y H Q ∨ rGyR C (spBin C g) E x y H Q := by
  rcases hx.cases with ⟨rfl, h1⟩ | ⟨p, dx, rfl, hp⟩
  · rcases hy.cases with ⟨rfl, h2⟩ | ⟨q, dy, rfl, hq⟩
    · exact .inl (ii _ _ rfl rfl (by rw [← h1]) (by rw [← h2]))
    · exact .inr (.inr ⟨_, q, dy, _, rfl, rfl, hq, _, _, b, a, rfl, ⟨q, dy, rfl, hq⟩, hx, nb, na, by rw [e2]; exact fun v' H' s z => k v' H' s (.inr z)⟩)
  · refine .inr (.inl ⟨p, dx, _, rfl, hp, ?_, _, _, a, b, rfl, ⟨p, dx, rfl, hp⟩, hy, na, nb, by rw [e1]; exact fun v' H' s z => k v' H' s (.inr z)⟩)
    rcases hy.cases with ⟨rfl, _⟩ | ⟨q, dy, rfl, hq⟩
    · exact .inr ⟨_, rfl⟩
    · exact .inl ⟨q, dy, _, rfl, hq⟩
theorem n_add {C : Addr} (hx : NumAt C H x a) (hy : NumAt C H y b) (na : Nm a) (nb : Nm b) (k : ∀ v' H', Same H H' → NumAt C H' v' (red (fAdd a b).1 (fAdd a b).2) → Q v' H') :
    (rI0 fun i j => .int (i + j)) x y H Q ∨ rGyD C (spBin C fAdd) E x y H Q ∨ rGyR C (spBin C fAdd) E x y H Q :=
  n_bin (h := fAdd) hx hy na nb rfl (fAdd_c a b) (fun i j ex ey ea eb => by
    subst ex ey ea eb
    refine ⟨_, _, rfl, rfl, k _ _ (Same.refl _) (.inl ?_)⟩
    have : red (fAdd (i, 1) (j, 1)).1 (fAdd (i, 1) (j, 1)).2 = (i + j, 1) := by
      show red (i * 1 + j * 1) (1 * 1) = _
      rw [Int.mul_one, Int.mul_one, Int.mul_one]
      exact red_self (rd_int _)
    rw [this]
    exact ⟨rfl, rfl⟩) k
theorem n_sub {C : Addr} (hx : NumAt C H x a) (hy : NumAt C H y b) (na : Nm a) (nb : Nm b) (k : ∀ v' H', Same H H' → NumAt C H' v' (red (fSub a b).1 (fSub a b).2) → Q v' H') :
    (rI0 fun i j => .int (i - j)) x y H Q ∨ rGyD C (spBin C fSub) E x y H Q ∨ rGyR C (spBin C fRsub) E x y H Q :=
  n_bin (h := fSub) hx hy na nb rfl (fRsub_c b a) (fun i j ex ey ea eb => by
    subst ex ey ea eb
    refine ⟨_, _, rfl, rfl, k _ _ (Same.refl _) (.inl ?_)⟩
    have : red (fSub (i, 1) (j, 1)).1 (fSub (i, 1) (j, 1)).2 = (i - j, 1) := by
      show red (i * 1 - j * 1) (1 * 1) = _
      rw [Int.mul_one, Int.mul_one, Int.mul_one]
      exact red_self (rd_int _)
    rw [this]
    exact ⟨rfl, rfl⟩) k
theorem n_mul {C : Addr} (hx : NumAt C H x a) (hy : NumAt C H y b) (na : Nm a) (nb : Nm b) (k : ∀ v' H', Same H H' → NumAt C H' v' (red (fMul a b).1 (fMul a b).2) → Q v' H') :
    (rI IntMulOk fun i j => .int (i * j)) x y H Q ∨ rGyD C (spBin C fMul) E x y H Q ∨ rGyR C (spBin C fMul) E x y H Q :=
  n_bin (h := fMul) hx hy na nb rfl (fMul_c a b) (fun i j ex ey ea eb => by
    subst ex ey ea eb
    refine ⟨_, _, rfl, rfl, ok1000 na.2.1 nb.2.1, k _ _ (Same.refl _) (.inl ?_)⟩
    have : red (fMul (i, 1) (j, 1)).1 (fMul (i, 1) (j, 1)).2 = (i * j, 1) := by
      show red (i * j) (1 * 1) = _
      rw [Int.mul_one]
      exact red_self (rd_int _)
    rw [this]
    exact ⟨rfl, rfl⟩) k
theorem n_cmp {X : Cx} {op : CmpOp} {f g : Int × Int → Int × Int → Bool} {R : R2} (tn : ∀ i, Turns X T.Exact_a op (.int i) H) (hx : NumAt T.Exact_a H x a) (hy : NumAt T.Exact_a H y b) (na : Nm a) (nb : Nm b) (e2 : g b a = f a b)
    (ii : ∀ i j : Int, x = .int i → y = .int j → a = (i, 1) → b = (j, 1) → R x y H Q) (k : ∀ H', Same H H' → Q (.bl (f a b)) H') :
    R x y H Q ∨ rGyC K T.Exact_a (spCmp T.Exact_a f) E x y H Q ∨ rGyCR X op T.Exact_a (spCmp T.Exact_a g) E x y H Q := by
  rcases hx.cases with ⟨rfl, h1⟩ | ⟨p, dx, rfl, hp⟩
  · rcases hy.cases with ⟨rfl, h2⟩ | ⟨q, dy, rfl, hq⟩
    · exact .inl (ii _ _ rfl rfl (by rw [← h1]) (by rw [← h2]))
    · exact .inr (.inr ⟨q, dy, _, rfl, hq, tn _, _, _, b, a, rfl, ⟨q, dy, rfl, hq⟩, hx, nb, na, by rw [e2]; exact k⟩)
  · obtain ⟨t, ty, nf⟩ := num_ty T hy
    exact .inr (.inl ⟨p, dx, _, t, rfl, hp, ty, nf, _, _, a, b, rfl, ⟨p, dx, rfl, hp⟩, hy, na, nb, k⟩)
theorem n_lt {X : Cx} (tn : ∀ i, Turns X T.Exact_a .Lt (.int i) H) (hx : NumAt T.Exact_a H x a) (hy : NumAt T.Exact_a H y b) (na : Nm a) (nb : Nm b) (k : ∀ H', Same H H' → Q (.bl (bLt a b)) H') :
    (rI0 fun i j => .bl (decide (i < j))) x y H Q ∨ rGyC K T.Exact_a (spCmp T.Exact_a bLt) E x y H Q ∨ rGyCR X .Lt T.Exact_a (spCmp T.Exact_a bGt) E x y H Q :=
  n_cmp tn hx hy na nb rfl (fun i j ex ey ea eb => by
    subst ex ey ea eb
    refine ⟨_, _, rfl, rfl, ?_⟩
    have := k _ (Same.refl _)
    unfold bLt at this
    rw [Int.mul_one, Int.mul_one] at this
    exact this) k
theorem n_le {X : Cx} (tn : ∀ i, Turns X T.Exact_a .LtE (.int i) H) (hx : NumAt T.Exact_a H x a) (hy : NumAt T.Exact_a H y b) (na : Nm a) (nb : Nm b) (k : ∀ H', Same H H' → Q (.bl (bLe a b)) H') :
    (rI0 fun i j => .bl (decide (i ≤ j))) x y H Q ∨ rGyC K T.Exact_a (spCmp T.Exact_a bLe) E x y H Q ∨ rGyCR X .LtE T.Exact_a (spCmp T.Exact_a bGe) E x y H Q :=
  n_cmp tn hx hy na nb rfl (fun i j ex ey ea eb => by
    subst ex ey ea eb
    refine ⟨_, _, rfl, rfl, ?_⟩
    have := k _ (Same.refl _)
    unfold bLe at this
    rw [Int.mul_one, Int.mul_one] at this
    exact this) k
theorem n_ge {X : Cx} (tn : ∀ i, Turns X T.Exact_a .GtE (.int i) H) (hx : NumAt T.Exact_a H x a) (hy : NumAt T.Exact_a H y b) (na : Nm a) (nb : Nm b) (k : ∀ H', Same H H' → Q (.bl (bGe a b)) H') :
    (rI0 fun i j => .bl (decide (j ≤ i))) x y H Q ∨ rGyC K T.Exact_a (spCmp T.Exact_a bGe) E x y H Q ∨ rGyCR X .GtE T.Exact_a (spCmp T.Exact_a bLe) E x y H Q :=
  n_cmp tn hx hy na nb rfl (fun i j ex ey ea eb => by
    subst ex ey ea eb
    refine ⟨_, _, rfl, rfl, ?_⟩
    have := k _ (Same.refl _)
    unfold bGe at this
    rw [Int.mul_one, Int.mul_one] at this
    exact this) k
theorem n_eq {X : Cx} (tn : ∀ i, Turns X T.Exact_a .Eq (.int i) H) (hx : NumAt T.Exact_a H x a) (hy : NumAt T.Exact_a H y b) (k : ∀ H', Same H H' → Q (.bl (decide (a = b))) H') :
    rEq x y H Q ∨ rGyC K T.Exact_a (spExEq K T.Exact_a) E x y H Q ∨ rGyCR X .Eq T.Exact_a (spExEq K T.Exact_a) E x y H Q := by
  rcases hx.cases with ⟨rfl, h1⟩ | ⟨p, dx, rfl, hp⟩
  · rcases hy.cases with ⟨rfl, h2⟩ | ⟨q, dy, rfl, hq⟩
    · refine .inl ⟨rfl, ?_⟩
      have e : decide (V.int a.1 = V.int b.1) = decide (a = b) := decide_eq_decide.mpr ⟨fun z => Prod.ext (V.int.inj z) (h1.trans h2.symm), fun z => by rw [z]⟩
      rw [e]
      exact k _ (Same.refl _)
    · exact .inr (.inr ⟨q, dy, _, rfl, hq, tn _, _, _, b, rfl, ⟨q, dy, rfl, hq⟩, .inl ⟨a, hx, by
        rw [show decide (b = a) = decide (a = b) from decide_eq_decide.mpr eq_comm]
        exact k⟩⟩)
  · obtain ⟨t, ty, nf⟩ := num_ty T hy
    exact .inr (.inl ⟨p, dx, _, t, rfl, hp, ty, nf, _, _, a, rfl, ⟨p, dx, rfl, hp⟩, .inl ⟨b, hy, k⟩⟩)
end



/-! ### an error of class B goes out, its field f holding v -/
def FOut (B : Addr) (f : Str) (H : Hp) (v : V) (E : XK) : Prop := ∀ d H', Same H H' → H' d = some (.xd [(f, v)]) → E (.ref B) (some d) H'
theorem FOut.same {B : Addr} {f : Str} {H H1 : Hp} {v : V} {E : XK} (h : FOut B f H v E) (s : Same H H1) : FOut B f H1 v E := fun d H' s' e => h d H' (s.trans s') e
theorem mk_fout {B : Addr} {f : Str} {H : Hp} {v : V} {W : XK} (h : FOut B f H v W) : ∀ a, H a = none → spErrF B f (.ref a :: ([v] ++ [])) (upd H a (exo a B none))
    (fun u H2 => u = .non ∧ ∃ (d : Addr) (fs : List (Str × V)), H2 a = some (exo a B (some d)) ∧ H2 d = some (exd d fs) ∧ H d = none ∧ W (.ref B) (some d) (upd (del H2 a) d (.xd fs))) (fun _ _ _ => False) := fun a na =>
  ⟨a, v, rfl, upd_same, fun dx nd ne => ⟨rfl, dx, [(f, v)], upd_same, (upd_ne ne).trans upd_same, by rw [upd_ne ne] at nd; exact nd, h dx _ (fun b o e => by
    have nb : b ≠ a := ne_of_none e na
    have nd' : H dx = none := by rw [upd_ne ne] at nd; exact nd
    rw [upd_ne (ne_of_none e nd'), del_ne nb, upd_ne nb, upd_ne (ne_of_none e nd'), upd_ne nb]
    exact e) upd_same⟩⟩

/-! ### points and spots -/
abbrev Pt := (Int × Int) × (Int × Int)
def Sm (p : Int × Int) : Prop := p.1.natAbs < 2 ^ 60 ∧ p.2.natAbs < 2 ^ 60
def Fine (p : Int × Int) : Prop := Rd p ∧ Sm p
theorem Fine.nm {p : Int × Int} (h : Fine p) : Nm p := ⟨h.1.1, sz_up h.2.1 (by decide), sz_up h.2.2 (by decide)⟩
/-- v is a list or a tuple of xs -/
def SeqQ (H : Hp) (v : V) (xs : List V) : Prop := ∃ a, v = .ref a ∧ (H a = some (.lst xs) ∨ H a = some (.tup xs))
theorem SeqQ.same {H H' : Hp} {v : V} {xs : List V} (h : SeqQ H v xs) (s : Same H H') : SeqQ H' v xs := by
  obtain ⟨a, e, h⟩ := h
  exact ⟨a, e, h.elim (fun z => .inl (s _ _ z)) fun z => .inr (s _ _ z)⟩
section
variable {K : PySem.W.Frag}
theorem lt_list : PySem.W.kitAny K (.type "list") [.type "list", .type "tuple"] = some true := kitAny_cons (b := true) (kit_ty (by decide +kernel)) (fun e => by cases e) fun _ => rfl
theorem lt_tuple : PySem.W.kitAny K (.type "tuple") [.type "list", .type "tuple"] = some true := kitAny_cons (b := false) (kit_ty (by decide +kernel)) (fun _ => kitAny_cons (b := true) (kit_ty (by decide +kernel)) (fun e => by cases e) fun _ => rfl) fun e => by cases e
theorem lt_no {t : Value} (h1 : PySem.W.kitOne K t (.type "list") = some false) (h2 : PySem.W.kitOne K t (.type "tuple") = some false) : PySem.W.kitAny K t [.type "list", .type "tuple"] = some false :=
  kitAny_cons h1 (fun _ => kitAny_cons h2 (fun _ => kitAny_nil) fun e => by cases e) fun e => by cases e
theorem SeqQ.ty {H : Hp} {v : V} {xs : List V} (h : SeqQ H v xs) : ∃ t, TyX K H v t ∧ PySem.W.kitAny K t [.type "list", .type "tuple"] = some true := by
  obtain ⟨a, rfl, h | h⟩ := h
  · exact ⟨_, .base (.lst h), lt_list⟩
  · exact ⟨_, .base (.tup h), lt_tuple⟩
theorem SeqQ.ix {H : Hp} {v : V} {xs : List V} {i : Int} {y : V} {Q : VK} (h : SeqQ H v xs) (e : atI xs i = some y) (q : Q y H) : rIx K v (.int i) H Q := by
  obtain ⟨a, rfl, h | h⟩ := h
  · exact .inl ⟨a, xs, i, y, rfl, rfl, .inl (.inl h), e, q⟩
  · exact .inr (.inl ⟨a, xs, i, y, rfl, rfl, .inl (.inl h), e, q⟩)
theorem SeqQ.L {H : Hp} {v : V} {xs : List V} (h : SeqQ H v xs) : ∃ a, v = .ref a ∧ (SqL K H a xs ∨ SqT K H a xs) := by
  obtain ⟨a, rfl, h | h⟩ := h
  · exact ⟨a, rfl, .inl (.inl (.inl h))⟩
  · exact ⟨a, rfl, .inr (.inl (.inl h))⟩
end
/-- x is a number, worth o, or none -/
def NumB (K : PySem.W.Frag) (C : Addr) (H : Hp) (x : V) : Option (Int × Int) → Prop
  | some p => NumAt C H x p ∧ Fine p
  | none => NoNum K C H x
theorem NumB.same {K : PySem.W.Frag} {C : Addr} {H H' : Hp} {x : V} (s : Same H H') : ∀ {o : Option (Int × Int)}, NumB K C H x o → NumB K C H' x o
  | some _, h => ⟨h.1.same s, h.2⟩
  | none, h => NoNum.same h s
theorem NumB.is {K : PySem.W.Frag} {C : Addr} {H : Hp} {x : V} {Q : VK} : ∀ {o : Option (Int × Int)}, NumB K C H x o → Q (.bl o.isSome) H → (∃ p, NumAt C H x p) ∧ Q (.bl true) H ∨ NoNum K C H x ∧ Q (.bl false) H
  | some p, h, q => .inl ⟨⟨p, h.1⟩, q⟩
  | none, h, q => .inr ⟨h, q⟩
/-- what a thing is, asked for as a point -/
inductive ItemAt (K : PySem.W.Frag) (C : Addr) (H : Hp) (v : V) : Option Pt → Prop
  | good {x y : V} {p q : Int × Int} (h : SeqQ H v [x, y]) (hx : NumAt C H x p) (hy : NumAt C H y q) (fx : Fine p) (fy : Fine q) : ItemAt K C H v (some (p, q))
  | nolist {t : Value} (ty : TyX K H v t) (k : PySem.W.kitAny K t [.type "list", .type "tuple"] = some false) : ItemAt K C H v none
  | len {xs : List V} (h : SeqQ H v xs) (l : xs.length ≠ 2) : ItemAt K C H v none
  | nonum {x y : V} {ox oy : Option (Int × Int)} (h : SeqQ H v [x, y]) (hx : NumB K C H x ox) (hy : NumB K C H y oy) (n : (ox.isSome && oy.isSome) = false) : ItemAt K C H v none
theorem ItemAt.same {K : PySem.W.Frag} {C : Addr} {H H' : Hp} {v : V} {o : Option Pt} (h : ItemAt K C H v o) (s : Same H H') : ItemAt K C H' v o := by
  cases h with
  | good h hx hy fx fy => exact .good (h.same s) (hx.same s) (hy.same s) fx fy
  | nolist ty k => exact .nolist (tyX_same s ty) k
  | len h l => exact .len (h.same s) l
  | nonum h hx hy n => exact .nonum (h.same s) (hx.same s) (hy.same s) n
/-- a spot: a tuple of two numbers as they are told -/
structure SpotAt (C : Addr) (H : Hp) (v : V) (s : Pt) : Prop where
  at_ : ∃ t x y, v = .ref t ∧ H t = some (.tup [x, y]) ∧ ToldAt C H x s.1 ∧ ToldAt C H y s.2
  f1 : Fine s.1
  f2 : Fine s.2
theorem SpotAt.same {C : Addr} {H H' : Hp} {v : V} {s : Pt} (h : SpotAt C H v s) (e : Same H H') : SpotAt C H' v s := by
  obtain ⟨⟨t, x, y, rfl, ht, hx, hy⟩, f1, f2⟩ := h
  exact ⟨⟨t, x, y, rfl, e _ _ ht, hx.same e, hy.same e⟩, f1, f2⟩
theorem ToldAt.keepL {C : Addr} {H H' : Hp} {v : V} {p : Int × Int} {L : Addr} {ys : List V} (h : ToldAt C H v p) (hL : H L = some (.lst ys)) (k : Keep L H H') : ToldAt C H' v p := by
  rcases h with h | ⟨n, a, dx, e, z⟩
  · exact .inl h
  · exact .inr ⟨n, a, dx, e, k _ _ z (ne_of z hL fun q => by cases q)⟩
theorem SpotAt.keepL {C : Addr} {H H' : Hp} {v : V} {s : Pt} {L : Addr} {ys : List V} (h : SpotAt C H v s) (hL : H L = some (.lst ys)) (k : Keep L H H') : SpotAt C H' v s := by
  obtain ⟨⟨t, x, y, rfl, ht, hx, hy⟩, f1, f2⟩ := h
  exact ⟨⟨t, x, y, rfl, k _ _ ht (ne_of ht hL fun q => by cases q), hx.keepL hL k, hy.keepL hL k⟩, f1, f2⟩
inductive SpAll (C : Addr) (H : Hp) : List V → List Pt → Prop
  | nil : SpAll C H [] []
  | cons {v : V} {s : Pt} {vs : List V} {ps : List Pt} (h : SpotAt C H v s) (r : SpAll C H vs ps) : SpAll C H (v :: vs) (s :: ps)
theorem SpAll.mono {C : Addr} {H H' : Hp} (f : ∀ v s, SpotAt C H v s → SpotAt C H' v s) : ∀ {vs : List V} {ps : List Pt}, SpAll C H vs ps → SpAll C H' vs ps
  | _, _, .nil => .nil
  | _, _, .cons h r => .cons (f _ _ h) (r.mono f)
theorem SpAll.same {C : Addr} {H H' : Hp} (e : Same H H') {vs : List V} {ps : List Pt} (h : SpAll C H vs ps) : SpAll C H' vs ps := h.mono fun _ _ z => z.same e
theorem SpAll.keepL {C : Addr} {H H' : Hp} {L : Addr} {ys : List V} (hL : H L = some (.lst ys)) (k : Keep L H H') {vs : List V} {ps : List Pt} (h : SpAll C H vs ps) : SpAll C H' vs ps := h.mono fun _ _ z => z.keepL hL k
theorem SpAll.snoc {C : Addr} {H : Hp} {v : V} {s : Pt} (h : SpotAt C H v s) : ∀ {vs : List V} {ps : List Pt}, SpAll C H vs ps → SpAll C H (vs ++ [v]) (ps ++ [s])
  | _, _, .nil => .cons h .nil
  | _, _, .cons a r => .cons a (r.snoc h)
theorem SpAll.len {C : Addr} {H : Hp} : ∀ {vs : List V} {ps : List Pt}, SpAll C H vs ps → vs.length = ps.length
  | _, _, .nil => rfl
  | _, _, .cons _ r => congrArg (· + 1) r.len
theorem SpAll.at {C : Addr} {H : Hp} : ∀ {vs : List V} {ps : List Pt} {i : Nat} {v : V}, SpAll C H vs ps → vs[i]? = some v → ∃ s, ps[i]? = some s ∧ SpotAt C H v s
  | _, _, 0, _, .cons h _, e => ⟨_, rfl, (Option.some.inj e) ▸ h⟩
  | _, _, i + 1, _, .cons _ r, e => r.at (i := i) e
  | _, _, _, _, .nil, e => by simp at e
theorem SpAll.get {C : Addr} {H : Hp} : ∀ {vs : List V} {ps : List Pt} {i : Nat} {s : Pt}, SpAll C H vs ps → ps[i]? = some s → ∃ v, vs[i]? = some v ∧ SpotAt C H v s
  | _, _, 0, _, .cons h _, e => ⟨_, rfl, (Option.some.inj e) ▸ h⟩
  | _, _, i + 1, _, .cons _ r, e => r.get (i := i) e
  | _, _, _, _, .nil, e => by simp at e
theorem SpAll.drop {C : Addr} {H : Hp} : ∀ (k : Nat) {vs : List V} {ps : List Pt}, SpAll C H vs ps → SpAll C H (vs.drop k) (ps.drop k)
  | 0, _, _, h => h
  | _ + 1, _, _, .nil => .nil
  | k + 1, _, _, .cons _ r => r.drop k
theorem atI_m1 {α : Type} {xs : List α} {v : α} (h : xs.getLast? = some v) : atI xs (-1) = some v := by
  obtain ⟨l, rfl⟩ := List.getLast?_eq_some_iff.mp h
  exact atI_last l v
theorem SpAll.last {C : Addr} {H : Hp} : ∀ {vs : List V} {ps : List Pt}, SpAll C H vs ps → ps ≠ [] → ∃ v s, atI vs (-1) = some v ∧ vs.getLast? = some v ∧ ps.getLast? = some s ∧ SpotAt C H v s := by
  intro vs ps h hn
  have hl := h.len
  have hp := List.length_pos_iff.mpr hn
  have e : ps.getLast? = some (ps.getLast hn) := List.getLast?_eq_some_getLast hn
  obtain ⟨v, hv, hs⟩ := h.get (i := ps.length - 1) (s := ps.getLast hn) (by rw [← List.getLast?_eq_getElem?, e])
  have ev : vs.getLast? = some v := by rw [List.getLast?_eq_getElem?, hl, hv]
  exact ⟨v, _, atI_m1 ev, ev, e, hs⟩
theorem SpAll.first {C : Addr} {H : Hp} {vs : List V} {ps : List Pt} (h : SpAll C H vs ps) (hn : ps ≠ []) : ∃ v s, atI vs 0 = some v ∧ ps.head? = some s ∧ SpotAt C H v s := by
  cases h with
  | nil => exact absurd rfl hn
  | cons a r => exact ⟨_, _, atI_nat (j := 0) rfl, rfl, a⟩



/-! ### lines: the code -/
section
variable {P : Program} {w : World} {K : PySem.W.Frag} {mg : Str → Option Value} {base : Heap}
def spIsList (K : PySem.W.Frag) : Sp := fun vs H Q _ => ∃ v t b, vs = [v] ∧ TyX K H v t ∧ PySem.W.kitAny K t [.type "list", .type "tuple"] = some b ∧ ∀ H', Same H H' → Q (.bl b) H'
theorem ok_is_list (T : Tx K mg) : FnOk P w K mg base CX0 1 T.is_list_a T.is_list_d ["thing"] (spIsList K) := by
  refine T.is_list_F.ok sc_is_list (fun vs H Q E h => ?_) (fun cdv A outer s H vs Q E hr h => ?_)
  · obtain ⟨v, t, b, rfl, _⟩ := h
    rfl
  · obtain ⟨v, t, b, rfl, ty, hk, k⟩ := h
    refine ⟨_, (pss_one (ps_ret (pe_callB call_isiT (by rfl) T.z_isinstance (by decide +kernel) (pa_cons (pv 0) (pa_cons (pe_tup (pa_cons (pe_bltn (v := .ty "list") (by rfl) T.z_list (by decide +kernel) rfl) (pa_cons (pe_bltn (v := .ty "tuple") (by rfl) T.z_tuple (by decide +kernel) rfl) pa_nil))) pa_nil))))), ?_⟩
    refine ⟨_, rfl, (by show 2 ≤ sizeLine; decide), fun t nt => ?_⟩
    have s1 := same_upd (o := .tup [.ty "list", .ty "tuple"]) nt
    exact ⟨_, _, _, _, _, _, rfl, upd_same, .cons (.ty "list") (.cons (.ty "tuple") .nil), tyX_same s1 ty, hk, k _ s1⟩
def spIsPoint (K : PySem.W.Frag) (C : Addr) : Sp := fun vs H Q _ => ∃ v o, vs = [v] ∧ ItemAt K C H v o ∧ ∀ H', Same H H' → Q (.bl o.isSome) H'
theorem ok_is_point (T : Tx K mg) : FnOk P w K mg base CX0 3 T.is_point_a T.is_point_d ["thing"] (spIsPoint K T.Exact_a) := by
  refine T.is_point_F.ok sc_is_point (fun vs H Q E h => ?_) (fun cdv A outer s H vs Q E hr h => ?_)
  · obtain ⟨v, o, rfl, _⟩ := h
    rfl
  · obtain ⟨v, o, rfl, hv, k⟩ := h
    refine ⟨_, (pss_one (ps_ret (pe_and (pe_call (ok_is_list T) (hr.mono (by decide)) rfl T.is_list_m T.is_list_F.kp T.is_list_b .nil pass0 (pa_cons (pv 0) pa_nil)) (pe_and (pe_cmpR op_eq (pe_callB (call_len_seq) (by rfl) T.z_len (by decide +kernel) (pa_cons (pv 0) pa_nil)) pe_int (nomark _)) (pe_and (pe_call (ok_is_number T) (hr.mono (by decide)) rfl T.is_number_m T.is_number_F.kp T.is_number_b .nil pass0 (pa_cons (pe_ix ix_seq (pv 0) pe_int (fun _ _ => rfl)) pa_nil)) (pe_one (pe_call (ok_is_number T) (hr.mono (by decide)) rfl T.is_number_m T.is_number_F.kp T.is_number_b .nil pass0 (pa_cons (pe_ix ix_seq (pv 0) pe_int (fun _ _ => rfl)) pa_nil)))))))), ?_⟩
    -- two numbers, or not
    have two : ∀ {x y : V} {ox oy : Option (Int × Int)}, SeqQ H v [x, y] → NumB K T.Exact_a H x ox → NumB K T.Exact_a H y oy → (ox.isSome && oy.isSome) = o.isSome →
        ∀ H', Same H H' → tAndV (tOp rEq (tCB (fun xs H Q => ∃ p ys, xs = [.ref p] ∧ (SqL K H p ys ∨ SqT K H p ys) ∧ Q (.int ys.length) H) (tCons (tVar 0) tNil)) (tC (.int 2)))
          (tAndV (tCall (spIsNumber K T.Exact_a) [] E0 (tCons (tOp (rIx K) (tVar 0) (tC (.int 0))) tNil)) (tCall (spIsNumber K T.Exact_a) [] E0 (tCons (tOp (rIx K) (tVar 0) (tC (.int 1))) tNil))) [some v] H' Q := by
      intro x y ox oy h hx hy e H' s
      obtain ⟨a, ea, hL⟩ := (h.same s).L (K := K)
      refine ⟨_, rfl, a, _, ea ▸ rfl, hL, rfl, _, rfl, ?_⟩
      rw [show decide (V.int (([x, y] : List V).length : Nat) = V.int 2) = true from rfl]
      refine iteT ?_
      have kq := k _ s
      rw [← e] at kq
      refine ⟨_, rfl, (h.same s).ix (atI_nat (j := 0) rfl) ⟨_, rfl, ?_⟩⟩
      cases ox with
      | none => exact .inr ⟨NoNum.same hx s, _, rfl, iteF kq⟩
      | some p =>
        refine .inl ⟨⟨p, NumAt.same hx.1 s⟩, _, rfl, iteT ?_⟩
        refine ⟨_, rfl, (h.same s).ix (atI_nat (j := 1) rfl) ⟨_, rfl, ?_⟩⟩
        cases oy with
        | none => exact .inr ⟨NoNum.same hy s, kq⟩
        | some q => exact .inl ⟨⟨q, NumAt.same hy.1 s⟩, kq⟩
    cases hv with
    | good h hx hy fx fy =>
      obtain ⟨t, ty, hk⟩ := h.ty (K := K)
      refine ⟨_, rfl, _, t, _, rfl, ty, hk, fun H1 s1 => ⟨_, rfl, iteT ?_⟩⟩
      exact two (ox := some _) (oy := some _) h ⟨hx, fx⟩ ⟨hy, fy⟩ rfl H1 s1
    | nolist ty hk => exact ⟨_, rfl, _, _, _, rfl, ty, hk, fun H1 s1 => ⟨_, rfl, iteF (k _ s1)⟩⟩
    | len h l =>
      obtain ⟨t, ty, hk⟩ := h.ty (K := K)
      refine ⟨_, rfl, _, t, _, rfl, ty, hk, fun H1 s1 => ⟨_, rfl, iteT ?_⟩⟩
      obtain ⟨a, rfl, hL⟩ := (h.same s1).L (K := K)
      refine ⟨_, rfl, a, _, rfl, hL, rfl, _, rfl, ?_⟩
      rw [decide_eq_false (fun z => l (by have := V.int.inj z; omega))]
      exact iteF (k _ s1)
    | nonum h hx hy n =>
      obtain ⟨t, ty, hk⟩ := h.ty (K := K)
      refine ⟨_, rfl, _, t, _, rfl, ty, hk, fun H1 s1 => ⟨_, rfl, iteT ?_⟩⟩
      exact two h hx hy n H1 s1
/-! a row of numbers copied -/
inductive TdAll (C : Addr) (H : Hp) : List V → List (Int × Int) → Prop
  | nil : TdAll C H [] []
  | cons {v : V} {p : Int × Int} {vs : List V} {ps : List (Int × Int)} (h : ToldAt C H v p) (r : TdAll C H vs ps) : TdAll C H (v :: vs) (p :: ps)
theorem TdAll.mono {C : Addr} {H H' : Hp} (f : ∀ v s, ToldAt C H v s → ToldAt C H' v s) : ∀ {vs : List V} {ps : List (Int × Int)}, TdAll C H vs ps → TdAll C H' vs ps
  | _, _, .nil => .nil
  | _, _, .cons h r => .cons (f _ _ h) (r.mono f)
theorem TdAll.snoc {C : Addr} {H : Hp} {v : V} {s : Int × Int} (h : ToldAt C H v s) : ∀ {vs : List V} {ps : List (Int × Int)}, TdAll C H vs ps → TdAll C H (vs ++ [v]) (ps ++ [s])
  | _, _, .nil => .cons h .nil
  | _, _, .cons a r => .cons a (r.snoc h)
theorem TdAll.len {C : Addr} {H : Hp} : ∀ {vs : List V} {ps : List (Int × Int)}, TdAll C H vs ps → vs.length = ps.length
  | _, _, .nil => rfl
  | _, _, .cons _ r => congrArg (· + 1) r.len
def spCopied (C : Addr) : Sp := fun vs H Q _ => ∃ v xs ps, vs = [v] ∧ SeqQ H v xs ∧ xs.length = ps.length ∧ xs.length ≤ 1000 ∧ (∀ (i : Nat) (x : V) (p : Int × Int), xs[i]? = some x → ps[i]? = some p → NumAt C H x p ∧ Fine p) ∧
  ∀ t H' ys, Same H H' → H' t = some (.tup ys) → TdAll C H' ys ps → Q (.ref t) H'
theorem ok_copied (T : Tx K mg) : FnOk P w K mg base CX0 6 T.copied_a T.copied_d ["row"] (spCopied T.Exact_a) := by
  refine T.copied_F.ok sc_copied (fun vs H Q E h => ?_) (fun cdv A outer s H vs Q E hr h => ?_)
  · obtain ⟨v, xs, ps, rfl, _⟩ := h
    rfl
  · obtain ⟨v, xs, ps, rfl, ⟨a, rfl, ha⟩, hn, hl, hps, k⟩ := h
    refine ⟨_, (pss_one (ps_ret (pe_callTy call_tuple_of (by rfl) T.z_tuple (by decide +kernel) (pa_cons (pe_lc (g := gName 1) (tt := tYes) (own := [("part", 1)]) rfl sc_copied.nd (pi_lt (pv 0)) (blkOk_by (own := [("part", 1)]) (N := ["row", "part"]) (sc := defScope s_copied) (by decide +kernel))
   (fun _ _ _ _ _ => pg_name (i := 1) sc_copied.nd rfl (Or.inl rfl)) (fun _ _ _ _ _ => pts_nil) (fun _ _ _ _ _ => (pe_ifExp (pt_val (pe_call (ok_is_number T) (hr.mono (by decide)) rfl T.is_number_m T.is_number_F.kp T.is_number_b .nil pass0 (pa_cons (pv 1) pa_nil))) (pe_call (ok_plain T) (hr.mono (by decide)) rfl T.plain_m T.plain_F.kp T.plain_b .nil pass0 (pa_cons (pv 1) pa_nil)) (pv 1)))) pa_nil)))), ?_⟩
    rcases ha with ha | ha
    · have cpyG : ∀ {H2 : Hp}, H2 a = some (.lst xs) → SqL K H2 a xs := fun z => .inl (.inl z)
      refine .inl ⟨_, rfl, a, rfl, ⟨xs, .inl (.inl ha)⟩, fun D nD => ?_⟩
      have w := walk_list (K := K) (a := a) (xs := xs)
      refine lc_it w (fun i H2 => Same H H2 ∧ ∃ ys, H2 D = some (.lst ys) ∧ TdAll T.Exact_a H2 ys (ps.take i)) ⟨same_upd nD, [], upd_same, by rw [List.take_zero]; exact .nil⟩ (fun i H2 _ e => cpyG (e.1 _ _ ha)) ?_ ?_
      · rintro i x H2 H3 hi ⟨e1, ys, eD, ht⟩ ⟨rfl, hx⟩
        obtain ⟨p, hp⟩ : ∃ p, ps[i]? = some p := ⟨ps[i]'(by rw [← hn]; exact hi), List.getElem?_eq_getElem _⟩
        obtain ⟨hx0, fp⟩ := hps i x p hx hp
        have hx1 := hx0.same e1
        refine ⟨rfl, yes_of ?_⟩
        refine ⟨_, rfl, x, rfl, .inl ⟨⟨p, hx1⟩, _, rfl, iteT ?_⟩⟩
        refine ⟨_, rfl, x, p, rfl, hx1, fp.1, sz_up fp.2.2 (by decide), fun v' H4 e4 hv' => ⟨ys, e4 _ _ eD, ?_, ?_⟩⟩
        · rw [ht.len, List.length_take]
          exact small1000 (by omega)
        · have nDH : H D = none := nD
          have eD4 := e4 _ _ eD
          have kp : Keep D H4 (upd H4 D (.lst (ys ++ [v']))) := fun b o e n => (upd_ne n).trans e
          refine ⟨fun c o e => by rw [upd_ne (ne_of_none e nDH)]; exact e4 _ _ (e1 _ _ e), ys ++ [v'], upd_same, ?_⟩
          rw [List.take_succ, hp]
          exact ((ht.mono fun v s z => z.same e4).mono fun v s z => z.keepL eD4 kp).snoc (hv'.keepL eD4 kp)
      · rintro H2 ⟨e1, ys, eD, ht⟩
        rw [hn, List.take_length] at ht
        refine ⟨D, ys, rfl, .inl ⟨.inl (.inl eD), fun l nl => ?_⟩⟩
        exact k l _ ys (e1.trans (same_upd nl)) upd_same (ht.mono fun v s z => z.same (same_upd nl))
    · have cpyG : ∀ {H2 : Hp}, H2 a = some (.tup xs) → SqT K H2 a xs := fun z => .inl (.inl z)
      refine .inr ⟨_, rfl, a, rfl, ⟨xs, .inl (.inl ha)⟩, fun D nD => ?_⟩
      have w := walk_tup (K := K) (a := a) (xs := xs)
      refine lc_it w (fun i H2 => Same H H2 ∧ ∃ ys, H2 D = some (.lst ys) ∧ TdAll T.Exact_a H2 ys (ps.take i)) ⟨same_upd nD, [], upd_same, by rw [List.take_zero]; exact .nil⟩ (fun i H2 _ e => cpyG (e.1 _ _ ha)) ?_ ?_
      · rintro i x H2 H3 hi ⟨e1, ys, eD, ht⟩ ⟨rfl, hx⟩
        obtain ⟨p, hp⟩ : ∃ p, ps[i]? = some p := ⟨ps[i]'(by rw [← hn]; exact hi), List.getElem?_eq_getElem _⟩
        obtain ⟨hx0, fp⟩ := hps i x p hx hp
        have hx1 := hx0.same e1
        refine ⟨rfl, yes_of ?_⟩
        refine ⟨_, rfl, x, rfl, .inl ⟨⟨p, hx1⟩, _, rfl, iteT ?_⟩⟩
        refine ⟨_, rfl, x, p, rfl, hx1, fp.1, sz_up fp.2.2 (by decide), fun v' H4 e4 hv' => ⟨ys, e4 _ _ eD, ?_, ?_⟩⟩
        · rw [ht.len, List.length_take]
          exact small1000 (by omega)
        · have nDH : H D = none := nD
          have eD4 := e4 _ _ eD
          have kp : Keep D H4 (upd H4 D (.lst (ys ++ [v']))) := fun b o e n => (upd_ne n).trans e
          refine ⟨fun c o e => by rw [upd_ne (ne_of_none e nDH)]; exact e4 _ _ (e1 _ _ e), ys ++ [v'], upd_same, ?_⟩
          rw [List.take_succ, hp]
          exact ((ht.mono fun v s z => z.same e4).mono fun v s z => z.keepL eD4 kp).snoc (hv'.keepL eD4 kp)
      · rintro H2 ⟨e1, ys, eD, ht⟩
        rw [hn, List.take_length] at ht
        refine ⟨D, ys, rfl, .inl ⟨.inl (.inl eD), fun l nl => ?_⟩⟩
        exact k l _ ys (e1.trans (same_upd nl)) upd_same (ht.mono fun v s z => z.same (same_upd nl))
end



/-! ### points checked -/
def wrongAt : Option (Int × Int) → Nat → List (Option Pt) → Option Nat
  | _, _, [] => none
  | _, i, none :: _ => some i
  | prev, i, some s :: r => if (match prev with | none => false | some t => bLe s.1 t) = true then some i else wrongAt (some s.1) (i + 1) r
def lineWrong (os : List (Option Pt)) : Option Nat :=
  if os.length = 0 then some 0 else match wrongAt none 0 os with
    | some k => some k
    | none => if os.length = 1 then some 1 else none
section
variable {P : Program} {w : World} {K : PySem.W.Frag} {mg : Str → Option Value} {base : Heap}
theorem ok_BadPoint_init (T : Tx K mg) : FnOk P w K mg base CX0 1 T.BadPoint_init_a T.BadPoint_init_d ["self", "index"] (spErrF T.BadPoint_a "index") := by
  refine T.BadPoint_init_F.ok sc_BadPoint_init (fun vs H Q E h => ?_) (fun cdv A outer s H vs Q E hr h => ?_)
  · obtain ⟨a, y, rfl, _⟩ := h
    rfl
  · obtain ⟨a, y, rfl, ha, k⟩ := h
    refine ⟨_, (pss_one (ps_ost (pv 0) (pv 1))), ?_⟩
    exact ⟨_, rfl, _, rfl, a, T.BadPoint_a, rfl, T.BadPoint_e.oex, T.BadPoint_n_index, .inl ⟨ha, k⟩⟩
theorem ok_BadMoment_init (T : Tx K mg) : FnOk P w K mg base CX0 1 T.BadMoment_init_a T.BadMoment_init_d ["self", "moment"] (spErrF T.BadMoment_a "moment") := by
  refine T.BadMoment_init_F.ok sc_BadMoment_init (fun vs H Q E h => ?_) (fun cdv A outer s H vs Q E hr h => ?_)
  · obtain ⟨a, y, rfl, _⟩ := h
    rfl
  · obtain ⟨a, y, rfl, ha, k⟩ := h
    refine ⟨_, (pss_one (ps_ost (pv 0) (pv 1))), ?_⟩
    exact ⟨_, rfl, _, rfl, a, T.BadMoment_a, rfl, T.BadMoment_e.oex, T.BadMoment_n_moment, .inl ⟨ha, k⟩⟩
def spChecked (K : PySem.W.Frag) (C B : Addr) : Sp := fun vs H Q E => ∃ v, vs = [v] ∧
  ((∃ t, TyX K H v t ∧ PySem.W.kitAny K t [.type "list", .type "tuple"] = some false) ∧ FOut B "index" H (.int 0) E ∨
   ∃ xs os, SeqQ H v xs ∧ xs.length = os.length ∧ xs.length ≤ 900 ∧ (∀ (i : Nat) (x : V) (o : Option Pt), xs[i]? = some x → os[i]? = some o → ItemAt K C H x o) ∧
     (∀ k, lineWrong os = some k → FOut B "index" H (.int (k : Nat)) E) ∧
     (lineWrong os = none → ∀ (ps : List Pt) (L : Addr) (H' : Hp) (ys : List V), os = ps.map some → Same H H' → H' L = some (.lst ys) → SpAll C H' ys ps → Q (.ref L) H'))
theorem wrong_step {os : List (Option Pt)} {ps : List Pt} {i : Nat} {o : Option Pt} (ht : os.take i = ps.map some) (hw : wrongAt none 0 os = wrongAt (ps.getLast?.map Prod.fst) i (os.drop i)) (ho : os[i]? = some o) :
    (o = none → wrongAt none 0 os = some i) ∧ (∀ s, o = some s → (match ps.getLast?.map Prod.fst with | none => false | some t => bLe s.1 t) = true → wrongAt none 0 os = some i) ∧
    (∀ s, o = some s → (match ps.getLast?.map Prod.fst with | none => false | some t => bLe s.1 t) = false → os.take (i + 1) = (ps ++ [s]).map some ∧ wrongAt none 0 os = wrongAt ((ps ++ [s]).getLast?.map Prod.fst) (i + 1) (os.drop (i + 1))) := by
  have hi : i < os.length := (List.getElem?_eq_some_iff.mp ho).1
  have hd : os.drop i = o :: os.drop (i + 1) := by
    rw [List.drop_eq_getElem_cons hi, (List.getElem?_eq_some_iff.mp ho).2]
  rw [hd] at hw
  refine ⟨fun e => ?_, fun s e c => ?_, fun s e c => ?_⟩
  · rw [hw, e]
    rfl
  · rw [hw, e]
    show (if _ then _ else _) = _
    rw [if_pos c]
  · constructor
    · rw [List.take_succ, ht, ho, e, List.map_append]
      rfl
    · rw [hw, e]
      show (if _ then _ else _) = _
      rw [if_neg (by rw [c]; exact Bool.false_ne_true), List.getLast?_append]
      rfl
theorem line_wrong_at {os : List (Option Pt)} {k : Nat} (h : os.length ≠ 0) (e : wrongAt none 0 os = some k) : lineWrong os = some k := by
  unfold lineWrong
  rw [if_neg h, e]
theorem line_wrong_one {os : List (Option Pt)} (h : os.length = 1) (e : wrongAt none 0 os = none) : lineWrong os = some 1 := by
  unfold lineWrong
  rw [if_neg (by omega), e]
  show (if os.length = 1 then _ else _) = _
  rw [if_pos h]
theorem line_right {os : List (Option Pt)} (h0 : os.length ≠ 0) (h1 : os.length ≠ 1) (e : wrongAt none 0 os = none) : lineWrong os = none := by
  unfold lineWrong
  rw [if_neg h0, e]
  show (if os.length = 1 then _ else _) = _
  rw [if_neg h1]
theorem ok_checked_points_x (T : Tx K mg) : FnOk P w K mg base (L2.CX P w) 12 T.checked_points_a T.checked_points_d ["things"] (spChecked K T.Exact_a T.BadPoint_a) := by
  refine T.checked_points_F.okX sc_checked_points (fun vs H Q E h => ?_) (fun cdv A outer s H vs Q E hr h => ?_)
  · obtain ⟨v, rfl, _⟩ := h
    rfl
  · obtain ⟨v, rfl, h⟩ := h
    refine ⟨_, (pss_cons (ps_if (PW.pt (pw_or (pt_not (pt_val (pe_call (ok_is_list T) (hr.mono (by decide)) rfl T.is_list_m T.is_list_F.kp T.is_list_b .nil pass0 (pa_cons (pv 0) pa_nil)))) (pw_or1 (pt_cmpR op_eq (pe_callB (call_len_seq) (by rfl) T.z_len (by decide +kernel) (pa_cons (pv 0) pa_nil)) pe_int (nomark _)))))
  (pss_one (ps_raise rfl (takes_of rfl rfl rfl rfl) (pmk_oex T.BadPoint_e.oex T.BadPoint_init_M.at_ (beq_iff_eq.mp T.BadPoint_init_M.fn) (ok_BadPoint_init T) (hr.mono (by decide)) T.BadPoint_init_b .nil pass0 rfl T.BadPoint_m (pa_cons pe_int pa_nil))))
  pss_nil)
  (pss_cons (ps_set (i := 1) sc_checked_points.nd rfl (Or.inl rfl) (pe_lst pa_nil))
  (pss_cons (ps_for (passes_of rfl) rfl (pi_enumE (by rfl) T.z_enumerate (pa_cons (pv 0) pa_nil)) (pg_tup (by rfl) (pgs_cons (pg_name (i := 2) sc_checked_points.nd rfl (Or.inl rfl)) (pgs_cons (pg_name (i := 3) sc_checked_points.nd rfl (Or.inl rfl)) pgs_nil)))
  (pss_cons (ps_if (PW.pt (pw_or (pt_not (pt_val (pe_call (ok_is_point T) (hr.mono (by decide)) rfl T.is_point_m T.is_point_F.kp T.is_point_b .nil pass0 (pa_cons (pv 3) pa_nil)))) (pw_or1 (PW.pt (pw_and (pt_cmpR op_gt (pv 2) pe_int (nomark _)) (pw_and1 (pt_cmpR (op_le.or ((op_gyC (op := .LtE) (fun _ _ => rfl) T.Exact_le_M.at_ T.Exact_le_M.fn (ok_Exact_le T) (hr.mono (by decide)) T.Exact_le_b pass0).or (op_gyCR (op := .LtE) (fun _ _ => rfl) T.Exact_ge_M.at_ T.Exact_ge_M.fn (ok_Exact_ge T) (hr.mono (by decide)) T.Exact_ge_b pass0))) (pe_ix ix_seq (pv 3) pe_int (fun _ _ => rfl)) (pe_ix ix_tup (pe_ix ix_list (pv 1) (pe_un (un_neg) pe_int) (fun _ _ => rfl)) pe_int (fun _ _ => rfl)) (nomark _))))))))
  (pss_one (ps_raise rfl (takes_of rfl rfl rfl rfl) (pmk_oex T.BadPoint_e.oex T.BadPoint_init_M.at_ (beq_iff_eq.mp T.BadPoint_init_M.fn) (ok_BadPoint_init T) (hr.mono (by decide)) T.BadPoint_init_b .nil pass0 rfl T.BadPoint_m (pa_cons (pv 2) pa_nil))))
  pss_nil)
  (pss_one (ps_expr (pe_bm PySem.F.plainAttrs_list PySem.F.slot_list_append PySem.F.type_list_append mt_append (pv 1) (pa_cons (pe_call (ok_copied T) (hr.mono (by decide)) rfl T.copied_m T.copied_F.kp T.copied_b .nil pass0 (pa_cons (pv 3) pa_nil)) pa_nil))))))
  (pss_cons (ps_if (pt_cmpR op_eq (pe_callB (call_len_seq) (by rfl) T.z_len (by decide +kernel) (pa_cons (pv 1) pa_nil)) pe_int (nomark _))
  (pss_one (ps_raise rfl (takes_of rfl rfl rfl rfl) (pmk_oex T.BadPoint_e.oex T.BadPoint_init_M.at_ (beq_iff_eq.mp T.BadPoint_init_M.fn) (ok_BadPoint_init T) (hr.mono (by decide)) T.BadPoint_init_b .nil pass0 rfl T.BadPoint_m (pa_cons pe_int pa_nil))))
  pss_nil)
  (pss_one (ps_ret (pv 1))))))), ?_⟩
    rcases h with ⟨⟨t, ty, hk⟩, k0⟩ | ⟨xs, os, hsq, hn, hl, hit, kx, kq⟩
    · refine ⟨_, rfl, v, t, _, rfl, ty, hk, fun H1 s1 => ⟨_, rfl, iteT (iteT ?_)⟩⟩
      exact ⟨(by show 1 ≤ 1000; decide), mk_fout (k0.same s1)⟩
    · obtain ⟨t, ty, hk⟩ := hsq.ty (K := K)
      refine ⟨_, rfl, v, t, _, rfl, ty, hk, fun H0 s0 => ⟨_, rfl, iteF ?_⟩⟩
      have hsq0 := hsq.same s0
      obtain ⟨a, rfl, hq⟩ := hsq0.L (K := K)
      refine ⟨_, rfl, a, xs, rfl, hq, rfl, _, rfl, ?_⟩
      by_cases h0 : xs.length = 0
      · rw [show decide (V.int ((xs.length : Nat) : Int) = V.int 0) = true by rw [h0]; rfl]
        refine iteT ?_
        refine ⟨(by show 1 ≤ 1000; decide), mk_fout ((kx 0 ?_).same s0)⟩
        unfold lineWrong
        rw [if_pos (by rw [← hn]; exact h0)]
      rw [decide_eq_false (fun z => h0 (by have := V.int.inj z; omega))]
      refine iteF ?_
      refine ⟨(by show 0 ≤ sizeLine; decide), fun L nL0 => ?_⟩
      have nL : H L = none := s0.free nL0
      have s01 : Same H0 (upd H0 L (.lst [])) := same_upd nL0
      have hL : (upd H0 L (.lst [])) L = some (.lst []) := upd_same
      generalize upd H0 L (.lst []) = H1 at s01 hL ⊢
      have s1 := s0.trans s01
      obtain ⟨a', e', ha⟩ := hsq
      cases e'
      rcases ha with ha | ha
      · have cpG : ∀ {H2 : Hp}, H2 a = some (.lst xs) → SqL K H2 a xs := fun z => .inl (.inl z)
        have hsq1 := cpG (s1 _ _ ha)
        have w := walk_enum (K := K) (a := a) (xs := xs)
        left
        refine ⟨_, rfl, a, xs, rfl, hsq1, for_it w (fun i σ H2 => (∃ v3 v4, σ = [some (.ref a), some (.ref L), v3, v4]) ∧ Same H H2 ∧ ∃ ys ps, H2 L = some (.lst ys) ∧ SpAll T.Exact_a H2 ys ps ∧ os.take i = ps.map some ∧ wrongAt none 0 os = wrongAt (ps.getLast?.map Prod.fst) i (os.drop i)) ?_ ?_ ?_ ?_⟩
        · exact ⟨⟨none, none, rfl⟩, s1, [], [], hL, .nil, rfl, rfl⟩
        · exact fun i σ H2 _ e => cpG (e.2.1 _ _ ha)
        · rintro i x σ H2 H3 hi ⟨⟨v3, v4, rfl⟩, e1, ys, ps, eL, hsp, htk, hw⟩ ⟨Tp, x1, x, rfl, nT, rfl, hx1, hx⟩
          cases hx1
          obtain ⟨o, ho⟩ : ∃ o, os[i]? = some o := ⟨os[i]'(by rw [← hn]; exact hi), List.getElem?_eq_getElem _⟩
          have item := (hit i x o hx ho).same e1
          obtain ⟨w1, w2, w3⟩ := wrong_step htk hw ho
          have e2 := same_upd (o := .tup [.int (i : Nat), x]) nT
          have hsz : ps.length = i := by
            have := congrArg List.length htk
            rw [List.length_take, List.length_map] at this
            have hio := (List.getElem?_eq_some_iff.mp ho).1
            omega
          have o0 : os.length ≠ 0 := by
            have hio := (List.getElem?_eq_some_iff.mp ho).1
            omega
          refine ⟨Tp, _, rfl, .inl (.inl upd_same), rfl, _, _, rfl, _, _, rfl, rfl, ?_⟩
          generalize upd H2 Tp (.tup [.int (i : Nat), x]) = H3 at e2 ⊢
          have item := item.same e2
          have eL := e2 _ _ eL
          have hsp := hsp.same e2
          have e13 := e1.trans e2
          refine ⟨_, rfl, x, o, rfl, item, fun H4 s4 => ⟨_, rfl, ?_⟩⟩
          have item := item.same s4
          have eL := s4 _ _ eL
          have hsp := hsp.same s4
          have e14 := e13.trans s4
          have rai : ∀ (σ : L2.St) (D : Ends) (H5 : Hp), Same H H5 → wrongAt none 0 os = some i → σ[2]? = some (some (.int (i : Nat))) → tMkO T.BadPoint_a (spErrF T.BadPoint_a "index") [] (tCons (tVar 2) tNil) σ H5 fun cls d H' => E cls d H' := fun σ D H5 s5 hwr h2 =>
            ⟨_, h2, (by show 1 ≤ 1000; decide), mk_fout ((kx _ (line_wrong_at o0 hwr)).same s5)⟩
          have add : ∀ (s : Pt) (H5 : Hp), o = some s → Same H4 H5 → (match ps.getLast?.map Prod.fst with | none => false | some t => bLe s.1 t) = false →
              tDrop (tBM K "list" rAppend (tVar 1) (tCons (tCall (spCopied T.Exact_a) [] E0 (tCons (tVar 3) tNil)) tNil))
                { nx := fun σ H2 => (∃ v3 v4, σ = [some (.ref a), some (.ref L), v3, v4]) ∧ Same H H2 ∧ ∃ ys ps, H2 L = some (.lst ys) ∧ SpAll T.Exact_a H2 ys ps ∧ os.take (i + 1) = ps.map some ∧ wrongAt none 0 os = wrongAt (ps.getLast?.map Prod.fst) (i + 1) (os.drop (i + 1)), rt := Q } [some (.ref a), some (.ref L), some (.int (i : Nat)), some x] H5 := by
            rintro s H5 rfl s5 hc
            have item := item.same s5
            have eL := s5 _ _ eL
            have hsp := hsp.same s5
            cases item with
            | @good x' y' p q h hx' hy' fx fy =>
              refine ⟨_, rfl, .inl ⟨rfl, ys, .inl (.inl eL)⟩, _, rfl, x, _, [p, q], rfl, h, rfl, (by show 2 ≤ 1000; decide), fun j z r hz hr => ?_, fun t H6 zs s6 ht hzs => ?_⟩
              · match j, hz, hr with
                | 0, hz, hr => cases hz; cases hr; exact ⟨hx', fx⟩
                | 1, hz, hr => cases hz; cases hr; exact ⟨hy', fy⟩
                | j + 2, hz, hr => exact absurd hz (by simp)
              · have eL := s6 _ _ eL
                have hsp := hsp.same s6
                refine ⟨L, ys, _, rfl, rfl, eL, small1000 (by rw [hsp.len]; omega), ?_⟩
                have kp : Keep L H6 (upd H6 L (.lst (ys ++ [.ref t]))) := fun b o e n => (upd_ne n).trans e
                cases hzs with
                | cons h1 r1 =>
                  cases r1 with
                  | cons h2 r2 =>
                    cases r2
                    have hspot : SpotAt T.Exact_a H6 (.ref t) (p, q) := ⟨⟨t, _, _, rfl, ht, h1, h2⟩, fx, fy⟩
                    obtain ⟨w4, w5⟩ := w3 _ rfl hc
                    refine ⟨⟨_, _, rfl⟩, fun b o' e => ?_, ys ++ [.ref t], ps ++ [(p, q)], upd_same, (SpAll.keepL eL kp hsp).snoc (hspot.keepL eL kp), w4, w5⟩
                    rw [upd_ne (ne_of_none e nL)]
                    exact s6 _ _ (s5 _ _ (e14 _ _ e))
          cases o with
          | none =>
            refine iteT ?_
            exact iteT (rai _ { nx := fun _ _ => True, rt := Q } _ e14 (w1 rfl) rfl)
          | some s =>
            refine iteF ?_
            refine ⟨_, rfl, _, _, rfl, rfl, _, rfl, ?_⟩
            by_cases h0 : i = 0
            · subst h0
              have hps : ps = [] := List.length_eq_zero_iff.mp hsz
              rw [decide_eq_false (by omega)]
              refine iteF ?_
              refine iteF ?_
              exact add s H4 rfl (Same.refl _) (by rw [hps]; rfl)
            · rw [decide_eq_true (by omega)]
              refine iteT ?_
              have hne : ps ≠ [] := fun z => h0 (by rw [← hsz, z]; rfl)
              obtain ⟨lv, ls, h1, _, h2, hls⟩ := hsp.last hne
              cases item with
              | @good x' y' p q h hx' hy' fx fy =>
                obtain ⟨⟨tl, lx, ly, rfl, htl, hlx, hly⟩, lf1, lf2⟩ := hls
                refine ⟨_, rfl, h.ix (atI_nat (j := 0) rfl) ⟨_, rfl, _, rfl, L, ys, -1, _, rfl, rfl, .inl (.inl eL), h1, tl, _, 0, lx, rfl, rfl, .inl (.inl htl), rfl, n_le (fun i => turns_le T.Exact_dn_int) hx' hlx.num fx.nm lf1.nm fun H5 s5 => ⟨_, rfl, ?_⟩⟩⟩
                cases hb : bLe p ls.1 with
                | true => exact iteT (rai _ { nx := fun _ _ => True, rt := Q } _ (e14.trans s5) (w2 _ rfl (by rw [h2]; exact hb)) rfl)
                | false => exact iteF (add _ H5 rfl s5 (by rw [h2]; exact hb))
        · rintro σ H2 ⟨⟨v3, v4, rfl⟩, e1, ys, ps, eL, hsp, htk, hw⟩
          rw [hn, List.take_length] at htk
          rw [hn, List.drop_length] at hw
          refine ⟨_, rfl, L, ys, rfl, .inl (.inl (.inl eL)), rfl, _, rfl, ?_⟩
          have hlen : ys.length = os.length := by
            rw [hsp.len, htk, List.length_map]
          by_cases h1 : os.length = 1
          · rw [show decide (V.int ((ys.length : Nat) : Int) = V.int 1) = true by rw [hlen, h1]; rfl]
            refine iteT ?_
            exact ⟨(by show 1 ≤ 1000; decide), mk_fout ((kx _ (line_wrong_one h1 hw)).same e1)⟩
          · rw [show decide (V.int ((ys.length : Nat) : Int) = V.int 1) = false by rw [hlen]; exact decide_eq_false fun z => h1 (by have := V.int.inj z; omega)]
            refine iteF ?_
            exact ⟨_, rfl, kq (line_right (by rw [← hn]; exact h0) h1 hw) ps L H2 ys htk e1 eL hsp⟩
      · have cpG : ∀ {H2 : Hp}, H2 a = some (.tup xs) → SqT K H2 a xs := fun z => .inl (.inl z)
        have hsq1 := cpG (s1 _ _ ha)
        have w := walk_enumT (K := K) (a := a) (xs := xs)
        right
        refine ⟨_, rfl, a, xs, rfl, hsq1, for_it w (fun i σ H2 => (∃ v3 v4, σ = [some (.ref a), some (.ref L), v3, v4]) ∧ Same H H2 ∧ ∃ ys ps, H2 L = some (.lst ys) ∧ SpAll T.Exact_a H2 ys ps ∧ os.take i = ps.map some ∧ wrongAt none 0 os = wrongAt (ps.getLast?.map Prod.fst) i (os.drop i)) ?_ ?_ ?_ ?_⟩
        · exact ⟨⟨none, none, rfl⟩, s1, [], [], hL, .nil, rfl, rfl⟩
        · exact fun i σ H2 _ e => cpG (e.2.1 _ _ ha)
        · rintro i x σ H2 H3 hi ⟨⟨v3, v4, rfl⟩, e1, ys, ps, eL, hsp, htk, hw⟩ ⟨Tp, x1, x, rfl, nT, rfl, hx1, hx⟩
          cases hx1
          obtain ⟨o, ho⟩ : ∃ o, os[i]? = some o := ⟨os[i]'(by rw [← hn]; exact hi), List.getElem?_eq_getElem _⟩
          have item := (hit i x o hx ho).same e1
          obtain ⟨w1, w2, w3⟩ := wrong_step htk hw ho
          have e2 := same_upd (o := .tup [.int (i : Nat), x]) nT
          have hsz : ps.length = i := by
            have := congrArg List.length htk
            rw [List.length_take, List.length_map] at this
            have hio := (List.getElem?_eq_some_iff.mp ho).1
            omega
          have o0 : os.length ≠ 0 := by
            have hio := (List.getElem?_eq_some_iff.mp ho).1
            omega
          refine ⟨Tp, _, rfl, .inl (.inl upd_same), rfl, _, _, rfl, _, _, rfl, rfl, ?_⟩
          generalize upd H2 Tp (.tup [.int (i : Nat), x]) = H3 at e2 ⊢
          have item := item.same e2
          have eL := e2 _ _ eL
          have hsp := hsp.same e2
          have e13 := e1.trans e2
          refine ⟨_, rfl, x, o, rfl, item, fun H4 s4 => ⟨_, rfl, ?_⟩⟩
          have item := item.same s4
          have eL := s4 _ _ eL
          have hsp := hsp.same s4
          have e14 := e13.trans s4
          have rai : ∀ (σ : L2.St) (D : Ends) (H5 : Hp), Same H H5 → wrongAt none 0 os = some i → σ[2]? = some (some (.int (i : Nat))) → tMkO T.BadPoint_a (spErrF T.BadPoint_a "index") [] (tCons (tVar 2) tNil) σ H5 fun cls d H' => E cls d H' := fun σ D H5 s5 hwr h2 =>
            ⟨_, h2, (by show 1 ≤ 1000; decide), mk_fout ((kx _ (line_wrong_at o0 hwr)).same s5)⟩
          have add : ∀ (s : Pt) (H5 : Hp), o = some s → Same H4 H5 → (match ps.getLast?.map Prod.fst with | none => false | some t => bLe s.1 t) = false →
              tDrop (tBM K "list" rAppend (tVar 1) (tCons (tCall (spCopied T.Exact_a) [] E0 (tCons (tVar 3) tNil)) tNil))
                { nx := fun σ H2 => (∃ v3 v4, σ = [some (.ref a), some (.ref L), v3, v4]) ∧ Same H H2 ∧ ∃ ys ps, H2 L = some (.lst ys) ∧ SpAll T.Exact_a H2 ys ps ∧ os.take (i + 1) = ps.map some ∧ wrongAt none 0 os = wrongAt (ps.getLast?.map Prod.fst) (i + 1) (os.drop (i + 1)), rt := Q } [some (.ref a), some (.ref L), some (.int (i : Nat)), some x] H5 := by
            rintro s H5 rfl s5 hc
            have item := item.same s5
            have eL := s5 _ _ eL
            have hsp := hsp.same s5
            cases item with
            | @good x' y' p q h hx' hy' fx fy =>
              refine ⟨_, rfl, .inl ⟨rfl, ys, .inl (.inl eL)⟩, _, rfl, x, _, [p, q], rfl, h, rfl, (by show 2 ≤ 1000; decide), fun j z r hz hr => ?_, fun t H6 zs s6 ht hzs => ?_⟩
              · match j, hz, hr with
                | 0, hz, hr => cases hz; cases hr; exact ⟨hx', fx⟩
                | 1, hz, hr => cases hz; cases hr; exact ⟨hy', fy⟩
                | j + 2, hz, hr => exact absurd hz (by simp)
              · have eL := s6 _ _ eL
                have hsp := hsp.same s6
                refine ⟨L, ys, _, rfl, rfl, eL, small1000 (by rw [hsp.len]; omega), ?_⟩
                have kp : Keep L H6 (upd H6 L (.lst (ys ++ [.ref t]))) := fun b o e n => (upd_ne n).trans e
                cases hzs with
                | cons h1 r1 =>
                  cases r1 with
                  | cons h2 r2 =>
                    cases r2
                    have hspot : SpotAt T.Exact_a H6 (.ref t) (p, q) := ⟨⟨t, _, _, rfl, ht, h1, h2⟩, fx, fy⟩
                    obtain ⟨w4, w5⟩ := w3 _ rfl hc
                    refine ⟨⟨_, _, rfl⟩, fun b o' e => ?_, ys ++ [.ref t], ps ++ [(p, q)], upd_same, (SpAll.keepL eL kp hsp).snoc (hspot.keepL eL kp), w4, w5⟩
                    rw [upd_ne (ne_of_none e nL)]
                    exact s6 _ _ (s5 _ _ (e14 _ _ e))
          cases o with
          | none =>
            refine iteT ?_
            exact iteT (rai _ { nx := fun _ _ => True, rt := Q } _ e14 (w1 rfl) rfl)
          | some s =>
            refine iteF ?_
            refine ⟨_, rfl, _, _, rfl, rfl, _, rfl, ?_⟩
            by_cases h0 : i = 0
            · subst h0
              have hps : ps = [] := List.length_eq_zero_iff.mp hsz
              rw [decide_eq_false (by omega)]
              refine iteF ?_
              refine iteF ?_
              exact add s H4 rfl (Same.refl _) (by rw [hps]; rfl)
            · rw [decide_eq_true (by omega)]
              refine iteT ?_
              have hne : ps ≠ [] := fun z => h0 (by rw [← hsz, z]; rfl)
              obtain ⟨lv, ls, h1, _, h2, hls⟩ := hsp.last hne
              cases item with
              | @good x' y' p q h hx' hy' fx fy =>
                obtain ⟨⟨tl, lx, ly, rfl, htl, hlx, hly⟩, lf1, lf2⟩ := hls
                refine ⟨_, rfl, h.ix (atI_nat (j := 0) rfl) ⟨_, rfl, _, rfl, L, ys, -1, _, rfl, rfl, .inl (.inl eL), h1, tl, _, 0, lx, rfl, rfl, .inl (.inl htl), rfl, n_le (fun i => turns_le T.Exact_dn_int) hx' hlx.num fx.nm lf1.nm fun H5 s5 => ⟨_, rfl, ?_⟩⟩⟩
                cases hb : bLe p ls.1 with
                | true => exact iteT (rai _ { nx := fun _ _ => True, rt := Q } _ (e14.trans s5) (w2 _ rfl (by rw [h2]; exact hb)) rfl)
                | false => exact iteF (add _ H5 rfl s5 (by rw [h2]; exact hb))
        · rintro σ H2 ⟨⟨v3, v4, rfl⟩, e1, ys, ps, eL, hsp, htk, hw⟩
          rw [hn, List.take_length] at htk
          rw [hn, List.drop_length] at hw
          refine ⟨_, rfl, L, ys, rfl, .inl (.inl (.inl eL)), rfl, _, rfl, ?_⟩
          have hlen : ys.length = os.length := by
            rw [hsp.len, htk, List.length_map]
          by_cases h1 : os.length = 1
          · rw [show decide (V.int ((ys.length : Nat) : Int) = V.int 1) = true by rw [hlen, h1]; rfl]
            refine iteT ?_
            exact ⟨(by show 1 ≤ 1000; decide), mk_fout ((kx _ (line_wrong_one h1 hw)).same e1)⟩
          · rw [show decide (V.int ((ys.length : Nat) : Int) = V.int 1) = false by rw [hlen]; exact decide_eq_false fun z => h1 (by have := V.int.inj z; omega)]
            refine iteF ?_
            exact ⟨_, rfl, kq (line_right (by rw [← hn]; exact h0) h1 hw) ps L H2 ys htk e1 eL hsp⟩
end



/-! ### straight, bent, a line made -/
theorem len_ok' {n : Nat} (h : n ≤ 1000) : n ≤ sizeLine := Nat.le_trans h (by decide)
def subR (a b : Int × Int) : Int × Int := red (fSub a b).1 (fSub a b).2
def mulR (a b : Int × Int) : Int × Int := red (fMul a b).1 (fMul a b).2
def addR (a b : Int × Int) : Int × Int := red (fAdd a b).1 (fAdd a b).2
def straight (a b c : Pt) : Bool := decide (mulR (subR b.2 a.2) (subR c.1 b.1) = mulR (subR c.2 b.2) (subR b.1 a.1))
theorem subR_fine {a b : Int × Int} (ha : Fine a) (hb : Fine b) : Rd (subR a b) ∧ (subR a b).1.natAbs < 2 ^ 121 ∧ (subR a b).2.natAbs < 2 ^ 120 := by
  have z1 := sz_mul ha.2.1 hb.2.2
  have z2 := sz_mul hb.2.1 ha.2.2
  have z3 := sz_mul ha.2.2 hb.2.2
  have e0 : a.2 * b.2 ≠ 0 := Int.ne_of_gt (Int.mul_pos ha.1.1 hb.1.1)
  have e1 : (a.1 * b.2 - b.1 * a.2).natAbs < 2 ^ 121 := by omega
  have := red_sz (a := a.1 * b.2 - b.1 * a.2) (b := a.2 * b.2) e0 e1 z3
  exact ⟨red_rd e0, this.1, this.2⟩
theorem subR_nm {a b : Int × Int} (ha : Fine a) (hb : Fine b) : Nm (subR a b) := by
  obtain ⟨r, z1, z2⟩ := subR_fine ha hb
  exact ⟨r.1, sz_up z1 (by decide), sz_up z2 (by decide)⟩
def bentStep (k : List Pt) (sf : Pt × Pt) : List Pt := match k.getLast? with
  | some o => if straight o sf.1 sf.2 = true then k else k ++ [sf.1]
  | none => k
/-- the points that are kept -/
def bentF : List Pt → List Pt
  | [] => []
  | p0 :: r => (List.zip r (r.drop 1)).foldl bentStep [p0] ++ [(p0 :: r).getLast (List.cons_ne_nil _ _)]
theorem head_app {α : Type} {k l : List α} (h : k ≠ []) : (k ++ l).head? = k.head? := by
  cases k with
  | nil => exact absurd rfl h
  | cons _ _ => rfl
theorem bentStep_ne {k : List Pt} {sf : Pt × Pt} (h : k ≠ []) : bentStep k sf ≠ [] ∧ (bentStep k sf).head? = k.head? := by
  unfold bentStep
  obtain ⟨o, ho⟩ : ∃ o, k.getLast? = some o := ⟨_, List.getLast?_eq_some_getLast h⟩
  rw [ho]
  dsimp only
  by_cases hs : straight o sf.1 sf.2 = true
  · rw [if_pos hs]
    exact ⟨h, rfl⟩
  · rw [if_neg hs]
    exact ⟨by simp, head_app h⟩
theorem bent_fold (l : List (Pt × Pt)) : ∀ {k : List Pt}, k ≠ [] → l.foldl bentStep k ≠ [] ∧ (l.foldl bentStep k).head? = k.head? := by
  induction l with
  | nil => exact fun h => ⟨h, rfl⟩
  | cons x r ih =>
    intro k h
    obtain ⟨h1, h2⟩ := bentStep_ne (sf := x) h
    obtain ⟨h3, h4⟩ := ih h1
    rw [List.foldl_cons]
    exact ⟨h3, h4.trans h2⟩
theorem bent_len (l : List (Pt × Pt)) : ∀ {k : List Pt}, (l.foldl bentStep k).length ≤ k.length + l.length := by
  induction l with
  | nil => exact fun {k} => Nat.le_refl _
  | cons x r ih =>
    intro k
    rw [List.foldl_cons, List.length_cons]
    refine Nat.le_trans ih ?_
    have : (bentStep k x).length ≤ k.length + 1 := by
      unfold bentStep
      split
      · split
        · omega
        · rw [List.length_append, List.length_singleton]
          omega
      · omega
    omega
theorem bent_ends {ps : List Pt} (h : ps ≠ []) : bentF ps ≠ [] ∧ (bentF ps).head? = ps.head? ∧ (bentF ps).getLast? = ps.getLast? := by
  cases ps with
  | nil => exact absurd rfl h
  | cons p0 r =>
    unfold bentF
    obtain ⟨h1, h2⟩ := bent_fold (List.zip r (r.drop 1)) (k := [p0]) (by simp)
    refine ⟨by simp, ?_, ?_⟩
    · rw [head_app h1, h2]
      rfl
    · rw [List.getLast?_append, List.getLast?_eq_some_getLast (List.cons_ne_nil p0 r)]
      rfl
/-- a line stands at v, with these spots -/
def LineAt (L C : Addr) (H : Hp) (v : V) (qs : List Pt) : Prop := ∃ a dx s ys, v = .ref a ∧ H a = some (.ins L dx [(("spots" : Str), .ref s)]) ∧ H s = some (.lst ys) ∧ SpAll C H ys qs
theorem LineAt.same {L C : Addr} {H H' : Hp} {v : V} {qs : List Pt} (h : LineAt L C H v qs) (e : Same H H') : LineAt L C H' v qs := by
  obtain ⟨a, dx, s, ys, r, h1, h2, h3⟩ := h
  exact ⟨a, dx, s, ys, r, e _ _ h1, e _ _ h2, h3.same e⟩
theorem sp_look {v : V} : ([(("spots" : Str), v)] : List (Str × V)).lookup ("spots" : Str) = some v := by
  simp [List.lookup]
theorem sp_no {v : V} {m : Str} (h : ¬ m = "spots") : ([(("spots" : Str), v)] : List (Str × V)).lookup m = none := by
  show (match m == ("spots" : Str) with | true => some v | false => none) = none
  rw [beq_eq_false_iff_ne.mpr h]
theorem cutV_from (xs : List V) (k : Nat) : cutV xs (some (k : Int)) none = xs.drop k := by
  unfold cutV
  rw [HT.sIx_none, HT.sIx_nat]
  rw [List.take_of_length_le (by rw [List.length_drop]; omega)]
  by_cases h : k ≤ xs.length
  · rw [Nat.min_eq_left h]
  · rw [Nat.min_eq_right (by omega), List.drop_length, List.drop_eq_nil_of_le (by omega)]
section
variable {P : Program} {w : World} {K : PySem.W.Frag} {mg : Str → Option Value} {base : Heap}
def spStraight (C : Addr) : Sp := fun vs H Q _ => ∃ v1 v2 v3 a b c, vs = [v1, v2, v3] ∧ SpotAt C H v1 a ∧ SpotAt C H v2 b ∧ SpotAt C H v3 c ∧ ∀ H', Same H H' → Q (.bl (straight a b c)) H'
theorem ok_is_straight (T : Tx K mg) : FnOk P w K mg base CX0 10 T.is_straight_a T.is_straight_d ["one", "two", "three"] (spStraight T.Exact_a) := by
  refine T.is_straight_F.ok sc_is_straight (fun vs H Q E h => ?_) (fun cdv A outer s H vs Q E hr h => ?_)
  · obtain ⟨v1, v2, v3, a, b, c, rfl, _⟩ := h
    rfl
  · obtain ⟨v1, v2, v3, a, b, c, rfl, ha, hb, hc, k⟩ := h
    refine ⟨_, (pss_cons (ps_set (i := 3) sc_is_straight.nd rfl (Or.inl rfl) (pe_op (op_mulG.or ((op_gyD T.op_mul (ok_Exact_mul T) (hr.mono (by decide)) T.Exact_mul_b pass0).or (op_gyRmul T.op_mul (ok_Exact_rmul T) (hr.mono (by decide)) T.Exact_rmul_b pass0))) (pe_op (op_sub.or ((op_gyD T.op_sub (ok_Exact_sub T) (hr.mono (by decide)) T.Exact_sub_b pass0).or (op_gyRsub T.op_sub (ok_Exact_rsub T) (hr.mono (by decide)) T.Exact_rsub_b pass0))) (pe_ix ix_tup (pv 1) pe_int (fun _ _ => rfl)) (pe_ix ix_tup (pv 0) pe_int (fun _ _ => rfl))) (pe_op (op_sub.or ((op_gyD T.op_sub (ok_Exact_sub T) (hr.mono (by decide)) T.Exact_sub_b pass0).or (op_gyRsub T.op_sub (ok_Exact_rsub T) (hr.mono (by decide)) T.Exact_rsub_b pass0))) (pe_ix ix_tup (pv 2) pe_int (fun _ _ => rfl)) (pe_ix ix_tup (pv 1) pe_int (fun _ _ => rfl)))))
  (pss_cons (ps_set (i := 4) sc_is_straight.nd rfl (Or.inl rfl) (pe_op (op_mulG.or ((op_gyD T.op_mul (ok_Exact_mul T) (hr.mono (by decide)) T.Exact_mul_b pass0).or (op_gyRmul T.op_mul (ok_Exact_rmul T) (hr.mono (by decide)) T.Exact_rmul_b pass0))) (pe_op (op_sub.or ((op_gyD T.op_sub (ok_Exact_sub T) (hr.mono (by decide)) T.Exact_sub_b pass0).or (op_gyRsub T.op_sub (ok_Exact_rsub T) (hr.mono (by decide)) T.Exact_rsub_b pass0))) (pe_ix ix_tup (pv 2) pe_int (fun _ _ => rfl)) (pe_ix ix_tup (pv 1) pe_int (fun _ _ => rfl))) (pe_op (op_sub.or ((op_gyD T.op_sub (ok_Exact_sub T) (hr.mono (by decide)) T.Exact_sub_b pass0).or (op_gyRsub T.op_sub (ok_Exact_rsub T) (hr.mono (by decide)) T.Exact_rsub_b pass0))) (pe_ix ix_tup (pv 1) pe_int (fun _ _ => rfl)) (pe_ix ix_tup (pv 0) pe_int (fun _ _ => rfl)))))
  (pss_one (ps_ret (pe_cmpR (op_eq.or ((op_gyC (op := .Eq) (fun _ _ => rfl) T.Exact_eq_M.at_ T.Exact_eq_M.fn (ok_Exact_eq T) (hr.mono (by decide)) T.Exact_eq_b pass0).or (op_gyCR (op := .Eq) (fun _ _ => rfl) T.Exact_eq_M.at_ T.Exact_eq_M.fn (ok_Exact_eq T) (hr.mono (by decide)) T.Exact_eq_b pass0))) (pv 3) (pv 4) (nomark _)))))), ?_⟩
    obtain ⟨⟨t1, x1, y1, rfl, h1, hx1, hy1⟩, fa1, fa2⟩ := ha
    obtain ⟨⟨t2, x2, y2, rfl, h2, hx2, hy2⟩, fb1, fb2⟩ := hb
    obtain ⟨⟨t3, x3, y3, rfl, h3, hx3, hy3⟩, fc1, fc2⟩ := hc
    have hx1 := hx1.num
    have hy1 := hy1.num
    have hx2 := hx2.num
    have hy2 := hy2.num
    have hx3 := hx3.num
    have hy3 := hy3.num
    refine ⟨_, rfl, t2, _, _, _, rfl, rfl, .inl (.inl h2), rfl, _, rfl, t1, _, _, _, rfl, rfl, .inl (.inl h1), rfl, n_sub hy2 hy1 fb2.nm fa2.nm fun u1 H1 e1 q1 => ?_⟩
    have h1 := e1 _ _ h1
    have h2 := e1 _ _ h2
    have h3 := e1 _ _ h3
    refine ⟨_, rfl, t3, _, _, _, rfl, rfl, .inl (.inl h3), rfl, _, rfl, t2, _, _, _, rfl, rfl, .inl (.inl h2), rfl, n_sub (hx3.same e1) (hx2.same e1) fc1.nm fb1.nm fun u2 H2 e2 q2 => ?_⟩
    refine n_mul (q1.same e2) q2 (subR_nm fb2 fa2) (subR_nm fc1 fb1) fun u3 H3 e3 q3 => ?_
    have e13 := e2.trans e3
    have h1 := e13 _ _ h1
    have h2 := e13 _ _ h2
    have h3 := e13 _ _ h3
    have e03 := e1.trans e13
    refine ⟨_, rfl, t3, _, _, _, rfl, rfl, .inl (.inl h3), rfl, _, rfl, t2, _, _, _, rfl, rfl, .inl (.inl h2), rfl, n_sub (hy3.same e03) (hy2.same e03) fc2.nm fb2.nm fun u4 H4 e4 q4 => ?_⟩
    have h1 := e4 _ _ h1
    have h2 := e4 _ _ h2
    have e04 := e03.trans e4
    refine ⟨_, rfl, t2, _, _, _, rfl, rfl, .inl (.inl h2), rfl, _, rfl, t1, _, _, _, rfl, rfl, .inl (.inl h1), rfl, n_sub (hx2.same e04) (hx1.same e04) fb1.nm fa1.nm fun u5 H5 e5 q5 => ?_⟩
    refine n_mul (q4.same e5) q5 (subR_nm fc2 fb2) (subR_nm fb1 fa1) fun u6 H6 e6 q6 => ?_
    refine ⟨_, rfl, _, rfl, n_eq (fun i => turns_eq T.Exact_dn_int) (((q3.same e4).same e5).same e6) q6 fun H7 e7 => ?_⟩
    exact k _ (((e04.trans e5).trans e6).trans e7)
def spBent (C : Addr) : Sp := fun vs H Q _ => ∃ (L : Addr) (xs : List V) (ps : List Pt), vs = [.ref L] ∧ H L = some (.lst xs) ∧ SpAll C H xs ps ∧ 2 ≤ ps.length ∧ ps.length ≤ 900 ∧ ∀ M H' ys, H M = none → Same H H' → H' M = some (.lst ys) → SpAll C H' ys (bentF ps) → Q (.ref M) H'
theorem ok_bent (T : Tx K mg) : FnOk P w K mg base CX0 12 T.bent_a T.bent_d ["spots"] (spBent T.Exact_a) := by
  refine T.bent_F.ok sc_bent (fun vs H Q E h => ?_) (fun cdv A outer s H vs Q E hr h => ?_)
  · obtain ⟨L, xs, ps, rfl, _⟩ := h
    rfl
  · obtain ⟨L, xs, ps, rfl, hL, hsp, h2, h9, k⟩ := h
    refine ⟨_, (pss_cons (ps_set (i := 1) sc_bent.nd rfl (Or.inl rfl) (pe_lst (pa_cons (pe_ix ix_list (pv 0) pe_int (fun _ _ => rfl)) pa_nil)))
  (pss_cons (ps_for PassesOwn.never rfl (RZ.pi_zipA (by rfl) T.z_zip (pa_cons (pe_slice sl_list (pv 0) (po_some pe_int) po_none) (pa_cons (pe_slice sl_list (pv 0) (po_some pe_int) po_none) pa_nil))) (pg_tup (by rfl) (pgs_cons (pg_name (i := 2) sc_bent.nd rfl (Or.inl rfl)) (pgs_cons (pg_name (i := 3) sc_bent.nd rfl (Or.inl rfl)) pgs_nil)))
  (pss_one (ps_if (pt_not (pt_val (pe_call (ok_is_straight T) (hr.mono (by decide)) rfl T.is_straight_m T.is_straight_F.kp T.is_straight_b .nil pass0 (pa_cons (pe_ix ix_list (pv 1) (pe_un (un_neg) pe_int) (fun _ _ => rfl)) (pa_cons (pv 2) (pa_cons (pv 3) pa_nil))))))
  (pss_one (ps_expr (pe_bm PySem.F.plainAttrs_list PySem.F.slot_list_append PySem.F.type_list_append mt_append (pv 1) (pa_cons (pv 2) pa_nil))))
  pss_nil)))
  (pss_one (ps_ret (pe_lst (StX.pa_star (pv 1) (pa_cons (pe_ix ix_list (pv 0) (pe_un (un_neg) pe_int) (fun _ _ => rfl)) pa_nil))))))), ?_⟩
    have hxl := hsp.len
    obtain ⟨v0, s0, a0, hd0, hs0⟩ := hsp.first (fun z => by rw [z] at h2; exact absurd h2 (by decide))
    refine ⟨_, rfl, L, xs, 0, v0, rfl, rfl, .inl (.inl hL), a0, (by show 1 ≤ sizeLine; decide), fun M nM => ?_⟩
    have e1 : Same H (upd H M (.lst [v0])) := same_upd nM
    have hM : (upd H M (.lst [v0])) M = some (.lst [v0]) := upd_same
    generalize upd H M (.lst [v0]) = H1 at e1 hM ⊢
    have hL1 := e1 _ _ hL
    refine ⟨_, rfl, _, rfl, L, xs, rfl, .inl (.inl hL1), fun A1 nA1 => ?_⟩
    rw [show cutV xs (some 1) none = xs.drop 1 from cutV_from xs 1]
    have e2 : Same H1 (upd H1 A1 (.lst (xs.drop 1))) := same_upd nA1
    have hA1 : (upd H1 A1 (.lst (xs.drop 1))) A1 = some (.lst (xs.drop 1)) := upd_same
    generalize upd H1 A1 (.lst (xs.drop 1)) = H2 at e2 hA1 ⊢
    refine ⟨_, rfl, _, rfl, L, xs, rfl, .inl (.inl (e2 _ _ hL1)), fun A2 nA2 => ?_⟩
    rw [show cutV xs (some 2) none = xs.drop 2 from cutV_from xs 2]
    have e3 : Same H2 (upd H2 A2 (.lst (xs.drop 2))) := same_upd nA2
    have hA2 : (upd H2 A2 (.lst (xs.drop 2))) A2 = some (.lst (xs.drop 2)) := upd_same
    generalize upd H2 A2 (.lst (xs.drop 2)) = H3 at e3 hA2 ⊢
    have e23 := e2.trans e3
    have e13 := e1.trans e23
    have hM3 := e23 _ _ hM
    have hA13 := e3 _ _ hA1
    have n1 : A1 ≠ M := Ne.symm (ne_of_none hM nA1)
    have n2 : A2 ≠ M := Ne.symm (ne_of_none (e2 _ _ hM) nA2)
    have hsp3 := hsp.same e13
    have nZ : List.length (List.zip (ps.drop 1) (ps.drop 2)) = min (xs.drop 1).length (xs.drop 2).length := by
      rw [List.length_zip, List.length_drop, List.length_drop, List.length_drop, List.length_drop, hxl]
    obtain ⟨p0, pr, eps⟩ := List.exists_cons_of_ne_nil (fun z => by rw [z] at h2; exact absurd h2 (by decide) : ps ≠ [])
    have es0 : s0 = p0 := by
      rw [eps] at hd0
      exact (Option.some.inj hd0).symm
    subst es0
    refine ⟨A1, A2, xs.drop 1, xs.drop 2, rfl, .inl ⟨.inl (.inl hA13), .inl (.inl hA2), for_it (walk_zip (K := K) (a := A1) (b := A2) nZ) (fun i σ H' => (∃ v2 v3, σ = [some (.ref L), some (.ref M), v2, v3]) ∧ Keep M H3 H' ∧ ∃ zs ks, H' M = some (.lst zs) ∧ SpAll T.Exact_a H' zs ks ∧ ks = ((List.zip (ps.drop 1) (ps.drop 2)).take i).foldl bentStep [s0])
      ⟨⟨none, none, rfl⟩, Keep.refl _ _, [v0], [s0], hM3, .cons (hs0.same e13) .nil, rfl⟩ (fun i σ H' _ e => ⟨.inl (.inl (e.2.1 _ _ hA13 n1)), .inl (.inl (e.2.1 _ _ hA2 n2))⟩) ?_ ?_⟩⟩
    · rintro i x σ H' H4 hi ⟨⟨v2, v3, rfl⟩, kp, zs, ks, eM, hks, ek⟩ ⟨Tp, x1, y1, rfl, nT, rfl, hx1, hy1⟩
      have e4 := same_upd (o := .tup [x1, y1]) nT
      refine ⟨Tp, _, rfl, .inl (.inl upd_same), rfl, _, _, rfl, _, _, rfl, rfl, ?_⟩
      generalize upd H' Tp (.tup [x1, y1]) = H4 at e4 ⊢
      obtain ⟨sa, hsa, hx⟩ := ((hsp3.drop 1).keepL hM3 kp).at hx1
      obtain ⟨sb, hsb, hy⟩ := ((hsp3.drop 2).keepL hM3 kp).at hy1
      have hz : (List.zip (ps.drop 1) (ps.drop 2))[i]? = some (sa, sb) := by
        rw [List.getElem?_zip_eq_some]
        exact ⟨hsa, hsb⟩
      have kne : ks ≠ [] := by
        rw [ek]
        exact (bent_fold _ (by simp)).1
      have eM4 := e4 _ _ eM
      have hks4 := hks.same e4
      obtain ⟨lv, ls, h1, _, h2', hls⟩ := hks4.last kne
      have step : ((List.zip (ps.drop 1) (ps.drop 2)).take (i + 1)).foldl bentStep [s0] = if straight ls sa sb = true then ks else ks ++ [sa] := by
        rw [List.take_succ, hz, List.foldl_append, ← ek]
        show bentStep ks (sa, sb) = _
        unfold bentStep
        rw [h2']
      refine ⟨_, rfl, _, rfl, M, zs, -1, _, rfl, rfl, .inl (.inl eM4), h1, _, rfl, _, rfl, lv, x1, y1, ls, sa, sb, rfl, hls, hx.same e4, hy.same e4, fun H5 e5 => ⟨_, rfl, ?_⟩⟩
      have eM5 := e5 _ _ eM4
      have hks5 := hks4.same e5
      have kp5 : Keep M H3 H5 := fun b o e n => e5 _ _ (e4 _ _ (kp b o e n))
      cases hb : straight ls sa sb with
      | true =>
        refine iteF ?_
        refine ⟨⟨_, _, rfl⟩, kp5, zs, ks, eM5, hks5, ?_⟩
        rw [step, hb, if_pos rfl]
      | false =>
        refine iteT ?_
        refine ⟨_, rfl, .inl ⟨rfl, zs, .inl (.inl eM5)⟩, _, rfl, M, zs, _, rfl, rfl, eM5, ?_, ?_⟩
        · rw [hks5.len, ek]
          have := bent_len ((List.zip (ps.drop 1) (ps.drop 2)).take i) (k := [s0])
          rw [List.length_take, List.length_singleton] at this
          rw [nZ, List.length_drop] at hi
          exact small1000 (by omega)
        · have kp6 : Keep M H5 (upd H5 M (.lst (zs ++ [x1]))) := fun b o e n => (upd_ne n).trans e
          refine ⟨⟨_, _, rfl⟩, fun b o e n => kp6 _ _ (kp5 _ _ e n) n, zs ++ [x1], ks ++ [sa], upd_same, (hks5.keepL eM5 kp6).snoc (((hx.same e4).same e5).keepL eM5 kp6), ?_⟩
          rw [step, hb, if_neg Bool.false_ne_true]
    · rintro σ H' ⟨⟨v2, v3, rfl⟩, kp, zs, ks, eM, hks, ek⟩
      rw [List.take_length] at ek
      have nL : L ≠ M := ne_of_none hL nM
      have hL' := kp _ _ (e13 _ _ hL) nL
      obtain ⟨lv, ls, h1, _, hl2, hls⟩ := (hsp3.keepL hM3 kp).last (fun z => by rw [z] at h2; exact absurd h2 (by decide))
      refine ⟨_, rfl, M, zs, rfl, .inr (.inl (.inl eM)), _, rfl, _, rfl, L, xs, -1, lv, rfl, rfl, .inl (.inl hL'), h1, ?_, fun N nN => ?_⟩
      · have := bent_len (List.zip (ps.drop 1) (ps.drop 2)) (k := [s0])
        rw [List.length_append, List.length_singleton, hks.len, ek]
        rw [nZ, List.length_drop, List.length_singleton] at this
        exact len_ok' (by omega)
      · have eN := same_upd (o := .lst (zs ++ [lv])) nN
        have hH : Same H H' := fun b o e => kp _ _ (e13 _ _ e) (ne_of_none e nM)
        refine k N _ (zs ++ [lv]) (hH.free nN) (hH.trans eN) upd_same ?_
        have : bentF ps = ks ++ [ls] := by
          rw [eps, List.getLast?_eq_some_getLast (List.cons_ne_nil s0 pr)] at hl2
          have el : (s0 :: pr).getLast (List.cons_ne_nil _ _) = ls := Option.some.inj hl2
          rw [ek, eps]
          show List.foldl bentStep [s0] (List.zip pr (pr.drop 1)) ++ [(s0 :: pr).getLast (List.cons_ne_nil _ _)] = _
          rw [el]
          rfl
        rw [this]
        exact (hks.same eN).snoc (hls.same eN)
end



/-! ### Line(..), and what it refuses -/
section
variable {P : Program} {w : World} {K : PySem.W.Frag} {mg : Str → Option Value} {base : Heap}
def spLineInit (K : PySem.W.Frag) (L C B : Addr) : Sp := fun vs H Q E => ∃ (x dx : Addr) (v : V), vs = [.ref x, v] ∧ H x = some (.ins L dx []) ∧
  ((∃ t, TyX K H v t ∧ PySem.W.kitAny K t [.type "list", .type "tuple"] = some false) ∧ FOut B "index" H (.int 0) E ∨
   ∃ xs os, SeqQ H v xs ∧ xs.length = os.length ∧ xs.length ≤ 900 ∧ (∀ (i : Nat) (x : V) (o : Option Pt), xs[i]? = some x → os[i]? = some o → ItemAt K C H x o) ∧
     (∀ k, lineWrong os = some k → FOut B "index" H (.int (k : Nat)) E) ∧
     (lineWrong os = none → ∀ (ps : List Pt) (s : Addr) (H' : Hp) (ys : List V), os = ps.map some → H s = none → H' x = some (.ins L dx [(("spots" : Str), .ref s)]) → H' s = some (.lst ys) → SpAll C H' ys (bentF ps) → (∀ c o, H c = some o → c ≠ x → H' c = some o) → Q .non H'))
theorem right_two {os : List (Option Pt)} (h : lineWrong os = none) : os.length ≠ 0 ∧ os.length ≠ 1 := by
  unfold lineWrong at h
  split at h
  · cases h
  · rename_i h0
    split at h
    · cases h
    · split at h
      · cases h
      · rename_i h1
        exact ⟨h0, h1⟩
theorem ToldAt.upd_ins {C L : Addr} {H : Hp} {v : V} {p : Int × Int} {x dx : Addr} {fs gs : List (Str × V)} (hL : L ≠ C) (h : ToldAt C H v p) (hx : H x = some (.ins L dx fs)) : ToldAt C (upd H x (.ins L dx gs)) v p := by
  rcases h with h | ⟨n, a, d, e, z⟩
  · exact .inl h
  · exact .inr ⟨n, a, d, e, (upd_ne (ne_of z hx fun q => hL (by cases q; rfl))).trans z⟩
theorem SpotAt.upd_ins {C L : Addr} {H : Hp} {v : V} {s : Pt} {x dx : Addr} {fs gs : List (Str × V)} (hL : L ≠ C) (h : SpotAt C H v s) (hx : H x = some (.ins L dx fs)) : SpotAt C (upd H x (.ins L dx gs)) v s := by
  obtain ⟨⟨t, a, b, rfl, ht, ha, hb⟩, f1, f2⟩ := h
  exact ⟨⟨t, a, b, rfl, (upd_ne (ne_of ht hx fun q => by cases q)).trans ht, ha.upd_ins hL hx, hb.upd_ins hL hx⟩, f1, f2⟩
theorem own_ne (T : Tx K mg) : T.Line_a ≠ T.Exact_a := T.Line_ne_Exact
theorem ok_Line_init_x (T : Tx K mg) : FnOk P w K mg base (L2.CX P w) 14 T.Line_init_a T.Line_init_d ["self", "points"] (spLineInit K T.Line_a T.Exact_a T.BadPoint_a) := by
  refine T.Line_init_F.okX sc_Line_init (fun vs H Q E h => ?_) (fun cdv A outer s H vs Q E hr h => ?_)
  · obtain ⟨x, dx, v, rfl, _⟩ := h
    rfl
  · obtain ⟨x, dx, v, rfl, hx, h⟩ := h
    refine ⟨_, (pss_one (ps_fld (pv 0) (pe_call (ok_bent T) (hr.mono (by decide)) rfl T.bent_m T.bent_F.kp T.bent_b .nil pass0 (pa_cons (pe_call (ok_checked_points_x T) (hr.mono (by decide)) rfl T.checked_points_m T.checked_points_F.kp T.checked_points_b .nil (passes_call (takes_of rfl rfl rfl rfl) fun _ _ _ _ h => h) (pa_cons (pv 1) pa_nil)) pa_nil)) rfl)), ?_⟩
    rcases h with h | ⟨xs, os, hsq, hn, hl, hit, kx, kq⟩
    · exact ⟨_, rfl, v, rfl, .inl h⟩
    · refine ⟨_, rfl, v, rfl, .inr ⟨xs, os, hsq, hn, hl, hit, kx, fun hw ps L1 H1 ys eo e1 hL1 hsp => ?_⟩⟩
      obtain ⟨n0, n1⟩ := right_two hw
      rw [eo, List.length_map] at n0 n1
      refine ⟨L1, ys, ps, rfl, hL1, hsp, by omega, by rw [hn, eo, List.length_map] at hl; exact hl, fun M H2 zs nM e2 hM hb => ?_⟩
      have hx2 := e2 _ _ (e1 _ _ hx)
      refine ⟨_, rfl, x, T.Line_a, dx, _, rfl, hx2, T.Line_cl, T.Line_n_spots, (by show 0 < 1000; decide), ?_⟩
      have hMx : M ≠ x := ne_of hM hx2 fun q => by cases q
      refine kq hw ps M _ zs eo (e1.free nM) upd_same ((upd_ne hMx).trans hM) (hb.mono fun v s z => z.upd_ins (own_ne T) hx2) fun c o e n => ?_
      rw [upd_ne n]
      exact e2 _ _ (e1 _ _ e)
/-- a line made out of right points -/
def spLineNew (L C : Addr) : Sp := fun vs H Q _ => ∃ (x dx : Addr) (v : V) (xs : List V) (ps : List Pt), vs = [.ref x, v] ∧ H x = some (.ins L dx []) ∧ SeqQ H v xs ∧ xs.length ≤ 900 ∧ lineWrong (ps.map some) = none ∧
  (xs.length = ps.length ∧ ∀ (i : Nat) (x : V) (s : Pt), xs[i]? = some x → ps[i]? = some s → ∃ a b, SeqQ H x [a, b] ∧ NumAt C H a s.1 ∧ NumAt C H b s.2 ∧ Fine s.1 ∧ Fine s.2) ∧
  ∀ (s : Addr) (H' : Hp) (ys : List V), H s = none → H' x = some (.ins L dx [(("spots" : Str), .ref s)]) → H' s = some (.lst ys) → SpAll C H' ys (bentF ps) → (∀ c o, H c = some o → c ≠ x → H' c = some o) → Q .non H'
theorem ok_Line_init (T : Tx K mg) : FnOk P w K mg base CX0 14 T.Line_init_a T.Line_init_d ["self", "points"] (spLineNew T.Line_a T.Exact_a) :=
  (ok_Line_init_x T).still.imp fun vs H Q E ⟨x, dx, v, xs, ps, ev, hx, hsq, hl, hw, ⟨hn, hit⟩, k⟩ =>
    ⟨x, dx, v, ev, hx, .inr ⟨xs, ps.map some, hsq, by rw [List.length_map]; exact hn, hl, fun i y o hy ho => by
      rw [List.getElem?_map] at ho
      obtain ⟨s, hs, rfl⟩ := Option.map_eq_some_iff.mp ho
      obtain ⟨a, b, h1, h2, h3, h4, h5⟩ := hit i y s hy hs
      exact .good h1 h2 h3 h4 h5, fun k e => (by rw [hw] at e; cases e), fun _ ps' s H' ys ep h0 h1 h2 h3 h4 => by
        have : ps' = ps := by
          have := congrArg (List.map fun o : Option Pt => o.getD ((0, 0), (0, 0))) ep
          rw [List.map_map, List.map_map, show ((fun o : Option Pt => o.getD ((0, 0), (0, 0))) ∘ some) = id from rfl, List.map_id, List.map_id] at this
          exact this.symm
        subst this
        exact k s H' ys h0 h1 h2 h3 h4⟩⟩
/-- Line(..) as a value -/
theorem mk_line {T : Tx K mg} {H1 : Hp} {Q : Hp → Prop} {E : XK} {x dx : Addr} {v : V} {xs : List V} {ps : List Pt} (nx : H1 x = none) (nd : H1 dx = none) (ne : dx ≠ x) (hsq : SeqQ H1 v xs) (hl : xs.length ≤ 900) (hw : lineWrong (ps.map some) = none) (hn : xs.length = ps.length)
    (hit : ∀ (i : Nat) (x : V) (s : Pt), xs[i]? = some x → ps[i]? = some s → ∃ a b, SeqQ H1 x [a, b] ∧ NumAt T.Exact_a H1 a s.1 ∧ NumAt T.Exact_a H1 b s.2 ∧ Fine s.1 ∧ Fine s.2) (k : ∀ H2, Same H1 H2 → LineAt T.Line_a T.Exact_a H2 (.ref x) (bentF ps) → Q H2) :
    spLineNew T.Line_a T.Exact_a (.ref x :: ([v] ++ [])) (upd (upd H1 dx (.own x)) x (.ins T.Line_a dx [])) (fun v H2 => v = .non ∧ Q H2) E := by
  have md : Same H1 (upd (upd H1 dx (.own x)) x (.ins T.Line_a dx [])) := fun b o e => by
    rw [upd_ne (ne_of_none e nx), upd_ne (ne_of_none e nd)]
    exact e
  refine ⟨x, dx, v, xs, ps, rfl, upd_same, hsq.same md, hl, hw, ⟨hn, fun i y s hy hs => ?_⟩, fun s H' ys _ h1 h2 h3 h4 => ⟨rfl, k H' (Same.made nx nd h4) ⟨x, dx, s, ys, rfl, h1, h2, h3⟩⟩⟩
  obtain ⟨a, b, h1, h2, h3, h4, h5⟩ := hit i y s hy hs
  exact ⟨a, b, h1.same md, h2.same md, h3.same md, h4, h5⟩
end



/-! ### moments in their order -/
theorem lt_trans2 {a b c : Int × Int} (ha : 0 < a.2) (hb : 0 < b.2) (hc : 0 < c.2) (h1 : bLt a b = true) (h2 : bLt b c = true) : bLt a c = true := by
  unfold bLt at *
  have h1 := of_decide_eq_true h1
  have h2 := of_decide_eq_true h2
  refine decide_eq_true ?_
  have e1 : a.1 * b.2 * c.2 < b.1 * a.2 * c.2 := Int.mul_lt_mul_of_pos_right h1 hc
  have e2 : b.1 * c.2 * a.2 < c.1 * b.2 * a.2 := Int.mul_lt_mul_of_pos_right h2 ha
  have f1 : b.1 * a.2 * c.2 = b.1 * c.2 * a.2 := by rw [Int.mul_assoc, Int.mul_comm a.2 c.2, ← Int.mul_assoc]
  have f2 : a.1 * b.2 * c.2 = a.1 * c.2 * b.2 := by rw [Int.mul_assoc, Int.mul_comm b.2 c.2, ← Int.mul_assoc]
  have f3 : c.1 * b.2 * a.2 = c.1 * a.2 * b.2 := by rw [Int.mul_assoc, Int.mul_comm b.2 a.2, ← Int.mul_assoc]
  rw [f1, f2] at e1
  rw [f3] at e2
  exact Int.lt_of_mul_lt_mul_right (Int.lt_trans e1 e2) (Int.le_of_lt hb)
theorem lt_irr (a : Int × Int) : bLt a a = false := decide_eq_false (Int.lt_irrefl _)
theorem rd_uniq {p q : Int × Int} (hp : Rd p) (hq : Rd q) (e : p.1 * q.2 = q.1 * p.2) : p = q := by
  have a := red_scale hp (Int.ne_of_gt hq.1)
  have b := red_scale hq (Int.ne_of_gt hp.1)
  rw [e, Int.mul_comm p.2 q.2] at a
  exact a.symm.trans b
theorem lt_or {a b : Int × Int} (ha : Rd a) (hb : Rd b) (h : bLt a b = false) (n : a ≠ b) : bLt b a = true := by
  unfold bLt at *
  have h := of_decide_eq_false h
  refine decide_eq_true ?_
  have : a.1 * b.2 ≠ b.1 * a.2 := fun e => n (rd_uniq ha hb e)
  omega
def Sorted (l : List (Int × Int)) : Prop := l.Pairwise fun a b => bLt a b = true
theorem sorted_split {t : Int × Int} (ht : 0 < t.2) : ∀ {l : List (Int × Int)}, Sorted l → (∀ x ∈ l, 0 < x.2) → ∃ l1 l2, l = l1 ++ l2 ∧ (∀ x ∈ l1, bLt x t = true) ∧ ∀ x ∈ l2, bLt x t = false := by
  intro l
  induction l with
  | nil => exact fun _ _ => ⟨[], [], rfl, nofun, nofun⟩
  | cons c r ih =>
    intro h hp
    obtain ⟨hc, hr⟩ := List.pairwise_cons.mp h
    cases e : bLt c t with
    | true =>
      obtain ⟨l1, l2, e1, h1, h2⟩ := ih hr fun x hx => hp x (List.mem_cons_of_mem _ hx)
      refine ⟨c :: l1, l2, by rw [e1]; rfl, fun x hx => ?_, h2⟩
      rcases List.mem_cons.mp hx with z | z
      · rw [z]; exact e
      · exact h1 x z
    | false =>
      refine ⟨[], c :: r, rfl, nofun, fun x hx => ?_⟩
      rcases List.mem_cons.mp hx with z | z
      · rw [z]; exact e
      · cases q : bLt x t with
        | false => rfl
        | true =>
          have := lt_trans2 (hp c List.mem_cons_self) (hp x hx) ht (hc x z) q
          rw [e] at this
          cases this
def insAt (t : Int × Int) (l : List (Int × Int)) : Nat := (l.filter fun x => bLt x t).length
def ins (t : Int × Int) (l : List (Int × Int)) : List (Int × Int) := if insAt t l = l.length ∨ l[insAt t l]? ≠ some t then l.take (insAt t l) ++ [t] ++ l.drop (insAt t l) else l
theorem ins_ok {t : Int × Int} {l : List (Int × Int)} (ht : Rd t) (hl : ∀ x ∈ l, Rd x) (hs : Sorted l) : Sorted (ins t l) ∧ ∀ x, x ∈ ins t l ↔ x = t ∨ x ∈ l := by
  obtain ⟨l1, l2, e, h1, h2⟩ := sorted_split ht.1 hs fun x hx => (hl x hx).1
  have ef : l.filter (fun x => bLt x t) = l1 := by
    rw [e, List.filter_append, List.filter_eq_self.mpr h1, List.filter_eq_nil_iff.mpr fun x hx => by rw [h2 x hx]; exact Bool.false_ne_true, List.append_nil]
  have ea : insAt t l = l1.length := by unfold insAt; rw [ef]
  unfold ins
  rw [ea]
  have et : l.take l1.length = l1 := by rw [e, List.take_left]
  have ed : l.drop l1.length = l2 := by rw [e, List.drop_left]
  have eg : l[l1.length]? = l2.head? := by
    rw [e, List.getElem?_append_right (Nat.le_refl _), Nat.sub_self]
    cases l2 <;> rfl
  rw [et, ed, eg]
  by_cases c : l1.length = l.length ∨ l2.head? ≠ some t
  · rw [if_pos c]
    have gt : ∀ x ∈ l2, bLt t x = true := by
      intro x hx
      have hxl : x ∈ l := by rw [e]; exact List.mem_append_right _ hx
      refine lt_or (hl x hxl) ht (h2 x hx) fun z => ?_
      subst z
      rcases c with c | c
      · rw [e, List.length_append] at c
        have := List.length_pos_iff.mpr (List.ne_nil_of_mem hx)
        omega
      · cases l2 with
        | nil => cases hx
        | cons h r =>
          rcases List.mem_cons.mp hx with z | z
          · exact c (by rw [z]; rfl)
          · have hsr : Sorted (h :: r) := by
              have := hs
              rw [e] at this
              exact (List.pairwise_append.mp this).2.1
            have := (List.pairwise_cons.mp hsr).1 x z
            rw [h2 h List.mem_cons_self] at this
            cases this
    have hs2 := hs
    rw [e] at hs2
    obtain ⟨p1, p2, p3⟩ := List.pairwise_append.mp hs2
    constructor
    · refine List.pairwise_append.mpr ⟨List.pairwise_append.mpr ⟨p1, List.pairwise_singleton _ _, fun x hx y hy => ?_⟩, p2, fun x hx y hy => ?_⟩
      · rw [List.mem_singleton.mp hy]
        exact h1 x hx
      · rcases List.mem_append.mp hx with hx | hx
        · exact p3 x hx y hy
        · rw [List.mem_singleton.mp hx]
          exact gt y hy
    · intro x
      rw [e]
      simp only [List.mem_append, List.mem_singleton]
      constructor
      · rintro ((z | z) | z)
        · exact .inr (.inl z)
        · exact .inl z
        · exact .inr (.inr z)
      · rintro (z | z | z)
        · exact .inl (.inr z)
        · exact .inl (.inl z)
        · exact .inr z
  · rw [if_neg c]
    refine ⟨hs, fun x => ⟨.inr, fun z => z.elim (fun z => ?_) id⟩⟩
    have c2 : l2.head? = some t := by
      cases q : decide (l2.head? = some t) with
      | true => exact of_decide_eq_true q
      | false => exact absurd (.inr (of_decide_eq_false q)) c
    rw [z, e]
    exact List.mem_append_right _ (List.mem_of_mem_head? c2)
theorem ins_len (t : Int × Int) (l : List (Int × Int)) : (ins t l).length ≤ l.length + 1 := by
  unfold ins
  split
  · rw [List.length_append, List.length_append, List.length_take, List.length_drop, List.length_singleton]
    have : insAt t l ≤ l.length := List.length_filter_le _ _
    omega
  · omega
theorem sorted_head {ms : List (Int × Int)} {a : Int × Int} (hs : Sorted ms) (ha : a ∈ ms) (h2 : ∀ x ∈ ms, 0 < x.2) (h : ∀ x ∈ ms, x = a ∨ bLt a x = true) : ms.head? = some a := by
  cases ms with
  | nil => cases ha
  | cons c r =>
    rcases h c List.mem_cons_self with z | z
    · rw [z]; rfl
    · rcases List.mem_cons.mp ha with q | q
      · rw [q]; rfl
      · have := (List.pairwise_cons.mp hs).1 a q
        have := lt_trans2 (h2 _ List.mem_cons_self) (h2 _ ha) (h2 _ List.mem_cons_self) this z
        rw [lt_irr] at this
        cases this
theorem sorted_last {ms : List (Int × Int)} {b : Int × Int} (hs : Sorted ms) (hb : b ∈ ms) (h2 : ∀ x ∈ ms, 0 < x.2) (h : ∀ x ∈ ms, x = b ∨ bLt x b = true) : ms.getLast? = some b := by
  have hne := List.ne_nil_of_mem hb
  obtain ⟨l, e⟩ : ∃ l, ms = l ++ [ms.getLast hne] := ⟨_, (List.dropLast_concat_getLast hne).symm⟩
  have el := List.getLast?_eq_some_getLast hne
  generalize ms.getLast hne = c at e el
  rw [el]
  have hc : c ∈ ms := by rw [e]; exact List.mem_append_right _ List.mem_cons_self
  rcases h c hc with z | z
  · rw [z]
  · have hb' := hb
    rw [e] at hb'
    rcases List.mem_append.mp hb' with q | q
    · have hs' := hs
      rw [e] at hs'
      have := (List.pairwise_append.mp hs').2.2 b q c List.mem_cons_self
      have := lt_trans2 (h2 _ hc) (h2 _ hb) (h2 _ hc) z this
      rw [lt_irr] at this
      cases this
    · rw [List.mem_singleton.mp q]
theorem red_between {n a b : Int} (h1 : a * 6 < n) (h2 : n < b * 6) : bLt (a, 1) (red n 6) = true ∧ bLt (red n 6) (b, 1) = true := by
  obtain ⟨e1, e2⟩ := red_mul (a := n) (b := 6)
  have r := red_rd (a := n) (b := 6) (by decide)
  have hp : 0 < (red n 6).2 := r.1
  generalize red n 6 = p at e1 e2 hp ⊢
  generalize red_w n 6 = w at e1 e2
  have hw : 0 < w := by
    rcases Int.lt_trichotomy w 0 with z | z | z
    · have := Int.mul_neg_of_pos_of_neg hp z
      omega
    · rw [z, Int.mul_zero] at e2
      omega
    · exact z
  constructor
  · refine decide_eq_true ?_
    show a * p.2 < p.1 * 1
    rw [Int.mul_one]
    refine Int.lt_of_mul_lt_mul_right (a := w) ?_ (Int.le_of_lt hw)
    rw [Int.mul_assoc, e2, e1]
    exact h1
  · refine decide_eq_true ?_
    show p.1 * 1 < b * p.2
    rw [Int.mul_one]
    refine Int.lt_of_mul_lt_mul_right (a := w) ?_ (Int.le_of_lt hw)
    rw [Int.mul_assoc, e2, e1]
    exact h2

/-! ### points as rationals: a bent line keeps its course -/
def toQ (p : Int × Int) : Rat := Rat.divInt p.1 p.2
theorem toQ_red {a b : Int} (h : b ≠ 0) : toQ (red a b) = Rat.divInt a b := by
  obtain ⟨e1, e2⟩ := red_mul (a := a) (b := b)
  have r := red_rd (a := a) h
  unfold toQ
  rw [Rat.divInt_eq_divInt_iff (Int.ne_of_gt r.1) h]
  generalize red a b = p at e1 e2
  generalize red_w a b = w at e1 e2
  rw [← e2, ← e1, Int.mul_assoc, Int.mul_comm w p.2]
theorem toQ_add {a b : Int × Int} (ha : Rd a) (hb : Rd b) : toQ (addR a b) = toQ a + toQ b := by
  show toQ (red (a.1 * b.2 + b.1 * a.2) (a.2 * b.2)) = _
  rw [toQ_red (Int.ne_of_gt (Int.mul_pos ha.1 hb.1))]
  unfold toQ
  rw [Rat.divInt_add_divInt _ _ (Int.ne_of_gt ha.1) (Int.ne_of_gt hb.1)]
theorem toQ_sub {a b : Int × Int} (ha : Rd a) (hb : Rd b) : toQ (subR a b) = toQ a - toQ b := by
  show toQ (red (a.1 * b.2 - b.1 * a.2) (a.2 * b.2)) = _
  rw [toQ_red (Int.ne_of_gt (Int.mul_pos ha.1 hb.1))]
  unfold toQ
  rw [Rat.divInt_sub_divInt _ _ (Int.ne_of_gt ha.1) (Int.ne_of_gt hb.1)]
theorem toQ_mul {a b : Int × Int} (ha : Rd a) (hb : Rd b) : toQ (mulR a b) = toQ a * toQ b := by
  show toQ (red (a.1 * b.1) (a.2 * b.2)) = _
  rw [toQ_red (Int.ne_of_gt (Int.mul_pos ha.1 hb.1))]
  unfold toQ
  rw [Rat.divInt_mul_divInt]
theorem toQ_inj {a b : Int × Int} (ha : Rd a) (hb : Rd b) (h : toQ a = toQ b) : a = b := by
  unfold toQ at h
  rw [Rat.divInt_eq_divInt_iff (Int.ne_of_gt ha.1) (Int.ne_of_gt hb.1)] at h
  exact rd_uniq ha hb h
theorem le_toQ {a b : Int × Int} (ha : Rd a) (hb : Rd b) : bLe a b = true ↔ toQ a ≤ toQ b := by
  have h1 : toQ a ≤ toQ b ↔ 0 ≤ toQ b - toQ a := by
    constructor
    · intro z; grind
    · intro z; grind
  have e : toQ b - toQ a = Rat.divInt (b.1 * a.2 - a.1 * b.2) (b.2 * a.2) := by
    unfold toQ
    rw [Rat.divInt_sub_divInt _ _ (Int.ne_of_gt hb.1) (Int.ne_of_gt ha.1)]
  rw [h1, e, Rat.divInt_nonneg_iff_of_pos_right (Int.mul_pos hb.1 ha.1)]
  unfold bLe
  rw [decide_eq_true_eq]
  omega
theorem lt_toQ {a b : Int × Int} (ha : Rd a) (hb : Rd b) : bLt a b = true ↔ toQ a < toQ b := by
  have := le_toQ hb ha
  have e : bLt a b = !bLe b a := by
    unfold bLe bLt
    rw [← decide_not]
    exact decide_eq_decide.mpr Int.not_le.symm
  rw [e]
  cases h : bLe b a with
  | true =>
    have := this.mp h
    constructor
    · intro z; cases z
    · intro z; grind
  | false =>
    constructor
    · intro _
      have : ¬ toQ b ≤ toQ a := fun z => by rw [this.mpr z] at h; cases h
      grind
    · intro _; rfl
/-- y lies on the line through p and q, at m -/
def OnL (p q : Pt) (m y : Rat) : Prop := (y - toQ p.2) * (toQ q.1 - toQ p.1) = (toQ q.2 - toQ p.2) * (m - toQ p.1)
inductive On : List Pt → Rat → Rat → Prop
  | here {p q : Pt} {r : List Pt} {m y : Rat} (h1 : toQ p.1 ≤ m) (h2 : m ≤ toQ q.1) (h : OnL p q m y) : On (p :: q :: r) m y
  | there {p : Pt} {l : List Pt} {m y : Rat} (h : On l m y) : On (p :: l) m y
def FineAll (l : List Pt) : Prop := ∀ s ∈ l, Rd s.1 ∧ Rd s.2
def Up (l : List Pt) : Prop := l.Pairwise fun a b => toQ a.1 < toQ b.1
theorem on_ge : ∀ {p : Pt} {l : List Pt} {m y : Rat}, Up (p :: l) → On (p :: l) m y → toQ p.1 ≤ m
  | _, _, _, _, _, .here h1 _ _ => h1
  | p, q :: r, m, y, hu, .there h => by
    obtain ⟨h1, h2⟩ := List.pairwise_cons.mp hu
    have := on_ge h2 h
    have := h1 q List.mem_cons_self
    grind
theorem on_first : ∀ {p : Pt} {l : List Pt} {y : Rat}, Up (p :: l) → On (p :: l) (toQ p.1) y → y = toQ p.2
  | p, q :: r, y, hu, .here _ _ h => by
    obtain ⟨h1, _⟩ := List.pairwise_cons.mp hu
    have := h1 q List.mem_cons_self
    unfold OnL at h
    grind
  | p, q :: r, y, hu, .there h => by
    obtain ⟨h1, h2⟩ := List.pairwise_cons.mp hu
    have := on_ge h2 h
    have := h1 q List.mem_cons_self
    grind
theorem on_uniq {l : List Pt} {m y z : Rat} (hu : Up l) (h1 : On l m y) (h2 : On l m z) : y = z := by
  induction l with
  | nil => cases h1
  | cons p l ih =>
    obtain ⟨u1, u2⟩ := List.pairwise_cons.mp hu
    cases l with
    | nil =>
      cases h1 with
      | there h => cases h
    | cons q r =>
      have hq := u1 q List.mem_cons_self
      have mix : ∀ {y z : Rat}, m ≤ toQ q.1 → OnL p q m y → On (q :: r) m z → y = z := fun {y z} a2 a3 b => by
        have hm := on_ge u2 b
        have e : m = toQ q.1 := by grind
        subst e
        have := on_first u2 b
        unfold OnL at a3
        grind
      cases h1 with
      | here a1 a2 a3 =>
        cases h2 with
        | here b1 b2 b3 =>
          unfold OnL at a3 b3
          grind
        | there b => exact mix a2 a3 b
      | there a =>
        cases h2 with
        | here b1 b2 b3 => exact (mix b2 b3 a).symm
        | there b => exact ih u2 a b
theorem straight_Q {k s f : Pt} (hk : Rd k.1 ∧ Rd k.2) (hs : Rd s.1 ∧ Rd s.2) (hf : Rd f.1 ∧ Rd f.2) : straight k s f = true ↔ (toQ s.2 - toQ k.2) * (toQ f.1 - toQ s.1) = (toQ f.2 - toQ s.2) * (toQ s.1 - toQ k.1) := by
  unfold straight
  have rs : ∀ {a b : Int × Int}, Rd a → Rd b → Rd (subR a b) := fun ha hb => red_rd (Int.ne_of_gt (Int.mul_pos ha.1 hb.1))
  have rm : ∀ {a b : Int × Int}, Rd a → Rd b → Rd (mulR a b) := fun ha hb => red_rd (Int.ne_of_gt (Int.mul_pos ha.1 hb.1))
  rw [decide_eq_true_eq, ← toQ_sub hs.2 hk.2, ← toQ_sub hf.1 hs.1, ← toQ_sub hf.2 hs.2, ← toQ_sub hs.1 hk.1, ← toQ_mul (rs hs.2 hk.2) (rs hf.1 hs.1), ← toQ_mul (rs hf.2 hs.2) (rs hs.1 hk.1)]
  exact ⟨fun e => by rw [e], toQ_inj (rm (rs hs.2 hk.2) (rs hf.1 hs.1)) (rm (rs hf.2 hs.2) (rs hs.1 hk.1))⟩
/-- the kept points, told by recursion -/
def bentL : Pt → List Pt → List Pt
  | k, [] => [k]
  | k, [s] => [k, s]
  | k, s :: f :: r => if straight k s f = true then bentL k (f :: r) else k :: bentL s (f :: r)
theorem bent_rec : ∀ (l acc : List Pt) (k : Pt), l ≠ [] → (List.zip l (l.drop 1)).foldl bentStep (acc ++ [k]) ++ [(k :: l).getLast (List.cons_ne_nil _ _)] = acc ++ bentL k l
  | [], _, _, h => absurd rfl h
  | [s], acc, k, _ => by
    show acc ++ [k] ++ [s] = acc ++ [k, s]
    rw [List.append_assoc]
    rfl
  | s :: f :: r, acc, k, _ => by
    have gl : (k :: s :: f :: r).getLast (List.cons_ne_nil _ _) = (f :: r).getLast (List.cons_ne_nil _ _) := rfl
    show ((s, f) :: List.zip (f :: r) r).foldl bentStep (acc ++ [k]) ++ _ = acc ++ bentL k (s :: f :: r)
    rw [List.foldl_cons]
    have st : bentStep (acc ++ [k]) (s, f) = if straight k s f = true then acc ++ [k] else acc ++ [k] ++ [s] := by
      unfold bentStep
      rw [List.getLast?_append]
      rfl
    rw [st]
    show _ = acc ++ (if straight k s f = true then bentL k (f :: r) else k :: bentL s (f :: r))
    by_cases c : straight k s f = true
    · rw [if_pos c, if_pos c]
      exact bent_rec (f :: r) acc k (List.cons_ne_nil _ _)
    · rw [if_neg c, if_neg c]
      have := bent_rec (f :: r) (acc ++ [k]) s (List.cons_ne_nil _ _)
      have e2 : acc ++ [k] ++ bentL s (f :: r) = acc ++ k :: bentL s (f :: r) := by
        rw [List.append_assoc]
        rfl
      exact this.trans e2
theorem bentF_rec {p : Pt} {r : List Pt} (h : r ≠ []) : bentF (p :: r) = bentL p r := bent_rec r [] p h
theorem bentL_head : ∀ (l : List Pt) (k : Pt), ∃ t, bentL k l = k :: t
  | [], _ => ⟨_, rfl⟩
  | [_], _ => ⟨_, rfl⟩
  | s :: f :: r, k => by
    by_cases c : straight k s f = true
    · obtain ⟨t, e⟩ := bentL_head (f :: r) k
      exact ⟨t, (if_pos c : bentL k (s :: f :: r) = _).trans e⟩
    · exact ⟨_, (if_neg c : bentL k (s :: f :: r) = _)⟩
/-- what lies on the bent line lies on the line -/
theorem bent_on : ∀ (l : List Pt) {k : Pt} {m y : Rat}, FineAll (k :: l) → Up (k :: l) → On (bentL k l) m y → On (k :: l) m y
  | [], k, m, y, _, _, h => h
  | [s], k, m, y, _, _, h => h
  | s :: f :: r, k, m, y, hf, hu, h => by
    have fk := hf k List.mem_cons_self
    have fs := hf s (List.mem_cons_of_mem _ List.mem_cons_self)
    have ff := hf f (List.mem_cons_of_mem _ (List.mem_cons_of_mem _ List.mem_cons_self))
    obtain ⟨u1, u2⟩ := List.pairwise_cons.mp hu
    obtain ⟨u3, u4⟩ := List.pairwise_cons.mp u2
    have hks := u1 s List.mem_cons_self
    have hkf := u1 f (List.mem_cons_of_mem _ List.mem_cons_self)
    have hsf := u3 f List.mem_cons_self
    by_cases c : straight k s f = true
    · have e : bentL k (s :: f :: r) = bentL k (f :: r) := if_pos c
      rw [e] at h
      have hf' : FineAll (k :: f :: r) := fun x hx => hf x (by
        rcases List.mem_cons.mp hx with z | z
        · rw [z]; exact List.mem_cons_self
        · exact List.mem_cons_of_mem _ (List.mem_cons_of_mem _ z))
      have hu' : Up (k :: f :: r) := List.pairwise_cons.mpr ⟨fun x hx => u1 x (List.mem_cons_of_mem _ hx), u4⟩
      have := bent_on (f :: r) hf' hu' h
      rw [straight_Q fk fs ff] at c
      cases this with
      | there h => exact .there (.there h)
      | here h1 h2 h3 =>
        unfold OnL at h3
        by_cases hm : m ≤ toQ s.1
        · refine .here h1 hm ?_
          unfold OnL
          have e : ((y - toQ k.2) * (toQ s.1 - toQ k.1)) * (toQ f.1 - toQ k.1) = ((toQ s.2 - toQ k.2) * (m - toQ k.1)) * (toQ f.1 - toQ k.1) := by grind
          have h0 : toQ f.1 - toQ k.1 ≠ 0 := by grind
          grind
        · refine .there (.here (by grind) h2 ?_)
          unfold OnL
          have e : ((y - toQ s.2) * (toQ f.1 - toQ s.1)) * (toQ f.1 - toQ k.1) = ((toQ f.2 - toQ s.2) * (m - toQ s.1)) * (toQ f.1 - toQ k.1) := by grind
          have h0 : toQ f.1 - toQ k.1 ≠ 0 := by grind
          grind
    · have e : bentL k (s :: f :: r) = k :: bentL s (f :: r) := if_neg c
      rw [e] at h
      have hf' : FineAll (s :: f :: r) := fun x hx => hf x (List.mem_cons_of_mem _ hx)
      obtain ⟨t, et⟩ := bentL_head (f :: r) s
      rw [et] at h
      cases h with
      | here h1 h2 h3 => exact .here h1 h2 h3
      | there h =>
        rw [← et] at h
        exact .there (bent_on (f :: r) hf' u2 h)



/-! ### a line asked for its heights and its points -/
def divR (a b : Int × Int) : Int × Int := red (a.1 * b.2) (a.2 * b.1)
theorem toQ_div {a b : Int × Int} (ha : Rd a) (hb : Rd b) (h0 : b.1 ≠ 0) : toQ (divR a b) * toQ b = toQ a ∧ Rd (divR a b) := by
  have hn : a.2 * b.1 ≠ 0 := Int.mul_ne_zero (Int.ne_of_gt ha.1) h0
  refine ⟨?_, red_rd hn⟩
  show toQ (red (a.1 * b.2) (a.2 * b.1)) * toQ b = toQ a
  rw [toQ_red hn]
  unfold toQ
  rw [Rat.divInt_mul_divInt, Rat.divInt_eq_divInt_iff (Int.mul_ne_zero hn (Int.ne_of_gt hb.1)) (Int.ne_of_gt ha.1)]
  rw [Int.mul_assoc, Int.mul_assoc, Int.mul_assoc, Int.mul_comm b.2 (b.1 * a.2), Int.mul_comm b.1 a.2, Int.mul_assoc]
/-- sizes of what is reckoned on the way -/
def Nz (n : Nat) (p : Int × Int) : Prop := Rd p ∧ p.1.natAbs < 2 ^ n ∧ p.2.natAbs < 2 ^ n
theorem Nz.nm {n : Nat} {p : Int × Int} (h : Nz n p) (hn : n ≤ 1000) : Nm p := ⟨h.1.1, sz_up h.2.1 hn, sz_up h.2.2 hn⟩
theorem Fine.nz {p : Int × Int} (h : Fine p) : Nz 60 p := ⟨h.1, h.2.1, h.2.2⟩
theorem nz_sub {m n : Nat} {a b : Int × Int} (ha : Nz m a) (hb : Nz n b) : Nz (m + n + 1) (subR a b) := by
  have z1 := sz_mul ha.2.1 hb.2.2
  have z2 := sz_mul hb.2.1 ha.2.2
  have z3 := sz_mul ha.2.2 hb.2.2
  have e0 : a.2 * b.2 ≠ 0 := Int.ne_of_gt (Int.mul_pos ha.1.1 hb.1.1)
  rw [Nat.add_comm n m] at z2
  have e1 : (a.1 * b.2 - b.1 * a.2).natAbs < 2 ^ (m + n + 1) := by
    rw [Nat.pow_succ]
    omega
  have := red_sz (a := a.1 * b.2 - b.1 * a.2) (b := a.2 * b.2) e0 e1 (sz_up z3 (Nat.le_succ _))
  exact ⟨red_rd e0, this.1, this.2⟩
theorem nz_add {m n : Nat} {a b : Int × Int} (ha : Nz m a) (hb : Nz n b) : Nz (m + n + 1) (addR a b) := by
  have z1 := sz_mul ha.2.1 hb.2.2
  have z2 := sz_mul hb.2.1 ha.2.2
  have z3 := sz_mul ha.2.2 hb.2.2
  have e0 : a.2 * b.2 ≠ 0 := Int.ne_of_gt (Int.mul_pos ha.1.1 hb.1.1)
  rw [Nat.add_comm n m] at z2
  have e1 : (a.1 * b.2 + b.1 * a.2).natAbs < 2 ^ (m + n + 1) := by
    rw [Nat.pow_succ]
    omega
  have := red_sz (a := a.1 * b.2 + b.1 * a.2) (b := a.2 * b.2) e0 e1 (sz_up z3 (Nat.le_succ _))
  exact ⟨red_rd e0, this.1, this.2⟩
theorem nz_mul {m n : Nat} {a b : Int × Int} (ha : Nz m a) (hb : Nz n b) : Nz (m + n) (mulR a b) := by
  have e0 : a.2 * b.2 ≠ 0 := Int.ne_of_gt (Int.mul_pos ha.1.1 hb.1.1)
  have := red_sz (a := a.1 * b.1) (b := a.2 * b.2) e0 (sz_mul ha.2.1 hb.2.1) (sz_mul ha.2.2 hb.2.2)
  exact ⟨red_rd e0, this.1, this.2⟩
theorem nz_div {m n : Nat} {a b : Int × Int} (ha : Nz m a) (hb : Nz n b) (h0 : b.1 ≠ 0) : Nz (m + n) (divR a b) := by
  have e0 : a.2 * b.1 ≠ 0 := Int.mul_ne_zero (Int.ne_of_gt ha.1.1) h0
  have := red_sz (a := a.1 * b.2) (b := a.2 * b.1) e0 (sz_mul ha.2.1 hb.2.2) (sz_mul ha.2.2 hb.2.1)
  exact ⟨red_rd e0, this.1, this.2⟩
theorem on_at : ∀ {qs : List Pt} {i : Nat} {a b : Pt} {m y : Rat}, qs[i]? = some a → qs[i + 1]? = some b → toQ a.1 ≤ m → m ≤ toQ b.1 → OnL a b m y → On qs m y := by
  intro qs
  induction qs with
  | nil => intro i a b m y h; simp at h
  | cons p l ih =>
    intro i a b m y h1 h2 h3 h4 h5
    cases i with
    | zero =>
      cases h1
      cases l with
      | nil => simp at h2
      | cons q r =>
        cases h2
        exact .here h3 h4 h5
    | succ i => exact .there (ih h1 h2 h3 h4 h5)
theorem up_at {qs : List Pt} (hu : Up qs) {i j : Nat} {a b : Pt} (hij : i < j) (h1 : qs[i]? = some a) (h2 : qs[j]? = some b) : toQ a.1 < toQ b.1 := by
  obtain ⟨i1, e1⟩ := List.getElem?_eq_some_iff.mp h1
  obtain ⟨i2, e2⟩ := List.getElem?_eq_some_iff.mp h2
  have := List.pairwise_iff_getElem.mp hu i j i1 i2 hij
  rw [e1, e2] at this
  exact this
section
variable {P : Program} {w : World} {K : PySem.W.Frag} {mg : Str → Option Value} {base : Heap}
def spQuot (C : Addr) : Sp := fun vs H Q _ => ∃ x y a b, vs = [x, y] ∧ NumAt C H x a ∧ NumAt C H y b ∧ Rd a ∧ Nm a ∧ Nm b ∧ b.1 ≠ 0 ∧ ∀ v H', Same H H' → ToldAt C H' v (divR a b) → Q v H'
theorem ok_quotient (T : Tx K mg) : FnOk P w K mg base CX0 8 T.quotient_a T.quotient_d ["one", "other"] (spQuot T.Exact_a) := by
  refine T.quotient_F.ok sc_quotient (fun vs H Q E h => ?_) (fun cdv A outer s H vs Q E hr h => ?_)
  · obtain ⟨x, y, a, b, rfl, _⟩ := h
    rfl
  · obtain ⟨x, y, a, b, rfl, hx, hy, ra, na, nb, h0, k⟩ := h
    refine ⟨_, (pss_cons (ps_asg (pe_call (ok_parts T) (hr.mono (by decide)) rfl T.parts_m T.parts_F.kp T.parts_b .nil pass0 (pa_cons (pv 0) pa_nil)) (pg_tup (by rfl) (pgs_cons (pg_name (i := 2) sc_quotient.nd rfl (Or.inl rfl)) (pgs_cons (pg_name (i := 3) sc_quotient.nd rfl (Or.inl rfl)) pgs_nil))))
  (pss_cons (ps_asg (pe_call (ok_parts T) (hr.mono (by decide)) rfl T.parts_m T.parts_F.kp T.parts_b .nil pass0 (pa_cons (pv 1) pa_nil)) (pg_tup (by rfl) (pgs_cons (pg_name (i := 4) sc_quotient.nd rfl (Or.inl rfl)) (pgs_cons (pg_name (i := 5) sc_quotient.nd rfl (Or.inl rfl)) pgs_nil))))
  (pss_one (ps_ret (pe_call (ok_plain T) (hr.mono (by decide)) rfl T.plain_m T.plain_F.kp T.plain_b .nil pass0 (pa_cons (pe_make T.Exact_mk (ok_Exact_init T) (hr.mono (by decide)) rfl T.Exact_m T.Exact_init_b .nil pass0 (pa_cons (pe_op (op_mulG) (pv 2) (pv 5)) (pa_cons (pe_op (op_mulG) (pv 3) (pv 4)) pa_nil))) pa_nil)))))), ?_⟩
    refine ⟨_, rfl, x, a, rfl, hx, fun t1 H1 e1 h1 => ?_⟩
    refine ⟨t1, _, rfl, .inl (.inl h1), rfl, _, _, rfl, _, _, rfl, rfl, ?_⟩
    refine ⟨_, rfl, y, b, rfl, hy.same e1, fun t2 H2 e2 h2 => ?_⟩
    refine ⟨t2, _, rfl, .inl (.inl h2), rfl, _, _, rfl, _, _, rfl, rfl, ?_⟩
    refine ⟨_, rfl, _, rfl, _, _, rfl, rfl, ok1000 na.2.1 nb.2.2, _, rfl, _, rfl, _, _, rfl, rfl, ok1000 na.2.2 nb.2.1, ?_⟩
    have hn : a.2 * b.1 ≠ 0 := Int.mul_ne_zero (Int.ne_of_gt na.1) h0
    have sz := red_sz (a := a.1 * b.2) hn (sz_mul na.2.1 nb.2.2) (sz_mul na.2.2 nb.2.1)
    refine fun z dz nz ndz _ => mk_ex1 nz ndz hn (sz_up (sz_mul na.2.2 nb.2.1) (by decide)) fun H3 e3 hv => ?_
    exact ⟨_, _, rfl, .inr hv, red_rd hn, sz_up sz.2 (by decide), fun v' H4 e4 hv' => k v' H4 ((e1.trans e2).trans (e3.trans e4)) hv'⟩
def spBetween (C : Addr) : Sp := fun vs H Q _ => ∃ v1 v2 m a b p, vs = [v1, v2, m] ∧ SpotAt C H v1 a ∧ SpotAt C H v2 b ∧ NumAt C H m p ∧ Fine p ∧ toQ a.1 < toQ b.1 ∧ ∀ v H' y, Same H H' → NumAt C H' v y → Nz 430 y → OnL a b (toQ p) (toQ y) → Q v H'
theorem ok_height_between (T : Tx K mg) : FnOk P w K mg base CX0 12 T.height_between_a T.height_between_d ["one", "other", "moment"] (spBetween T.Exact_a) := by
  refine T.height_between_F.ok sc_height_between (fun vs H Q E h => ?_) (fun cdv A outer s H vs Q E hr h => ?_)
  · obtain ⟨v1, v2, m, a, b, p, rfl, _⟩ := h
    rfl
  · obtain ⟨v1, v2, m, a, b, p, rfl, ha, hb, hm, fp, hlt, k⟩ := h
    refine ⟨_, (pss_cons (ps_asg (pv 0) (pg_tup (by rfl) (pgs_cons (pg_name (i := 3) sc_height_between.nd rfl (Or.inl rfl)) (pgs_cons (pg_name (i := 4) sc_height_between.nd rfl (Or.inl rfl)) pgs_nil))))
  (pss_cons (ps_asg (pv 1) (pg_tup (by rfl) (pgs_cons (pg_name (i := 5) sc_height_between.nd rfl (Or.inl rfl)) (pgs_cons (pg_name (i := 6) sc_height_between.nd rfl (Or.inl rfl)) pgs_nil))))
  (pss_cons (ps_if (PW.pt (pw_or (pt_cmpR (op_eq.or ((op_gyC (op := .Eq) (fun _ _ => rfl) T.Exact_eq_M.at_ T.Exact_eq_M.fn (ok_Exact_eq T) (hr.mono (by decide)) T.Exact_eq_b pass0).or (op_gyCR (op := .Eq) (fun _ _ => rfl) T.Exact_eq_M.at_ T.Exact_eq_M.fn (ok_Exact_eq T) (hr.mono (by decide)) T.Exact_eq_b pass0))) (pv 4) (pv 6) (nomark _)) (pw_or1 (pt_cmpR (op_eq.or ((op_gyC (op := .Eq) (fun _ _ => rfl) T.Exact_eq_M.at_ T.Exact_eq_M.fn (ok_Exact_eq T) (hr.mono (by decide)) T.Exact_eq_b pass0).or (op_gyCR (op := .Eq) (fun _ _ => rfl) T.Exact_eq_M.at_ T.Exact_eq_M.fn (ok_Exact_eq T) (hr.mono (by decide)) T.Exact_eq_b pass0))) (pv 2) (pv 3) (nomark _)))))
  (pss_one (ps_ret (pv 4)))
  pss_nil)
  (pss_cons (ps_if (pt_cmpR (op_eq.or ((op_gyC (op := .Eq) (fun _ _ => rfl) T.Exact_eq_M.at_ T.Exact_eq_M.fn (ok_Exact_eq T) (hr.mono (by decide)) T.Exact_eq_b pass0).or (op_gyCR (op := .Eq) (fun _ _ => rfl) T.Exact_eq_M.at_ T.Exact_eq_M.fn (ok_Exact_eq T) (hr.mono (by decide)) T.Exact_eq_b pass0))) (pv 2) (pv 5) (nomark _))
  (pss_one (ps_ret (pv 6)))
  pss_nil)
  (pss_one (ps_ret (pe_op (op_add.or ((op_gyD T.op_add (ok_Exact_add T) (hr.mono (by decide)) T.Exact_add_b pass0).or (op_gyRadd T.op_add (ok_Exact_radd T) (hr.mono (by decide)) T.Exact_radd_b pass0))) (pv 4) (pe_call (ok_quotient T) (hr.mono (by decide)) rfl T.quotient_m T.quotient_F.kp T.quotient_b .nil pass0 (pa_cons (pe_op (op_mulG.or ((op_gyD T.op_mul (ok_Exact_mul T) (hr.mono (by decide)) T.Exact_mul_b pass0).or (op_gyRmul T.op_mul (ok_Exact_rmul T) (hr.mono (by decide)) T.Exact_rmul_b pass0))) (pe_op (op_sub.or ((op_gyD T.op_sub (ok_Exact_sub T) (hr.mono (by decide)) T.Exact_sub_b pass0).or (op_gyRsub T.op_sub (ok_Exact_rsub T) (hr.mono (by decide)) T.Exact_rsub_b pass0))) (pv 6) (pv 4)) (pe_op (op_sub.or ((op_gyD T.op_sub (ok_Exact_sub T) (hr.mono (by decide)) T.Exact_sub_b pass0).or (op_gyRsub T.op_sub (ok_Exact_rsub T) (hr.mono (by decide)) T.Exact_rsub_b pass0))) (pv 2) (pv 3))) (pa_cons (pe_op (op_sub.or ((op_gyD T.op_sub (ok_Exact_sub T) (hr.mono (by decide)) T.Exact_sub_b pass0).or (op_gyRsub T.op_sub (ok_Exact_rsub T) (hr.mono (by decide)) T.Exact_rsub_b pass0))) (pv 5) (pv 3)) pa_nil)))))))))), ?_⟩
    obtain ⟨⟨t1, x1, y1, rfl, h1, hx1, hy1⟩, fa1, fa2⟩ := ha
    obtain ⟨⟨t2, x2, y2, rfl, h2, hx2, hy2⟩, fb1, fb2⟩ := hb
    have hx1 := hx1.num
    have hy1 := hy1.num
    have hx2 := hx2.num
    have hy2 := hy2.num
    have up : ∀ {q : Int × Int}, Fine q → Nz 430 q := fun f => ⟨f.1, sz_up f.2.1 (by decide), sz_up f.2.2 (by decide)⟩
    refine ⟨_, rfl, t1, _, rfl, .inl (.inl h1), rfl, _, _, rfl, _, _, rfl, rfl, ?_⟩
    refine ⟨_, rfl, t2, _, rfl, .inl (.inl h2), rfl, _, _, rfl, _, _, rfl, rfl, ?_⟩
    refine ⟨_, rfl, _, rfl, n_eq (fun i => turns_eq T.Exact_dn_int) hy1 hy2 fun H1 e1 => ⟨_, rfl, ?_⟩⟩
    by_cases c1 : a.2 = b.2
    · rw [decide_eq_true c1]
      refine iteT (iteT ⟨_, rfl, k _ H1 a.2 e1 (hy1.same e1) (up fa2) ?_⟩)
      unfold OnL
      rw [c1]
      grind
    rw [decide_eq_false c1]
    refine iteF ?_
    refine ⟨_, rfl, _, rfl, n_eq (fun i => turns_eq T.Exact_dn_int) (hm.same e1) (hx1.same e1) fun H2 e2 => ⟨_, rfl, ?_⟩⟩
    have e12 := e1.trans e2
    by_cases c2 : p = a.1
    · rw [decide_eq_true c2]
      refine iteT ⟨_, rfl, k _ H2 a.2 e12 (hy1.same e12) (up fa2) ?_⟩
      unfold OnL
      rw [c2]
      grind
    rw [decide_eq_false c2]
    refine iteF ?_
    refine ⟨_, rfl, _, rfl, n_eq (fun i => turns_eq T.Exact_dn_int) (hm.same e12) (hx2.same e12) fun H3 e3 => ⟨_, rfl, ?_⟩⟩
    have e13 := e12.trans e3
    by_cases c3 : p = b.1
    · rw [decide_eq_true c3]
      refine iteT ⟨_, rfl, k _ H3 b.2 e13 (hy2.same e13) (up fb2) ?_⟩
      unfold OnL
      rw [c3]
    rw [decide_eq_false c3]
    refine iteF ?_
    have d1 := nz_sub fb2.nz fa2.nz
    have d2 := nz_sub fp.nz fa1.nz
    have d3 := nz_sub fb1.nz fa1.nz
    have d4 := nz_mul d1 d2
    have h0 : (subR b.1 a.1).1 ≠ 0 := by
      intro z
      have q := toQ_sub fb1.1 fa1.1
      have : toQ (subR b.1 a.1) = 0 := by
        unfold toQ
        rw [z]
        exact Rat.zero_divInt _
      rw [this] at q
      grind
    have d5 := nz_div d4 d3 h0
    have d6 := nz_add fa2.nz d5
    refine ⟨_, rfl, _, rfl, _, rfl, n_sub (hy2.same e13) (hy1.same e13) fb2.nm fa2.nm fun u1 H4 e4 q1 => ?_⟩
    have e14 := e13.trans e4
    refine ⟨_, rfl, _, rfl, n_sub (hm.same e14) (hx1.same e14) fp.nm fa1.nm fun u2 H5 e5 q2 => ?_⟩
    refine n_mul (q1.same e5) q2 (d1.nm (by decide)) (d2.nm (by decide)) fun u3 H6 e6 q3 => ?_
    have e16 := (e14.trans e5).trans e6
    refine ⟨_, rfl, _, rfl, n_sub (hx2.same e16) (hx1.same e16) fb1.nm fa1.nm fun u4 H7 e7 q4 => ?_⟩
    refine ⟨_, _, _, _, rfl, q3.same e7, q4, d4.1, d4.nm (by decide), d3.nm (by decide), h0, fun u5 H8 e8 q5 => ?_⟩
    have e18 := (e16.trans e7).trans e8
    refine n_add (hy1.same e18) q5.num fa2.nm (d5.nm (by decide)) fun u6 H9 e9 q6 => ?_
    refine k _ H9 _ (e18.trans e9) q6 ⟨d6.1, sz_up d6.2.1 (by decide), sz_up d6.2.2 (by decide)⟩ ?_
    have r1 := toQ_add fa2.1 d5.1
    have r2 := (toQ_div d4.1 d3.1 h0).1
    have r3 := toQ_mul d1.1 d2.1
    have r4 := toQ_sub fb2.1 fa2.1
    have r5 := toQ_sub fp.1 fa1.1
    have r6 := toQ_sub fb1.1 fa1.1
    unfold OnL
    show (toQ (addR a.2 (divR (mulR (subR b.2 a.2) (subR p a.1)) (subR b.1 a.1))) - toQ a.2) * (toQ b.1 - toQ a.1) = _
    rw [r1]
    rw [r6] at r2
    rw [r3, r4, r5] at r2
    grind
end



/-! ### heights along moments; a line called; its points -/
/-- numbers of xs are worth ps -/
inductive NmAll (C : Addr) (H : Hp) : List V → List (Int × Int) → Prop
  | nil : NmAll C H [] []
  | cons {v : V} {p : Int × Int} {vs : List V} {ps : List (Int × Int)} (h : NumAt C H v p) (r : NmAll C H vs ps) : NmAll C H (v :: vs) (p :: ps)
theorem NmAll.mono {C : Addr} {H H' : Hp} (f : ∀ v p, NumAt C H v p → NumAt C H' v p) : ∀ {vs : List V} {ps : List (Int × Int)}, NmAll C H vs ps → NmAll C H' vs ps
  | _, _, .nil => .nil
  | _, _, .cons h r => .cons (f _ _ h) (r.mono f)
theorem NmAll.snoc {C : Addr} {H : Hp} {v : V} {p : Int × Int} (h : NumAt C H v p) : ∀ {vs : List V} {ps : List (Int × Int)}, NmAll C H vs ps → NmAll C H (vs ++ [v]) (ps ++ [p])
  | _, _, .nil => .cons h .nil
  | _, _, .cons a r => .cons a (r.snoc h)
theorem NmAll.len {C : Addr} {H : Hp} : ∀ {vs : List V} {ps : List (Int × Int)}, NmAll C H vs ps → vs.length = ps.length
  | _, _, .nil => rfl
  | _, _, .cons _ r => congrArg (· + 1) r.len
theorem NmAll.at {C : Addr} {H : Hp} : ∀ {vs : List V} {ps : List (Int × Int)} {i : Nat} {v : V}, NmAll C H vs ps → vs[i]? = some v → ∃ p, ps[i]? = some p ∧ NumAt C H v p
  | _, _, 0, _, .cons h _, e => ⟨_, rfl, (Option.some.inj e) ▸ h⟩
  | _, _, i + 1, _, .cons _ r, e => r.at (i := i) e
  | _, _, _, _, .nil, e => by simp at e
theorem NumAt.keepL {C : Addr} {H H' : Hp} {v : V} {p : Int × Int} {L : Addr} {ys : List V} (h : NumAt C H v p) (hL : H L = some (.lst ys)) (k : Keep L H H') : NumAt C H' v p := by
  rcases h with h | ⟨a, dx, e, z⟩
  · exact .inl h
  · exact .inr ⟨a, dx, e, k _ _ z (ne_of z hL fun q => by cases q)⟩
/-- heights hs at moments ps, along qs -/
def OnAll (qs : List Pt) (ps hs : List (Int × Int)) : Prop := ps.length = hs.length ∧ ∀ (i : Nat) (p h : Int × Int), ps[i]? = some p → hs[i]? = some h → Nz 430 h ∧ On qs (toQ p) (toQ h)
section
variable {P : Program} {w : World} {K : PySem.W.Frag} {mg : Str → Option Value} {base : Heap}
def spHeights (C : Addr) : Sp := fun vs H Q _ => ∃ (S M : Addr) (xs ms : List V) (qs : List Pt) (ps : List (Int × Int)), vs = [.ref S, .ref M] ∧ H S = some (.lst xs) ∧ SpAll C H xs qs ∧ Up qs ∧ H M = some (.lst ms) ∧ NmAll C H ms ps ∧ qs.length ≤ 900 ∧ ps.length ≤ 900 ∧
  (∀ p ∈ ps, Fine p ∧ (∃ a, qs.head? = some a ∧ toQ a.1 ≤ toQ p) ∧ ∃ b, qs.getLast? = some b ∧ toQ p ≤ toQ b.1) ∧ ps.Pairwise (fun p q => toQ p ≤ toQ q) ∧ 2 ≤ qs.length ∧
  ∀ L H' ys hs, H L = none → Same H H' → H' L = some (.lst ys) → NmAll C H' ys hs → OnAll qs ps hs → Q (.ref L) H'
theorem ok_heights_at (T : Tx K mg) : FnOk P w K mg base CX0 14 T.heights_at_a T.heights_at_d ["spots", "moments"] (spHeights T.Exact_a) := by
  refine T.heights_at_F.ok sc_heights_at (fun vs H Q E h => ?_) (fun cdv A outer s H vs Q E hr h => ?_)
  · obtain ⟨S, M, xs, ms, qs, ps, rfl, _⟩ := h
    rfl
  · obtain ⟨S, M, xs, ms, qs, ps, rfl, hS, hqs, hu, hM, hps, h9, h9', hin, hso, h2, k⟩ := h
    refine ⟨_, (pss_cons (ps_set (i := 2) sc_heights_at.nd rfl (Or.inl rfl) (pe_lst pa_nil))
  (pss_cons (ps_set (i := 3) sc_heights_at.nd rfl (Or.inl rfl) pe_int)
  (pss_cons (ps_for PassesOwn.never rfl (pi_list (pv 1)) (pg_name (i := 4) sc_heights_at.nd rfl (Or.inl rfl))
  (pss_cons (ps_while PassesOwn.never (pt_cmpR (op_lt.or ((op_gyC (op := .Lt) (fun _ _ => rfl) T.Exact_lt_M.at_ T.Exact_lt_M.fn (ok_Exact_lt T) (hr.mono (by decide)) T.Exact_lt_b pass0).or (op_gyCR (op := .Lt) (fun _ _ => rfl) T.Exact_gt_M.at_ T.Exact_gt_M.fn (ok_Exact_gt T) (hr.mono (by decide)) T.Exact_gt_b pass0))) (pe_ix ix_tup (pe_ix ix_list (pv 0) (pv 3) (fun _ _ => rfl)) pe_int (fun _ _ => rfl)) (pv 4) (nomark _))
  (pss_one (ps_aug (i := 3) sc_heights_at.nd rfl (Or.inl rfl) pe_int ip_add)))
  (pss_one (ps_expr (pe_bm PySem.F.plainAttrs_list PySem.F.slot_list_append PySem.F.type_list_append mt_append (pv 2) (pa_cons (pe_call (ok_height_between T) (hr.mono (by decide)) rfl T.height_between_m T.height_between_F.kp T.height_between_b .nil pass0 (pa_cons (pe_ix ix_list (pv 0) (pe_op (op_sub) (pv 3) pe_int) (fun _ _ => rfl)) (pa_cons (pe_ix ix_list (pv 0) (pv 3) (fun _ _ => rfl)) (pa_cons (pv 4) pa_nil)))) pa_nil))))))
  (pss_one (ps_ret (pv 2)))))), ?_⟩
    refine ⟨(by show 0 ≤ sizeLine; decide), fun L nL => ?_⟩
    have e1 : Same H (upd H L (.lst [])) := same_upd nL
    have hL : (upd H L (.lst [])) L = some (.lst []) := upd_same
    generalize upd H L (.lst []) = H1 at e1 hL ⊢
    have hxl := hqs.len
    obtain ⟨q0, hq0⟩ : ∃ q0, qs[0]? = some q0 := ⟨_, List.getElem?_eq_getElem (by omega)⟩
    have hhd : qs.head? = some q0 := by rw [List.head?_eq_getElem?]; exact hq0
    refine ⟨_, rfl, M, rfl, ⟨ms, .inl (.inl (e1 _ _ hM))⟩, for_list (K := K) (a := M) (xs := ms) (fun i σ H' => (∃ (at_ : Nat) (v : Option V), σ = [some (.ref S), some (.ref M), some (.ref L), some (.int (at_ : Nat)), v] ∧ 1 ≤ at_ ∧ at_ < qs.length ∧ ∃ a, qs[at_ - 1]? = some a ∧ ∀ j p, i ≤ j → ps[j]? = some p → toQ a.1 ≤ toQ p) ∧
        Same H H' ∧ ∃ ys hs, H' L = some (.lst ys) ∧ NmAll T.Exact_a H' ys hs ∧ OnAll qs (ps.take i) hs)
      ⟨⟨1, none, rfl, Nat.le_refl _, by omega, q0, hq0, fun j p _ hp => ?_⟩, e1, [], [], hL, .nil, by rw [List.take_zero]; exact ⟨rfl, fun i p h e => by simp at e⟩⟩ (fun i σ H' _ e => .inl (.inl (e.2.1 _ _ hM))) ?_ ?_⟩
    · obtain ⟨_, ⟨a, ha, hle⟩, _⟩ := hin p (List.mem_of_getElem? hp)
      rw [hhd] at ha
      cases ha
      exact hle
    · rintro i m σ H2 hi ⟨⟨at0, v, rfl, a1, a2, qa, hqa, hrest⟩, e2, ys, hs, eL, hys, hon⟩
      obtain ⟨p, hp, hm0⟩ := hps.at hi
      obtain ⟨fp, _, ql, hql, hle⟩ := hin p (List.mem_of_getElem? hp)
      have hm2 := hm0.same e2
      have hql' : qs[qs.length - 1]? = some ql := by rw [← List.getLast?_eq_getElem?]; exact hql
      -- on to the next spot that is not ahead of the moment
      refine ⟨fun n σ H' => ∃ at_ : Nat, σ = [some (.ref S), some (.ref M), some (.ref L), some (.int (at_ : Nat)), some m] ∧ n = qs.length - at_ ∧ 1 ≤ at_ ∧ at_ < qs.length ∧ (∃ a, qs[at_ - 1]? = some a ∧ toQ a.1 ≤ toQ p) ∧ Same H2 H', ⟨_, at0, rfl, rfl, a1, a2, ⟨qa, hqa, hrest i p (Nat.le_refl _) hp⟩, Same.refl _⟩, ?_⟩
      rintro n σ H3 ⟨at_, rfl, rfl, b1, b2, ⟨qb, hqb, hb⟩, e3⟩
      obtain ⟨vq, hvq⟩ : ∃ vq, xs[at_]? = some vq := ⟨_, List.getElem?_eq_getElem (by rw [hxl]; exact b2)⟩
      obtain ⟨qc, hqc, hspc⟩ := hqs.at hvq
      have e23 := e2.trans e3
      have hspc3 := hspc.same e23
      obtain ⟨⟨t, x, y, rfl, ht, hx, hy⟩, fc1, fc2⟩ := id hspc3
      have hm3 := hm2.same e3
      refine ⟨_, rfl, _, rfl, S, xs, _, _, rfl, rfl, .inl (.inl (e23 _ _ hS)), atI_nat hvq, t, _, 0, x, rfl, rfl, .inl (.inl ht), rfl, _, rfl, n_lt (fun i => turns_lt T.Exact_dn_int) hx.num hm3 fc1.nm fp.nm fun H4 e4 => ⟨_, rfl, ?_⟩⟩
      have e24 := e23.trans e4
      cases hlt : bLt qc.1 p with
      | true =>
        refine iteT ?_
        have hlt' := (lt_toQ fc1.1 fp.1).mp hlt
        have b3 : at_ + 1 < qs.length := by
          rcases Nat.lt_or_ge (at_ + 1) qs.length with z | z
          · exact z
          · have : at_ = qs.length - 1 := by omega
            rw [this, hql'] at hqc
            cases hqc
            grind
        refine ⟨_, fun σ' H' z => z, ?_⟩
        refine ⟨_, rfl, _, _, rfl, rfl, ?_⟩
        exact ⟨qs.length - (at_ + 1), by omega, at_ + 1, rfl, rfl, by omega, b3, ⟨qc, by rw [Nat.add_sub_cancel]; exact hqc, by grind⟩, e3.trans e4⟩
      | false =>
        refine iteF ?_
        have hge : toQ p ≤ toQ qc.1 := by
          have : ¬ toQ qc.1 < toQ p := fun z => by rw [(lt_toQ fc1.1 fp.1).mpr z] at hlt; cases hlt
          grind
        obtain ⟨vb, hvb⟩ : ∃ vb, xs[at_ - 1]? = some vb := ⟨_, List.getElem?_eq_getElem (by rw [hxl]; omega)⟩
        obtain ⟨qb', hqb', hspb⟩ := hqs.at hvb
        rw [hqb] at hqb'
        cases hqb'
        have e34 := e3.trans e4
        have eL4 := e34 _ _ eL
        have e1' : ((at_ : Nat) : Int) - 1 = ((at_ - 1 : Nat) : Int) := by omega
        refine ⟨_, rfl, .inl ⟨rfl, ys, .inl (.inl eL4)⟩, _, rfl, _, rfl, _, _, rfl, rfl, S, xs, _, _, rfl, rfl, .inl (.inl (e24 _ _ hS)), (by rw [e1']; exact atI_nat hvb), _, rfl, _, rfl, S, xs, _, _, rfl, rfl, .inl (.inl (e24 _ _ hS)), atI_nat hvq, _, rfl, _, _, m, qb, qc, p, rfl, hspb.same e24, hspc3.same e4, hm3.same e4, fp, ?_, fun u H5 h e5 hu nz hol => ?_⟩
        · exact up_at hu (by omega : at_ - 1 < at_) hqb hqc
        have eL5 := e5 _ _ eL4
        have e25 := e34.trans e5
        have kp : ∀ o, Keep L H5 (upd H5 L o) := fun o b o' e n => (upd_ne n).trans e
        have hlen : ys.length = i := by
          rw [hys.len]
          have := hon.1
          rw [List.length_take] at this
          have := (List.getElem?_eq_some_iff.mp hp).1
          omega
        refine ⟨L, ys, _, rfl, rfl, eL5, small1000 (by have := (List.getElem?_eq_some_iff.mp hp).1; omega), ?_⟩
        refine ⟨⟨at_, some m, rfl, b1, b2, qb, hqb, fun j q hj hq => ?_⟩, fun b o e => ?_, ys ++ [u], hs ++ [h], upd_same, ?_, ?_, ?_⟩
        · have := List.pairwise_iff_getElem.mp hso i j (List.getElem?_eq_some_iff.mp hp).1 (List.getElem?_eq_some_iff.mp hq).1 (by omega)
          rw [(List.getElem?_eq_some_iff.mp hp).2, (List.getElem?_eq_some_iff.mp hq).2] at this
          grind
        · rw [upd_ne (ne_of_none e nL)]
          exact e25 _ _ (e2 _ _ e)
        · exact ((hys.mono fun v p z => z.same e25).mono fun v p z => z.keepL eL5 (kp _)).snoc (hu.keepL eL5 (kp _))
        · rw [List.length_append, ← hon.1, List.take_succ, hp, List.length_append]
          rfl
        · intro j q hj hq hhj
          rw [List.take_succ, hp] at hq
          have hl1 : (ps.take i).length = hs.length := hon.1
          rcases Nat.lt_or_ge j hs.length with z | z
          · rw [List.getElem?_append_left (by omega)] at hq
            rw [List.getElem?_append_left z] at hhj
            exact hon.2 j q hj hq hhj
          · rw [List.getElem?_append_right (by omega)] at hq
            rw [List.getElem?_append_right z] at hhj
            have : j - hs.length = 0 := by
              have := (List.getElem?_eq_some_iff.mp hhj).1
              rw [List.length_singleton] at this
              omega
            rw [hl1, this] at hq
            rw [this] at hhj
            cases hq
            cases hhj
            refine ⟨nz, on_at (i := at_ - 1) hqb ?_ hb hge hol⟩
            rw [Nat.sub_add_cancel b1]
            exact hqc
    · rintro σ H2 ⟨⟨at_, v, rfl, _⟩, e2, ys, hs, eL, hys, hon⟩
      rw [hps.len, List.take_length] at hon
      exact ⟨_, rfl, k L H2 ys hs nL e2 eL hys hon⟩
def spCallT (L C : Addr) : Sp := fun vs H Q _ => ∃ l m qs p, vs = [l, m] ∧ LineAt L C H l qs ∧ Up qs ∧ 2 ≤ qs.length ∧ qs.length ≤ 900 ∧ NumAt C H m p ∧ Fine p ∧ (∃ a, qs.head? = some a ∧ toQ a.1 ≤ toQ p) ∧ (∃ b, qs.getLast? = some b ∧ toQ p ≤ toQ b.1) ∧
  ∀ v H' y, Same H H' → ToldAt C H' v y → Rd y → On qs (toQ p) (toQ y) → Q v H'
theorem ok_Line_call (T : Tx K mg) : FnOk P w K mg base CX0 18 T.Line_call_a T.Line_call_d ["self", "moment"] (spCallT T.Line_a T.Exact_a) := by
  refine T.Line_call_F.ok sc_Line_call (fun vs H Q E h => ?_) (fun cdv A outer s H vs Q E hr h => ?_)
  · obtain ⟨l, m, qs, p, rfl, _⟩ := h
    rfl
  · obtain ⟨l, m, qs, p, rfl, hl, hu, h2, h9, hm, fp, ⟨a, ha, hle1⟩, ⟨b, hb, hle2⟩, k⟩ := h
    refine ⟨_, (pss_cons (ps_if (PW.pt (pw_or (pt_not (pt_val (pe_call (ok_is_number T) (hr.mono (by decide)) rfl T.is_number_m T.is_number_F.kp T.is_number_b .nil pass0 (pa_cons (pv 1) pa_nil)))) (pw_or1 (pt_not (pt_chain (op_le.or ((op_gyC (op := .LtE) (fun _ _ => rfl) T.Exact_le_M.at_ T.Exact_le_M.fn (ok_Exact_le T) (hr.mono (by decide)) T.Exact_le_b pass0).or (op_gyCR (op := .LtE) (fun _ _ => rfl) T.Exact_ge_M.at_ T.Exact_ge_M.fn (ok_Exact_ge T) (hr.mono (by decide)) T.Exact_ge_b pass0)) ) ( op_le.or ((op_gyC (op := .LtE) (fun _ _ => rfl) T.Exact_le_M.at_ T.Exact_le_M.fn (ok_Exact_le T) (hr.mono (by decide)) T.Exact_le_b pass0).or (op_gyCR (op := .LtE) (fun _ _ => rfl) T.Exact_ge_M.at_ T.Exact_ge_M.fn (ok_Exact_ge T) (hr.mono (by decide)) T.Exact_ge_b pass0))) (pe_ix ix_tup (pe_ix ix_list (pe_fld (pv 0) rfl) pe_int (fun _ _ => rfl)) pe_int (fun _ _ => rfl)) (pv 1) (pe_ix ix_tup (pe_ix ix_list (pe_fld (pv 0) rfl) (pe_un (un_neg) pe_int) (fun _ _ => rfl)) pe_int (fun _ _ => rfl)))))))
  (pss_one ps_never)
  pss_nil)
  (pss_one (ps_ret (pe_call (ok_plain T) (hr.mono (by decide)) rfl T.plain_m T.plain_F.kp T.plain_b .nil pass0 (pa_cons (pe_ix ix_list (pe_call (ok_heights_at T) (hr.mono (by decide)) rfl T.heights_at_m T.heights_at_F.kp T.heights_at_b .nil pass0 (pa_cons (pe_fld (pv 0) rfl) (pa_cons (pe_lst (pa_cons (pv 1) pa_nil)) pa_nil))) pe_int (fun _ _ => rfl)) pa_nil))))), ?_⟩
    refine ⟨_, rfl, _, rfl, .inl ⟨⟨p, hm⟩, _, rfl, iteF ?_⟩⟩
    obtain ⟨x, dx, sa, ys, rfl, hx, hs, hsp⟩ := hl
    have hne0 : qs ≠ [] := fun z => by rw [z] at h2; exact absurd h2 (by decide)
    obtain ⟨v1, s1, i1, d1, hs1⟩ := hsp.first hne0
    obtain ⟨v2, s2, i2, _, d2, hs2⟩ := hsp.last hne0
    rw [d1] at ha
    cases ha
    rw [d2] at hb
    cases hb
    obtain ⟨⟨t1, a1, b1, rfl, e1, f1, _⟩, g1, _⟩ := id hs1
    obtain ⟨⟨t2, a2, b2, rfl, e2, f2, _⟩, g2, _⟩ := id hs2
    have c1 := (le_toQ g1.1 fp.1).mpr hle1
    have c2 := (le_toQ fp.1 g2.1).mpr hle2
    refine ⟨_, rfl, x, T.Line_a, dx, _, _, rfl, hx, T.Line_cl, T.Line_n_spots, sp_look, sa, ys, 0, _, rfl, rfl, .inl (.inl hs), i1, t1, _, 0, _, rfl, rfl, .inl (.inl e1), rfl,
      _, rfl, n_le (fun i => turns_le T.Exact_dn_int) f1.num hm g1.nm fp.nm fun H1 w1 => ⟨_, rfl, ?_⟩⟩
    rw [c1]
    refine iteT ?_
    refine ⟨_, rfl, x, T.Line_a, dx, _, _, rfl, w1 _ _ hx, T.Line_cl, T.Line_n_spots, sp_look, _, rfl, sa, ys, -1, _, rfl, rfl, .inl (.inl (w1 _ _ hs)), i2, t2, _, 0, _, rfl, rfl, .inl (.inl (w1 _ _ e2)), rfl,
      n_le (fun i => turns_le T.Exact_dn_int) (hm.same w1) (f2.num.same w1) fp.nm g2.nm fun H2 w2 => ⟨_, rfl, ?_⟩⟩
    rw [c2]
    refine iteF ?_
    have w12 := w1.trans w2
    refine ⟨_, rfl, x, T.Line_a, dx, _, _, rfl, w12 _ _ hx, T.Line_cl, T.Line_n_spots, sp_look, _, rfl, (by show 1 ≤ sizeLine; decide), fun M nM => ?_⟩
    have w3 : Same H2 (upd H2 M (.lst [m])) := same_upd nM
    have hM : (upd H2 M (.lst [m])) M = some (.lst [m]) := upd_same
    generalize upd H2 M (.lst [m]) = H3 at w3 hM ⊢
    have w13 := w12.trans w3
    refine ⟨sa, M, ys, [m], qs, [p], rfl, w13 _ _ hs, hsp.same w13, hu, hM, .cons (hm.same w13) .nil, h9, (by show 1 ≤ 900; decide), fun q hq => ?_, List.pairwise_singleton _ _, h2, fun L H4 zs hh nL e4 hL hzs hon => ?_⟩
    · rw [List.mem_singleton.mp hq]
      exact ⟨fp, ⟨_, d1, hle1⟩, _, d2, hle2⟩
    · obtain ⟨hl1, hon⟩ := hon
      match hh, hzs, hl1 with
      | [h], .cons hv .nil, _ =>
        obtain ⟨nz, o⟩ := hon 0 p h rfl rfl
        refine ⟨L, _, 0, _, rfl, rfl, .inl (.inl hL), atI_nat (j := 0) rfl, _, h, rfl, hv, nz.1, sz_up nz.2.2 (by decide), fun v' H5 e5 hv' => k v' H5 h ((w13.trans e4).trans e5) hv' nz.1 o⟩
def spPoints (L C : Addr) : Sp := fun vs H Q _ => ∃ l qs, vs = [l] ∧ LineAt L C H l qs ∧ qs.length ≤ 900 ∧ ∀ M H' ys, H M = none → Same H H' → H' M = some (.lst ys) → SpAll C H' ys qs → Q (.ref M) H'
theorem ok_Line_points (T : Tx K mg) : FnOk P w K mg base CX0 10 T.Line_points_a T.Line_points_d ["self"] (spPoints T.Line_a T.Exact_a) := by
  refine T.Line_points_F.ok sc_Line_points (fun vs H Q E h => ?_) (fun cdv A outer s H vs Q E hr h => ?_)
  · obtain ⟨l, qs, rfl, _⟩ := h
    rfl
  · obtain ⟨l, qs, rfl, ⟨x, dx, sa, xs, rfl, hx, hs, hsp⟩, h9, k⟩ := h
    refine ⟨_, (pss_one (ps_ret (pe_lc (g := gName 1) (tt := tYes) (te := tCall (spCopied T.Exact_a) [] E0 (tCons (tVar 1) tNil)) (own := [("spot", 1)]) rfl sc_Line_points.nd (pi_list (pe_fld (pv 0) rfl)) (blkOk_by (own := [("spot", 1)]) (N := ["self", "spot"]) (sc := defScope s_Line_points) (by decide +kernel))
   (fun _ _ _ _ _ => pg_name (i := 1) sc_Line_points.nd rfl (Or.inl rfl)) (fun _ _ _ _ _ => pts_nil) (fun _ _ _ _ _ => (pe_call (ok_copied T) (hr.mono (by decide)) rfl T.copied_m T.copied_F.kp T.copied_b .nil pass0 (pa_cons (pv 1) pa_nil)))))), ?_⟩
    refine ⟨_, rfl, x, T.Line_a, dx, _, _, rfl, hx, T.Line_cl, T.Line_n_spots, sp_look, sa, rfl, ⟨xs, .inl (.inl hs)⟩, fun D nD => ?_⟩
    refine lc_it (walk_list (K := K) (a := sa) (xs := xs)) (fun j H2 => Same H H2 ∧ ∃ ys, H2 D = some (.lst ys) ∧ SpAll T.Exact_a H2 ys (qs.take j)) ⟨same_upd nD, [], upd_same, by rw [List.take_zero]; exact .nil⟩ (fun j H2 _ e => .inl (.inl (e.1 _ _ hs))) ?_ ?_
    · rintro j v H20 H2 hj ⟨e2, ys, eD, hys⟩ ⟨rfl, hv⟩
      obtain ⟨s, hsj, hspot⟩ := hsp.at hv
      obtain ⟨⟨t, x1, y1, rfl, ht, hx1, hy1⟩, f1, f2⟩ := hspot.same e2
      refine ⟨rfl, yes_of ?_⟩
      refine ⟨_, rfl, _, _, [s.1, s.2], rfl, ⟨t, rfl, .inr ht⟩, rfl, (by show 2 ≤ 1000; decide), fun i z r hz hr => ?_, fun u H3 zs e3 hu hzs => ?_⟩
      · match i, hz, hr with
        | 0, hz, hr => cases hz; cases hr; exact ⟨hx1.num, f1⟩
        | 1, hz, hr => cases hz; cases hr; exact ⟨hy1.num, f2⟩
        | i + 2, hz, hr => exact absurd hz (by simp)
      · have eD3 := e3 _ _ eD
        have kp : ∀ o, Keep D H3 (upd H3 D o) := fun o b o' e n => (upd_ne n).trans e
        cases hzs with
        | cons h1 r1 =>
          cases r1 with
          | cons h2 r2 =>
            cases r2
            have spot : SpotAt T.Exact_a H3 (.ref u) s := ⟨⟨u, _, _, rfl, hu, h1, h2⟩, f1, f2⟩
            refine ⟨ys, eD3, ?_, fun b o e => ?_, ys ++ [.ref u], upd_same, ?_⟩
            · rw [hys.len, List.length_take]
              have := (List.getElem?_eq_some_iff.mp hsj).1
              exact small1000 (by omega)
            · rw [upd_ne (ne_of_none e nD)]
              exact e3 _ _ (e2 _ _ e)
            · rw [List.take_succ, hsj]
              exact ((hys.same e3).keepL eD3 (kp _)).snoc (spot.keepL eD3 (kp _))
    · rintro H2 ⟨e2, ys, eD, hys⟩
      rw [hsp.len, List.take_length] at hys
      exact k D H2 ys nD e2 eD hys
end



/-! ### equal: spots, lines -/
theorem NumAt.uniq {C : Addr} {H : Hp} {v : V} {p q : Int × Int} (h : NumAt C H v p) (h' : NumAt C H v q) : p = q := by
  rcases h with ⟨e, z⟩ | ⟨a, dx, e, z⟩ <;> rcases h' with ⟨e', z'⟩ | ⟨a', dx', e', z'⟩
  · rw [e] at e'
    exact Prod.ext (V.int.inj e') (z.trans z'.symm)
  · rw [e] at e'
    cases e'
  · rw [e] at e'
    cases e'
  · rw [e] at e'
    cases e'
    rw [z] at z'
    have := HO.ins.inj (Option.some.inj z')
    have h2 := this.2.2
    have l1 := congrArg (List.lookup ("over" : Str)) h2
    have l2 := congrArg (List.lookup ("under" : Str)) h2
    rw [fl_over, fl_over] at l1
    rw [fl_under, fl_under] at l2
    exact Prod.ext (V.int.inj (Option.some.inj l1)) (V.int.inj (Option.some.inj l2))
theorem SpotAt.uniq {C : Addr} {H : Hp} {v : V} {p q : Pt} (h : SpotAt C H v p) (h' : SpotAt C H v q) : p = q := by
  obtain ⟨⟨t, x, y, rfl, ht, hx, hy⟩, _⟩ := h
  obtain ⟨⟨t', x', y', e, ht', hx', hy'⟩, _⟩ := h'
  cases e
  rw [ht] at ht'
  cases ht'
  exact Prod.ext (hx.num.uniq hx'.num) (hy.num.uniq hy'.num)
theorem SpAll.refs {C : Addr} {H : Hp} : ∀ {vs : List V} {ps : List Pt}, SpAll C H vs ps → ∃ ts : List Addr, vs = ts.map V.ref
  | _, _, .nil => ⟨[], rfl⟩
  | _, _, .cons h r => by
    obtain ⟨ts, e⟩ := r.refs
    obtain ⟨⟨t, _, _, e1, _⟩, _⟩ := h
    exact ⟨t :: ts, by rw [e, e1]; rfl⟩
/-- a list of spots == another one -/
def rSpots (C : Addr) : R2 := fun x y H Q => ∃ (a b : Addr) (ys zs : List V) (ps qs : List Pt), x = .ref a ∧ y = .ref b ∧ H a = some (.lst ys) ∧ H b = some (.lst zs) ∧ SpAll C H ys ps ∧ SpAll C H zs qs ∧ ∀ H', Same H H' → Q (.bl (decide (ps = qs))) H'
theorem range_all {e : Nat → Bool} {ps qs : List Pt} (h : ps.length = qs.length) (he : ∀ j p q, ps[j]? = some p → qs[j]? = some q → e j = decide (p = q)) : (List.range ps.length).all e = decide (ps = qs) := by
  rw [Bool.eq_iff_iff, List.all_eq_true, decide_eq_true_iff]
  constructor
  · intro z
    apply List.ext_getElem h
    intro i h1 h2
    have := z i (List.mem_range.mpr h1)
    rw [he i _ _ (List.getElem?_eq_getElem h1) (List.getElem?_eq_getElem h2)] at this
    exact of_decide_eq_true this
  · rintro rfl i hi
    have h1 := List.mem_range.mp hi
    rw [he i _ _ (List.getElem?_eq_getElem h1) (List.getElem?_eq_getElem h1)]
    exact decide_eq_true rfl
section
variable {P : Program} {w : World} {K : PySem.W.Frag} {mg : Str → Option Value} {base : Heap}
theorem eqs_num {X : Cx} (T : Tx X.K X.mg) (hr : Room (6 + 2) X.A) {pins : List (Addr × Obj)} {σ : St} {H : Hp} {x y : V} {v u : Value} {a b : Int × Int} (hx : NumAt T.Exact_a H x a) (hy : NumAt T.Exact_a H y b) (rx : RelV x v) (ry : RelV y u) :
    PySem.Gj.Eqs X.prog X.w (JS X pins σ H) X.A.in1.in1 v u (decide (a = b)) := by
  have hr : Room 6 (Cx.in2 X).A := hr.in1.in1
  refine eqs_op (r := fun E x y H Q => rEq x y H Q ∨ rGyC X.K T.Exact_a (spExEq X.K T.Exact_a) E0 x y H Q ∨ rGyCR ((Cx.in2 X).wish E) .Eq T.Exact_a (spExEq X.K T.Exact_a) E0 x y H Q) (fun E => ?_) rx ry ?_ ?_ ?_
  · exact op_eq.or ((op_gyC (X := (Cx.in2 X).wish E) (E := E0) (op := .Eq) (fun _ _ => rfl) T.Exact_eq_M.at_ T.Exact_eq_M.fn (ok_Exact_eq T) hr T.Exact_eq_b pass0).or (op_gyCR (E := E0) (op := .Eq) (fun _ _ => rfl) T.Exact_eq_M.at_ T.Exact_eq_M.fn (ok_Exact_eq T) hr T.Exact_eq_b pass0))
  · rcases hx.cases with ⟨rfl, _⟩ | ⟨p, dx, rfl, _⟩
    · obtain ⟨t, rfl⟩ := rx
      exact .inl ⟨_, t, rfl⟩
    · exact .inr ⟨p, rx⟩
  · rintro rfl
    refine decide_eq_true ?_
    rcases hx.cases with ⟨rfl, ex⟩ | ⟨p, dx, rfl, hp⟩ <;> rcases hy.cases with ⟨rfl, ey⟩ | ⟨q, dy, rfl, hq⟩
    · obtain ⟨t, rfl⟩ := rx
      obtain ⟨t', e⟩ := ry
      exact Prod.ext (by injection e) (ex.trans ey.symm)
    · obtain ⟨t, rfl⟩ := rx
      cases ry
    · cases rx
      obtain ⟨t', e⟩ := ry
      cases e
    · cases rx
      cases ry
      exact hx.uniq hy
  · intro E H' e
    exact n_eq (fun i => turns_eq T.Exact_dn_int) (hx.same e) (hy.same e) fun H2 e2 => ⟨rfl, e2⟩
theorem vals_two {x y : V} {us : List Value} (h : Vals [x, y] us) : ∃ u v, us = [u, v] ∧ RelV x u ∧ RelV y v := by
  cases h with
  | cons a r =>
    cases r with
    | cons b r =>
      cases r
      exact ⟨_, _, rfl, a, b⟩
theorem op_spots {X : Cx} (T : Tx X.K X.mg) (hr : Room (6 + 2) X.A) : OpR X (compareOp .Eq) (rSpots T.Exact_a) := by
  intro pins s σ H x y v u Q I rx ry h
  obtain ⟨a, b, ys, zs, ps, qs, rfl, rfl, ha, hb, hps, hqs, k⟩ := h
  obtain rfl : v = Value.ref a := rx
  obtain rfl : u = Value.ref b := ry
  obtain ⟨ts1, e1⟩ := hps.refs
  obtain ⟨ts2, e2⟩ := hqs.refs
  have hJ : ∀ s, JS X pins σ H s → s.heap.IsList a (ts1.map Value.ref).toArray ∧ s.heap.IsList b (ts2.map Value.ref).toArray := by
    rintro s ⟨H', I', e⟩
    have ha' := e _ _ ha
    have hb' := e _ _ hb
    rw [e1] at ha'
    rw [e2] at hb'
    obtain ⟨i1, r1, p1, _⟩ := I'.list (.inl (.inl ha'))
    obtain ⟨i2, r2, p2, _⟩ := I'.list (.inl (.inl hb'))
    rw [vals_refs r1] at p1
    rw [vals_refs r2] at p2
    exact ⟨p1.isList, p2.isList⟩
  have l1 : ts1.length = ps.length := by rw [← hps.len, e1, List.length_map]
  have l2 : ts2.length = qs.length := by rw [← hqs.len, e2, List.length_map]
  have fin : ∀ c : Bool, c = decide (ps = qs) → ∀ s', JS X pins σ H s' → EP X pins σ Q (.bool c) s' := by
    rintro c rfl s' ⟨H', I', e⟩
    exact ⟨.bl _, H', I', rfl, k H' e⟩
  show wpAny (model X.prog X.w) X.A (richCompare .Eq (.ref a) (.ref b)) _ _ _
  by_cases hl : ps.length = qs.length
  · have hz : (ts1.map Value.ref).toArray.size = (ts2.map Value.ref).toArray.size := by
      rw [List.size_toArray, List.size_toArray, List.length_map, List.length_map]
      omega
    refine PySem.Gj.listJ (prog := X.prog) (w := X.w) (J := JS X pins σ H) (e := fun j => decide (ps[j]? = qs[j]?)) hz hJ hr.units0 ?_ X.xe _ s ⟨H, I, Same.refl _⟩ (fin _ ?_)
    · intro j h1 h2
      rw [List.size_toArray, List.length_map] at h1 h2
      have g1 : (ts1.map Value.ref).toArray[j] = Value.ref ts1[j] := by simp
      have g2 : (ts2.map Value.ref).toArray[j] = Value.ref ts2[j] := by simp
      rw [g1, g2]
      obtain ⟨p, hp, sp⟩ := hps.at (i := j) (v := .ref ts1[j]) (by rw [e1, List.getElem?_map, List.getElem?_eq_getElem h1]; rfl)
      obtain ⟨q, hq, sq⟩ := hqs.at (i := j) (v := .ref ts2[j]) (by rw [e2, List.getElem?_map, List.getElem?_eq_getElem h2]; rfl)
      have ed : decide (ps[j]? = qs[j]?) = (decide (p.1 = q.1) && decide (p.2 = q.2)) := by
        rw [hp, hq, ← Bool.decide_and]
        exact decide_eq_decide.mpr ⟨fun z => ⟨by rw [Option.some.inj z], by rw [Option.some.inj z]⟩, fun z => congrArg some (Prod.ext z.1 z.2)⟩
      rw [ed]
      by_cases hne : ts1[j] = ts2[j]
      · rw [hne] at sp ⊢
        rw [sp.uniq sq, decide_eq_true rfl, decide_eq_true rfl]
        exact PySem.Gj.Eqs.here
      · refine PySem.Gj.Eqs.refs hne fun E Q' s' hj hq' => ?_
        obtain ⟨H', I', e⟩ := id hj
        obtain ⟨⟨t1, x1, y1, et1, ht1, hx1, hy1⟩, _⟩ := sp
        obtain ⟨⟨t2, x2, y2, et2, ht2, hx2, hy2⟩, _⟩ := sq
        cases et1
        cases et2
        obtain ⟨i1, r1, q1, _⟩ := I'.tuple (.inl (.inl (e _ _ ht1)))
        obtain ⟨i2, r2, q2, _⟩ := I'.tuple (.inl (.inl (e _ _ ht2)))
        obtain ⟨u1, u2, rfl, a1, b1⟩ := vals_two r1
        obtain ⟨v1, v2, rfl, a2, b2⟩ := vals_two r2
        exact PySem.Gj.pairJ (J := JS X pins σ H) q1 q2 hr.in1.units0 (eqs_num T hr hx1.num hx2.num a1 a2) (eqs_num T hr hy1.num hy2.num b1 b2) hj hq'
    · rw [List.size_toArray, List.length_map, l1]
      exact range_all hl fun j p q h1 h2 => by rw [h1, h2]; exact decide_eq_decide.mpr ⟨fun z => Option.some.inj z, fun z => congrArg some z⟩
  · refine PySem.Gj.lensJ (prog := X.prog) (w := X.w) (J := JS X pins σ H) (fun z => hl ?_) hJ hr.units0 X.xe _ s ⟨H, I, Same.refl _⟩ (fin _ ?_)
    · rw [List.size_toArray, List.size_toArray, List.length_map, List.length_map] at z
      omega
    · exact (decide_eq_false fun z => hl (congrArg List.length z)).symm
end



section
variable {P : Program} {w : World} {K : PySem.W.Frag} {mg : Str → Option Value} {base : Heap}
def spLineEq (K : PySem.W.Frag) (L C : Addr) : Sp := fun vs H Q _ => ∃ l o qs, vs = [l, o] ∧ LineAt L C H l qs ∧ ((∃ rs, LineAt L C H o rs ∧ ∀ H', Same H H' → Q (.bl (decide (qs = rs))) H') ∨ (∃ t, TyX K H o t ∧ PySem.W.kitOne K t (.ref L) = some false) ∧ Q (.bl false) H)
theorem ok_Line_eq (T : Tx K mg) : FnOk P w K mg base CX0 10 T.Line_eq_a T.Line_eq_d ["self", "other"] (spLineEq K T.Line_a T.Exact_a) := by
  refine T.Line_eq_F.ok sc_Line_eq (fun vs H Q E h => ?_) (fun cdv A outer s H vs Q E hr h => ?_)
  · obtain ⟨l, o, qs, rfl, _⟩ := h
    rfl
  · obtain ⟨l, o, qs, rfl, hl, h⟩ := h
    refine ⟨_, (pss_one (ps_ret (pe_and (pe_callB call_isi (by rfl) T.z_isinstance (by decide +kernel) (pa_cons (pv 1) (pa_cons (pe_glob (v := .ref T.Line_a) rfl T.Line_m rfl) pa_nil))) (pe_one (pe_cmpR ((op_spots T (hr.mono (by decide)))) (pe_fld (pv 0) rfl) (pe_fld (pv 1) rfl) (nomark _)))))), ?_⟩
    obtain ⟨x, dx, sa, xs, rfl, hx, hs, hsp⟩ := hl
    rcases h with ⟨rs, ⟨y, dy, sb, ys, rfl, hy, ht, htp⟩, k⟩ | ⟨⟨t, ty, kt⟩, q⟩
    · refine ⟨_, rfl, _, _, _, _, true, rfl, .own _, .base (.ins hy T.Line_cl T.Line_i1 T.Line_i2 T.Line_i3 T.Line_i4), T.Line_k0, true, rfl, iteT ?_⟩
      refine ⟨_, rfl, x, T.Line_a, dx, _, _, rfl, hx, T.Line_cl, T.Line_n_spots, sp_look, _, rfl, y, T.Line_a, dy, _, _, rfl, hy, T.Line_cl, T.Line_n_spots, sp_look, ?_⟩
      exact ⟨sa, sb, xs, ys, qs, rs, rfl, rfl, hs, ht, hsp, htp, k⟩
    · exact ⟨_, rfl, _, _, _, _, false, rfl, .own _, ty, kt, false, rfl, iteF q⟩
end



inductive PrAll (H : Hp) : List V → List (Int × Int) → Prop
  | nil : PrAll H [] []
  | cons {t : Addr} {p : Int × Int} {vs : List V} {ps : List (Int × Int)} (h : PairAt H t p) (r : PrAll H vs ps) : PrAll H (.ref t :: vs) (p :: ps)
theorem PrAll.mono {H H' : Hp} (f : ∀ t p, PairAt H t p → PairAt H' t p) : ∀ {vs : List V} {ps : List (Int × Int)}, PrAll H vs ps → PrAll H' vs ps
  | _, _, .nil => .nil
  | _, _, .cons h r => .cons (f _ _ h) (r.mono f)
theorem PrAll.len {H : Hp} : ∀ {vs : List V} {ps : List (Int × Int)}, PrAll H vs ps → vs.length = ps.length
  | _, _, .nil => rfl
  | _, _, .cons _ r => congrArg (· + 1) r.len
theorem PrAll.at {H : Hp} : ∀ {vs : List V} {ps : List (Int × Int)} {i : Nat} {v : V}, PrAll H vs ps → vs[i]? = some v → ∃ t p, v = .ref t ∧ ps[i]? = some p ∧ PairAt H t p
  | _, _, 0, _, .cons h _, e => ⟨_, _, (Option.some.inj e).symm, rfl, h⟩
  | _, _, i + 1, _, .cons _ r, e => r.at (i := i) e
  | _, _, _, _, .nil, e => by simp at e
theorem PrAll.app {H : Hp} : ∀ {vs us : List V} {ps qs : List (Int × Int)}, PrAll H vs ps → PrAll H us qs → PrAll H (vs ++ us) (ps ++ qs)
  | _, _, _, _, .nil, h => h
  | _, _, _, _, .cons a r, h => .cons a (r.app h)
theorem PrAll.take {H : Hp} : ∀ (k : Nat) {vs : List V} {ps : List (Int × Int)}, PrAll H vs ps → PrAll H (vs.take k) (ps.take k)
  | 0, _, _, _ => .nil
  | _ + 1, _, _, .nil => .nil
  | k + 1, _, _, .cons a r => .cons a (r.take k)
theorem PrAll.drop {H : Hp} : ∀ (k : Nat) {vs : List V} {ps : List (Int × Int)}, PrAll H vs ps → PrAll H (vs.drop k) (ps.drop k)
  | 0, _, _, h => h
  | _ + 1, _, _, .nil => .nil
  | k + 1, _, _, .cons _ r => r.drop k
theorem PairAt.keepL {H H' : Hp} {t : Addr} {p : Int × Int} {L : Addr} {ys : List V} (h : PairAt H t p) (hL : H L = some (.lst ys)) (k : Keep L H H') : PairAt H' t p := k _ _ h (ne_of h hL fun q => by cases q)

/-- a course: its moments and heights -/
inductive CrAll (H : Hp) : List V → List Pt → Prop
  | nil : CrAll H [] []
  | cons {u t h : Addr} {s : Pt} {vs : List V} {cs : List Pt} (e : H u = some (.tup [.ref t, .ref h])) (ht : PairAt H t s.1) (hh : PairAt H h s.2) (r : CrAll H vs cs) : CrAll H (.ref u :: vs) (s :: cs)
theorem CrAll.mono {H H' : Hp} (f : ∀ u t h p q, H u = some (.tup [.ref t, .ref h]) → PairAt H t p → PairAt H h q → H' u = some (.tup [.ref t, .ref h]) ∧ PairAt H' t p ∧ PairAt H' h q) : ∀ {vs : List V} {cs : List Pt}, CrAll H vs cs → CrAll H' vs cs
  | _, _, .nil => .nil
  | _, _, .cons e ht hh r => .cons (f _ _ _ _ _ e ht hh).1 (f _ _ _ _ _ e ht hh).2.1 (f _ _ _ _ _ e ht hh).2.2 (r.mono f)
theorem CrAll.same {H H' : Hp} (s : Same H H') {vs : List V} {cs : List Pt} (h : CrAll H vs cs) : CrAll H' vs cs := h.mono fun u t g p q e a b => ⟨s _ _ e, a.same s, b.same s⟩
theorem CrAll.keepL {H H' : Hp} {L : Addr} {ys : List V} (hL : H L = some (.lst ys)) (k : Keep L H H') {vs : List V} {cs : List Pt} (h : CrAll H vs cs) : CrAll H' vs cs := CrAll.mono (H := H) (H' := H') (fun u t g p q e a b => ⟨k u _ e (ne_of e hL fun z => by cases z), PairAt.keepL a hL k, PairAt.keepL b hL k⟩) h
theorem CrAll.app {H : Hp} : ∀ {vs us : List V} {ps qs : List Pt}, CrAll H vs ps → CrAll H us qs → CrAll H (vs ++ us) (ps ++ qs)
  | _, _, _, _, .nil, h => h
  | _, _, _, _, .cons e a b r, h => .cons e a b (r.app h)
theorem CrAll.len {H : Hp} : ∀ {vs : List V} {ps : List Pt}, CrAll H vs ps → vs.length = ps.length
  | _, _, .nil => rfl
  | _, _, .cons _ _ _ r => congrArg (· + 1) r.len
theorem CrAll.at {H : Hp} : ∀ {vs : List V} {ps : List Pt} {i : Nat} {v : V}, CrAll H vs ps → vs[i]? = some v → ∃ u t h s, v = .ref u ∧ ps[i]? = some s ∧ H u = some (.tup [.ref t, .ref h]) ∧ PairAt H t s.1 ∧ PairAt H h s.2
  | _, _, 0, _, .cons e a b _, z => ⟨_, _, _, _, (Option.some.inj z).symm, rfl, e, a, b⟩
  | _, _, i + 1, _, .cons _ _ _ r, z => r.at (i := i) z
  | _, _, _, _, .nil, z => by simp at z

theorem st_updL {H : Hp} {st c L : Addr} {ns : List Int} {o : HO} (h : StAt H st c ns) (n1 : st ≠ L) (n2 : c ≠ L) : StAt (upd H L o) st c ns := by
  obtain ⟨⟨x1, x2, x3, z⟩, wc, nc⟩ := h
  exact ⟨⟨x1, x2, x3, (upd_ne n1).trans z⟩, (upd_ne n2).trans wc, nc⟩
theorem st_lst {H : Hp} {st c : Addr} {ns : List Int} (h : StAt H st c ns) : ∃ xs, H st = some (.lst xs) := let ⟨_, _, _, z⟩ := h.1; ⟨_, z⟩

theorem fine_red {n d : Int} (hd : d ≠ 0) (h1 : n.natAbs < 2 ^ 60) (h2 : d.natAbs < 2 ^ 60) : Fine (red n d) := ⟨red_rd hd, red_sz hd h1 h2⟩

/-! ### things handed on; lists spoilt -/
section
variable {P : Program} {w : World} {K : PySem.W.Frag} {mg : Str → Option Value} {base : Heap}
def spHanded : Sp := fun vs H Q _ => ∃ (st c M : Addr) (ns : List Int) (xs : List V), vs = [.ref st, .ref M] ∧ StAt H st c ns ∧ ns.length ≤ 63 ∧ H M = some (.lst xs) ∧ M ≠ st ∧ xs.length ≤ 900 ∧
  ∀ a H', StAt H' st c ns → Keep st H H' → H a = none → (H' a = some (.lst xs) ∨ H' a = some (.tup xs)) → Q (.ref a) H'
theorem ok_law_handed (T : Tx K mg) : FnOk P w K mg base CX0 3 T.law_handed_a T.law_handed_d ["_law_state", "_law_things"] spHanded := by
  refine T.law_handed_F.ok sc_law_handed (fun vs H Q E h => ?_) (fun cdv A outer s H vs Q E hr h => ?_)
  · obtain ⟨st, c, M, ns, xs, rfl, _⟩ := h
    rfl
  · obtain ⟨st, c, M, ns, xs, rfl, hSt, hl, hM, hne, hx, k⟩ := h
    refine ⟨_, (pss_one (ps_ret (pe_ifExp (pt_cmpR op_eq (pe_call (ok_law_take T) (hr.mono (by decide)) rfl T.law_take_m T.law_take_F.kp T.law_take_b .nil pass0 (pa_cons (pv 0) (pa_cons pe_int pa_nil))) pe_int (nomark _)) (pe_callTy call_list_of (by rfl) T.z_list (by decide +kernel) (pa_cons (pv 1) pa_nil)) (pe_callTy call_tuple_of (by rfl) T.z_tuple (by decide +kernel) (pa_cons (pv 1) pa_nil))))), ?_⟩
    refine ⟨_, rfl, st, c, ns, 2, rfl, hSt, hl, by decide, sz_up (by decide : (2 : Int).natAbs < 2 ^ 2) (by decide), fun r H1 r0 r1 s1 k1 => ?_⟩
    have kp : ∀ (l : Addr) (o : HO), H1 l = none → StAt (upd H1 l o) st c ns ∧ Keep st H (upd H1 l o) ∧ H l = none := fun l o nl =>
      ⟨s1.same (same_upd nl), k1.trans (Same.keep (same_upd nl)), by
        cases e : H l with
        | none => rfl
        | some o' =>
          by_cases z : l = st
          · obtain ⟨sx, hs⟩ := st_lst s1
            rw [z, hs] at nl
            cases nl
          · rw [k1 _ _ e z] at nl
            cases nl⟩
    have hM1 := k1 _ _ hM hne
    refine ⟨rfl, _, rfl, ?_⟩
    refine ite2 (fun _ => ?_) (fun _ => ?_)
    · exact ⟨_, rfl, M, xs, rfl, .inl (.inl (.inl hM1)), fun l nl => k l _ (kp l (.lst xs) nl).1 (kp l (.lst xs) nl).2.1 (kp l (.lst xs) nl).2.2 (.inl upd_same)⟩
    · exact ⟨_, rfl, M, xs, rfl, .inl ⟨.inl (.inl hM1), fun l nl => k l _ (kp l (.tup xs) nl).1 (kp l (.tup xs) nl).2.1 (kp l (.tup xs) nl).2.2 (.inr upd_same)⟩⟩
/-- how deep a list lies -/
abbrev Dep := Addr → Nat
/-- v, with lists no deeper than n and no longer than B -/
inductive Spb (K : PySem.W.Frag) (D : Dep) (B : Nat) (H : Hp) : Nat → V → Prop
  | leaf {n : Nat} {v : V} {t : Value} (ty : TyX K H v t) (h1 : PySem.W.kitAny K t [.type "list", .type "tuple"] = some false) (h2 : PySem.W.kitOne K t (.type "list") = some false) : Spb K D B H n v
  | lst {n : Nat} {a : Addr} {xs : List V} (h : H a = some (.lst xs)) (l : xs.length ≤ B) (d : D a = n + 1) (it : ∀ x ∈ xs, Spb K D B H n x) : Spb K D B H (n + 1) (.ref a)
  | tup {n : Nat} {a : Addr} {xs : List V} (h : H a = some (.tup xs)) (l : xs.length ≤ B) (it : ∀ x ∈ xs, Spb K D B H n x) : Spb K D B H (n + 1) (.ref a)
/-- lists no deeper than n have k things more at most, texts -/
def Spo (D : Dep) (n k : Nat) (H H' : Hp) : Prop := ∀ b o, H b = some o → H' b = some o ∨ (1 ≤ D b ∧ D b ≤ n ∧ ∃ xs ys, o = .lst xs ∧ H' b = some (.lst (xs ++ ys)) ∧ ys.length ≤ k ∧ ∀ y ∈ ys, y = .str "more")
theorem Spo.refl {D : Dep} {n k : Nat} {H : Hp} : Spo D n k H H := fun b o e => .inl e
theorem Spo.trans {D : Dep} {n j k : Nat} {H H1 H2 : Hp} (a : Spo D n j H H1) (b : Spo D n k H1 H2) : Spo D n (j + k) H H2 := fun x o e => by
  rcases a x o e with z | ⟨d1, d2, xs, ys, rfl, z, l, al⟩
  · rcases b x o z with z | ⟨d1, d2, xs, ys, rfl, z, l, al⟩
    · exact .inl z
    · exact .inr ⟨d1, d2, xs, ys, rfl, z, by omega, al⟩
  · rcases b x _ z with z | ⟨_, _, xs', ys', e', z, l', al'⟩
    · exact .inr ⟨d1, d2, xs, ys, rfl, z, by omega, al⟩
    · have := HO.lst.inj e'
      subst this
      refine .inr ⟨d1, d2, xs, ys ++ ys', rfl, by rw [← List.append_assoc]; exact z, by rw [List.length_append]; omega, fun y hy => ?_⟩
      rcases List.mem_append.mp hy with q | q
      · exact al y q
      · exact al' y q
theorem Spo.mono {D : Dep} {n m j k : Nat} {H H' : Hp} (h : Spo D n j H H') (hn : n ≤ m) (hk : j ≤ k) : Spo D m k H H' := fun x o e => by
  rcases h x o e with z | ⟨d1, d2, xs, ys, rfl, z, l, al⟩
  · exact .inl z
  · exact .inr ⟨d1, Nat.le_trans d2 hn, xs, ys, rfl, z, Nat.le_trans l hk, al⟩
theorem Spo.of {D : Dep} {n k : Nat} {H H' : Hp} (h : Same H H') : Spo D n k H H' := fun b o e => .inl (h b o e)
theorem Spo.ty {K : PySem.W.Frag} {D : Dep} {n k : Nat} {H H' : Hp} (s : Spo D n k H H') {v : V} {t : Value} (h : TyX K H v t) : TyX K H' v t := by
  have nl : ∀ {a : Addr} {o : HO}, H a = some o → (∀ xs, o ≠ .lst xs) → H' a = some o := fun e n => by
    rcases s _ _ e with z | ⟨_, _, xs, _, e', _⟩
    · exact z
    · exact absurd e' (n xs)
  cases h with
  | base h =>
    refine .base ?_
    cases h with
    | non => exact .non
    | bl x => exact .bl x
    | int i => exact .int i
    | str x => exact .str x
    | flt x => exact .flt x
    | lst e =>
      rcases s _ _ e with z | ⟨_, _, xs, ys, _, z, _⟩
      · exact .lst z
      · exact .lst z
    | frz e => exact .frz (nl e nofun)
    | tup e => exact .tup (nl e nofun)
    | dK e => exact .dK (nl e nofun)
    | dT e => exact .dT (nl e nofun)
    | ins e c h1 h2 h3 h4 => exact .ins (nl e nofun) c h1 h2 h3 h4
  | byt b => exact .byt b
  | set e => exact .set (nl e nofun)
  | kList e c => exact .kList e c
  | kTuple e c => exact .kTuple e c
  | kDict e c => exact .kDict e c
  | fTuple e => exact .fTuple (nl e nofun)
  | fDict e => exact .fDict (nl e nofun)
theorem more_leaf {K : PySem.W.Frag} {D : Dep} {B n : Nat} {H : Hp} : Spb K D B H n (.str "more") := .leaf (.base (.str _)) (lt_no (kit_ty (by decide +kernel)) (kit_ty (by decide +kernel))) (kit_ty (by decide +kernel))
theorem Spb.spo {K : PySem.W.Frag} {D : Dep} {B n m k : Nat} {H H' : Hp} (s : Spo D m k H H') {v : V} (h : Spb K D B H n v) : Spb K D (B + k) H' n v := by
  induction h with
  | leaf ty h1 h2 => exact .leaf (s.ty ty) h1 h2
  | lst h l d _ ih =>
    rcases s _ _ h with z | ⟨_, _, xs, ys, e, z, lk, al⟩
    · exact .lst z (by omega) d ih
    · cases e
      refine .lst z (by rw [List.length_append]; omega) d fun x hx => ?_
      rcases List.mem_append.mp hx with q | q
      · exact ih x q
      · rw [al x q]
        exact more_leaf
  | tup h l _ ih =>
    rcases s _ _ h with z | ⟨_, _, xs, ys, e, z, lk, al⟩
    · exact .tup z (by omega) ih
    · cases e
/-- how many things more at most -/
def moreK (B : Nat) : Nat → Nat
  | 0 => 0
  | 1 => 1
  | _ => B + 1
def spSpoil (K : PySem.W.Frag) (n : Nat) : Sp := fun vs H Q _ => ∃ (v : V) (D : Dep) (B : Nat), vs = [v] ∧ Spb K D B H n v ∧ B * 4 ^ n ≤ 800 ∧ ∀ H', Spo D n (moreK B n) H H' → Q .non H'
theorem fn_none {P : Program} {w : World} {K : PySem.W.Frag} {mg : Str → Option Value} {base : Heap} {k : Nat} {f : Addr} {fd : FuncData} {ps : List Str} : FnOk P w K mg base CX0 k f fd ps (fun _ _ _ _ => False) :=
  ⟨fun _ _ _ _ h => h.elim, fun _ _ _ _ _ _ _ _ _ _ _ _ _ h => h.elim⟩
def spSpoilR (K : PySem.W.Frag) : Nat → Sp
  | 0 => fun _ _ _ _ => False
  | n + 1 => spSpoil K n
theorem ok_law_spoil (T : Tx K mg) : ∀ n : Nat, n ≤ 2 → FnOk P w K mg base CX0 (8 + n) T.law_spoil_a T.law_spoil_d ["_law_x"] (spSpoil K n) := by
  intro n hn
  have REC : FnOk P w K mg base CX0 (7 + n) T.law_spoil_a T.law_spoil_d ["_law_x"] (spSpoilR K n) := by
    cases n with
    | zero => exact fn_none
    | succ n => exact (ok_law_spoil T n (by omega)).mono (by omega)
  refine (T.law_spoil_F.ok (k := 7 + n) sc_law_spoil (fun vs H Q E h => ?_) (fun cdv A outer s H vs Q E hr h => ?_)).mono (by omega)
  · obtain ⟨v, D, B, rfl, _⟩ := h
    rfl
  · obtain ⟨v, D, B, rfl, hv, hB, k⟩ := h
    have hrR := hr
    replace hr := hr.mono (Nat.le_add_right _ _)
    refine ⟨_, (pss_cons (ps_if (pt_val (pe_callB call_isiT (by rfl) T.z_isinstance (by decide +kernel) (pa_cons (pv 0) (pa_cons (pe_tup (pa_cons (pe_bltn (v := .ty "list") (by rfl) T.z_list (by decide +kernel) rfl) (pa_cons (pe_bltn (v := .ty "tuple") (by rfl) T.z_tuple (by decide +kernel) rfl) pa_nil))) pa_nil))))
  (pss_one (ps_for PassesOwn.never rfl (pi_lt (pv 0)) (pg_name (i := 1) sc_law_spoil.nd rfl (Or.inl rfl))
  (pss_one (ps_expr (pe_call REC hrR rfl T.law_spoil_m T.law_spoil_F.kp T.law_spoil_b .nil pass0 (pa_cons (pv 1) pa_nil))))))
  pss_nil)
  (pss_one (ps_if (pt_val (pe_callB call_isi (by rfl) T.z_isinstance (by decide +kernel) (pa_cons (pv 0) (pa_cons (pe_bltn (v := .ty "list") (by rfl) T.z_list (by decide +kernel) rfl) pa_nil))))
  (pss_one (ps_expr (pe_bm PySem.F.plainAttrs_list PySem.F.slot_list_append PySem.F.type_list_append mt_append (pv 0) (pa_cons pe_str pa_nil))))
  pss_nil))), ?_⟩
    have s1 : ∀ {t : Addr}, H t = none → Same H (upd H t (.tup [.ty "list", .ty "tuple"])) := fun nt => same_upd nt
    refine ⟨_, rfl, (by show 2 ≤ sizeLine; decide), fun t nt => ?_⟩
    replace s1 := s1 nt
    have ht := upd_same (H := H) (a := t) (o := .tup [.ty "list", .ty "tuple"])
    generalize upd H t (HO.tup [V.ty "list", V.ty "tuple"]) = H1 at s1 ht ⊢
    have q1 : Spo D n 0 H H1 := .of s1
    have hv1 := hv.spo q1
    rw [Nat.add_zero] at hv1
    have two : Paired ClsV [V.ty "list", V.ty "tuple"] [Value.type "list", Value.type "tuple"] := .cons (.ty "list") (.cons (.ty "tuple") .nil)
    -- the items first
    have walk : ∀ (m : Nat) (xs : List V), n = m + 1 → xs.length ≤ B → (∀ x ∈ xs, Spb K D B H1 m x) → ∀ (i : Nat) (x : V) (H' : Hp), xs[i]? = some x → Spo D m (i * moreK 0 m) H1 H' →
        ∀ Q' : VK, (∀ H2, Spo D m ((i + 1) * moreK 0 m) H1 H2 → Q' .non H2) → spSpoilR K n [x] H' Q' E0 := by
      rintro m xs rfl hx it i x H' hi q Q' k'
      have c1 : ∀ B', moreK B' m = moreK 0 m := fun B' => by
        match m, hn with
        | 0, _ => rfl
        | 1, _ => rfl
      have cle : moreK 0 m ≤ 1 := by
        match m, hn with
        | 0, _ => exact Nat.zero_le _
        | 1, _ => exact Nat.le_refl _
      have hil : i ≤ B := by
        have := (List.getElem?_eq_some_iff.mp hi).1
        omega
      have ile : i * moreK 0 m ≤ i * 1 := Nat.mul_le_mul_left _ cle
      refine ⟨x, D, B + i * moreK 0 m, rfl, (it x (List.mem_of_getElem? hi)).spo q, ?_, fun H2 q2 => k' H2 ?_⟩
      · rw [Nat.pow_succ] at hB
        have : (B + i * moreK 0 m) * 4 ^ m ≤ (B * 4) * 4 ^ m := Nat.mul_le_mul_right _ (by omega)
        rw [Nat.mul_assoc, Nat.mul_comm 4] at this
        omega
      · rw [c1] at q2
        rw [Nat.add_mul, Nat.one_mul]
        exact q.trans q2
    cases hv1 with
    | @leaf _ _ t' ty h1 h2 =>
      refine ⟨_, t, _, _, _, false, rfl, ht, two, ty, h1, _, rfl, iteF ?_⟩
      exact ⟨_, rfl, _, _, _, _, false, rfl, .ty "list", ty, h2, _, rfl, iteF (k _ (q1.mono (Nat.le_refl _) (Nat.zero_le _)))⟩
    | @lst m a xs h l d it =>
      refine ⟨_, t, _, _, _, true, rfl, ht, two, .base (.lst h), lt_list, _, rfl, iteT ?_⟩
      refine .inl ⟨_, rfl, a, rfl, ⟨xs, .inl (.inl h)⟩, for_list (K := K) (a := a) (xs := xs) (fun i σ H' => (∃ v, σ = [some (.ref a), v]) ∧ Spo D m (i * moreK 0 m) H1 H') ⟨⟨none, rfl⟩, .refl⟩ (fun i σ H' _ e => ?_) ?_ ?_⟩
      · rcases e.2 a _ h with z | ⟨_, z, _⟩
        · exact .inl (.inl z)
        · omega
      · rintro i x σ H' hi ⟨⟨v, rfl⟩, q⟩
        refine ⟨_, rfl, ?_⟩
        exact walk m xs rfl l it i x H' hi q (fun _ H2 => (∃ v, [some (.ref a), some x] = [some (V.ref a), v]) ∧ Spo D m ((i + 1) * moreK 0 m) H1 H2) fun H2 q2 => ⟨⟨_, rfl⟩, q2⟩
      · rintro σ H' ⟨⟨v, rfl⟩, q⟩
        have ha : H' a = some (.lst xs) := by
          rcases q a _ h with z | ⟨_, z, _⟩
          · exact z
          · omega
        refine ⟨_, rfl, _, _, _, _, true, rfl, .ty "list", .base (.lst ha), kit_ty (by decide +kernel), _, rfl, iteT ?_⟩
        have hlen : xs.length < 1000 := by
          have : B * 1 ≤ B * 4 ^ (m + 1) := Nat.mul_le_mul_left _ (Nat.pow_pos (by decide))
          omega
        refine ⟨_, rfl, .inl ⟨rfl, xs, .inl (.inl ha)⟩, a, xs, _, rfl, rfl, ha, small1000 (Nat.le_of_lt hlen), ?_⟩
        refine k _ fun b o e => ?_
        have cle : xs.length * moreK 0 m + 1 ≤ moreK B (m + 1) := by
          match m, hn with
          | 0, _ => exact Nat.le_refl _
          | 1, _ => show xs.length * 1 + 1 ≤ B + 1; omega
        by_cases z : b = a
        · subst z
          rw [s1 _ _ e] at h
          cases h
          exact .inr ⟨by omega, by omega, xs, [.str "more"], rfl, upd_same, by show 1 ≤ _; omega, fun y hy => List.mem_singleton.mp hy⟩
        · rcases q b o (s1 _ _ e) with y | ⟨d1, d2, us, ws, rfl, y, l1, al⟩
          · exact .inl ((upd_ne z).trans y)
          · exact .inr ⟨d1, by omega, us, ws, rfl, (upd_ne z).trans y, by omega, al⟩
    | @tup m a xs h l it =>
      refine ⟨_, t, _, _, _, true, rfl, ht, two, .base (.tup h), lt_tuple, _, rfl, iteT ?_⟩
      refine .inr ⟨_, rfl, a, rfl, ⟨xs, .inl (.inl h)⟩, for_tup (K := K) (a := a) (xs := xs) (fun i σ H' => (∃ v, σ = [some (.ref a), v]) ∧ Spo D m (i * moreK 0 m) H1 H') ⟨⟨none, rfl⟩, .refl⟩ (fun i σ H' _ e => ?_) ?_ ?_⟩
      · rcases e.2 a _ h with z | ⟨_, _, _, _, z, _⟩
        · exact .inl (.inl z)
        · cases z
      · rintro i x σ H' hi ⟨⟨v, rfl⟩, q⟩
        refine ⟨_, rfl, ?_⟩
        exact walk m xs rfl l it i x H' hi q (fun _ H2 => (∃ v, [some (.ref a), some x] = [some (V.ref a), v]) ∧ Spo D m ((i + 1) * moreK 0 m) H1 H2) fun H2 q2 => ⟨⟨_, rfl⟩, q2⟩
      · rintro σ H' ⟨⟨v, rfl⟩, q⟩
        have ha : H' a = some (.tup xs) := by
          rcases q a _ h with z | ⟨_, _, _, _, z, _⟩
          · exact z
          · cases z
        refine ⟨_, rfl, _, _, _, _, false, rfl, .ty "list", .base (.tup ha), kit_ty (by decide +kernel), _, rfl, iteF ?_⟩
        have cle : xs.length * moreK 0 m ≤ moreK B (m + 1) := by
          match m, hn with
          | 0, _ => exact Nat.zero_le _
          | 1, _ => show xs.length * 1 ≤ B + 1; omega
        exact k _ (by have := q1.trans (q.mono (Nat.le_succ m) cle); rw [Nat.zero_add] at this; exact this)
end



/-! ### the height of points at a moment; bends -/
theorem cut_pre {α : Type} {f : α → Bool} : ∀ (l : List α), l.Pairwise (fun a b => f b = true → f a = true) → ∀ (j : Nat) (x : α), l[j]? = some x → (f x = true ↔ j < (l.filter f).length)
  | [], _, j, x, h => by simp at h
  | a :: r, hp, j, x, h => by
    obtain ⟨h1, h2⟩ := List.pairwise_cons.mp hp
    cases hfa : f a with
    | true =>
      rw [List.filter_cons_of_pos hfa, List.length_cons]
      cases j with
      | zero =>
        cases h
        exact ⟨fun _ => Nat.succ_pos _, fun _ => hfa⟩
      | succ j =>
        have := cut_pre r h2 j x h
        rw [this]
        omega
    | false =>
      have hr : ∀ y ∈ r, f y = false := fun y hy => by
        cases e : f y with
        | false => rfl
        | true => rw [h1 y hy e] at hfa; cases hfa
      rw [List.filter_cons_of_neg (by rw [hfa]; exact Bool.false_ne_true), List.filter_eq_nil_iff.mpr fun y hy => by rw [hr y hy]; exact Bool.false_ne_true]
      have hx : f x = false := by
        cases j with
        | zero => cases h; exact hfa
        | succ j => exact hr x (List.mem_of_getElem? h)
      rw [hx]
      exact ⟨nofun, fun z => absurd z (Nat.not_lt_zero _)⟩
theorem fAdd_ng (a b : Int × Int) : fAdd a (-b.1, b.2) = fSub a b := by
  show (a.1 * b.2 + -b.1 * a.2, a.2 * b.2) = (a.1 * b.2 - b.1 * a.2, a.2 * b.2)
  rw [Int.neg_mul, Int.sub_eq_add_neg]
theorem sub_ne {a b : Int × Int} (ha : Rd a) (hb : Rd b) (h : toQ a ≠ toQ b) : (subR a b).1 ≠ 0 := fun z => h (by
  have := toQ_sub ha hb
  unfold toQ at this ⊢
  rw [z, Rat.zero_divInt] at this
  grind)
theorem cutV_mid (xs : List V) (h : 2 ≤ xs.length) : cutV xs (some 1) (some (-1)) = (xs.drop 1).take (xs.length - 2) := by
  unfold cutV
  have e1 : HT.sIx xs.length 0 (some (1 : Int)) = 1 := by
    have := HT.sIx_nat xs.length 0 1
    rw [show (((1 : Nat) : Int)) = (1 : Int) from rfl] at this
    omega
  have e2 : HT.sIx xs.length xs.length (some (-1 : Int)) = xs.length - 1 := by
    show (if (-1 : Int) < 0 then ((-1 : Int) + (xs.length : Int)).toNat else min (-1 : Int).toNat xs.length) = _
    rw [if_pos (by decide)]
    omega
  rw [e1, e2]
  congr 1
theorem CrAll.get {H : Hp} : ∀ {vs : List V} {ps : List Pt} {i : Nat} {s : Pt}, CrAll H vs ps → ps[i]? = some s → ∃ v, vs[i]? = some v ∧ ∃ u t h, v = .ref u ∧ H u = some (.tup [.ref t, .ref h]) ∧ PairAt H t s.1 ∧ PairAt H h s.2
  | _, _, 0, _, .cons e a b _, z => ⟨_, rfl, _, _, _, rfl, e, (Option.some.inj z) ▸ a, (Option.some.inj z) ▸ b⟩
  | _, _, i + 1, _, .cons _ _ _ r, z => r.get (i := i) z
  | _, _, _, _, .nil, z => by simp at z
/-- where a moment stands among the points: as many as are counted, no more than all but the ends -/
theorem on_place {cs : List Pt} {p : Int × Int} {a b : Pt} (hu : Up cs) (hf : ∀ s ∈ cs, Rd s.1) (hp : Rd p) (h2 : 2 ≤ cs.length) (ha : cs.head? = some a) (hle1 : toQ a.1 ≤ toQ p) (hb : cs.getLast? = some b) (hle2 : toQ p ≤ toQ b.1) :
    ∃ (_ : (List.filter (fun s => !bLt p s.1) ((cs.drop 1).take (cs.length - 2))).length ≤ cs.length - 2) (q1 q2 : Pt), cs[(List.filter (fun s => !bLt p s.1) ((cs.drop 1).take (cs.length - 2))).length]? = some q1 ∧
      cs[(List.filter (fun s => !bLt p s.1) ((cs.drop 1).take (cs.length - 2))).length + 1]? = some q2 ∧ toQ q1.1 ≤ toQ p ∧ toQ p ≤ toQ q2.1 := by
  have hl : (List.filter (fun s => !bLt p s.1) ((cs.drop 1).take (cs.length - 2))).length ≤ cs.length - 2 := by
    refine Nat.le_trans (List.length_filter_le _ _) ?_
    rw [List.length_take]
    omega
  have hui : Up ((cs.drop 1).take (cs.length - 2)) := (hu.sublist (List.drop_sublist _ _)).sublist (List.take_sublist _ _)
  have lt_iff : ∀ s ∈ cs, (!bLt p s.1) = true ↔ toQ s.1 ≤ toQ p := fun s hs => by
    have := lt_toQ hp (hf s hs)
    cases c : bLt p s.1 with
    | true =>
      have := this.mp c
      constructor
      · intro z; cases z
      · intro z; grind
    | false =>
      constructor
      · intro _
        have : ¬ toQ p < toQ s.1 := fun z => by rw [this.mpr z] at c; cases c
        grind
      · intro _; rfl
  have mem : ∀ s ∈ (cs.drop 1).take (cs.length - 2), s ∈ cs := fun s hs => List.mem_of_mem_drop (List.mem_of_mem_take hs)
  have pw : ((cs.drop 1).take (cs.length - 2)).Pairwise fun a b => (!bLt p b.1) = true → (!bLt p a.1) = true := by
    refine List.Pairwise.imp_of_mem ?_ hui
    intro x y hx hy h z
    rw [lt_iff y (mem y hy)] at z
    rw [lt_iff x (mem x hx)]
    grind
  have key := cut_pre ((cs.drop 1).take (cs.length - 2)) pw
  generalize (List.filter (fun s => !bLt p s.1) ((cs.drop 1).take (cs.length - 2))).length = kk at hl key ⊢
  have at_in : ∀ j, j < cs.length - 2 → ((cs.drop 1).take (cs.length - 2))[j]? = cs[j + 1]? := fun j hj => by
    rw [List.getElem?_take, if_pos hj, List.getElem?_drop, Nat.add_comm]
  obtain ⟨q1, hq1⟩ : ∃ q, cs[kk]? = some q := ⟨_, List.getElem?_eq_getElem (by omega)⟩
  obtain ⟨q2, hq2⟩ : ∃ q, cs[kk + 1]? = some q := ⟨_, List.getElem?_eq_getElem (by omega)⟩
  refine ⟨hl, q1, q2, hq1, hq2, ?_, ?_⟩
  · cases kk with
    | zero =>
      rw [List.head?_eq_getElem?, hq1] at ha
      cases ha
      exact hle1
    | succ j =>
      have := (key j q1 (by rw [at_in j (by omega)]; exact hq1)).mpr (Nat.lt_succ_self j)
      exact (lt_iff q1 (List.mem_of_getElem? hq1)).mp this
  · by_cases hk : kk = cs.length - 2
    · have : kk + 1 = cs.length - 1 := by omega
      rw [List.getLast?_eq_getElem?, ← this, hq2] at hb
      cases hb
      exact hle2
    · have : ¬ (!bLt p q2.1) = true := fun z => by
        have := (key kk q2 (by rw [at_in kk (by omega)]; exact hq2)).mp z
        omega
      rw [lt_iff q2 (List.mem_of_getElem? hq2)] at this
      grind
section
variable {P : Program} {w : World} {K : PySem.W.Frag} {mg : Str → Option Value} {base : Heap}
def spOn : Sp := fun vs H Q _ => ∃ (C t : Addr) (xs : List V) (cs : List Pt) (p : Int × Int), vs = [.ref C, .ref t] ∧ H C = some (.lst xs) ∧ CrAll H xs cs ∧ Up cs ∧ (∀ s ∈ cs, Fine s.1 ∧ Fine s.2) ∧ 2 ≤ cs.length ∧ cs.length ≤ 900 ∧ PairAt H t p ∧ Fine p ∧
  (∃ a, cs.head? = some a ∧ toQ a.1 ≤ toQ p) ∧ (∃ b, cs.getLast? = some b ∧ toQ p ≤ toQ b.1) ∧ ∀ u H' y, Same H H' → PairAt H' u y → Nz 500 y → On cs (toQ p) (toQ y) → Q (.ref u) H'
theorem ok_law_on (T : Tx K mg) : FnOk P w K mg base CX0 10 T.law_on_a T.law_on_d ["_law_course", "_law_t"] spOn := by
  refine T.law_on_F.ok sc_law_on (fun vs H Q E h => ?_) (fun cdv A outer s H vs Q E hr h => ?_)
  · obtain ⟨C, t, xs, cs, p, rfl, _⟩ := h
    rfl
  · obtain ⟨C, t, xs, cs, p, rfl, hC, hcs, hu, hf, h2, h9, ht, fp, ⟨a, ha, hle1⟩, ⟨b, hb, hle2⟩, k⟩ := h
    refine ⟨_, (pss_cons (ps_set (i := 2) sc_law_on.nd rfl (Or.inl rfl) (pe_callB (call_len_seq) (by rfl) T.z_len (by decide +kernel) (pa_cons (pe_lc (g := gName 4) (tt := (tNot (tB (tCall spLawLess [] E0 (tCons (tVar 1) (tCons (tOp (rIxT K) (tVar 4) (tC (.int 0))) tNil)))))) (own := [("_law_x", 4)]) rfl sc_law_on.nd (pi_list (pe_slice sl_list (pv 0) (po_some pe_int) (po_some (pe_un (un_neg) pe_int)))) (blkOk_by (own := [("_law_x", 4)]) (N := ["_law_course", "_law_t", "_law_k", "_law_a", "_law_x", "_law_b", "_law_y", "_law_one", "_law_whole", "_law_share"]) (sc := defScope s_law_on) (by decide +kernel))
   (fun _ _ _ _ _ => pg_name (i := 4) sc_law_on.nd rfl (Or.inl rfl)) (fun _ _ _ _ _ => (pts_one (pt_not (pt_val (pe_call (ok_law_less T) (hr.mono (by decide)) rfl T.law_less_m T.law_less_F.kp T.law_less_b .nil pass0 (pa_cons (pv 1) (pa_cons (pe_ix ix_tup (pv 4) pe_int (fun _ _ => rfl)) pa_nil))))))) (fun _ _ _ _ _ => (pv 4))) pa_nil)))
  (pss_cons (ps_asg (pe_tup (pa_cons (pe_ix ix_list (pv 0) (pv 2) (fun _ _ => rfl)) (pa_cons (pe_ix ix_list (pv 0) (pe_op (op_add) (pv 2) pe_int) (fun _ _ => rfl)) pa_nil))) (pg_tup (by rfl) (pgs_cons (pg_tup (by rfl) (pgs_cons (pg_name (i := 3) sc_law_on.nd rfl (Or.inl rfl)) (pgs_cons (pg_name (i := 4) sc_law_on.nd rfl (Or.inl rfl)) pgs_nil))) (pgs_cons (pg_tup (by rfl) (pgs_cons (pg_name (i := 5) sc_law_on.nd rfl (Or.inl rfl)) (pgs_cons (pg_name (i := 6) sc_law_on.nd rfl (Or.inl rfl)) pgs_nil))) pgs_nil))))
  (pss_cons (ps_par (i := 7) (j := 8) (by rfl) sc_law_on.nd rfl rfl (by decide) rfl rfl (pa_cons (pe_call (ok_law_add T) (hr.mono (by decide)) rfl T.law_add_m T.law_add_F.kp T.law_add_b .nil pass0 (pa_cons (pv 1) (pa_cons (pe_tup (pa_cons (pe_un (un_neg) (pe_ix ix_tup (pv 3) pe_int (fun _ _ => rfl))) (pa_cons (pe_ix ix_tup (pv 3) pe_int (fun _ _ => rfl)) pa_nil))) pa_nil))) (pa_cons (pe_call (ok_law_add T) (hr.mono (by decide)) rfl T.law_add_m T.law_add_F.kp T.law_add_b .nil pass0 (pa_cons (pv 5) (pa_cons (pe_tup (pa_cons (pe_un (un_neg) (pe_ix ix_tup (pv 3) pe_int (fun _ _ => rfl))) (pa_cons (pe_ix ix_tup (pv 3) pe_int (fun _ _ => rfl)) pa_nil))) pa_nil))) pa_nil)) (by rfl))
  (pss_cons (ps_set (i := 9) sc_law_on.nd rfl (Or.inl rfl) (pe_call (ok_law_frac T) (hr.mono (by decide)) rfl T.law_frac_m T.law_frac_F.kp T.law_frac_b .nil pass0 (pa_cons (pe_op (op_mulG) (pe_ix ix_tup (pv 7) pe_int (fun _ _ => rfl)) (pe_ix ix_tup (pv 8) pe_int (fun _ _ => rfl))) (pa_cons (pe_op (op_mulG) (pe_ix ix_tup (pv 7) pe_int (fun _ _ => rfl)) (pe_ix ix_tup (pv 8) pe_int (fun _ _ => rfl))) pa_nil))))
  (pss_one (ps_ret (pe_call (ok_law_add T) (hr.mono (by decide)) rfl T.law_add_m T.law_add_F.kp T.law_add_b .nil pass0 (pa_cons (pv 4) (pa_cons (pe_call (ok_law_mul T) (hr.mono (by decide)) rfl T.law_mul_m T.law_mul_F.kp T.law_mul_b .nil pass0 (pa_cons (pv 9) (pa_cons (pe_call (ok_law_add T) (hr.mono (by decide)) rfl T.law_add_m T.law_add_F.kp T.law_add_b .nil pass0 (pa_cons (pv 6) (pa_cons (pe_tup (pa_cons (pe_un (un_neg) (pe_ix ix_tup (pv 4) pe_int (fun _ _ => rfl))) (pa_cons (pe_ix ix_tup (pv 4) pe_int (fun _ _ => rfl)) pa_nil))) pa_nil))) pa_nil))) pa_nil))))))))), ?_⟩
    have hxl := hcs.len
    refine ⟨_, rfl, _, rfl, _, rfl, _, rfl, C, xs, rfl, .inl (.inl hC), fun A1 nA1 => ?_⟩
    rw [cutV_mid xs (by omega)]
    have e1 : Same H (upd H A1 (.lst ((xs.drop 1).take (xs.length - 2)))) := same_upd nA1
    have hA1 : (upd H A1 (.lst ((xs.drop 1).take (xs.length - 2)))) A1 = some (.lst ((xs.drop 1).take (xs.length - 2))) := upd_same
    generalize upd H A1 (.lst ((xs.drop 1).take (xs.length - 2))) = H1 at e1 hA1 ⊢
    refine ⟨A1, rfl, ⟨_, .inl (.inl hA1)⟩, fun D nD => ?_⟩
    have inn : ∀ {j : Nat} {v : V}, ((xs.drop 1).take (xs.length - 2))[j]? = some v → j < cs.length - 2 ∧ xs[j + 1]? = some v := fun {j v} h => by
      rw [List.getElem?_take] at h
      split at h
      · rw [List.getElem?_drop, Nat.add_comm] at h
        exact ⟨by omega, h⟩
      · cases h
    refine lc_it (walk_list (K := K) (a := A1) (xs := (xs.drop 1).take (xs.length - 2))) (fun j H3 => Same H1 H3 ∧ ∃ zs, H3 D = some (.lst zs) ∧ zs.length = ((((cs.drop 1).take (cs.length - 2)).take j).filter fun s => !bLt p s.1).length) ⟨same_upd nD, [], upd_same, by rw [List.take_zero]; rfl⟩ (fun j H3 _ e => .inl (.inl (e.1 _ _ hA1))) ?_ ?_
    · rintro j z H3 H4 hj ⟨e3, zs, eD, hz⟩ ⟨rfl, hzj⟩
      obtain ⟨jl, hx1⟩ := inn hzj
      obtain ⟨u, tu, hu', s, rfl, hs, eu, hut, _⟩ := hcs.at hx1
      have e03 := e1.trans e3
      obtain ⟨fs, _⟩ := hf s (List.mem_of_getElem? hs)
      refine ⟨rfl, _, rfl, _, rfl, u, _, 0, _, rfl, rfl, .inl (.inl (e03 _ _ eu)), rfl, t, tu, p, s.1, rfl, ht.same e03, hut.same e03, fp.nm.2.1, fp.nm.2.2, fs.nm.2.1, fs.nm.2.2, _, rfl, ?_⟩
      have hsj : ((cs.drop 1).take (cs.length - 2))[j]? = some s := by
        rw [List.getElem?_take, if_pos jl, List.getElem?_drop, Nat.add_comm]
        exact hs
      have et : ((cs.drop 1).take (cs.length - 2)).take (j + 1) = ((cs.drop 1).take (cs.length - 2)).take j ++ [s] := by rw [List.take_succ, hsj]; rfl
      cases hb' : bLt p s.1 with
      | false =>
        refine iteT ?_
        refine ⟨_, rfl, zs, eD, ?_, fun c o e => ?_, zs ++ [.ref u], upd_same, ?_⟩
        · rw [hz]
          refine small1000 (Nat.le_trans (List.length_filter_le _ _) ?_)
          rw [List.length_take]
          omega
        · rw [upd_ne (ne_of_none e nD)]
          exact e3 _ _ e
        · rw [et, List.filter_append, List.length_append, List.length_append, hz]
          simp [hb']
      | true =>
        refine iteF ?_
        refine ⟨e3, zs, eD, ?_⟩
        rw [et, List.filter_append, List.length_append, hz]
        simp [hb']
    · rintro H3 ⟨e3, zs, eD, hz⟩
      have hlx : ((xs.drop 1).take (xs.length - 2)).length = ((cs.drop 1).take (cs.length - 2)).length := by
        rw [List.length_take, List.length_take, List.length_drop, List.length_drop, hxl]
      rw [hlx, List.take_length] at hz
      have e03 := e1.trans e3
      refine ⟨D, zs, rfl, .inl (.inl (.inl eD)), ?_⟩
      rw [hz]
      obtain ⟨l1, q1, q2, g1, g2, g3, g4⟩ := on_place hu (fun s hs => (hf s hs).1.1) fp.1 h2 ha hle1 hb hle2
      generalize (List.filter (fun s => !bLt p s.1) ((cs.drop 1).take (cs.length - 2))).length = kk at l1 g1 g2 ⊢
      obtain ⟨v1, hv1, u1, t1, y1, rfl, eu1, ht1, hy1⟩ := hcs.get g1
      obtain ⟨v2, hv2, u2, t2, y2, rfl, eu2, ht2, hy2⟩ := hcs.get g2
      have hC3 := e03 _ _ hC
      refine ⟨_, rfl, _, rfl, C, xs, _, _, rfl, rfl, .inl (.inl hC3), atI_nat hv1, _, rfl, _, rfl, _, _, rfl, rfl, C, xs, _, _, rfl, rfl, .inl (.inl hC3), atI_nat (j := kk + 1) hv2, (by show 2 ≤ sizeLine; decide), fun tt nt => ?_⟩
      have e4 : Same H3 (upd H3 tt (.tup [.ref u1, .ref u2])) := same_upd nt
      have htt : (upd H3 tt (.tup [.ref u1, .ref u2])) tt = some (.tup [.ref u1, .ref u2]) := upd_same
      generalize upd H3 tt (.tup [.ref u1, .ref u2]) = H4 at e4 htt ⊢
      refine ⟨tt, _, rfl, .inl (.inl htt), rfl, _, _, rfl, ?_⟩
      have eu1 := e4 _ _ (e03 _ _ eu1)
      have eu2 := e4 _ _ (e03 _ _ eu2)
      refine ⟨u1, _, rfl, .inl (.inl eu1), rfl, _, _, rfl, _, _, rfl, rfl, _, _, rfl, ⟨u2, _, rfl, .inl (.inl eu2), rfl, _, _, rfl, _, _, rfl, rfl, rfl, ?_⟩⟩
      have e04 := e03.trans e4
      have ht4 := ht.same e04
      have hta := ht1.same e04
      have hxa := hy1.same e04
      have htb := ht2.same e04
      have hyb := hy2.same e04
      clear ht1 hy1 ht2 hy2
      obtain ⟨f1, f2⟩ := hf q1 (List.mem_of_getElem? g1)
      obtain ⟨f3, f4⟩ := hf q2 (List.mem_of_getElem? g2)
      have pos : ∀ {x y : Int × Int}, Rd x → Rd y → x.2 * y.2 ≠ 0 := fun hx hy => Int.ne_of_gt (Int.mul_pos hx.1 hy.1)
      -- since the first point
      refine ⟨_, rfl, _, rfl, t1, _, _, _, rfl, rfl, .inl (.inl hta), rfl, _, rfl, _, rfl, t1, _, _, _, rfl, rfl, .inl (.inl hta), rfl, (by show 2 ≤ sizeLine; decide), fun n1 nn1 => ?_⟩
      have e5 : Same H4 (upd H4 n1 (.tup [.int (-q1.1.1), .int q1.1.2])) := same_upd nn1
      have hn1 : (upd H4 n1 (.tup [.int (-q1.1.1), .int q1.1.2])) n1 = some (.tup [.int (-q1.1.1), .int q1.1.2]) := upd_same
      generalize upd H4 n1 (.tup [.int (-q1.1.1), .int q1.1.2]) = H5 at e5 hn1 ⊢
      refine ⟨t, n1, p, (-q1.1.1, q1.1.2), rfl, ht4.same e5, hn1, fp.nm.2.1, fp.nm.2.2, by rw [Int.natAbs_neg]; exact f1.nm.2.1, f1.nm.2.2, (by show p.2 * q1.1.2 ≠ 0; exact pos fp.1 f1.1), fun o1 H6 e6 ho1 => ?_⟩
      rw [fAdd_ng] at ho1
      have e46 := e5.trans e6
      have hta6 := hta.same e46
      refine ⟨_, rfl, _, rfl, t1, _, _, _, rfl, rfl, .inl (.inl hta6), rfl, _, rfl, _, rfl, t1, _, _, _, rfl, rfl, .inl (.inl hta6), rfl, (by show 2 ≤ sizeLine; decide), fun n2 nn2 => ?_⟩
      have e7 : Same H6 (upd H6 n2 (.tup [.int (-q1.1.1), .int q1.1.2])) := same_upd nn2
      have hn2 : (upd H6 n2 (.tup [.int (-q1.1.1), .int q1.1.2])) n2 = some (.tup [.int (-q1.1.1), .int q1.1.2]) := upd_same
      generalize upd H6 n2 (.tup [.int (-q1.1.1), .int q1.1.2]) = H7 at e7 hn2 ⊢
      refine ⟨t2, n2, q2.1, (-q1.1.1, q1.1.2), rfl, (htb.same e46).same e7, hn2, f3.nm.2.1, f3.nm.2.2, by rw [Int.natAbs_neg]; exact f1.nm.2.1, f1.nm.2.2, (by show q2.1.2 * q1.1.2 ≠ 0; exact pos f3.1 f1.1), fun o2 H8 e8 ho2 => ?_⟩
      rw [fAdd_ng] at ho2
      have e68 := e7.trans e8
      have ho1 := ho1.same e68
      have z1 : Nz 121 (subR p q1.1) := nz_sub fp.nz f1.nz
      have z2 : Nz 121 (subR q2.1 q1.1) := nz_sub f3.nz f1.nz
      have hlt : toQ q1.1 < toQ q2.1 := up_at hu (Nat.lt_succ_self kk) g1 g2
      have w0 : (subR q2.1 q1.1).1 ≠ 0 := sub_ne f3.1 f1.1 (by grind)
      have m1 := z1.nm (by decide)
      have m2 := z2.nm (by decide)
      refine ⟨_, _, rfl, _, rfl, o1, _, _, _, rfl, rfl, .inl (.inl ho1), rfl, _, rfl, o2, _, _, _, rfl, rfl, .inl (.inl ho2), rfl, _, _, rfl, rfl, ok1000 m1.2.1 m2.2.2, _, rfl, o1, _, _, _, rfl, rfl, .inl (.inl ho1), rfl, _, rfl, o2, _, _, _, rfl, rfl, .inl (.inl ho2), rfl, _, _, rfl, rfl, ok1000 m1.2.2 m2.2.1, ?_⟩
      refine ⟨_, _, rfl, Int.mul_ne_zero (Int.ne_of_gt m1.1) w0, sz_up (sz_mul m1.2.2 m2.2.1) (by decide), fun o3 H9 e9 ho3 => ?_⟩
      have z3 : Nz 242 (divR (subR p q1.1) (subR q2.1 q1.1)) := nz_div z1 z2 w0
      have m3 := z3.nm (by decide)
      have e49 := (e46.trans e68).trans e9
      have hxa9 := hxa.same e49
      -- how far up
      refine ⟨_, rfl, _, rfl, _, rfl, _, rfl, y1, _, _, _, rfl, rfl, .inl (.inl hxa9), rfl, _, rfl, _, rfl, y1, _, _, _, rfl, rfl, .inl (.inl hxa9), rfl, (by show 2 ≤ sizeLine; decide), fun n3 nn3 => ?_⟩
      have e10 : Same H9 (upd H9 n3 (.tup [.int (-q1.2.1), .int q1.2.2])) := same_upd nn3
      have hn3 : (upd H9 n3 (.tup [.int (-q1.2.1), .int q1.2.2])) n3 = some (.tup [.int (-q1.2.1), .int q1.2.2]) := upd_same
      generalize upd H9 n3 (.tup [.int (-q1.2.1), .int q1.2.2]) = H10 at e10 hn3 ⊢
      refine ⟨y2, n3, q2.2, (-q1.2.1, q1.2.2), rfl, (hyb.same e49).same e10, hn3, f4.nm.2.1, f4.nm.2.2, by rw [Int.natAbs_neg]; exact f2.nm.2.1, f2.nm.2.2, (by show q2.2.2 * q1.2.2 ≠ 0; exact pos f4.1 f2.1), fun o4 H11 e11 ho4 => ?_⟩
      rw [fAdd_ng] at ho4
      have z4 : Nz 121 (subR q2.2 q1.2) := nz_sub f4.nz f2.nz
      have m4 := z4.nm (by decide)
      have e911 := e10.trans e11
      refine ⟨o3, o4, _, _, rfl, ho3.same e911, ho4, m3.2.1, m3.2.2, m4.2.1, m4.2.2, pos z3.1 z4.1, fun o5 H12 e12 ho5 => ?_⟩
      have z5 : Nz 363 (mulR (divR (subR p q1.1) (subR q2.1 q1.1)) (subR q2.2 q1.2)) := nz_mul z3 z4
      have m5 := z5.nm (by decide)
      have e912 := e911.trans e12
      refine ⟨y1, o5, _, _, rfl, hxa9.same e912, ho5, f2.nm.2.1, f2.nm.2.2, m5.2.1, m5.2.2, pos f2.1 z5.1, fun o6 H13 e13 ho6 => ?_⟩
      have z6 : Nz 424 (addR q1.2 (mulR (divR (subR p q1.1) (subR q2.1 q1.1)) (subR q2.2 q1.2))) := nz_add f2.nz z5
      refine k o6 H13 (addR q1.2 (mulR (divR (subR p q1.1) (subR q2.1 q1.1)) (subR q2.2 q1.2))) (((e04.trans e49).trans e912).trans e13) ho6 ⟨z6.1, sz_up z6.2.1 (by decide), sz_up z6.2.2 (by decide)⟩ (on_at (i := kk) g1 g2 g3 g4 ?_)
      show (toQ (addR q1.2 (mulR (divR (subR p q1.1) (subR q2.1 q1.1)) (subR q2.2 q1.2))) - toQ q1.2) * (toQ q2.1 - toQ q1.1) = (toQ q2.2 - toQ q1.2) * (toQ p - toQ q1.1)
      have d1 := toQ_div z1.1 z2.1 w0
      rw [toQ_add f2.1 z5.1, toQ_mul z3.1 z4.1, toQ_sub f4.1 f2.1]
      have d2 := d1.1
      rw [toQ_sub fp.1 f1.1, toQ_sub f3.1 f1.1] at d2
      generalize toQ (divR (subR p q1.1) (subR q2.1 q1.1)) = sh at d2 ⊢
      grind
end



/-! ### points without those at which it goes straight on -/
theorem straight_on {o s f : Pt} {y : Int × Int} (ho : Rd o.1 ∧ Rd o.2) (hs : Rd s.1 ∧ Rd s.2) (hf : Rd f.1 ∧ Rd f.2) (hy : Rd y) (h1 : toQ o.1 < toQ s.1) (h2 : toQ s.1 < toQ f.1) (h : On [o, f] (toQ s.1) (toQ y)) : decide (y = s.2) = straight o s f := by
  have key := straight_Q ho hs hf
  cases h with
  | there h => cases h with
    | there h => cases h
  | here _ _ h =>
    unfold OnL at h
    cases c : straight o s f with
    | true =>
      have := key.mp c
      have e : (toQ y - toQ s.2) * (toQ f.1 - toQ o.1) = 0 := by grind
      have : toQ y = toQ s.2 := by
        rcases Rat.mul_eq_zero.mp e with z | z
        · grind
        · grind
      exact decide_eq_true (toQ_inj hy hs.2 this)
    | false =>
      refine decide_eq_false ?_
      rintro rfl
      have : straight o s f = true := key.mpr (by grind)
      rw [this] at c
      cases c
section
variable {P : Program} {w : World} {K : PySem.W.Frag} {mg : Str → Option Value} {base : Heap}
def spBends : Sp := fun vs H Q _ => ∃ (C : Addr) (xs : List V) (cs : List Pt), vs = [.ref C] ∧ H C = some (.lst xs) ∧ CrAll H xs cs ∧ Up cs ∧ (∀ s ∈ cs, Fine s.1 ∧ Fine s.2) ∧ 2 ≤ cs.length ∧ cs.length ≤ 900 ∧
  ∀ L H' ys, H L = none → Same H H' → H' L = some (.lst ys) → CrAll H' ys (bentF cs) → Q (.ref L) H'
theorem ok_law_bends (T : Tx K mg) : FnOk P w K mg base CX0 12 T.law_bends_a T.law_bends_d ["_law_course"] spBends := by
  refine T.law_bends_F.ok sc_law_bends (fun vs H Q E h => ?_) (fun cdv A outer s H vs Q E hr h => ?_)
  · obtain ⟨C, xs, cs, rfl, _⟩ := h
    rfl
  · obtain ⟨C, xs, cs, rfl, hC, hcs, hu, hf, h2, h9, k⟩ := h
    refine ⟨_, (pss_cons (ps_set (i := 1) sc_law_bends.nd rfl (Or.inl rfl) (pe_lst (pa_cons (pe_ix ix_list (pv 0) pe_int (fun _ _ => rfl)) pa_nil)))
  (pss_cons (ps_for PassesOwn.never rfl (pi_range2 (by rfl) T.z_range (pa_cons pe_int (pa_cons (pe_callB (call_len_seq) (by rfl) T.z_len (by decide +kernel) (pa_cons (pv 0) pa_nil)) pa_nil))) (pg_name (i := 2) sc_law_bends.nd rfl (Or.inl rfl))
  (pss_cons (ps_set (i := 3) sc_law_bends.nd rfl (Or.inl rfl) (pe_ifExp (pt_cmpR op_lt (pe_op (op_add) (pv 2) pe_int) (pe_callB (call_len_seq) (by rfl) T.z_len (by decide +kernel) (pa_cons (pv 0) pa_nil)) (nomark _)) (pe_ix ix_list (pv 0) (pe_op (op_add) (pv 2) pe_int) (fun _ _ => rfl)) pe_non))
  (pss_one (ps_if (PW.pt (pw_or (pt_cmpR op_isN (pv 3) pe_non (nomark _)) (pw_or1 (pt_cmpR (op_neD hr.units) (pe_call (ok_law_on T) (hr.mono (by decide)) rfl T.law_on_m T.law_on_F.kp T.law_on_b .nil pass0 (pa_cons (pe_lst (pa_cons (pe_ix ix_list (pv 1) (pe_un (un_neg) pe_int) (fun _ _ => rfl)) (pa_cons (pv 3) pa_nil))) (pa_cons (pe_ix ix_tup (pe_ix ix_list (pv 0) (pv 2) (fun _ _ => rfl)) pe_int (fun _ _ => rfl)) pa_nil))) (pe_ix ix_tup (pe_ix ix_list (pv 0) (pv 2) (fun _ _ => rfl)) pe_int (fun _ _ => rfl)) (nomark _)))))
  (pss_one (ps_expr (pe_bm PySem.F.plainAttrs_list PySem.F.slot_list_append PySem.F.type_list_append mt_append (pv 1) (pa_cons (pe_ix ix_list (pv 0) (pv 2) (fun _ _ => rfl)) pa_nil))))
  pss_nil))))
  (pss_one (ps_ret (pv 1))))), ?_⟩
    have hxl := hcs.len
    obtain ⟨c0, hc0⟩ : ∃ q, cs[0]? = some q := ⟨_, List.getElem?_eq_getElem (by omega)⟩
    obtain ⟨v0, hv0, u0, t0, y0, rfl, eu0, ht0, hy0⟩ := hcs.get hc0
    refine ⟨_, rfl, C, xs, 0, _, rfl, rfl, .inl (.inl hC), atI_nat (j := 0) hv0, (by show 1 ≤ sizeLine; decide), fun L nL => ?_⟩
    have e1 : Same H (upd H L (.lst [.ref u0])) := same_upd nL
    have hL : (upd H L (.lst [.ref u0])) L = some (.lst [.ref u0]) := upd_same
    generalize upd H L (.lst [.ref u0]) = H1 at e1 hL ⊢
    have hC1 := e1 _ _ hC
    refine ⟨_, rfl, C, xs, rfl, .inl (.inl (.inl hC1)), ?_⟩
    refine ⟨1, _, rfl, ⟨by decide, by decide, by omega, by omega⟩, ?_⟩
    rw [show ((xs.length : Int) - 1).toNat = cs.length - 1 by omega]
    have nLC : C ≠ L := ne_of_none hC nL
    refine for_range (lo := 1) (n := cs.length - 1) (fun i σ H' => (∃ v2 v3, σ = [some (.ref C), some (.ref L), v2, v3]) ∧ Same H H' ∧ ∃ ys ks, H' L = some (.lst ys) ∧ CrAll H' ys ks ∧
        ((i = cs.length - 1 ∧ ks = bentF cs) ∨ (i < cs.length - 1 ∧ ks = ((List.zip (cs.drop 1) (cs.drop 2)).take i).foldl bentStep [c0] ∧ ∃ o j, ks.getLast? = some o ∧ cs[j]? = some o ∧ j ≤ i)))
      ⟨⟨none, none, rfl⟩, e1, _, [c0], hL, .cons (e1 _ _ eu0) (ht0.same e1) (hy0.same e1) .nil, .inr ⟨by omega, rfl, c0, 0, rfl, hc0, Nat.le_refl _⟩⟩ ?_ ?_
    · rintro i σ H2 hi ⟨⟨v2, v3, rfl⟩, e2, ys, ks, eL, hks, hk⟩
      obtain ⟨ek, o, j, ho, hj, hji⟩ : ks = ((List.zip (cs.drop 1) (cs.drop 2)).take i).foldl bentStep [c0] ∧ ∃ o j, ks.getLast? = some o ∧ cs[j]? = some o ∧ j ≤ i := by
        rcases hk with ⟨z, _⟩ | ⟨_, z⟩
        · omega
        · exact z
      have hC2 := e2 _ _ hC
      have hcs2 := hcs.same e2
      obtain ⟨s, hs⟩ : ∃ q, cs[i + 1]? = some q := ⟨_, List.getElem?_eq_getElem (by omega)⟩
      obtain ⟨vs, hvs, us, ts, ys', rfl, eus, hts, hys⟩ := hcs2.get hs
      have ei : (1 : Int) + (i : Nat) = ((i + 1 : Nat) : Int) := by omega
      have klen : ks.length ≤ 900 := by
        rw [ek]
        have := bent_len ((List.zip (cs.drop 1) (cs.drop 2)).take i) (k := [c0])
        rw [List.length_take, List.length_singleton] at this
        exact Nat.le_trans this (Nat.le_trans (Nat.add_le_add_left (Nat.min_le_left _ _) _) (Nat.le_trans (Nat.le_of_eq (Nat.add_comm 1 i)) (Nat.le_trans hi (Nat.le_trans (Nat.sub_le _ _) h9))))
      rw [ei]
      refine ⟨_, rfl, _, _, rfl, rfl, _, rfl, C, xs, rfl, .inl (.inl (.inl hC2)), _, _, rfl, rfl, _, rfl, ?_⟩
      have kp : ∀ {G : Hp} (o : HO), Keep L G (upd G L o) := fun o b o' e n => (upd_ne n).trans e
      by_cases far : i + 2 < cs.length
      · rw [decide_eq_true (show ((i + 1 : Nat) : Int) + 1 < (xs.length : Int) by omega)]
        refine iteT ?_
        obtain ⟨f, hfa⟩ : ∃ q, cs[i + 2]? = some q := ⟨_, List.getElem?_eq_getElem far⟩
        obtain ⟨vf, hvf, uf, tf, yf, rfl, euf, htf, hyf⟩ := hcs2.get hfa
        refine ⟨_, rfl, _, rfl, _, _, rfl, rfl, C, xs, _, _, rfl, rfl, .inl (.inl hC2), (by rw [show (((i + 1 : Nat) : Int) + 1) = ((i + 2 : Nat) : Int) by omega]; exact atI_nat hvf), ?_⟩
        refine ⟨_, rfl, rfl, _, rfl, iteF ?_⟩
        -- the last kept point and the one behind, asked at the moment of the one between
        have kne : ks ≠ [] := fun z => by rw [z] at ho; cases ho
        obtain ⟨vo, hvo, uo, to, yo, rfl, euo, hto, hyo⟩ := hks.get (i := ks.length - 1) (s := o) (by rw [← List.getLast?_eq_getElem?]; exact ho)
        have hl1 : atI ys (-1) = some (.ref uo) := atI_m1 (by rw [List.getLast?_eq_getElem?, hks.len]; exact hvo)
        refine ⟨_, rfl, _, rfl, L, ys, _, _, rfl, rfl, .inl (.inl eL), hl1, _, rfl, (by show 2 ≤ sizeLine; decide), fun l nl => ?_⟩
        have e3 : Same H2 (upd H2 l (.lst [.ref uo, .ref uf])) := same_upd nl
        have hl : (upd H2 l (.lst [.ref uo, .ref uf])) l = some (.lst [.ref uo, .ref uf]) := upd_same
        generalize upd H2 l (.lst [.ref uo, .ref uf]) = H3 at e3 hl ⊢
        have hC3 := e3 _ _ hC2
        refine ⟨_, rfl, _, rfl, C, xs, _, _, rfl, rfl, .inl (.inl hC3), atI_nat hvs, us, _, _, _, rfl, rfl, .inl (.inl (e3 _ _ eus)), rfl, ?_⟩
        have hfo := hf o (List.mem_of_getElem? hj)
        have hfs := hf s (List.mem_of_getElem? hs)
        have hff := hf f (List.mem_of_getElem? hfa)
        have c1 : toQ o.1 < toQ s.1 := up_at hu (by omega : j < i + 1) hj hs
        have c2 : toQ s.1 < toQ f.1 := up_at hu (by omega : i + 1 < i + 2) hs hfa
        refine ⟨l, ts, [.ref uo, .ref uf], [o, f], s.1, rfl, hl, .cons (e3 _ _ euo) (hto.same e3) (hyo.same e3) (.cons (e3 _ _ euf) (htf.same e3) (hyf.same e3) .nil), ?_, ?_, (by show 2 ≤ 2; decide), (by show 2 ≤ 900; decide), hts.same e3, hfs.1, ⟨o, rfl, Rat.le_of_lt c1⟩, ⟨f, rfl, Rat.le_of_lt c2⟩, fun u H4 y e4 huy nz hon => ?_⟩
        · refine List.pairwise_cons.mpr ⟨fun x hx => ?_, List.pairwise_singleton _ _⟩
          rw [List.mem_singleton.mp hx]
          grind
        · intro x hx
          rcases List.mem_cons.mp hx with z | z
          · rw [z]; exact hfo
          · rw [List.mem_singleton.mp z]; exact hff
        have e24 := e3.trans e4
        have hC4 := e24 _ _ hC2
        have eus4 := e24 _ _ eus
        refine ⟨_, rfl, _, rfl, C, xs, _, _, rfl, rfl, .inl (.inl hC4), atI_nat hvs, us, _, _, _, rfl, rfl, .inl (.inl eus4), rfl, dp y, dp s.2, dpPair huy, dpPair (hys.same e24), rfl, rfl, _, rfl, ?_⟩
        rw [dp_eqv]
        have eq := straight_on ⟨hfo.1.1, hfo.2.1⟩ ⟨hfs.1.1, hfs.2.1⟩ ⟨hff.1.1, hff.2.1⟩ nz.1 c1 c2 hon
        have hz : (List.zip (cs.drop 1) (cs.drop 2))[i]? = some (s, f) := by
          rw [List.getElem?_zip_eq_some, List.getElem?_drop, List.getElem?_drop, Nat.add_comm 1, Nat.add_comm 2]
          exact ⟨hs, hfa⟩
        have step : ((List.zip (cs.drop 1) (cs.drop 2)).take (i + 1)).foldl bentStep [c0] = if straight o s f = true then ks else ks ++ [s] := by
          rw [List.take_succ, hz, List.foldl_append, ← ek]
          show bentStep ks (s, f) = _
          unfold bentStep
          rw [ho]
        have eL4 := e24 _ _ eL
        have eH4 := e2.trans e24
        cases hst : straight o s f with
        | true =>
          rw [hst] at eq step
          rw [show (!decide (s.2 = y)) = false by rw [show decide (s.2 = y) = decide (y = s.2) from decide_eq_decide.mpr eq_comm, eq]; rfl]
          refine iteF ?_
          exact ⟨⟨_, _, rfl⟩, eH4, ys, ks, eL4, hks.same e24, .inr ⟨by omega, by rw [step, if_pos rfl], o, j, ho, hj, by omega⟩⟩
        | false =>
          rw [hst] at eq step
          rw [show (!decide (s.2 = y)) = true by rw [show decide (s.2 = y) = decide (y = s.2) from decide_eq_decide.mpr eq_comm, eq]; rfl]
          refine iteT ?_
          refine ⟨_, rfl, .inl ⟨rfl, ys, .inl (.inl eL4)⟩, _, rfl, _, rfl, C, xs, _, _, rfl, rfl, .inl (.inl hC4), atI_nat hvs, L, ys, _, rfl, rfl, eL4, small1000 (by rw [hks.len]; omega), ?_⟩
          refine ⟨⟨_, _, rfl⟩, fun b o' e => ?_, ys ++ [.ref us], ks ++ [s], upd_same, ?_, .inr ⟨by omega, by rw [step, if_neg Bool.false_ne_true], s, i + 1, by rw [List.getLast?_append]; rfl, hs, Nat.le_refl _⟩⟩
          · rw [upd_ne (ne_of_none e nL)]
            exact eH4 _ _ e
          · exact ((hks.same e24).keepL eL4 (kp _)).app (.cons (kp _ _ _ eus4 (ne_of eus4 eL4 fun z => by cases z)) ((hts.same e24).keepL eL4 (kp _)) ((hys.same e24).keepL eL4 (kp _)) .nil)
      · rw [decide_eq_false (show ¬ ((i + 1 : Nat) : Int) + 1 < (xs.length : Int) by omega)]
        refine iteF ?_
        refine ⟨_, rfl, rfl, _, rfl, iteT ?_⟩
        refine iteT ?_
        refine ⟨_, rfl, .inl ⟨rfl, ys, .inl (.inl eL)⟩, _, rfl, _, rfl, C, xs, _, _, rfl, rfl, .inl (.inl hC2), atI_nat hvs, L, ys, _, rfl, rfl, eL, small1000 (by rw [hks.len]; omega), ?_⟩
        refine ⟨⟨_, _, rfl⟩, fun b o' e => ?_, ys ++ [.ref us], ks ++ [s], upd_same, ?_, .inl ⟨by omega, ?_⟩⟩
        · rw [upd_ne (ne_of_none e nL)]
          exact e2 _ _ e
        · exact (hks.keepL eL (kp _)).app (.cons (kp _ _ _ eus (ne_of eus eL fun z => by cases z)) (hts.keepL eL (kp _)) (hys.keepL eL (kp _)) .nil)
        · obtain ⟨p0, pr, ep⟩ := List.exists_cons_of_ne_nil (fun z => by rw [z] at h2; exact absurd h2 (by decide) : cs ≠ [])
          subst ep
          cases hc0
          have hz : (List.zip pr (pr.drop 1)).take i = List.zip pr (pr.drop 1) := List.take_of_length_le (by
            rw [List.length_zip, List.length_drop]
            rw [List.length_cons] at far hi
            omega)
          have gl : (c0 :: pr).getLast (List.cons_ne_nil _ _) = s := by
            have : (c0 :: pr).getLast? = some s := by
              rw [List.getLast?_eq_getElem?, show (c0 :: pr).length - 1 = i + 1 by rw [List.length_cons] at far hi ⊢; omega]
              exact hs
            rw [List.getLast?_eq_some_getLast (List.cons_ne_nil _ _)] at this
            exact Option.some.inj this
          show ks ++ [s] = (List.zip pr (pr.drop 1)).foldl bentStep [c0] ++ [(c0 :: pr).getLast (List.cons_ne_nil _ _)]
          rw [gl, ek]
          show ((List.zip pr (pr.drop 1)).take i).foldl bentStep [c0] ++ [s] = _
          rw [hz]
    · rintro σ H2 ⟨⟨v2, v3, rfl⟩, e2, ys, ks, eL, hks, hk⟩
      rcases hk with ⟨_, rfl⟩ | ⟨z, _⟩
      · exact ⟨_, rfl, k L H2 ys nL e2 eL hks⟩
      · omega
end



/-! ### drawn points -/
theorem keep_none {st b : Addr} {H H' : Hp} (k : Keep st H H') (n : H' b = none) (ne : b ≠ st) : H b = none := by
  cases e : H b with
  | none => rfl
  | some o =>
    rw [k _ _ e ne] at n
    cases n
abbrev Tiny (p : Int × Int) : Prop := Nz 10 p
section
variable {P : Program} {w : World} {K : PySem.W.Frag} {mg : Str → Option Value} {base : Heap}
def spCourseOf : Sp := fun vs H Q _ => ∃ (st c : Addr) (ns : List Int), vs = [.ref st] ∧ StAt H st c ns ∧ ns.length ≤ 63 ∧
  ∀ L H' ys cs, StAt H' st c ns → Keep st H H' → H' L = some (.lst ys) → L ≠ st → CrAll H' ys cs → Up cs → (∀ s ∈ cs, (Fine s.1 ∧ Fine s.2) ∧ Tiny s.1 ∧ Tiny s.2) → 2 ≤ cs.length → cs.length ≤ 7 → Q (.ref L) H'
theorem ok_law_course_of (T : Tx K mg) : FnOk P w K mg base CX0 3 T.law_course_of_a T.law_course_of_d ["_law_state"] spCourseOf := by
  refine T.law_course_of_F.ok sc_law_course_of (fun vs H Q E h => ?_) (fun cdv A outer s H vs Q E hr h => ?_)
  · obtain ⟨st, c, ns, rfl, _⟩ := h
    rfl
  · obtain ⟨st, c, ns, rfl, hSt, hl, k⟩ := h
    refine ⟨_, (pss_cons (ps_par3 (i := 1) (j := 2) (l := 3) (by rfl) sc_law_course_of.nd rfl rfl rfl (by decide) (by decide) (by decide) rfl rfl rfl (pa_cons (pe_op (op_sub) (pe_call (ok_law_take T) (hr.mono (by decide)) rfl T.law_take_m T.law_take_F.kp T.law_take_b .nil pass0 (pa_cons (pv 0) (pa_cons pe_int pa_nil))) pe_int) (pa_cons (pe_op (op_sub) (pe_call (ok_law_take T) (hr.mono (by decide)) rfl T.law_take_m T.law_take_F.kp T.law_take_b .nil pass0 (pa_cons (pv 0) (pa_cons pe_int pa_nil))) pe_int) (pa_cons (pe_lst pa_nil) pa_nil))) (by rfl))
  (pss_cons (ps_set (i := 4) sc_law_course_of.nd rfl (Or.inl rfl) pe_int)
  (pss_cons (ps_for PassesOwn.never rfl (pi_range1 rfl T.z_range (pa_cons (pe_op (op_add) pe_int (pe_call (ok_law_take T) (hr.mono (by decide)) rfl T.law_take_m T.law_take_F.kp T.law_take_b .nil pass0 (pa_cons (pv 0) (pa_cons pe_int pa_nil)))) pa_nil)) (pg_name (i := 5) sc_law_course_of.nd rfl (Or.inl rfl))
  (pss_cons (ps_expr (pe_bm PySem.F.plainAttrs_list PySem.F.slot_list_append PySem.F.type_list_append mt_append (pv 3) (pa_cons (pe_tup (pa_cons (pe_call (ok_law_frac T) (hr.mono (by decide)) rfl T.law_frac_m T.law_frac_F.kp T.law_frac_b .nil pass0 (pa_cons (pv 1) (pa_cons pe_int pa_nil))) (pa_cons (pe_call (ok_law_frac T) (hr.mono (by decide)) rfl T.law_frac_m T.law_frac_F.kp T.law_frac_b .nil pass0 (pa_cons (pv 2) (pa_cons pe_int pa_nil))) pa_nil))) pa_nil)))
  (pss_cons (ps_set (i := 6) sc_law_course_of.nd rfl (Or.inl rfl) (pe_op (op_add) pe_int (pe_call (ok_law_take T) (hr.mono (by decide)) rfl T.law_take_m T.law_take_F.kp T.law_take_b .nil pass0 (pa_cons (pv 0) (pa_cons pe_int pa_nil)))))
  (pss_cons (ps_set (i := 4) sc_law_course_of.nd rfl (Or.inl rfl) (pe_ifExp (pt_cmpR op_eq (pe_call (ok_law_take T) (hr.mono (by decide)) rfl T.law_take_m T.law_take_F.kp T.law_take_b .nil pass0 (pa_cons (pv 0) (pa_cons pe_int pa_nil))) pe_int (nomark _)) (pv 4) (pe_op (op_sub) (pe_call (ok_law_take T) (hr.mono (by decide)) rfl T.law_take_m T.law_take_F.kp T.law_take_b .nil pass0 (pa_cons (pv 0) (pa_cons pe_int pa_nil))) pe_int)))
  (pss_one (ps_par (i := 1) (j := 2) (by rfl) sc_law_course_of.nd rfl rfl (by decide) rfl rfl (pa_cons (pe_op (op_add) (pv 1) (pv 6)) (pa_cons (pe_op (op_add) (pv 2) (pe_op (op_mulG) (pv 4) (pv 6))) pa_nil)) (by rfl)))))))
  (pss_one (ps_ret (pv 3)))))), ?_⟩
    have z8 : ∀ {z : Int} {n : Nat}, z.natAbs < 2 ^ n → n ≤ 2000 → z.natAbs < 2 ^ 2000 := fun h hn => sz_up h hn
    refine ⟨_, rfl, st, c, ns, 9, rfl, hSt, hl, by decide, z8 (by decide : (9 : Int).natAbs < 2 ^ 4) (by decide), fun t0 H1 t0a t0b s1 k1 => ⟨_, _, rfl, rfl, ?_⟩⟩
    refine ⟨_, rfl, st, c, ns, 30, rfl, s1, hl, by decide, z8 (by decide : (30 : Int).natAbs < 2 ^ 5) (by decide), fun x0 H2 x0a x0b s2 k2 => ⟨_, _, rfl, rfl, ?_⟩⟩
    refine ⟨(by show 0 ≤ sizeLine; decide), fun L nL => ?_⟩
    obtain ⟨sx2, hL2⟩ := st_lst s2
    have nLst : L ≠ st := Ne.symm (ne_of_none hL2 nL)
    have nLc : c ≠ L := ne_of_none s2.2.1 nL
    have k02 : Keep st H H2 := k1.trans k2
    have nLH : H L = none := keep_none k02 nL nLst
    have e3 : Same H2 (upd H2 L (.lst [])) := same_upd nL
    have hL : (upd H2 L (.lst [])) L = some (.lst []) := upd_same
    generalize upd H2 L (.lst []) = H3 at e3 hL ⊢
    refine ⟨_, _, _, rfl, ?_⟩
    refine ⟨_, rfl, st, c, ns, 6, rfl, s2.same e3, hl, by decide, z8 (by decide : (6 : Int).natAbs < 2 ^ 3) (by decide), fun m0 H4 m0a m0b s4 k4 => ⟨_, _, rfl, rfl, ?_⟩⟩
    obtain ⟨m, rfl⟩ : ∃ m : Nat, m0 = (m : Int) := ⟨_, (Int.toNat_of_nonneg m0a).symm⟩
    have k04 : Keep st H H4 := (k02.trans (Same.keep e3)).trans k4
    refine ⟨((2 + m : Nat) : Int), congrArg (fun z => [V.int z]) (show (2 : Int) + (m : Nat) = ((2 + m : Nat) : Int) by omega), by omega, by omega, ?_⟩
    rw [Int.toNat_natCast]
    refine for_range (n := 2 + m) (fun i σ H' => (∃ (t x tilt : Int) (v5 v6 : Option V), σ = [some (.ref st), some (.int t), some (.int x), some (.ref L), some (.int tilt), v5, v6] ∧ -4 ≤ t ∧ t ≤ 4 + 4 * i ∧ -3 ≤ tilt ∧ tilt ≤ 3 ∧ -10 - 12 * (i : Int) ≤ x ∧ x ≤ 20 + 12 * i ∧
        ∃ ys cs, H' L = some (.lst ys) ∧ CrAll H' ys cs ∧ Up cs ∧ (∀ s ∈ cs, toQ s.1 < Rat.divInt t 2) ∧ (∀ s ∈ cs, (Fine s.1 ∧ Fine s.2) ∧ Tiny s.1 ∧ Tiny s.2) ∧ cs.length = i) ∧ StAt H' st c ns ∧ Keep st H H') ⟨⟨t0 - 4, x0 - 10, 0, none, none, rfl, by omega, by omega, by omega, by omega, by omega, by omega, [], [], k4 _ _ hL nLst, .nil, List.Pairwise.nil, nofun, nofun, rfl⟩, s4, k04⟩ ?_ ?_
    · rintro i σ H5 hi ⟨⟨t, x, tilt, v5, v6, rfl, b1, b2, b3, b4, b5, b6, ys, cs, eL, hcs, hu, htt, hfi, hn⟩, s5, k5⟩
      obtain ⟨sx5, hL5⟩ := st_lst s5
      refine ⟨_, rfl, .inl ⟨rfl, ys, .inl (.inl eL)⟩, _, rfl, t, 2, rfl, by decide, sz_up (by decide : (2 : Int).natAbs < 2 ^ 2) (by decide), fun u1 G1 g1 hu1 => ?_⟩
      refine ⟨_, rfl, x, 3, rfl, by decide, sz_up (by decide : (3 : Int).natAbs < 2 ^ 2) (by decide), fun u2 G2 g2 hu2 => ?_⟩
      refine ⟨(by show 2 ≤ sizeLine; decide), fun tp ntp => ?_⟩
      have g3 : Same G2 (upd G2 tp (.tup [.ref u1, .ref u2])) := same_upd ntp
      have htp : (upd G2 tp (.tup [.ref u1, .ref u2])) tp = some (.tup [.ref u1, .ref u2]) := upd_same
      generalize upd G2 tp (.tup [.ref u1, .ref u2]) = G3 at g3 htp ⊢
      have g13 := (g1.trans g2).trans g3
      have eL3 := g13 _ _ eL
      refine ⟨L, ys, _, rfl, rfl, eL3, small1000 (by rw [hcs.len]; omega), ?_⟩
      have kp : ∀ {G : Hp} (o : HO), Keep L G (upd G L o) := fun o b o' e n => (upd_ne n).trans e
      have ec : CrAll (upd G3 L (.lst (ys ++ [.ref tp]))) (ys ++ [.ref tp]) (cs ++ [(red t 2, red x 3)]) :=
        ((hcs.same g13).keepL eL3 (kp _)).app (.cons (kp _ _ _ htp (ne_of htp eL3 fun z => by cases z)) ((hu1.same (g2.trans g3)).keepL eL3 (kp _)) ((hu2.same g3).keepL eL3 (kp _)) .nil)
      have s6 : StAt (upd G3 L (.lst (ys ++ [.ref tp]))) st c ns := st_updL (s5.same g13) (Ne.symm nLst) nLc
      have k6 : Keep st H (upd G3 L (.lst (ys ++ [.ref tp]))) := fun b o e n => by
        rw [upd_ne (ne_of_none e nLH)]
        exact g13 _ _ (k5 b o e n)
      have eL6 := upd_same (H := G3) (a := L) (o := .lst (ys ++ [.ref tp]))
      generalize upd G3 L (.lst (ys ++ [.ref tp])) = H6 at ec s6 k6 eL6 ⊢
      have hq : toQ (red t 2) = Rat.divInt t 2 := toQ_red (by decide)
      have hu6 : Up (cs ++ [(red t 2, red x 3)]) := List.pairwise_append.mpr ⟨hu, List.pairwise_singleton _ _, fun a ha b hb => by
        rw [List.mem_singleton.mp hb]
        show toQ a.1 < toQ (red t 2)
        rw [hq]
        exact htt a ha⟩
      have f1 := fine_red (n := t) (d := 2) (by decide) (Nat.lt_of_lt_of_le (by omega : t.natAbs < 2 ^ 9) (by decide)) (by decide)
      have f2 := fine_red (n := x) (d := 3) (by decide) (Nat.lt_of_lt_of_le (by omega : x.natAbs < 2 ^ 9) (by decide)) (by decide)
      have f3 : Tiny (red t 2) := ⟨f1.1, red_sz (m := 10) (n := 10) (by decide) (by omega) (by decide)⟩
      have f4 : Tiny (red x 3) := ⟨f2.1, red_sz (m := 10) (n := 10) (by decide) (by omega) (by decide)⟩
      have hfi6 : ∀ s ∈ cs ++ [(red t 2, red x 3)], (Fine s.1 ∧ Fine s.2) ∧ Tiny s.1 ∧ Tiny s.2 := fun s hs => by
        rcases List.mem_append.mp hs with z | z
        · exact hfi s z
        · rw [List.mem_singleton.mp z]
          exact ⟨⟨f1, f2⟩, f3, f4⟩
      have htt6 : ∀ s ∈ cs ++ [(red t 2, red x 3)], toQ s.1 ≤ Rat.divInt t 2 := fun s hs => by
        rcases List.mem_append.mp hs with z | z
        · exact Rat.le_of_lt (htt s z)
        · rw [List.mem_singleton.mp z]
          show toQ (red t 2) ≤ _
          rw [hq]
          exact Rat.le_refl
      have hn6 : (cs ++ [(red t 2, red x 3)]).length = i + 1 := by rw [List.length_append, hn]; rfl
      generalize cs ++ [(red t 2, red x 3)] = cs6 at ec hu6 hfi6 htt6 hn6
      generalize ys ++ [V.ref tp] = ys6 at ec eL6
      -- on
      refine ⟨_, rfl, st, c, ns, 4, rfl, s6, hl, by decide, z8 (by decide : (4 : Int).natAbs < 2 ^ 3) (by decide), fun sp H7 spa spb s7 k7 => ⟨_, _, rfl, rfl, ?_⟩⟩
      refine ⟨_, rfl, st, c, ns, 2, rfl, s7, hl, by decide, z8 (by decide : (2 : Int).natAbs < 2 ^ 2) (by decide), fun co H8 coa cob s8 k8 => ⟨rfl, _, rfl, ?_⟩⟩
      obtain ⟨sx6, hL6⟩ := st_lst s6
      obtain ⟨sx7, hL7⟩ := st_lst s7
      obtain ⟨sx8, hL8⟩ := st_lst s8
      have out : ∀ (tl : Int) (H9 : Hp), -3 ≤ tl → tl ≤ 3 → StAt H9 st c ns → Keep st H8 H9 → ∀ v5 v6 : Option V, (∃ (t' x' tilt' : Int) (v5' v6' : Option V), [some (V.ref st), some (.int (t + (1 + sp))), some (.int (x + tl * (1 + sp))), some (.ref L), some (.int tl), v5, v6] = [some (V.ref st), some (V.int t'), some (V.int x'), some (V.ref L), some (V.int tilt'), v5', v6'] ∧ -4 ≤ t' ∧ t' ≤ 4 + 4 * ((i + 1 : Nat) : Int) ∧ -3 ≤ tilt' ∧ tilt' ≤ 3 ∧ -10 - 12 * ((i + 1 : Nat) : Int) ≤ x' ∧ x' ≤ 20 + 12 * ((i + 1 : Nat) : Int) ∧
          ∃ ys cs, H9 L = some (.lst ys) ∧ CrAll H9 ys cs ∧ Up cs ∧ (∀ s ∈ cs, toQ s.1 < Rat.divInt t' 2) ∧ (∀ s ∈ cs, (Fine s.1 ∧ Fine s.2) ∧ Tiny s.1 ∧ Tiny s.2) ∧ cs.length = i + 1) ∧ StAt H9 st c ns ∧ Keep st H H9 := by
        intro tl H9 q1 q2 s9 k9 v5 v6
        have k69 := (k7.trans k8).trans k9
        have m1 : tl * (1 + sp) ≤ 12 ∧ -12 ≤ tl * (1 + sp) := by
          have c1 : tl * (1 + sp) ≤ 3 * (1 + sp) := Int.mul_le_mul_of_nonneg_right q2 (by omega)
          have c2 : -3 * (1 + sp) ≤ tl * (1 + sp) := Int.mul_le_mul_of_nonneg_right q1 (by omega)
          omega
        refine ⟨⟨t + (1 + sp), x + tl * (1 + sp), tl, v5, v6, rfl, by omega, by omega, q1, q2, by omega, by omega, ys6, cs6, k69 _ _ eL6 nLst, ec.keepL hL6 k69, hu6, fun s hs => ?_, hfi6, hn6⟩, s9, k6.trans k69⟩
        have h1 := htt6 s hs
        have h2 : Rat.divInt t 2 < Rat.divInt (t + (1 + sp)) 2 := by
          have e := Rat.divInt_sub_divInt t (t + (1 + sp)) (show (2 : Int) ≠ 0 by decide) (show (2 : Int) ≠ 0 by decide)
          have n0 : ¬ 0 ≤ Rat.divInt t 2 - Rat.divInt (t + (1 + sp)) 2 := by
            rw [e, Rat.divInt_nonneg_iff_of_pos_right (by decide)]
            omega
          grind
        grind
      refine ite2 (fun _ => ?_) (fun _ => ?_)
      · exact ⟨_, rfl, _, rfl, _, rfl, _, _, rfl, rfl, _, rfl, _, rfl, _, rfl, _, _, rfl, rfl, mulOk_l ⟨by omega, by omega⟩, _, _, rfl, rfl, _, _, rfl, out tilt H8 b3 b4 s8 (Keep.refl _ _) _ _⟩
      · refine ⟨_, rfl, st, c, ns, 7, rfl, s8, hl, by decide, z8 (by decide : (7 : Int).natAbs < 2 ^ 3) (by decide), fun tl H9 tla tlb s9 k9 => ⟨_, _, rfl, rfl, ?_⟩⟩
        exact ⟨_, rfl, _, rfl, _, _, rfl, rfl, _, rfl, _, rfl, _, rfl, _, _, rfl, rfl, mulOk_l ⟨by omega, by omega⟩, _, _, rfl, rfl, _, _, rfl, out (tl - 3) H9 (by omega) (by omega) s9 k9 _ _⟩
    · rintro σ H5 ⟨⟨t, x, tilt, v5, v6, rfl, _, _, _, _, _, _, ys, cs, eL, hcs, hu, htt, hfi, hn⟩, s5, k5⟩
      exact ⟨_, rfl, k L H5 ys cs s5 k5 eL nLst hcs hu hfi (by omega) (by omega)⟩
end



/-! ### what is told, held against what is due -/
/-- data: what may be told -/
inductive Dat where
  | non | bl (b : Bool) | int (i : Int) | str (s : Str) | ex (p : Int × Int) | lst (xs : List Dat) | tup (xs : List Dat)
mutual
inductive DtAt (C : Addr) (H : Hp) : V → Dat → Prop
  | non : DtAt C H .non .non
  | bl (b : Bool) : DtAt C H (.bl b) (.bl b)
  | int (i : Int) : DtAt C H (.int i) (.int i)
  | str (s : Str) : DtAt C H (.str s) (.str s)
  | ex {v : V} {p : Int × Int} (h : ExAt C H v p) : DtAt C H v (.ex p)
  | lst {a : Addr} {xs : List V} {ds : List Dat} (h : H a = some (.lst xs)) (z : xs.length ≤ 1000) (d : DtAll C H xs ds) : DtAt C H (.ref a) (.lst ds)
  | tup {a : Addr} {xs : List V} {ds : List Dat} (h : H a = some (.tup xs)) (z : xs.length ≤ 1000) (d : DtAll C H xs ds) : DtAt C H (.ref a) (.tup ds)
inductive DtAll (C : Addr) (H : Hp) : List V → List Dat → Prop
  | nil : DtAll C H [] []
  | cons {v : V} {vs : List V} {d : Dat} {ds : List Dat} (h : DtAt C H v d) (t : DtAll C H vs ds) : DtAll C H (v :: vs) (d :: ds)
end
mutual
theorem DtAt.same {C : Addr} {H H' : Hp} (e : Same H H') : ∀ {v : V} {d : Dat}, DtAt C H v d → DtAt C H' v d
  | _, _, .non => .non
  | _, _, .bl b => .bl b
  | _, _, .int i => .int i
  | _, _, .str s => .str s
  | _, _, .ex h => .ex (h.same e)
  | _, _, .lst h z d => .lst (e _ _ h) z (DtAll.same e d)
  | _, _, .tup h z d => .tup (e _ _ h) z (DtAll.same e d)
theorem DtAll.same {C : Addr} {H H' : Hp} (e : Same H H') : ∀ {vs : List V} {ds : List Dat}, DtAll C H vs ds → DtAll C H' vs ds
  | _, _, .nil => .nil
  | _, _, .cons h t => .cons (DtAt.same e h) (DtAll.same e t)
end
theorem DtAll.len {C : Addr} {H : Hp} : ∀ {vs : List V} {ds : List Dat}, DtAll C H vs ds → vs.length = ds.length
  | _, _, .nil => rfl
  | _, _, .cons _ t => congrArg (· + 1) t.len
theorem DtAll.at {C : Addr} {H : Hp} : ∀ {vs : List V} {ds : List Dat} {i : Nat} {v : V}, DtAll C H vs ds → vs[i]? = some v → ∃ d, ds[i]? = some d ∧ DtAt C H v d
  | _, _, 0, _, .cons h _, e => ⟨_, rfl, (Option.some.inj e) ▸ h⟩
  | _, _, i + 1, _, .cons _ t, e => t.at (i := i) e
  | _, _, _, _, .nil, e => by simp at e
/-- no deeper than n -/
def Dat.dep : Nat → Dat → Prop
  | 0, .lst _ => False
  | 0, .tup _ => False
  | n + 1, .lst ds => ∀ d ∈ ds, Dat.dep n d
  | n + 1, .tup ds => ∀ d ∈ ds, Dat.dep n d
  | _, _ => True
def Dat.isL : Dat → Bool
  | .lst _ => true
  | _ => false
def Dat.isT : Dat → Bool
  | .tup _ => true
  | _ => false
def Dat.isE : Dat → Bool
  | .ex _ => true
  | _ => false
def Dat.isI : Dat → Bool
  | .int _ => true
  | .bl _ => true
  | _ => false
def Dat.isB : Dat → Bool
  | .bl _ => true
  | _ => false
/-- its type, for isinstance -/
def Dat.ty (C : Addr) : Dat → Value
  | .non => .type "NoneType"
  | .bl _ => .type "bool"
  | .int _ => .type "int"
  | .str _ => .type "str"
  | .ex _ => .ref C
  | .lst _ => .type "list"
  | .tup _ => .type "tuple"
section
variable {K : PySem.W.Frag} {mg : Str → Option Value} (T : Tx K mg) {H : Hp} {v : V} {d : Dat}
theorem DtAt.tx (h : DtAt T.Exact_a H v d) : TyX K H v (d.ty T.Exact_a) := by
  cases h with
  | non => exact .base .non
  | bl b => exact .base (.bl b)
  | int i => exact .base (.int i)
  | str s => exact .base (.str s)
  | ex h =>
    obtain ⟨x, dx, rfl, hx⟩ := h
    exact .base (.ins hx T.Exact_cl T.Exact_i1 T.Exact_i2 T.Exact_i3 T.Exact_i4)
  | lst h _ _ => exact .base (.lst h)
  | tup h _ _ => exact .base (.tup h)
theorem kitL (d : Dat) : PySem.W.kitOne K (d.ty T.Exact_a) (.type "list") = some d.isL := by
  cases d <;> first | exact T.Exact_ko_list | exact kit_ty (r := true) (by decide +kernel) | exact kit_ty (r := false) (by decide +kernel)
theorem kitT (d : Dat) : PySem.W.kitOne K (d.ty T.Exact_a) (.type "tuple") = some d.isT := by
  cases d <;> first | exact T.Exact_ko_tuple | exact kit_ty (r := true) (by decide +kernel) | exact kit_ty (r := false) (by decide +kernel)
theorem kitI (d : Dat) : PySem.W.kitOne K (d.ty T.Exact_a) (.type "int") = some d.isI := by
  cases d <;> first | exact T.Exact_ko_int | exact kit_ty (r := true) (by decide +kernel) | exact kit_ty (r := false) (by decide +kernel)
theorem kitB' (d : Dat) : PySem.W.kitOne K (d.ty T.Exact_a) (.type "bool") = some d.isB := by
  cases d <;> first | exact T.Exact_ko_bool | exact kit_ty (r := true) (by decide +kernel) | exact kit_ty (r := false) (by decide +kernel)
theorem kitE (d : Dat) : PySem.W.kitOne K (d.ty T.Exact_a) (.ref T.Exact_a) = some d.isE := by
  cases d <;> first | exact T.Exact_k0 | exact T.Exact_kt_int | exact T.Exact_kt_bool | exact T.Exact_kt_str | exact T.Exact_kt_list | exact T.Exact_kt_tuple | exact T.Exact_kt_NoneType
theorem kitLT (d : Dat) : PySem.W.kitAny K (d.ty T.Exact_a) [.type "list", .type "tuple"] = some (d.isL || d.isT) := by
  refine kitAny_cons (kitL T d) (fun e => ?_) (fun e => by rw [e]; rfl)
  refine kitAny_cons (kitT T d) (fun e' => ?_) (fun e' => by rw [e', Bool.or_true])
  rw [e, e']
  exact kitAny_nil
theorem kitBILT (d : Dat) : PySem.W.kitAny K (d.ty T.Exact_a) [.type "bool", .type "int", .type "list", .type "tuple"] = some (d.isB || d.isI || d.isL || d.isT) := by
  refine kitAny_cons (kitB' T d) (fun e => ?_) (fun e => by rw [e]; rfl)
  refine kitAny_cons (kitI T d) (fun e2 => ?_) (fun e2 => by rw [e2, Bool.or_true]; rfl)
  rw [kitLT T d, e, e2]
  rfl
end
theorem fn_false {P : Program} {w : World} {K : PySem.W.Frag} {mg : Str → Option Value} {base : Heap} {CX : CXT} {k : Nat} {f : Addr} {fd : FuncData} {ps : List Str} : FnOk P w K mg base CX k f fd ps (fun _ _ _ _ => False) :=
  ⟨fun _ _ _ _ h => h.elim, fun _ _ _ _ _ _ _ _ _ _ _ _ _ h => h.elim⟩
/-- no list, no tuple, no Exact: the same thing twice -/
def spSameLeaf (C : Addr) : Sp := fun vs H Q _ => ∃ v u d, vs = [v, u] ∧ DtAt C H v d ∧ DtAt C H u d ∧ d.isL = false ∧ d.isT = false ∧ d.isE = false ∧ ∀ H', Same H H' → Q (.bl true) H'
section
variable {P : Program} {w : World} {K : PySem.W.Frag} {mg : Str → Option Value} {base : Heap}
theorem leaf_eq {C : Addr} {H : Hp} {v u : V} {d : Dat} (h1 : DtAt C H v d) (h2 : DtAt C H u d) (a : d.isL = false) (b : d.isT = false) (c : d.isE = false) : v = u ∧ scal v u = true := by
  cases h1 with
  | non => cases h2; exact ⟨rfl, rfl⟩
  | bl x => cases h2; exact ⟨rfl, rfl⟩
  | int x => cases h2; exact ⟨rfl, rfl⟩
  | str x => cases h2; exact ⟨rfl, rfl⟩
  | ex h => cases c
  | lst _ _ _ => cases a
  | tup _ _ _ => cases b
theorem ok_law_same (T : Tx K mg) : FnOk P w K mg base CX0 1 T.law_same_a T.law_same_d ["_law_found", "_law_due"] (spSameLeaf T.Exact_a) := by
  refine T.law_same_F.ok sc_law_same (fun vs H Q E h => ?_) (fun cdv A outer s H vs Q E hr h => ?_)
  · obtain ⟨v, u, d, rfl, _⟩ := h
    rfl
  · obtain ⟨v, u, d, rfl, hv, hu, a, b, c, k⟩ := h
    have REC : FnOk P w K mg base CX0 0 T.law_same_a T.law_same_d ["_law_found", "_law_due"] (fun _ _ _ _ => False) := fn_false
    have hrR := hr.mono (Nat.zero_le _)
    refine ⟨_, (pss_cons (ps_if (pt_val (pe_callB call_isiT (by rfl) T.z_isinstance (by decide +kernel) (pa_cons (pv 1) (pa_cons (pe_tup (pa_cons (pe_bltn (v := .ty "list") (by rfl) T.z_list (by decide +kernel) rfl) (pa_cons (pe_bltn (v := .ty "tuple") (by rfl) T.z_tuple (by decide +kernel) rfl) pa_nil))) pa_nil))))
  (pss_cons (ps_if (PW.pt (pw_or (pt_cmpR op_ne (pe_callB call_isi (by rfl) T.z_isinstance (by decide +kernel) (pa_cons (pv 0) (pa_cons (pe_bltn (v := .ty "list") (by rfl) T.z_list (by decide +kernel) rfl) pa_nil))) (pe_callB call_isi (by rfl) T.z_isinstance (by decide +kernel) (pa_cons (pv 1) (pa_cons (pe_bltn (v := .ty "list") (by rfl) T.z_list (by decide +kernel) rfl) pa_nil))) (nomark _)) (pw_or1 (pt_cmpR op_ne (pe_callB call_isi (by rfl) T.z_isinstance (by decide +kernel) (pa_cons (pv 0) (pa_cons (pe_bltn (v := .ty "tuple") (by rfl) T.z_tuple (by decide +kernel) rfl) pa_nil))) (pe_callB call_isi (by rfl) T.z_isinstance (by decide +kernel) (pa_cons (pv 1) (pa_cons (pe_bltn (v := .ty "tuple") (by rfl) T.z_tuple (by decide +kernel) rfl) pa_nil))) (nomark _)))))
  (pss_one (ps_ret pe_bl))
  pss_nil)
  (pss_one (ps_ret (pe_and (pe_cmpR op_eq (pe_callB (call_len_seq) (by rfl) T.z_len (by decide +kernel) (pa_cons (pv 0) pa_nil)) (pe_callB (call_len_seq) (by rfl) T.z_len (by decide +kernel) (pa_cons (pv 1) pa_nil)) (nomark _)) (pe_one (pe_callB (cr_all rfl) (by rfl) T.z_all (by decide +kernel) (pa_cons (pe_lc (g := gTup K 2 (gCons (gName 2) (gCons (gName 3) gNil))) (tt := tYes) (own := [("_law_a", 2), ("_law_b", 3)]) rfl sc_law_same.nd (RZ.pi_zipA (by rfl) T.z_zip (pa_cons (pv 0) (pa_cons (pv 1) pa_nil))) (blkOk_by (own := [("_law_a", 2), ("_law_b", 3)]) (N := ["_law_found", "_law_due", "_law_a", "_law_b"]) (sc := defScope s_law_same) (by decide +kernel))
   (fun _ _ _ _ _ => pg_tup (by rfl) (pgs_cons (pg_name (i := 2) sc_law_same.nd rfl (Or.inl rfl)) (pgs_cons (pg_name (i := 3) sc_law_same.nd rfl (Or.inl rfl)) pgs_nil))) (fun _ _ _ _ _ => pts_nil) (fun _ _ _ _ _ => (pe_call REC hrR rfl T.law_same_m T.law_same_F.kp T.law_same_b .nil pass0 (pa_cons (pv 2) (pa_cons (pv 3) pa_nil))))) pa_nil)))))))
  pss_nil)
  (pss_cons (ps_if (pt_val (pe_callB call_isi (by rfl) T.z_isinstance (by decide +kernel) (pa_cons (pv 1) (pa_cons (pe_bltn (v := .ty "int") (by rfl) T.z_int (by decide +kernel) rfl) pa_nil))))
  (pss_one (ps_ret (pe_and (pe_callB call_isi (by rfl) T.z_isinstance (by decide +kernel) (pa_cons (pv 0) (pa_cons (pe_bltn (v := .ty "int") (by rfl) T.z_int (by decide +kernel) rfl) pa_nil))) (pe_and (pe_cmpR op_eq (pe_callB call_isi (by rfl) T.z_isinstance (by decide +kernel) (pa_cons (pv 0) (pa_cons (pe_bltn (v := .ty "bool") (by rfl) T.z_bool (by decide +kernel) rfl) pa_nil))) (pe_callB call_isi (by rfl) T.z_isinstance (by decide +kernel) (pa_cons (pv 1) (pa_cons (pe_bltn (v := .ty "bool") (by rfl) T.z_bool (by decide +kernel) rfl) pa_nil))) (nomark _)) (pe_one (pe_cmpR op_eq (pv 0) (pv 1) (nomark _)))))))
  pss_nil)
  (pss_one (ps_ret (pe_and (pe_cmpR op_isBl (pe_callB call_isiT (by rfl) T.z_isinstance (by decide +kernel) (pa_cons (pv 0) (pa_cons (pe_tup (pa_cons (pe_bltn (v := .ty "bool") (by rfl) T.z_bool (by decide +kernel) rfl) (pa_cons (pe_bltn (v := .ty "int") (by rfl) T.z_int (by decide +kernel) rfl) (pa_cons (pe_bltn (v := .ty "list") (by rfl) T.z_list (by decide +kernel) rfl) (pa_cons (pe_bltn (v := .ty "tuple") (by rfl) T.z_tuple (by decide +kernel) rfl) pa_nil))))) pa_nil))) pe_bl (nomark _)) (pe_one (pe_cmpR op_eq (pv 0) (pv 1) (nomark _)))))))), ?_⟩
    refine ⟨_, rfl, (by show 2 ≤ sizeLine; decide), fun t nt => ?_⟩
    have s1 := same_upd (o := .tup [.ty "list", .ty "tuple"]) nt
    have hu1 := hu.same s1
    refine ⟨_, _, _, _, _, _, rfl, upd_same, .cons (.ty "list") (.cons (.ty "tuple") .nil), hu1.tx T, kitLT T d, _, rfl, ?_⟩
    rw [a, b]
    refine iteF ?_
    refine ⟨_, rfl, _, _, _, _, _, rfl, .ty "int", hu1.tx T, kitI T d, _, rfl, ?_⟩
    have hv1 := hv.same s1
    obtain ⟨e1, e2⟩ := leaf_eq hv hu a b c
    cases hi : d.isI with
    | true =>
      refine iteT ?_
      refine ⟨_, rfl, _, _, _, _, _, rfl, .ty "int", hv1.tx T, kitI T d, _, rfl, ?_⟩
      rw [hi]
      refine iteT ?_
      refine ⟨_, rfl, _, _, _, _, _, rfl, .ty "bool", hv1.tx T, kitB' T d, _, rfl, _, _, _, _, _, rfl, .ty "bool", hu1.tx T, kitB' T d, rfl, _, rfl, ?_⟩
      rw [decide_eq_true rfl]
      refine iteT ?_
      refine ⟨_, rfl, _, rfl, e2, ?_⟩
      rw [decide_eq_true e1]
      exact k _ s1
    | false =>
      refine iteF ?_
      refine ⟨_, rfl, (by show 4 ≤ sizeLine; decide), fun t' nt' => ?_⟩
      have s2 := same_upd (o := .tup [.ty "bool", .ty "int", .ty "list", .ty "tuple"]) nt'
      refine ⟨_, _, _, _, _, _, rfl, upd_same, .cons (.ty "bool") (.cons (.ty "int") (.cons (.ty "list") (.cons (.ty "tuple") .nil))), (hv1.same s2).tx T, kitBILT T d, ?_⟩
      have hb : d.isB = false := by cases d <;> first | rfl | cases hi
      rw [a, b, hi, hb]
      refine ⟨_, _, rfl, rfl, _, rfl, ?_⟩
      rw [decide_eq_true (show (false || false || false || false) = false from rfl)]
      refine iteT ?_
      refine ⟨_, rfl, _, rfl, e2, ?_⟩
      rw [decide_eq_true e1]
      exact k _ (s1.trans s2)
/-- two things told alike, n deep at most -/
def spTold (C : Addr) (n : Nat) : Sp := fun vs H Q _ => ∃ v u d, vs = [v, u] ∧ DtAt C H v d ∧ DtAt C H u d ∧ d.dep n ∧ ∀ H', Same H H' → Q (.bl true) H'
def spToldR (C : Addr) : Nat → Sp
  | 0 => fun _ _ _ _ => False
  | n + 1 => spTold C n
theorem all_true : ∀ n : Nat, (List.replicate n true).all id = true
  | 0 => rfl
  | n + 1 => by rw [List.replicate_succ]; exact all_true n
theorem bls_snoc (n : Nat) : (List.replicate n true).map V.bl ++ [V.bl true] = (List.replicate (n + 1) true).map V.bl := by
  rw [List.replicate_succ', List.map_append]
  rfl
theorem ok_law_is_told (T : Tx K mg) : ∀ n : Nat, FnOk P w K mg base CX0 (2 + n) T.law_is_told_a T.law_is_told_d ["_law_x", "_law_due"] (spTold T.Exact_a n) := by
  intro n
  have REC : FnOk P w K mg base CX0 (1 + n) T.law_is_told_a T.law_is_told_d ["_law_x", "_law_due"] (spToldR T.Exact_a n) := by
    cases n with
    | zero => exact fn_false
    | succ n => exact (ok_law_is_told T n).mono (by omega)
  refine (T.law_is_told_F.ok (k := 1 + n) sc_law_is_told (fun vs H Q E h => ?_) (fun cdv A outer s H vs Q E hr h => ?_)).mono (by omega)
  · obtain ⟨v, u, d, rfl, _⟩ := h
    rfl
  · obtain ⟨v, u, d, rfl, hv, hu, hd, k⟩ := h
    have hrR := hr
    replace hr := hr.mono (Nat.le_add_right _ _)
    refine ⟨_, (pss_cons (ps_if (pt_val (pe_callB call_isiT (by rfl) T.z_isinstance (by decide +kernel) (pa_cons (pv 1) (pa_cons (pe_tup (pa_cons (pe_bltn (v := .ty "list") (by rfl) T.z_list (by decide +kernel) rfl) (pa_cons (pe_bltn (v := .ty "tuple") (by rfl) T.z_tuple (by decide +kernel) rfl) pa_nil))) pa_nil))))
  (pss_cons (ps_if (PW.pt (pw_or (pt_cmpR op_ne (pe_callB call_isi (by rfl) T.z_isinstance (by decide +kernel) (pa_cons (pv 0) (pa_cons (pe_bltn (v := .ty "list") (by rfl) T.z_list (by decide +kernel) rfl) pa_nil))) (pe_callB call_isi (by rfl) T.z_isinstance (by decide +kernel) (pa_cons (pv 1) (pa_cons (pe_bltn (v := .ty "list") (by rfl) T.z_list (by decide +kernel) rfl) pa_nil))) (nomark _)) (pw_or1 (pt_cmpR op_ne (pe_callB call_isi (by rfl) T.z_isinstance (by decide +kernel) (pa_cons (pv 0) (pa_cons (pe_bltn (v := .ty "tuple") (by rfl) T.z_tuple (by decide +kernel) rfl) pa_nil))) (pe_callB call_isi (by rfl) T.z_isinstance (by decide +kernel) (pa_cons (pv 1) (pa_cons (pe_bltn (v := .ty "tuple") (by rfl) T.z_tuple (by decide +kernel) rfl) pa_nil))) (nomark _)))))
  (pss_one (ps_ret pe_bl))
  pss_nil)
  (pss_one (ps_ret (pe_and (pe_cmpR op_eq (pe_callB (call_len_seq) (by rfl) T.z_len (by decide +kernel) (pa_cons (pv 0) pa_nil)) (pe_callB (call_len_seq) (by rfl) T.z_len (by decide +kernel) (pa_cons (pv 1) pa_nil)) (nomark _)) (pe_one (pe_callB (cr_all rfl) (by rfl) T.z_all (by decide +kernel) (pa_cons (pe_lc (g := gTup K 2 (gCons (gName 2) (gCons (gName 3) gNil))) (tt := tYes) (own := [("_law_a", 2), ("_law_b", 3)]) rfl sc_law_is_told.nd (RZ.pi_zipA (by rfl) T.z_zip (pa_cons (pv 0) (pa_cons (pv 1) pa_nil))) (blkOk_by (own := [("_law_a", 2), ("_law_b", 3)]) (N := ["_law_x", "_law_due", "_law_a", "_law_b"]) (sc := defScope s_law_is_told) (by decide +kernel))
   (fun _ _ _ _ _ => pg_tup (by rfl) (pgs_cons (pg_name (i := 2) sc_law_is_told.nd rfl (Or.inl rfl)) (pgs_cons (pg_name (i := 3) sc_law_is_told.nd rfl (Or.inl rfl)) pgs_nil))) (fun _ _ _ _ _ => pts_nil) (fun _ _ _ _ _ => (pe_call REC hrR rfl T.law_is_told_m T.law_is_told_F.kp T.law_is_told_b .nil pass0 (pa_cons (pv 2) (pa_cons (pv 3) pa_nil))))) pa_nil)))))))
  pss_nil)
  (pss_cons (ps_if (pt_val (pe_callB call_isi (by rfl) T.z_isinstance (by decide +kernel) (pa_cons (pv 1) (pa_cons (pe_glob (v := .ref T.Exact_a) rfl T.Exact_m rfl) pa_nil))))
  (pss_one (ps_ret (pe_and (pe_callB call_isi (by rfl) T.z_isinstance (by decide +kernel) (pa_cons (pv 0) (pa_cons (pe_glob (v := .ref T.Exact_a) rfl T.Exact_m rfl) pa_nil))) (pe_and (pe_cmpR op_eq (pe_fld (pv 0) rfl) (pe_fld (pv 1) rfl) (nomark _)) (pe_one (pe_cmpR op_eq (pe_fld (pv 0) rfl) (pe_fld (pv 1) rfl) (nomark _)))))))
  pss_nil)
  (pss_one (ps_ret (pe_call (ok_law_same T) (hr.mono (by decide)) rfl T.law_same_m T.law_same_F.kp T.law_same_b .nil pass0 (pa_cons (pv 0) (pa_cons (pv 1) pa_nil))))))), ?_⟩
    refine ⟨_, rfl, (by show 2 ≤ sizeLine; decide), fun t nt => ?_⟩
    have s1 := same_upd (o := .tup [.ty "list", .ty "tuple"]) nt
    have hu1 := hu.same s1
    have hv1 := hv.same s1
    refine ⟨_, _, _, _, _, _, rfl, upd_same, .cons (.ty "list") (.cons (.ty "tuple") .nil), hu1.tx T, kitLT T d, _, rfl, ?_⟩
    generalize upd H t (HO.tup [V.ty "list", V.ty "tuple"]) = H1 at s1 hu1 hv1 ⊢
    cases hv with
    | non =>
      refine iteF ?_
      refine ⟨_, rfl, _, _, _, _, _, rfl, .own _, hu1.tx T, kitE T _, _, rfl, ?_⟩
      refine iteF ?_
      exact ⟨_, rfl, _, rfl, _, _, _, rfl, hv1, hu1, rfl, rfl, rfl, fun H' e => k _ (s1.trans e)⟩
    | bl x =>
      refine iteF ?_
      refine ⟨_, rfl, _, _, _, _, _, rfl, .own _, hu1.tx T, kitE T _, _, rfl, ?_⟩
      refine iteF ?_
      exact ⟨_, rfl, _, rfl, _, _, _, rfl, hv1, hu1, rfl, rfl, rfl, fun H' e => k _ (s1.trans e)⟩
    | int x =>
      refine iteF ?_
      refine ⟨_, rfl, _, _, _, _, _, rfl, .own _, hu1.tx T, kitE T _, _, rfl, ?_⟩
      refine iteF ?_
      exact ⟨_, rfl, _, rfl, _, _, _, rfl, hv1, hu1, rfl, rfl, rfl, fun H' e => k _ (s1.trans e)⟩
    | str x =>
      refine iteF ?_
      refine ⟨_, rfl, _, _, _, _, _, rfl, .own _, hu1.tx T, kitE T _, _, rfl, ?_⟩
      refine iteF ?_
      exact ⟨_, rfl, _, rfl, _, _, _, rfl, hv1, hu1, rfl, rfl, rfl, fun H' e => k _ (s1.trans e)⟩
    | @ex _ p h =>
      refine iteF ?_
      refine ⟨_, rfl, _, _, _, _, _, rfl, .own _, hu1.tx T, kitE T (.ex p), _, rfl, ?_⟩
      refine iteT ?_
      refine ⟨_, rfl, _, _, _, _, _, rfl, .own _, hv1.tx T, kitE T (.ex p), _, rfl, ?_⟩
      refine iteT ?_
      cases hu1 with
      | ex hu2 =>
        obtain ⟨y, dy, rfl, hy⟩ := hu2
        obtain ⟨x, dx, rfl, hx⟩ := h.same s1
        refine ⟨_, rfl, x, _, dx, _, _, rfl, hx, T.Exact_cl, T.Exact_n_over, fl_over, _, rfl, y, _, dy, _, _, rfl, hy, T.Exact_cl, T.Exact_n_over, fl_over, rfl, _, rfl, ?_⟩
        rw [decide_eq_true rfl]
        refine iteT ?_
        refine ⟨_, rfl, x, _, dx, _, _, rfl, hx, T.Exact_cl, T.Exact_n_under, fl_under, _, rfl, y, _, dy, _, _, rfl, hy, T.Exact_cl, T.Exact_n_under, fl_under, rfl, ?_⟩
        rw [decide_eq_true rfl]
        exact k _ s1
    | @lst a xs ds ha zx dv =>
      cases hu with
      | @lst b ys _ hb zy du =>
        refine iteT ?_
        refine ⟨_, rfl, _, _, _, _, _, rfl, .ty "list", hv1.tx T, kitL T _, _, rfl, _, _, _, _, _, rfl, .ty "list", hu1.tx T, kitL T _, rfl, _, rfl, ?_⟩
        rw [decide_eq_true rfl]
        refine iteF ?_
        refine ⟨_, rfl, _, _, _, _, _, rfl, .ty "tuple", hv1.tx T, kitT T _, _, rfl, _, _, _, _, _, rfl, .ty "tuple", hu1.tx T, kitT T _, rfl, _, rfl, ?_⟩
        rw [decide_eq_true rfl]
        refine iteF ?_
        have el : xs.length = ys.length := dv.len.trans du.len.symm
        have ha1 := s1 _ _ ha
        have hb1 := s1 _ _ hb
        refine ⟨_, rfl, a, xs, rfl, .inl (.inl (.inl ha1)), _, rfl, b, ys, rfl, .inl (.inl (.inl hb1)), rfl, _, rfl, ?_⟩
        rw [decide_eq_true (congrArg (fun n : Nat => V.int (n : Int)) el)]
        refine iteT ?_
        refine ⟨_, rfl, _, rfl, a, b, xs, ys, rfl, .inl ⟨.inl (.inl ha1), .inl (.inl hb1), fun D nD => lc_it (walk_zip (K := K) (a := a) (b := b) (xs := xs) (ys := ys) rfl) (fun i H2 => Same H H2 ∧ Same H1 H2 ∧ H2 D = some (.lst ((List.replicate i true).map V.bl)))
          ⟨s1.trans (same_upd nD), same_upd nD, upd_same⟩ (fun i H2 _ e => ⟨.inl (.inl (e.2.1 _ _ ha1)), .inl (.inl (e.2.1 _ _ hb1))⟩) ?_ ?_⟩⟩
        · rintro i x H2 H3 hi ⟨e1, e2, eD⟩ ⟨Tp, x1, y1, rfl, nT, rfl, hx1, hy1⟩
          refine ⟨Tp, _, rfl, .inl (.inl upd_same), rfl, _, _, rfl, _, _, rfl, rfl, rfl, yes_of ?_⟩
          obtain ⟨dd, hdd, r1⟩ := dv.at hx1
          obtain ⟨de, hde, r2⟩ := du.at hy1
          rw [hdd] at hde
          cases hde
          have e3 := e1.trans (same_upd (o := .tup [x1, y1]) nT)
          refine ⟨_, rfl, _, rfl, ?_⟩
          cases n with
          | zero => exact hd.elim
          | succ n =>
            refine ⟨_, _, dd, rfl, r1.same e3, r2.same e3, hd dd (List.mem_of_getElem? hdd), fun H4 e4 => ⟨_, e4 D _ (by rw [upd_ne (ne_of_none eD nT)]; exact eD), ?_, ?_⟩⟩
            · rw [List.length_map, List.length_replicate]
              exact small1000 (by omega)
            · have nDH : H D = none := s1.free nD
              exact ⟨fun c o e => by rw [upd_ne (ne_of_none e nDH)]; exact e4 _ _ (e3 _ _ e), fun c o e => by rw [upd_ne (ne_of_none e nD)]; exact e4 _ _ (same_upd nT _ _ (e2 _ _ e)), by rw [upd_same, bls_snoc]⟩
        · rintro H2 ⟨e1, e2, eD⟩
          refine ⟨D, _, rfl, .inl (.inl eD), ?_⟩
          rw [all_true]
          exact k _ e1
    | @tup a xs ds ha zx dv =>
      cases hu with
      | @tup b ys _ hb zy du =>
        refine iteT ?_
        refine ⟨_, rfl, _, _, _, _, _, rfl, .ty "list", hv1.tx T, kitL T _, _, rfl, _, _, _, _, _, rfl, .ty "list", hu1.tx T, kitL T _, rfl, _, rfl, ?_⟩
        rw [decide_eq_true rfl]
        refine iteF ?_
        refine ⟨_, rfl, _, _, _, _, _, rfl, .ty "tuple", hv1.tx T, kitT T _, _, rfl, _, _, _, _, _, rfl, .ty "tuple", hu1.tx T, kitT T _, rfl, _, rfl, ?_⟩
        rw [decide_eq_true rfl]
        refine iteF ?_
        have el : xs.length = ys.length := dv.len.trans du.len.symm
        have ha1 := s1 _ _ ha
        have hb1 := s1 _ _ hb
        refine ⟨_, rfl, a, xs, rfl, .inr (.inl (.inl ha1)), _, rfl, b, ys, rfl, .inr (.inl (.inl hb1)), rfl, _, rfl, ?_⟩
        rw [decide_eq_true (congrArg (fun n : Nat => V.int (n : Int)) el)]
        refine iteT ?_
        refine ⟨_, rfl, _, rfl, a, b, xs, ys, rfl, .inr ⟨.inl (.inl ha1), .inl (.inl hb1), fun D nD => lc_it (walk_zipT (K := K) (a := a) (b := b) (xs := xs) (ys := ys) rfl) (fun i H2 => Same H H2 ∧ Same H1 H2 ∧ H2 D = some (.lst ((List.replicate i true).map V.bl)))
          ⟨s1.trans (same_upd nD), same_upd nD, upd_same⟩ (fun i H2 _ e => ⟨.inl (.inl (e.2.1 _ _ ha1)), .inl (.inl (e.2.1 _ _ hb1))⟩) ?_ ?_⟩⟩
        · rintro i x H2 H3 hi ⟨e1, e2, eD⟩ ⟨Tp, x1, y1, rfl, nT, rfl, hx1, hy1⟩
          refine ⟨Tp, _, rfl, .inl (.inl upd_same), rfl, _, _, rfl, _, _, rfl, rfl, rfl, yes_of ?_⟩
          obtain ⟨dd, hdd, r1⟩ := dv.at hx1
          obtain ⟨de, hde, r2⟩ := du.at hy1
          rw [hdd] at hde
          cases hde
          have e3 := e1.trans (same_upd (o := .tup [x1, y1]) nT)
          refine ⟨_, rfl, _, rfl, ?_⟩
          cases n with
          | zero => exact hd.elim
          | succ n =>
            refine ⟨_, _, dd, rfl, r1.same e3, r2.same e3, hd dd (List.mem_of_getElem? hdd), fun H4 e4 => ⟨_, e4 D _ (by rw [upd_ne (ne_of_none eD nT)]; exact eD), ?_, ?_⟩⟩
            · rw [List.length_map, List.length_replicate]
              exact small1000 (by omega)
            · have nDH : H D = none := s1.free nD
              exact ⟨fun c o e => by rw [upd_ne (ne_of_none e nDH)]; exact e4 _ _ (e3 _ _ e), fun c o e => by rw [upd_ne (ne_of_none e nD)]; exact e4 _ _ (same_upd nT _ _ (e2 _ _ e)), by rw [upd_same, bls_snoc]⟩
        · rintro H2 ⟨e1, e2, eD⟩
          refine ⟨D, _, rfl, .inl (.inl eD), ?_⟩
          rw [all_true]
          exact k _ e1
end



/-! ### bent once more: the same; right points -/
inductive NoS : List Pt → Prop
  | nil : NoS []
  | one {a : Pt} : NoS [a]
  | two {a b : Pt} : NoS [a, b]
  | more {a b c : Pt} {r : List Pt} (h : straight a b c = false) (t : NoS (b :: c :: r)) : NoS (a :: b :: c :: r)
theorem bentL_sub : ∀ (l : List Pt) (k : Pt), (bentL k l).Sublist (k :: l)
  | [], _ => List.Sublist.refl _
  | [_], _ => List.Sublist.refl _
  | s :: f :: r, k => by
    by_cases c : straight k s f = true
    · rw [show bentL k (s :: f :: r) = bentL k (f :: r) from if_pos c]
      exact (bentL_sub (f :: r) k).trans (List.Sublist.cons₂ k (List.Sublist.cons s (List.Sublist.refl _)))
    · rw [show bentL k (s :: f :: r) = k :: bentL s (f :: r) from if_neg c]
      exact List.Sublist.cons₂ k (bentL_sub (f :: r) s)
/-- the next kept point lies in the direction of the next one -/
theorem bentL_next : ∀ (r : List Pt) (s f : Pt), FineAll (s :: f :: r) → Up (s :: f :: r) → ∃ f' t, bentL s (f :: r) = s :: f' :: t ∧ f' ∈ f :: r ∧ (toQ f'.2 - toQ s.2) * (toQ f.1 - toQ s.1) = (toQ f.2 - toQ s.2) * (toQ f'.1 - toQ s.1)
  | [], s, f, _, _ => ⟨f, [], rfl, List.mem_cons_self, rfl⟩
  | g :: r, s, f, hf, hu => by
    have fs := hf s List.mem_cons_self
    have ff := hf f (List.mem_cons_of_mem _ List.mem_cons_self)
    have fg := hf g (List.mem_cons_of_mem _ (List.mem_cons_of_mem _ List.mem_cons_self))
    obtain ⟨u1, u2⟩ := List.pairwise_cons.mp hu
    obtain ⟨u3, u4⟩ := List.pairwise_cons.mp u2
    have hsf := u1 f List.mem_cons_self
    have hfg := u3 g List.mem_cons_self
    by_cases c : straight s f g = true
    · rw [show bentL s (f :: g :: r) = bentL s (g :: r) from if_pos c]
      obtain ⟨f', t, e, m, q⟩ := bentL_next r s g (fun x hx => hf x (by
        rcases List.mem_cons.mp hx with z | z
        · rw [z]; exact List.mem_cons_self
        · exact List.mem_cons_of_mem _ (List.mem_cons_of_mem _ z))) (List.pairwise_cons.mpr ⟨fun x hx => u1 x (List.mem_cons_of_mem _ hx), u4⟩)
      refine ⟨f', t, e, List.mem_cons_of_mem _ m, ?_⟩
      rw [straight_Q fs ff fg] at c
      have h0 : toQ g.1 - toQ s.1 ≠ 0 := by grind
      have e1 : ((toQ f'.2 - toQ s.2) * (toQ f.1 - toQ s.1) - (toQ f.2 - toQ s.2) * (toQ f'.1 - toQ s.1)) * (toQ g.1 - toQ s.1) = 0 := by grind
      rcases Rat.mul_eq_zero.mp e1 with z | z
      · grind
      · exact absurd z h0
    · rw [show bentL s (f :: g :: r) = s :: bentL f (g :: r) from if_neg c]
      obtain ⟨t, e⟩ := bentL_head (g :: r) f
      exact ⟨f, t, by rw [e], List.mem_cons_self, rfl⟩
theorem bentL_nos : ∀ (l : List Pt) (k : Pt), FineAll (k :: l) → Up (k :: l) → NoS (bentL k l)
  | [], _, _, _ => .one
  | [_], _, _, _ => .two
  | s :: f :: r, k, hf, hu => by
    have fk := hf k List.mem_cons_self
    have fs := hf s (List.mem_cons_of_mem _ List.mem_cons_self)
    have ff := hf f (List.mem_cons_of_mem _ (List.mem_cons_of_mem _ List.mem_cons_self))
    obtain ⟨u1, u2⟩ := List.pairwise_cons.mp hu
    obtain ⟨u3, u4⟩ := List.pairwise_cons.mp u2
    have hf2 : FineAll (s :: f :: r) := fun x hx => hf x (List.mem_cons_of_mem _ hx)
    by_cases c : straight k s f = true
    · rw [show bentL k (s :: f :: r) = bentL k (f :: r) from if_pos c]
      exact bentL_nos (f :: r) k (fun x hx => hf x (by
        rcases List.mem_cons.mp hx with z | z
        · rw [z]; exact List.mem_cons_self
        · exact List.mem_cons_of_mem _ (List.mem_cons_of_mem _ z))) (List.pairwise_cons.mpr ⟨fun x hx => u1 x (List.mem_cons_of_mem _ hx), u4⟩)
    · rw [show bentL k (s :: f :: r) = k :: bentL s (f :: r) from if_neg c]
      have ih := bentL_nos (f :: r) s hf2 u2
      obtain ⟨f', t, e, m, q⟩ := bentL_next r s f hf2 u2
      rw [e] at ih ⊢
      have ff' := hf2 f' (List.mem_cons_of_mem _ m)
      have hsf := u3 f List.mem_cons_self
      have hsf' := u3 f' m
      refine .more ?_ ih
      cases c' : straight k s f' with
      | false => rfl
      | true =>
        exfalso
        apply c
        rw [straight_Q fk fs ff'] at c'
        rw [straight_Q fk fs ff]
        have h0 : toQ f'.1 - toQ s.1 ≠ 0 := by grind
        have e1 : ((toQ s.2 - toQ k.2) * (toQ f.1 - toQ s.1) - (toQ f.2 - toQ s.2) * (toQ s.1 - toQ k.1)) * (toQ f'.1 - toQ s.1) = 0 := by grind
        rcases Rat.mul_eq_zero.mp e1 with z | z
        · grind
        · exact absurd z h0
theorem nos_fix : ∀ (l : List Pt) (k : Pt), NoS (k :: l) → bentL k l = k :: l
  | [], _, _ => rfl
  | [_], _, _ => rfl
  | s :: f :: r, k, .more h t => by
    rw [show bentL k (s :: f :: r) = k :: bentL s (f :: r) from if_neg (by rw [h]; exact Bool.false_ne_true), nos_fix (f :: r) s t]
theorem bentF_two {cs : List Pt} (h : 2 ≤ cs.length) (hf : FineAll cs) (hu : Up cs) : bentF (bentF cs) = bentF cs ∧ 2 ≤ (bentF cs).length ∧ (∀ x ∈ bentF cs, x ∈ cs) ∧ Up (bentF cs) ∧ (bentF cs).length ≤ cs.length := by
  match cs, h with
  | p :: q :: r, _ =>
    have e : bentF (p :: q :: r) = bentL p (q :: r) := bentF_rec (List.cons_ne_nil _ _)
    have n := bentL_nos (q :: r) p hf hu
    obtain ⟨f', t, e2, m, _⟩ := bentL_next r p q hf hu
    have hm : ∀ x ∈ bentF (p :: q :: r), x ∈ p :: q :: r := fun x hx => (bentL_sub (q :: r) p).subset (by rw [← e]; exact hx)
    refine ⟨?_, ?_, hm, ?_, ?_⟩
    · rw [e, e2, bentF_rec (List.cons_ne_nil _ _)]
      rw [e2] at n
      exact nos_fix _ _ n
    · rw [e, e2, List.length_cons, List.length_cons]
      omega
    · rw [e]
      exact hu.sublist (bentL_sub _ _)
    · rw [e]
      exact (bentL_sub _ _).length_le
theorem wrong_noneU : ∀ {cs : List Pt} {prev : Option (Int × Int)} {i : Nat}, FineAll cs → Up cs → (∀ t, prev = some t → Rd t ∧ ∀ s ∈ cs, toQ t < toQ s.1) → wrongAt prev i (cs.map some) = none
  | [], _, _, _, _, _ => rfl
  | s :: r, prev, i, hf, hu, hp => by
    obtain ⟨h1, h2⟩ := List.pairwise_cons.mp hu
    have fs := hf s List.mem_cons_self
    have rest : wrongAt (some s.1) (i + 1) (r.map some) = none := wrong_noneU (fun x hx => hf x (List.mem_cons_of_mem _ hx)) h2 fun t e => by
      cases e
      exact ⟨fs.1, h1⟩
    cases prev with
    | none =>
      show (if false = true then some i else wrongAt (some s.1) (i + 1) (r.map some)) = none
      rw [if_neg Bool.false_ne_true]
      exact rest
    | some t =>
      obtain ⟨rt, hl⟩ := hp t rfl
      have c : bLe s.1 t = false := by
        have lt := hl s List.mem_cons_self
        cases e : bLe s.1 t with
        | false => rfl
        | true =>
          have := (le_toQ fs.1 rt).mp e
          grind
      show (if bLe s.1 t = true then some i else wrongAt (some s.1) (i + 1) (r.map some)) = none
      rw [c, if_neg Bool.false_ne_true]
      exact rest
theorem line_fineU {cs : List Pt} (hf : FineAll cs) (hu : Up cs) (h2 : 2 ≤ cs.length) : lineWrong (cs.map some) = none :=
  line_right (by rw [List.length_map]; omega) (by rw [List.length_map]; omega) (wrong_noneU hf hu nofun)



/-! ### what stays where only lists change -/
def NL (H H' : Hp) : Prop := ∀ b o, H b = some o → (∀ xs, o ≠ .lst xs) → H' b = some o
theorem NL.trans {H H1 H2 : Hp} (a : NL H H1) (b : NL H1 H2) : NL H H2 := fun c o e n => b c o (a c o e n) n
theorem NL.of {H H' : Hp} (s : Same H H') : NL H H' := fun b o e _ => s b o e
theorem NL.keep {st c : Addr} {ns : List Int} {H H' : Hp} (k : Keep st H H') (h : StAt H st c ns) : NL H H' := fun b o e n => by
  obtain ⟨sx, hs⟩ := st_lst h
  refine k b o e fun z => ?_
  rw [z, hs] at e
  exact n _ (Option.some.inj e).symm
theorem NL.spo {D : Dep} {n k : Nat} {H H' : Hp} (s : Spo D n k H H') : NL H H' := fun b o e no => by
  rcases s b o e with z | ⟨_, _, xs, _, z, _⟩
  · exact z
  · exact absurd z (no xs)
section
variable {C : Addr} {H H' : Hp}
theorem PairAt.nl (n : NL H H') {t : Addr} {p : Int × Int} (h : PairAt H t p) : PairAt H' t p := n _ _ h nofun
theorem CrAll.nl (n : NL H H') {vs : List V} {cs : List Pt} (h : CrAll H vs cs) : CrAll H' vs cs := h.mono fun u t g p q e a b => ⟨n _ _ e nofun, a.nl n, b.nl n⟩
theorem ExAt.nl (n : NL H H') {v : V} {p : Int × Int} (h : ExAt C H v p) : ExAt C H' v p := let ⟨a, dx, r, z⟩ := h; ⟨a, dx, r, n _ _ z nofun⟩
theorem ToldAt.nl (n : NL H H') {v : V} {p : Int × Int} (h : ToldAt C H v p) : ToldAt C H' v p := h.elim .inl fun z => .inr ⟨z.1, z.2.nl n⟩
theorem NumAt.nl (n : NL H H') {v : V} {p : Int × Int} (h : NumAt C H v p) : NumAt C H' v p := h.elim .inl fun z => .inr (z.nl n)
theorem SpotAt.nl (n : NL H H') {v : V} {s : Pt} (h : SpotAt C H v s) : SpotAt C H' v s := by
  obtain ⟨⟨t, x, y, rfl, ht, hx, hy⟩, f1, f2⟩ := h
  exact ⟨⟨t, x, y, rfl, n _ _ ht nofun, hx.nl n, hy.nl n⟩, f1, f2⟩
theorem SpAll.nl (n : NL H H') {vs : List V} {ps : List Pt} (h : SpAll C H vs ps) : SpAll C H' vs ps := h.mono fun _ _ z => z.nl n
end
/-- a line whose spots stand at s -/
def LineS (L C : Addr) (H : Hp) (v : V) (s : Addr) (qs : List Pt) : Prop := ∃ a dx ys, v = .ref a ∧ H a = some (.ins L dx [(("spots" : Str), .ref s)]) ∧ H s = some (.lst ys) ∧ SpAll C H ys qs
theorem LineS.at {L C : Addr} {H : Hp} {v : V} {s : Addr} {qs : List Pt} (h : LineS L C H v s qs) : LineAt L C H v qs := let ⟨a, dx, ys, r, h1, h2, h3⟩ := h; ⟨a, dx, s, ys, r, h1, h2, h3⟩
theorem LineS.nl {L C : Addr} {H H' : Hp} (n : NL H H') {v : V} {s : Addr} {qs : List Pt} (h : LineS L C H v s qs) (hl : ∀ ys, H s = some (.lst ys) → H' s = some (.lst ys)) : LineS L C H' v s qs :=
  let ⟨a, dx, ys, r, h1, h2, h3⟩ := h
  ⟨a, dx, ys, r, n _ _ h1 nofun, hl _ h2, h3.nl n⟩
section
variable {P : Program} {w : World} {K : PySem.W.Frag} {mg : Str → Option Value} {base : Heap}
theorem mk_lineS {T : Tx K mg} {H1 : Hp} {Q : Hp → Prop} {E : XK} {x dx : Addr} {v : V} {xs : List V} {ps : List Pt} (nx : H1 x = none) (nd : H1 dx = none) (ne : dx ≠ x) (hsq : SeqQ H1 v xs) (hl : xs.length ≤ 900) (hw : lineWrong (ps.map some) = none) (hn : xs.length = ps.length)
    (hit : ∀ (i : Nat) (x : V) (s : Pt), xs[i]? = some x → ps[i]? = some s → ∃ a b, SeqQ H1 x [a, b] ∧ NumAt T.Exact_a H1 a s.1 ∧ NumAt T.Exact_a H1 b s.2 ∧ Fine s.1 ∧ Fine s.2) (k : ∀ H2 sa, Same H1 H2 → H1 sa = none → LineS T.Line_a T.Exact_a H2 (.ref x) sa (bentF ps) → Q H2) :
    spLineNew T.Line_a T.Exact_a (.ref x :: ([v] ++ [])) (upd (upd H1 dx (.own x)) x (.ins T.Line_a dx [])) (fun v H2 => v = .non ∧ Q H2) E := by
  have md : Same H1 (upd (upd H1 dx (.own x)) x (.ins T.Line_a dx [])) := fun b o e => by
    rw [upd_ne (ne_of_none e nx), upd_ne (ne_of_none e nd)]
    exact e
  refine ⟨x, dx, v, xs, ps, rfl, upd_same, hsq.same md, hl, hw, ⟨hn, fun i y s hy hs => ?_⟩, fun s H' ys h0 h1 h2 h3 h4 => ⟨rfl, k H' s (Same.made nx nd h4) (md.free h0) ⟨x, dx, ys, rfl, h1, h2, h3⟩⟩⟩
  obtain ⟨a, b, h1, h2, h3, h4, h5⟩ := hit i y s hy hs
  exact ⟨a, b, h1.same md, h2.same md, h3.same md, h4, h5⟩
end
/-- points as they are handed on: lists and tuples that came behind H0 -/
def PtsAt (C : Addr) (H0 H : Hp) (us : List V) (cs : List Pt) : Prop := us.length = cs.length ∧ ∀ (i : Nat) (u : V) (s : Pt), us[i]? = some u → cs[i]? = some s →
  ∃ a x y, u = .ref a ∧ H0 a = none ∧ (H a = some (.lst [x, y]) ∨ H a = some (.tup [x, y])) ∧ NumAt C H x s.1 ∧ NumAt C H y s.2
/-- lists that came behind H0 stay -/
def KeepB (H0 H H' : Hp) : Prop := NL H H' ∧ ∀ b o, H b = some o → H0 b = none → H' b = some o
theorem PtsAt.keep {C : Addr} {H0 H H' : Hp} {us : List V} {cs : List Pt} (h : PtsAt C H0 H us cs) (k : KeepB H0 H H') : PtsAt C H0 H' us cs :=
  ⟨h.1, fun i u s hu hs => by
    obtain ⟨a, x, y, r, n, z, hx, hy⟩ := h.2 i u s hu hs
    exact ⟨a, x, y, r, n, z.elim (fun z => .inl (k.2 _ _ z n)) fun z => .inr (k.2 _ _ z n), hx.nl k.1, hy.nl k.1⟩⟩
theorem KeepB.of {H0 H H' : Hp} {st c : Addr} {ns : List Int} (k : Keep st H H') (h : StAt H st c ns) (n : H0 st ≠ none) : KeepB H0 H H' :=
  ⟨NL.keep k h, fun b o e z => k b o e fun q => n (by rw [← q]; exact z)⟩
theorem PtsAt.snoc {C : Addr} {H0 H : Hp} {us : List V} {cs : List Pt} {a : Addr} {x y : V} {s : Pt} (h : PtsAt C H0 H us cs) (n : H0 a = none) (z : H a = some (.lst [x, y]) ∨ H a = some (.tup [x, y])) (hx : NumAt C H x s.1) (hy : NumAt C H y s.2) : PtsAt C H0 H (us ++ [.ref a]) (cs ++ [s]) := by
  refine ⟨by rw [List.length_append, List.length_append, h.1]; rfl, fun i u s' hu hs => ?_⟩
  rcases Nat.lt_or_ge i us.length with hi | hi
  · rw [List.getElem?_append_left hi] at hu
    rw [List.getElem?_append_left (h.1 ▸ hi)] at hs
    exact h.2 i u s' hu hs
  · rw [List.getElem?_append_right hi] at hu
    rw [List.getElem?_append_right (h.1 ▸ hi), ← h.1] at hs
    cases e : i - us.length with
    | zero =>
      rw [e] at hu hs
      cases hu
      cases hs
      exact ⟨a, x, y, rfl, n, z, hx, hy⟩
    | succ j =>
      rw [e] at hu
      cases hu
theorem num_leaf {K : PySem.W.Frag} {mg : Str → Option Value} (T : Tx K mg) {D : Dep} {B n : Nat} {H : Hp} {v : V} {p : Int × Int} (h : NumAt T.Exact_a H v p) : Spb K D B H n v := by
  rcases h.cases with ⟨rfl, _⟩ | ⟨a, dx, rfl, hx⟩
  · exact .leaf (.base (.int _)) (lt_no (kit_ty (by decide +kernel)) (kit_ty (by decide +kernel))) (kit_ty (by decide +kernel))
  · exact .leaf (.base (.ins hx T.Exact_cl T.Exact_i1 T.Exact_i2 T.Exact_i3 T.Exact_i4)) (lt_no T.Exact_ko_list T.Exact_ko_tuple) T.Exact_ko_list
/-- what is spoilt of the points that were handed on: the lists among us, and g -/
def depG (g : Addr) (us : List V) : Dep := fun b => if b = g then 2 else if V.ref b ∈ us then 1 else 0
theorem given_spb {K : PySem.W.Frag} {mg : Str → Option Value} (T : Tx K mg) {H0 H : Hp} {g : Addr} {us : List V} {cs : List Pt} (h : PtsAt T.Exact_a H0 H us cs) (hg : H g = some (.lst us) ∨ H g = some (.tup us)) (h7 : us.length ≤ 7) (hne : V.ref g ∉ us) : Spb K (depG g us) 7 H 2 (.ref g) := by
  have it : ∀ x ∈ us, Spb K (depG g us) 7 H 1 x := fun x hx => by
    obtain ⟨i, hi⟩ := List.mem_iff_getElem?.mp hx
    obtain ⟨s, hs⟩ : ∃ s, cs[i]? = some s := ⟨_, List.getElem?_eq_getElem (by rw [← h.1]; exact (List.getElem?_eq_some_iff.mp hi).1)⟩
    obtain ⟨a, y, z, rfl, _, ha, hy, hz⟩ := h.2 i x s hi hs
    have leaf : ∀ v ∈ [y, z], Spb K (depG g us) 7 H 0 v := fun v hv => by
      rcases List.mem_cons.mp hv with q | q
      · rw [q]; exact num_leaf T hy
      · rw [List.mem_singleton.mp q]; exact num_leaf T hz
    rcases ha with ha | ha
    · refine .lst ha (by show 2 ≤ 7; decide) ?_ leaf
      unfold depG
      rw [if_neg (fun z => hne (by rw [← z]; exact hx)), if_pos hx]
    · exact .tup ha (by show 2 ≤ 7; decide) leaf
  rcases hg with hg | hg
  · refine .lst hg h7 ?_ it
    unfold depG
    rw [if_pos rfl]
  · exact .tup hg h7 it
theorem depG_zero {g b : Addr} {us : List V} (h1 : b ≠ g) (h2 : V.ref b ∉ us) : depG g us b = 0 := by
  unfold depG
  rw [if_neg h1, if_neg h2]
/-- where nothing lies deep, a list stays -/
theorem Spo.still {D : Dep} {n k : Nat} {H H' : Hp} (s : Spo D n k H H') {b : Addr} {o : HO} (e : H b = some o) (d : D b = 0) : H' b = some o := by
  rcases s b o e with z | ⟨d1, _⟩
  · exact z
  · omega
theorem Spo.st {D : Dep} {n k : Nat} {H H' : Hp} (s : Spo D n k H H') {st c : Addr} {ns : List Int} (h : StAt H st c ns) (d1 : D st = 0) (d2 : D c = 0) : StAt H' st c ns := by
  obtain ⟨⟨x1, x2, x3, z⟩, wc, nc⟩ := h
  exact ⟨⟨x1, x2, x3, s.still z d1⟩, s.still wc d2, nc⟩
/-- told points, spoilt: only the list itself -/
theorem told_spb {K : PySem.W.Frag} {mg : Str → Option Value} (T : Tx K mg) {H : Hp} {g : Addr} {ys : List V} {ps : List Pt} (h : SpAll T.Exact_a H ys ps) (hg : H g = some (.lst ys)) (h7 : ys.length ≤ 7) : Spb K (depG g []) 7 H 2 (.ref g) := by
  refine .lst hg h7 (by unfold depG; rw [if_pos rfl]) fun x hx => ?_
  obtain ⟨i, hi⟩ := List.mem_iff_getElem?.mp hx
  obtain ⟨s, hs, ⟨⟨t, y, z, rfl, ht, hy, hz⟩, _⟩⟩ := h.at hi
  refine .tup ht (by show 2 ≤ 7; decide) fun v hv => ?_
  rcases List.mem_cons.mp hv with q | q
  · rw [q]; exact num_leaf T hy.num
  · rw [List.mem_singleton.mp q]; exact num_leaf T hz.num
/-- a told number as data -/
def dtT (p : Int × Int) : Dat := if p.2 = 1 then .int p.1 else .ex p
theorem ToldAt.dt {C : Addr} {H : Hp} {v : V} {p : Int × Int} (h : ToldAt C H v p) : DtAt C H v (dtT p) := by
  unfold dtT
  rcases h with ⟨h1, rfl⟩ | ⟨h1, h2⟩
  · rw [if_pos h1]
    exact .int _
  · rw [if_neg h1]
    exact .ex h2
theorem dtT_dep (p : Int × Int) : Dat.dep 0 (dtT p) := by
  unfold dtT
  split <;> trivial

/-- points as data -/
def dtPts (ps : List Pt) : Dat := .lst (ps.map fun s => .tup [dtT s.1, dtT s.2])
theorem pts_all {C : Addr} {H : Hp} {ys : List V} {ps : List Pt} (h : SpAll C H ys ps) : DtAll C H ys (ps.map fun s => .tup [dtT s.1, dtT s.2]) := by
  induction h with
  | nil => exact .nil
  | cons h r ih =>
    obtain ⟨⟨t, x, y, rfl, ht, hx, hy⟩, _⟩ := h
    exact .cons (.tup ht (by show 2 ≤ 1000; decide) (.cons hx.dt (.cons hy.dt .nil))) ih
theorem pts_dt {C : Addr} {H : Hp} {g : Addr} {ys : List V} {ps : List Pt} (h : SpAll C H ys ps) (hg : H g = some (.lst ys)) (hl : ys.length ≤ 1000) : DtAt C H (.ref g) (dtPts ps) := .lst hg hl (pts_all h)
theorem pts_dep (ps : List Pt) : Dat.dep 2 (dtPts ps) := fun d hd => by
  obtain ⟨s, _, rfl⟩ := List.mem_map.mp hd
  intro e he
  rcases List.mem_cons.mp he with z | z
  · rw [z]; exact dtT_dep _
  · rw [List.mem_singleton.mp z]; exact dtT_dep _
def PnAt (C : Addr) (H : Hp) (v : V) (s : Pt) : Prop := ∃ a b, SeqQ H v [a, b] ∧ NumAt C H a s.1 ∧ NumAt C H b s.2 ∧ Fine s.1 ∧ Fine s.2
theorem PnAt.same {C : Addr} {H H' : Hp} {v : V} {s : Pt} (h : PnAt C H v s) (e : Same H H') : PnAt C H' v s := by
  obtain ⟨a, b, h1, h2, h3, h4, h5⟩ := h
  exact ⟨a, b, h1.same e, h2.same e, h3.same e, h4, h5⟩
inductive PnAll (C : Addr) (H : Hp) : List V → List Pt → Prop
  | nil : PnAll C H [] []
  | cons {v : V} {s : Pt} {vs : List V} {ps : List Pt} (h : PnAt C H v s) (r : PnAll C H vs ps) : PnAll C H (v :: vs) (s :: ps)
theorem PnAll.app {C : Addr} {H : Hp} : ∀ {vs us : List V} {ps qs : List Pt}, PnAll C H vs ps → PnAll C H us qs → PnAll C H (vs ++ us) (ps ++ qs)
  | _, _, _, _, .nil, h => h
  | _, _, _, _, .cons a r, h => .cons a (r.app h)
theorem PnAll.len {C : Addr} {H : Hp} : ∀ {vs : List V} {ps : List Pt}, PnAll C H vs ps → vs.length = ps.length
  | _, _, .nil => rfl
  | _, _, .cons _ r => congrArg (· + 1) r.len
theorem PnAll.hit {C : Addr} {H : Hp} : ∀ {vs : List V} {ps : List Pt}, PnAll C H vs ps → ∀ (i : Nat) (x : V) (s : Pt), vs[i]? = some x → ps[i]? = some s → PnAt C H x s
  | _, _, .cons h _, 0, _, _, e1, e2 => (Option.some.inj e1) ▸ (Option.some.inj e2) ▸ h
  | _, _, .cons _ r, i + 1, x, s, e1, e2 => r.hit i x s e1 e2
  | _, _, .nil, _, _, _, e1, _ => by simp at e1
theorem SpAll.pn {C : Addr} {H : Hp} : ∀ {vs : List V} {ps : List Pt}, SpAll C H vs ps → PnAll C H vs ps
  | _, _, .nil => .nil
  | _, _, .cons h r => by
    obtain ⟨⟨t, x, y, rfl, ht, hx, hy⟩, f1, f2⟩ := h
    exact .cons ⟨x, y, ⟨t, rfl, .inr ht⟩, hx.num, hy.num, f1, f2⟩ r.pn
theorem SpAll.front {C : Addr} {H : Hp} : ∀ {vs : List V} {ps : List Pt}, SpAll C H vs ps → SpAll C H vs.dropLast ps.dropLast
  | _, _, .nil => .nil
  | _, _, .cons _ .nil => .nil
  | _, _, .cons h (.cons h2 r) => .cons h (SpAll.front (.cons h2 r))
theorem cutV_front (xs : List V) : cutV xs none (some (-1)) = xs.dropLast := by
  unfold cutV
  rw [HT.sIx_none, List.drop_zero, List.dropLast_eq_take, Nat.sub_zero]
  have e : HT.sIx xs.length xs.length (some (-1)) = xs.length - 1 := by
    show (if (-1 : Int) < 0 then ((-1 : Int) + (xs.length : Int)).toNat else min (-1 : Int).toNat xs.length) = _
    rw [if_pos (by decide)]
    omega
  rw [e]

/-! ### moments between; the last point moved -/
theorem moment_ok {a b : Int × Int} {k : Int} (ha : Tiny a) (hb : Tiny b) (h : toQ a < toQ b) (k0 : 0 ≤ k) (k7 : k < 7) :
    Nz 3 (red k 6) ∧ Nz 21 (subR b a) ∧ Nz 24 (mulR (red k 6) (subR b a)) ∧ Fine (addR a (mulR (red k 6) (subR b a))) ∧ toQ a ≤ toQ (addR a (mulR (red k 6) (subR b a))) ∧ toQ (addR a (mulR (red k 6) (subR b a))) ≤ toQ b := by
  have f6 := fine_red (n := k) (d := 6) (by decide) (Nat.lt_of_lt_of_le (by omega : k.natAbs < 2 ^ 9) (by decide)) (by decide)
  have n1 : Nz 3 (red k 6) := ⟨f6.1, red_sz (m := 3) (n := 3) (by decide) (by omega) (by decide)⟩
  have n2 : Nz 21 (subR b a) := nz_sub hb ha
  have n3 : Nz 24 (mulR (red k 6) (subR b a)) := nz_mul n1 n2
  have n4 : Nz 35 (addR a (mulR (red k 6) (subR b a))) := nz_add ha n3
  have q : toQ (addR a (mulR (red k 6) (subR b a))) = toQ a + Rat.divInt k 6 * (toQ b - toQ a) := by
    rw [toQ_add ha.1 n3.1, toQ_mul n1.1 n2.1, toQ_sub hb.1 ha.1, toQ_red (by decide)]
  have s01 : 0 ≤ Rat.divInt k 6 ∧ Rat.divInt k 6 ≤ 1 := by
    have : k = 0 ∨ k = 1 ∨ k = 2 ∨ k = 3 ∨ k = 4 ∨ k = 5 ∨ k = 6 := by omega
    rcases this with rfl | rfl | rfl | rfl | rfl | rfl | rfl <;> exact ⟨by decide +kernel, by decide +kernel⟩
  refine ⟨n1, n2, n3, ⟨n4.1, sz_up n4.2.1 (by decide), sz_up n4.2.2 (by decide)⟩, ?_, ?_⟩
  · rw [q]
    have := Rat.mul_nonneg s01.1 (show 0 ≤ toQ b - toQ a by grind)
    grind
  · rw [q]
    have := Rat.mul_nonneg (show 0 ≤ 1 - Rat.divInt k 6 by grind) (show 0 ≤ toQ b - toQ a by grind)
    grind
theorem moved_ok {qs : List Pt} {l : Pt} (hu : Up qs) (hf : FineAll qs) (h2 : 2 ≤ qs.length) (hl : qs.getLast? = some l) (y : Int × Int) (hy : Rd y) (hne : y ≠ l.2) :
    lineWrong ((qs.dropLast ++ [(l.1, y)]).map some) = none ∧ ∀ rs : List Pt, rs.getLast? = some l → rs ≠ bentF (qs.dropLast ++ [(l.1, y)]) := by
  obtain ⟨r, rfl⟩ := List.getLast?_eq_some_iff.mp hl
  rw [List.dropLast_concat]
  obtain ⟨u1, u2, u3⟩ := List.pairwise_append.mp hu
  have fl := hf l (List.mem_append.mpr (.inr (List.mem_singleton.mpr rfl)))
  refine ⟨line_fineU (fun x hx => ?_) (List.pairwise_append.mpr ⟨u1, List.pairwise_singleton _ _, fun a ha b hb => ?_⟩) (by rw [List.length_append] at h2 ⊢; exact h2), fun rs hr e => ?_⟩
  · rcases List.mem_append.mp hx with z | z
    · exact hf x (List.mem_append.mpr (.inl z))
    · rw [List.mem_singleton.mp z]
      exact ⟨fl.1, hy⟩
  · rw [List.mem_singleton.mp hb]
    exact u3 a ha l (List.mem_singleton.mpr rfl)
  · obtain ⟨_, _, e3⟩ := bent_ends (ps := r ++ [(l.1, y)]) (by simp)
    rw [← e, hr, List.getLast?_concat] at e3
    exact hne (by have := Option.some.inj e3; rw [this])
theorem on_bentF {cs : List Pt} {m y : Rat} (h2 : 2 ≤ cs.length) (hf : FineAll cs) (hu : Up cs) (h : On (bentF cs) m y) : On cs m y := by
  match cs, h2 with
  | p :: q :: r, _ =>
    rw [bentF_rec (List.cons_ne_nil _ _)] at h
    exact bent_on (q :: r) hf hu h



/-! ### the law -/
section
variable {P : Program} {w : World} {K : PySem.W.Frag} {mg : Str → Option Value} {base : Heap}
/-- what no line is equal to -/
theorem odd_no (T : Tx K mg) {H : Hp} {d e : Addr} {zs : List V} (hd : H d = some (.lst zs)) (he : H e = some (.dK [])) {v : V} (hv : v ∈ ([.non, .ref d, .int 5, .ref e] : List V)) : ∃ t, TyX K H v t ∧ PySem.W.notFirst K T.Line_a t = true ∧ PySem.W.kitOne K t (.ref T.Line_a) = some false := by
  simp only [List.mem_cons, List.not_mem_nil, or_false] at hv
  rcases hv with rfl | rfl | rfl | rfl
  · exact ⟨_, .base .non, nf_ty T.Line_up_NoneType, T.Line_kt_NoneType⟩
  · exact ⟨_, .base (.lst hd), nf_ty T.Line_up_list, T.Line_kt_list⟩
  · exact ⟨_, .base (.int _), nf_ty T.Line_up_int, T.Line_kt_int⟩
  · exact ⟨_, .base (.dK he), nf_ty T.Line_up_dict, T.Line_kt_dict⟩
theorem line_ty (T : Tx K mg) {H : Hp} {v : V} {qs : List Pt} (h : LineAt T.Line_a T.Exact_a H v qs) : ∃ x dx fs, v = .ref x ∧ H x = some (.ins T.Line_a dx fs) ∧ TyX K H v (.ref T.Line_a) ∧ PySem.W.notFirst K T.Line_a (.ref T.Line_a) = true := by
  obtain ⟨x, dx, s, ys, rfl, hx, _⟩ := h
  exact ⟨x, dx, _, rfl, hx, .base (.ins hx T.Line_cl T.Line_i1 T.Line_i2 T.Line_i3 T.Line_i4), nf_own⟩
def spLaw (K : PySem.W.Frag) : Sp := fun vs H Q _ => ∃ (a : Addr) (ns : List Int), vs = [.ref a] ∧ SqL K H a (ns.map V.int) ∧ ns.length ≤ 63 ∧ ∀ H', Q (.bl true) H'
theorem ok_law (T : Tx K mg) : FnOk P w K mg base CX0 30 T.law_a T.law_d ["_law_script"] (spLaw K) := by
  refine T.law_F.ok sc_law (fun vs H Q E h => ?_) (fun cdv A outer s H vs Q E hr h => ?_)
  · obtain ⟨a, ns, rfl, _⟩ := h
    rfl
  · obtain ⟨a0, ns, rfl, hS, hl, k⟩ := h
    refine ⟨_, (pss_cons (ps_set (i := 1) sc_law.nd rfl (Or.inr rfl) (pe_call (ok_law_fresh T) (hr.mono (by decide)) rfl T.law_fresh_m T.law_fresh_F.kp T.law_fresh_b .nil pass0 (pa_cons (pv 0) pa_nil)))
  (pss_cons (ps_for PassesOwn.never rfl (pi_range1 rfl T.z_range (pa_cons pe_int pa_nil)) (pg_name (i := 2) sc_law.nd rfl (Or.inl rfl))
  (pss_cons (ps_set (i := 3) sc_law.nd rfl (Or.inl rfl) (pe_call (ok_law_course_of T) (hr.mono (by decide)) rfl T.law_course_of_m T.law_course_of_F.kp T.law_course_of_b .nil pass0 (pa_cons (pv 1) pa_nil)))
  (pss_cons (ps_set (i := 4) sc_law.nd rfl (Or.inl rfl) (pe_call (ok_law_handed T) (hr.mono (by decide)) rfl T.law_handed_m T.law_handed_F.kp T.law_handed_b .nil pass0 (pa_cons (pv 1) (pa_cons (pe_lc (g := gName 14) (tt := tYes) (te := (tCall spHanded [] E0 (tCons (tVar 1) (tCons (tLc (iTup K (tVar 14)) (gName 15) tYes (tCall (spAsNumber T.Exact_a) [] E0 (tCons (tVar 1) (tCons (tVar 15) tNil))) [15]) tNil)))) (own := [("_law_x", 14)]) rfl sc_law.nd (pi_list (pv 3)) (blkOk_by (own := [("_law_x", 14)]) (N := ["_law_script", "_law_state", "_law_turn", "_law_course", "_law_given", "_law_line", "_law_due", "_law_a", "_law_b", "_law_k", "_law_share", "_law_t", "_law_other", "_law_moved", "_law_x", "_law_y"]) (sc := defScope s_law) (by decide +kernel))
   (fun _ _ _ _ _ => pg_name (i := 14) sc_law.nd rfl (Or.inl rfl)) (fun _ _ _ _ _ => pts_nil) (fun _ _ _ _ _ => (pe_call (ok_law_handed T) (hr.mono (by decide)) rfl T.law_handed_m T.law_handed_F.kp T.law_handed_b .nil pass0 (pa_cons (pv 1) (pa_cons (pe_lc (g := gName 15) (tt := tYes) (own := [("_law_y", 15)]) rfl sc_law.nd (pi_tup (pv 14)) (blkOk_by (own := [("_law_y", 15)]) (N := ["_law_script", "_law_state", "_law_turn", "_law_course", "_law_given", "_law_line", "_law_due", "_law_a", "_law_b", "_law_k", "_law_share", "_law_t", "_law_other", "_law_moved", "_law_x", "_law_y"]) (sc := _) (by rfl))
   (fun _ _ _ _ _ => pg_name (i := 15) sc_law.nd rfl (Or.inl rfl)) (fun _ _ _ _ _ => pts_nil) (fun _ _ _ _ _ => (pe_call (ok_law_as_number T) (hr.mono (by decide)) rfl T.law_as_number_m T.law_as_number_F.kp T.law_as_number_b .nil pass0 (pa_cons (pv 1) (pa_cons (pv 15) pa_nil))))) pa_nil))))) pa_nil))))
  (pss_cons (ps_set (i := 5) sc_law.nd rfl (Or.inr rfl) (pe_make T.Line_mk (ok_Line_init T) (hr.mono (by decide)) rfl T.Line_m T.Line_init_b .nil pass0 (pa_cons (pv 4) pa_nil)))
  (pss_cons (ps_expr (pe_call (ok_law_spoil T 2 (by decide)) (hr.mono (by decide)) rfl T.law_spoil_m T.law_spoil_F.kp T.law_spoil_b .nil pass0 (pa_cons (pv 4) pa_nil)))
  (pss_cons (ps_setLc (g := gName 14) (tt := tYes) (te := (tTup (tCons (tCall (spLawPlain T.Exact_a) [] E0 (tCons (tOp (rIxT K) (tVar 14) (tC (.int 0))) tNil)) (tCons (tCall (spLawPlain T.Exact_a) [] E0 (tCons (tOp (rIxT K) (tVar 14) (tC (.int 1))) tNil)) tNil)))) (i := 6) (own := [("_law_x", 14)]) rfl sc_law.nd rfl rfl (sw_true rfl rfl rfl (by decide +kernel)) (pi_list (pe_call (ok_law_bends T) (hr.mono (by decide)) rfl T.law_bends_m T.law_bends_F.kp T.law_bends_b .nil pass0 (pa_cons (pv 3) pa_nil))) (blkOk_by (own := [("_law_x", 14)]) (N := ["_law_script", "_law_state", "_law_turn", "_law_course", "_law_given", "_law_line", "_law_due", "_law_a", "_law_b", "_law_k", "_law_share", "_law_t", "_law_other", "_law_moved", "_law_x", "_law_y"]) (sc := defScope s_law) (by decide +kernel))
   (fun _ _ _ _ _ => pg_name (i := 14) sc_law.nd rfl (Or.inl rfl)) (fun _ _ _ _ _ => pts_nil) (fun _ _ _ _ _ => (pe_tup (pa_cons (pe_call (ok_law_plain T) (hr.mono (by decide)) rfl T.law_plain_m T.law_plain_F.kp T.law_plain_b .nil pass0 (pa_cons (pe_ix ix_tup (pv 14) pe_int (fun _ _ => rfl)) pa_nil)) (pa_cons (pe_call (ok_law_plain T) (hr.mono (by decide)) rfl T.law_plain_m T.law_plain_F.kp T.law_plain_b .nil pass0 (pa_cons (pe_ix ix_tup (pv 14) pe_int (fun _ _ => rfl)) pa_nil)) pa_nil)))))
  (pss_cons (ps_if (pt_not (pt_val (pe_call (ok_law_is_told T 2) (hr.mono (by decide)) rfl T.law_is_told_m T.law_is_told_F.kp T.law_is_told_b .nil pass0 (pa_cons (pe_meth0 (pv 5) T.Line_cl T.Line_points_M (ok_Line_points T) (hr.mono (by decide)) T.Line_points_b .nil pass0) (pa_cons (pv 6) pa_nil)))))
  (pss_one (ps_ret pe_bl))
  pss_nil)
  (pss_cons (ps_expr (pe_call (ok_law_spoil T 2 (by decide)) (hr.mono (by decide)) rfl T.law_spoil_m T.law_spoil_F.kp T.law_spoil_b .nil pass0 (pa_cons (pe_meth0 (pv 5) T.Line_cl T.Line_points_M (ok_Line_points T) (hr.mono (by decide)) T.Line_points_b .nil pass0) pa_nil)))
  (pss_cons (ps_if (pt_not (pt_val (pe_call (ok_law_is_told T 2) (hr.mono (by decide)) rfl T.law_is_told_m T.law_is_told_F.kp T.law_is_told_b .nil pass0 (pa_cons (pe_meth0 (pv 5) T.Line_cl T.Line_points_M (ok_Line_points T) (hr.mono (by decide)) T.Line_points_b .nil pass0) (pa_cons (pv 6) pa_nil)))))
  (pss_one (ps_ret pe_bl))
  pss_nil)
  (pss_cons (ps_par (i := 7) (j := 8) (by rfl) sc_law.nd rfl rfl (by decide) rfl rfl (pa_cons (pe_ix ix_tup (pe_ix ix_list (pv 3) pe_int (fun _ _ => rfl)) pe_int (fun _ _ => rfl)) (pa_cons (pe_ix ix_tup (pe_ix ix_list (pv 3) (pe_un (un_neg) pe_int) (fun _ _ => rfl)) pe_int (fun _ _ => rfl)) pa_nil)) (by rfl))
  (pss_cons (ps_for PassesOwn.never rfl (pi_range1 rfl T.z_range (pa_cons pe_int pa_nil)) (pg_name (i := 9) sc_law.nd rfl (Or.inl rfl))
  (pss_cons (ps_set (i := 10) sc_law.nd rfl (Or.inl rfl) (pe_call (ok_law_frac T) (hr.mono (by decide)) rfl T.law_frac_m T.law_frac_F.kp T.law_frac_b .nil pass0 (pa_cons (pe_call (ok_law_take T) (hr.mono (by decide)) rfl T.law_take_m T.law_take_F.kp T.law_take_b .nil pass0 (pa_cons (pv 1) (pa_cons pe_int pa_nil))) (pa_cons pe_int pa_nil))))
  (pss_cons (ps_set (i := 11) sc_law.nd rfl (Or.inl rfl) (pe_call (ok_law_add T) (hr.mono (by decide)) rfl T.law_add_m T.law_add_F.kp T.law_add_b .nil pass0 (pa_cons (pv 7) (pa_cons (pe_call (ok_law_mul T) (hr.mono (by decide)) rfl T.law_mul_m T.law_mul_F.kp T.law_mul_b .nil pass0 (pa_cons (pv 10) (pa_cons (pe_call (ok_law_add T) (hr.mono (by decide)) rfl T.law_add_m T.law_add_F.kp T.law_add_b .nil pass0 (pa_cons (pv 8) (pa_cons (pe_tup (pa_cons (pe_un (un_neg) (pe_ix ix_tup (pv 7) pe_int (fun _ _ => rfl))) (pa_cons (pe_ix ix_tup (pv 7) pe_int (fun _ _ => rfl)) pa_nil))) pa_nil))) pa_nil))) pa_nil))))
  (pss_one (ps_if (pt_not (pt_val (pe_call (ok_law_is_told T 0) (hr.mono (by decide)) rfl T.law_is_told_m T.law_is_told_F.kp T.law_is_told_b .nil pass0 (pa_cons (pe_callI (pv 5) T.Line_call_O (FnOk.raw (ok_Line_call T) T.Line_call_b .nil) (hr.mono (by decide)) pass0 (pa_cons (pe_call (ok_law_as_number T) (hr.mono (by decide)) rfl T.law_as_number_m T.law_as_number_F.kp T.law_as_number_b .nil pass0 (pa_cons (pv 1) (pa_cons (pv 11) pa_nil))) pa_nil)) (pa_cons (pe_call (ok_law_plain T) (hr.mono (by decide)) rfl T.law_plain_m T.law_plain_F.kp T.law_plain_b .nil pass0 (pa_cons (pe_call (ok_law_on T) (hr.mono (by decide)) rfl T.law_on_m T.law_on_F.kp T.law_on_b .nil pass0 (pa_cons (pv 3) (pa_cons (pv 11) pa_nil))) pa_nil)) pa_nil)))))
  (pss_one (ps_ret pe_bl))
  pss_nil)))))
  (pss_cons (ps_set (i := 12) sc_law.nd rfl (Or.inl rfl) (pe_make T.Line_mk (ok_Line_init T) (hr.mono (by decide)) rfl T.Line_m T.Line_init_b .nil pass0 (pa_cons (pv 6) pa_nil)))
  (pss_cons (ps_set (i := 13) sc_law.nd rfl (Or.inl rfl) (pe_op (op_cat) (pe_lc (g := gTup K 2 (gCons (gName 14) (gCons (gName 15) gNil))) (tt := tYes) (own := [("_law_x", 14), ("_law_y", 15)]) rfl sc_law.nd (pi_list (pe_slice sl_list (pv 6) po_none (po_some (pe_un (un_neg) pe_int)))) (blkOk_by (own := [("_law_x", 14), ("_law_y", 15)]) (N := ["_law_script", "_law_state", "_law_turn", "_law_course", "_law_given", "_law_line", "_law_due", "_law_a", "_law_b", "_law_k", "_law_share", "_law_t", "_law_other", "_law_moved", "_law_x", "_law_y"]) (sc := defScope s_law) (by decide +kernel))
   (fun _ _ _ _ _ => pg_tup (by rfl) (pgs_cons (pg_name (i := 14) sc_law.nd rfl (Or.inl rfl)) (pgs_cons (pg_name (i := 15) sc_law.nd rfl (Or.inl rfl)) pgs_nil))) (fun _ _ _ _ _ => pts_nil) (fun _ _ _ _ _ => (pe_tup (pa_cons (pv 14) (pa_cons (pv 15) pa_nil))))) (pe_lst (pa_cons (pe_tup (pa_cons (pe_ix ix_tup (pe_ix ix_list (pv 6) (pe_un (un_neg) pe_int) (fun _ _ => rfl)) pe_int (fun _ _ => rfl)) (pa_cons (pe_op (op_add.or ((op_gyD T.op_add (ok_Exact_add T) (hr.mono (by decide)) T.Exact_add_b pass0).or (op_gyRadd T.op_add (ok_Exact_radd T) (hr.mono (by decide)) T.Exact_radd_b pass0))) (pe_ix ix_tup (pe_ix ix_list (pv 6) (pe_un (un_neg) pe_int) (fun _ _ => rfl)) pe_int (fun _ _ => rfl)) pe_int) pa_nil))) pa_nil))))
  (pss_one (ps_if (PW.pt (pw_or (pt_cmpR (op_gyNe T.Line_ne T.Line_eq_M.at_ T.Line_eq_M.fn T.Line_i4 (ok_Line_eq T) (hr.mono (by decide)) T.Line_eq_b pass0) (pv 5) (pv 12) (nomark _)) (pw_or (pt_cmpR (op_gyC (op := .Eq) (fun _ _ => rfl) T.Line_eq_M.at_ T.Line_eq_M.fn (ok_Line_eq T) (hr.mono (by decide)) T.Line_eq_b pass0) (pv 5) (pe_make T.Line_mk (ok_Line_init T) (hr.mono (by decide)) rfl T.Line_m T.Line_init_b .nil pass0 (pa_cons (pv 13) pa_nil)) (nomark _)) (pw_or1 (pt_val (pe_callB (cr_any rfl) (by rfl) T.z_any (by decide +kernel) (pa_cons (pe_lc (g := gName 14) (tt := tYes) (te := (tOp (rGyC K T.Line_a (spLineEq K T.Line_a T.Exact_a) E0) (tVar 5) (tVar 14))) (own := [("_law_x", 14)]) rfl sc_law.nd (pi_list (pe_lst (pa_cons pe_non (pa_cons (pv 6) (pa_cons pe_int (pa_cons pe_dnewK pa_nil)))))) (blkOk_by (own := [("_law_x", 14)]) (N := ["_law_script", "_law_state", "_law_turn", "_law_course", "_law_given", "_law_line", "_law_due", "_law_a", "_law_b", "_law_k", "_law_share", "_law_t", "_law_other", "_law_moved", "_law_x", "_law_y"]) (sc := defScope s_law) (by decide +kernel))
   (fun _ _ _ _ _ => pg_name (i := 14) sc_law.nd rfl (Or.inl rfl)) (fun _ _ _ _ _ => pts_nil) (fun _ _ _ _ _ => (pe_cmpR (op_gyC (op := .Eq) (fun _ _ => rfl) T.Line_eq_M.at_ T.Line_eq_M.fn (ok_Line_eq T) (hr.mono (by decide)) T.Line_eq_b pass0) (pv 5) (pv 14) (nomark _)))) pa_nil)))))))
  (pss_one (ps_ret pe_bl))
  pss_nil)))))))))))))))
  (pss_one (ps_ret pe_bl)))), ?_⟩
    refine ⟨_, rfl, a0, ns, rfl, hS, hl, fun st c H0 s0 hSt0 => ?_⟩
    refine ⟨5, rfl, by decide, by decide, for_range (n := 5) (fun i σ H1 => (∃ v2 v3 v4 v5 v6 v7 v8 v9 v10 v11 v12 v13 v14 v15, σ = [some (.ref a0), some (.ref st), v2, v3, v4, v5, v6, v7, v8, v9, v10, v11, v12, v13, v14, v15]) ∧ StAt H1 st c ns)
      ⟨⟨none, none, none, none, none, none, none, none, none, none, none, none, none, none, rfl⟩, hSt0⟩ ?_ (fun σ H1 _ => k H1)⟩
    rintro i σ H1 hi ⟨⟨v2, v3, v4, v5, v6, v7, v8, v9, v10, v11, v12, v13, v14, v15, rfl⟩, hSt⟩
    refine ⟨_, rfl, st, c, ns, rfl, hSt, hl, fun C H2 xs cs s2 k2 hC nC hcs hu hfi h2 h7 => ?_⟩
    have hf : ∀ s ∈ cs, Fine s.1 ∧ Fine s.2 := fun s hs => (hfi s hs).1
    have hfr : FineAll cs := fun s hs => ⟨(hf s hs).1.1, (hf s hs).2.1⟩
    have hxl := hcs.len
    -- handed on
    refine ⟨_, rfl, _, rfl, C, rfl, ⟨xs, .inl (.inl hC)⟩, fun D nD => ?_⟩
    obtain ⟨sx2, hL2⟩ := st_lst s2
    have nDst : D ≠ st := Ne.symm (ne_of_none hL2 nD)
    have nDc : c ≠ D := ne_of_none s2.2.1 nD
    have nDC : C ≠ D := ne_of_none hC nD
    have e3 := same_upd (o := .lst []) nD
    have s3 := s2.same e3
    have hC3 := e3 _ _ hC
    have hcs3 := hcs.same e3
    have hD3 := upd_same (H := H2) (a := D) (o := .lst [])
    have hL3 := e3 _ _ hL2
    have hst0 : (upd H2 D (.lst [])) st ≠ none := fun z => by rw [hL3] at z; cases z
    refine lc_it (walk_list (K := K) (a := C) (xs := xs)) (fun j H' => StAt H' st c ns ∧ Keep st H2 H' ∧ ∃ us, H' D = some (.lst us) ∧ PtsAt T.Exact_a (upd H2 D (.lst [])) H' us (cs.take j)) ⟨s3, Same.keep e3, [], hD3, ⟨by rw [List.take_zero]; rfl, fun i u s h => by simp at h⟩⟩ (fun j H' _ e => .inl (.inl (e.2.1 _ _ hC nC))) ?_ ?_
    · rintro j z H4' H4 hj ⟨s4, k4, us, hD4, hus⟩ ⟨rfl, hz⟩
      obtain ⟨u, t, h, s, rfl, hs, eu, htt, hth⟩ := hcs.at hz
      have n4 : NL H2 H4 := NL.keep k4 s2
      have eu4 := n4 _ _ eu nofun
      have ht4 := htt.nl n4
      have hh4 := hth.nl n4
      obtain ⟨fs1, fs2⟩ := hf s (List.mem_of_getElem? hs)
      obtain ⟨sx4, hL4⟩ := st_lst s4
      refine ⟨rfl, yes_of ?_⟩
      refine ⟨_, rfl, _, rfl, u, rfl, ⟨[.ref t, .ref h], .inl (.inl eu4)⟩, fun D2 nD2 => ?_⟩
      have nust : u ≠ st := ne_of eu4 hL4 fun z => by cases z
      have nD2st : D2 ≠ st := Ne.symm (ne_of_none hL4 nD2)
      have nD2c : c ≠ D2 := ne_of_none s4.2.1 nD2
      refine lc_it (walk_tup (K := K) (a := u) (xs := [.ref t, .ref h])) (fun j H' => StAt H' st c ns ∧ Keep st H4 H' ∧ ∃ ws, H' D2 = some (.lst ws) ∧ NmAll T.Exact_a H' ws ([s.1, s.2].take j)) ⟨s4.same (same_upd nD2), Same.keep (same_upd nD2), [], upd_same, .nil⟩ (fun j H' _ e => .inl (.inl (e.2.1 _ _ eu4 nust))) ?_ ?_
      · rintro j2 z H5' H5 hj2 ⟨s5, k5, ws, hD2, hws⟩ ⟨rfl, hz2⟩
        obtain ⟨p, ep, tz, rfl, hp, fp⟩ : ∃ p, [s.1, s.2][j2]? = some p ∧ ∃ tz, z = .ref tz ∧ PairAt H5 tz p ∧ Fine p := by
          match j2, hz2 with
          | 0, hz2 => cases hz2; exact ⟨_, rfl, _, rfl, ht4.nl (NL.keep k5 s4), fs1⟩
          | 1, hz2 => cases hz2; exact ⟨_, rfl, _, rfl, hh4.nl (NL.keep k5 s4), fs2⟩
          | i + 2, hz2 => exact absurd hz2 (by simp)
        refine ⟨rfl, yes_of ?_⟩
        refine ⟨_, rfl, _, rfl, st, c, tz, ns, p, rfl, s5, hl, hp, fp.1, fp.nm, fun v H6 s6 k6 hv => ?_⟩
        have hD26 := k6 _ _ hD2 nD2st
        have kp : ∀ {G : Hp} (o : HO), Keep D2 G (upd G D2 o) := fun o b o' e n => (upd_ne n).trans e
        refine ⟨ws, hD26, ?_, st_updL s6 (Ne.symm nD2st) nD2c, fun b o e n => ?_, ws ++ [v], upd_same, ?_⟩
        · rw [hws.len]
          exact small1000 (Nat.le_trans (List.length_take_le _ _) (by have : j2 < 2 := hj2; omega))
        · rw [upd_ne (ne_of_none e nD2)]
          exact k6 _ _ (k5 b o e n) n
        · rw [List.take_succ, ep]
          exact ((hws.mono fun _ _ z => (z.keep k6 s5).keepL hD26 (kp _))).snoc (hv.keepL hD26 (kp _))
      · rintro H5 ⟨s5, k5, ws, hD2, hws⟩
        replace hws : NmAll T.Exact_a H5 ws [s.1, s.2] := hws
        refine ⟨st, c, D2, ns, ws, rfl, s5, hl, hD2, nD2st, by rw [hws.len]; exact (by decide : 2 ≤ 900), fun a H6 s6 k6 na hor => ?_⟩
        have hD46 : H6 D = some (.lst us) := k6 _ _ (k5 _ _ hD4 nDst) nDst
        have kD : Keep D H6 (upd H6 D (.lst (us ++ [.ref a]))) := fun b o' e n => (upd_ne n).trans e
        have naD : a ≠ D := fun z => by
          rw [z, k5 _ _ hD4 nDst] at na
          cases na
        have na2 : H2 a = none := keep_none k4 (keep_none k5 na fun z => by rw [z, (st_lst s5).choose_spec] at na; cases na) fun z => by rw [z, (st_lst s5).choose_spec] at na; cases na
        cases hws with
        | cons h1 r1 =>
          cases r1 with
          | cons h2 r2 =>
            cases r2
            refine ⟨us, hD46, ?_, st_updL s6 (Ne.symm nDst) nDc, fun b o e n => ?_, us ++ [.ref a], upd_same, ?_⟩
            · rw [hus.1]
              exact small1000 (Nat.le_trans (List.length_take_le _ _) (by omega))
            · rw [upd_ne (ne_of_none e nD)]
              exact k6 _ _ (k5 _ _ (k4 b o e n) n) n
            · rw [List.take_succ, hs]
              have kb : KeepB (upd H2 D (.lst [])) H4 (upd H6 D (.lst (us ++ [.ref a]))) := by
                refine ⟨fun b o e n => ?_, fun b o e n => ?_⟩
                · rw [upd_ne (fun z => by rw [z, hD4] at e; exact n _ (Option.some.inj e).symm)]
                  exact NL.keep (k5.trans k6) s4 b o e n
                · have nb : b ≠ D := fun z => by rw [z, hD3] at n; cases n
                  rw [upd_ne nb]
                  exact (k5.trans k6) b o e fun z => hst0 (by rw [← z]; exact n)
              refine (hus.keep kb).snoc ((upd_ne naD).trans na2) ?_ ((h1.keep k6 s5).keepL hD46 kD) ((h2.keep k6 s5).keepL hD46 kD)
              rw [upd_ne naD]
              exact hor
    · rintro H4 ⟨s4, k4, us, hD4, hus⟩
      rw [hxl, List.take_length] at hus
      refine ⟨st, c, D, ns, us, rfl, s4, hl, hD4, nDst, by rw [hus.1]; omega, fun g H5 s5 k5 ng hg => ?_⟩
      have hus5 := hus.keep (KeepB.of k5 s4 hst0)
      have Cne : ∀ b o, H2 b = some o → b ≠ st → b ≠ g ∧ V.ref b ∉ us := fun b o e n => by
        have e4 := k4 _ _ e n
        refine ⟨ne_of_none e4 ng, fun z => ?_⟩
        obtain ⟨i, hi⟩ := List.mem_iff_getElem?.mp z
        obtain ⟨s, hs⟩ : ∃ s, cs[i]? = some s := ⟨_, List.getElem?_eq_getElem (by rw [← hus.1]; exact (List.getElem?_eq_some_iff.mp hi).1)⟩
        obtain ⟨a, x, y, r, n0, _⟩ := hus.2 i _ s hi hs
        cases r
        rw [e3 _ _ e] at n0
        cases n0
      have usB : ∀ a, V.ref a ∈ us → H4 a ≠ none ∧ a ≠ st ∧ (upd H2 D (.lst [])) a = none := fun b z => by
        obtain ⟨i, hi⟩ := List.mem_iff_getElem?.mp z
        obtain ⟨s, hs⟩ : ∃ s, cs[i]? = some s := ⟨_, List.getElem?_eq_getElem (by rw [← hus.1]; exact (List.getElem?_eq_some_iff.mp hi).1)⟩
        obtain ⟨a, x, y, r, n0, z, _⟩ := hus.2 i _ s hi hs
        cases r
        refine ⟨fun q => ?_, fun q => ?_, n0⟩
        · rcases z with z | z <;> · rw [q] at z; cases z
        · rw [q] at n0
          exact hst0 n0
      obtain ⟨sx4, hL4⟩ := st_lst s4
      have ngst : st ≠ g := ne_of_none hL4 ng
      have stus : V.ref st ∉ us := fun z => (usB st z).2.1 rfl
      have gus : V.ref g ∉ us := fun z => (usB g z).1 ng
      obtain ⟨cg, cus⟩ := Cne c _ s2.2.1 s2.2.2
      obtain ⟨Cg, Cus⟩ := Cne C _ hC nC
      -- the line
      refine ⟨_, rfl, fun ln dl nln ndl nel => mk_lineS nln ndl nel ⟨g, rfl, hg⟩ (by rw [hus.1]; omega) (line_fineU hfr hu h2) hus.1 (fun i x s hx hs => ?_) fun H6 sa e56 nsa hln => ?_⟩
      · obtain ⟨a, y, z, rfl, _, ha, hy, hz⟩ := hus5.2 i x s hx hs
        obtain ⟨f1, f2⟩ := hf s (List.mem_of_getElem? hs)
        exact ⟨y, z, ⟨a, rfl, ha⟩, hy, hz, f1, f2⟩
      have hg6 : H6 g = some (.lst us) ∨ H6 g = some (.tup us) := hg.elim (fun z => .inl (e56 _ _ z)) fun z => .inr (e56 _ _ z)
      have kb56 : KeepB (upd H2 D (.lst [])) H5 H6 := ⟨.of e56, fun b o e _ => e56 b o e⟩
      have hus6 := hus5.keep kb56
      -- spoilt
      refine ⟨_, rfl, .ref g, depG g us, 7, rfl, given_spb T hus6 hg6 (by rw [hus.1]; exact h7) gus, by decide, fun H7 sp => ?_⟩
      have sag : sa ≠ g := fun z => by
        rw [z] at nsa
        rcases hg with q | q <;> · rw [nsa] at q; cases q
      have saus : V.ref sa ∉ us := fun z => by
        obtain ⟨i, hi⟩ := List.mem_iff_getElem?.mp z
        obtain ⟨s, hs⟩ : ∃ s, cs[i]? = some s := ⟨_, List.getElem?_eq_getElem (by rw [← hus.1]; exact (List.getElem?_eq_some_iff.mp hi).1)⟩
        obtain ⟨a, x, y, r, _, q, _⟩ := hus5.2 i _ s hi hs
        cases r
        rcases q with q | q <;> · rw [nsa] at q; cases q
      have sast : sa ≠ st := Ne.symm (ne_of_none (st_lst s5).choose_spec nsa)
      have s7 := sp.st (s5.same e56) (depG_zero ngst stus) (depG_zero cg cus)
      have hln7 := hln.nl (NL.spo sp) fun ys e => sp.still e (depG_zero sag saus)
      have hC7 : H7 C = some (.lst xs) := sp.still (e56 _ _ (k5 _ _ (k4 _ _ hC nC) nC)) (depG_zero Cg Cus)
      have hcs7 : CrAll H7 xs cs := hcs.nl ((NL.keep (k4.trans k5) s2).trans ((NL.of e56).trans (NL.spo sp)))
      clear saus sag hus6 kb56 hg6 hln e56 hus5 hus gus stus ngst cg cus Cg Cus usB Cne hg ng sp hL4 hst0
      obtain ⟨bb, b2, bm, bu, bl⟩ := bentF_two h2 hfr hu
      obtain ⟨bnil, bh, blast⟩ := bent_ends (ps := cs) (fun z => by rw [z] at h2; exact absurd h2 (by decide))
      -- what is due
      refine ⟨_, rfl, C, xs, cs, rfl, hC7, hcs7, hu, hf, h2, by omega, fun L8 H8 ys nL8 e78 hL8 hbs => ⟨L8, rfl, ⟨ys, .inl (.inl hL8)⟩, fun D3 nD3 => ?_⟩⟩
      refine lc_it (walk_list (K := K) (a := L8) (xs := ys)) (fun j H' => Same H8 H' ∧ ∃ zs, H' D3 = some (.lst zs) ∧ SpAll T.Exact_a H' zs ((bentF cs).take j)) ⟨same_upd nD3, [], upd_same, by rw [List.take_zero]; exact .nil⟩ (fun j H' _ e => .inl (.inl (e.1 _ _ hL8))) ?_ ?_
      · rintro j v H90 H9 hj ⟨e9, zs, eD, hzs⟩ ⟨rfl, hv⟩
        obtain ⟨u, t, h, s, rfl, hs, eu, htt, hth⟩ := hbs.at hv
        obtain ⟨fs1, fs2⟩ := hf s (bm s (List.mem_of_getElem? hs))
        refine ⟨rfl, yes_of ?_⟩
        have eu9 := e9 _ _ eu
        refine ⟨_, rfl, u, _, 0, _, rfl, rfl, .inl (.inl eu9), rfl, t, s.1, rfl, htt.same e9, fs1.1, sz_up fs1.nm.2.2 (by decide), fun x1 H10 e10 hx => ?_⟩
        refine ⟨_, rfl, u, _, 1, _, rfl, rfl, .inl (.inl (e10 _ _ eu9)), rfl, h, s.2, rfl, (hth.same e9).same e10, fs2.1, sz_up fs2.nm.2.2 (by decide), fun y1 H11 e11 hy => ⟨(by show 2 ≤ sizeLine; decide), fun tp ntp => ?_⟩⟩
        have e12 : Same H11 (upd H11 tp (.tup [x1, y1])) := same_upd ntp
        have htp : (upd H11 tp (.tup [x1, y1])) tp = some (.tup [x1, y1]) := upd_same
        generalize upd H11 tp (.tup [x1, y1]) = H12 at e12 htp ⊢
        have spot : SpotAt T.Exact_a H12 (.ref tp) s := ⟨⟨tp, x1, y1, rfl, htp, (hx.same e11).same e12, hy.same e12⟩, fs1, fs2⟩
        have e912 := (e10.trans e11).trans e12
        have eD12 := e912 _ _ eD
        have kp : ∀ o, Keep D3 H12 (upd H12 D3 o) := fun o b o' e n => (upd_ne n).trans e
        refine ⟨zs, eD12, ?_, fun b o e => ?_, zs ++ [.ref tp], upd_same, ?_⟩
        · rw [hzs.len]
          exact small1000 (Nat.le_trans (List.length_take_le _ _) (by have := hbs.len; omega))
        · rw [upd_ne (ne_of_none e nD3)]
          exact e912 _ _ (e9 _ _ e)
        · rw [List.take_succ, hs]
          exact ((hzs.same e912).keepL eD12 (kp _)).snoc (spot.keepL eD12 (kp _))
      · rintro H9 ⟨e9, zs, eD, hzs⟩
        rw [hbs.len, List.take_length] at hzs
        have e79 := e78.trans e9
        have nD3st : D3 ≠ st := Ne.symm (ne_of_none (st_lst (s7.same e78)).choose_spec nD3)
        have hln9 : LineS T.Line_a T.Exact_a H9 (.ref ln) sa (bentF cs) := hln7.nl (.of e79) fun ys e => e79 _ _ e
        have s9 := s7.same e79
        have hC9 := e79 _ _ hC7
        have hcs9 := hcs7.same e79
        clear hln7 s7 hC7 hcs7 hbs hL8 e78 e79 e9
        have hzl := hzs.len
        have hla : ∀ {H : Hp}, LineS T.Line_a T.Exact_a H (.ref ln) sa (bentF cs) → ∃ dx, H ln = some (.ins T.Line_a dx [(("spots" : Str), .ref sa)]) := fun h => by
          obtain ⟨a, dx, ss, r, hx, _⟩ := h
          cases r
          exact ⟨dx, hx⟩
        obtain ⟨dx9, hx9⟩ := hla hln9
        -- told
        refine ⟨_, rfl, ln, dx9, _, rfl, hx9, rfl, _, bentF cs, rfl, hln9.at, by omega, fun M1 H10 y1 nM1 e10 hM1 hy1 => ?_⟩
        refine ⟨_, rfl, _, _, dtPts (bentF cs), rfl, pts_dt hy1 hM1 (by rw [hy1.len]; omega), pts_dt (hzs.same e10) (e10 _ _ eD) (by omega), pts_dep _, fun H11 e11 => ⟨_, rfl, iteF ?_⟩⟩
        have e911 := e10.trans e11
        have hln11 : LineS T.Line_a T.Exact_a H11 (.ref ln) sa (bentF cs) := hln9.nl (.of e911) fun ys e => e911 _ _ e
        -- spoilt
        refine ⟨_, rfl, ln, dx9, _, rfl, e911 _ _ hx9, rfl, _, bentF cs, rfl, hln11.at, by omega, fun M2 H12 y2 nM2 e12 hM2 hy2 => ?_⟩
        refine ⟨.ref M2, depG M2 [], 7, rfl, told_spb T hy2 hM2 (by rw [hy2.len]; omega), by decide, fun H13 sp => ?_⟩
        have e1113 : Same H11 H13 := fun b o e => sp.still (e12 _ _ e) (depG_zero (ne_of_none e nM2) (by simp))
        have e913 := e911.trans e1113
        have hln13 : LineS T.Line_a T.Exact_a H13 (.ref ln) sa (bentF cs) := hln9.nl (.of e913) fun ys e => e913 _ _ e
        -- told again
        refine ⟨_, rfl, ln, dx9, _, rfl, e913 _ _ hx9, rfl, _, bentF cs, rfl, hln13.at, by omega, fun M3 H14 y3 nM3 e14 hM3 hy3 => ?_⟩
        refine ⟨_, rfl, _, _, dtPts (bentF cs), rfl, pts_dt hy3 hM3 (by rw [hy3.len]; omega), pts_dt (hzs.same (e913.trans e14)) ((e913.trans e14) _ _ eD) (by omega), pts_dep _, fun H15 e15 => ⟨_, rfl, iteF ?_⟩⟩
        have e915 := (e913.trans e14).trans e15
        have hln15 : LineS T.Line_a T.Exact_a H15 (.ref ln) sa (bentF cs) := hln9.nl (.of e915) fun ys e => e915 _ _ e
        have s15 := s9.same e915
        have hC15 := e915 _ _ hC9
        have hcs15 := hcs9.same e915
        have eD15 := e915 _ _ eD
        have hzs15 := hzs.same e915
        clear hzs eD hcs9 hC9 s9 hln9 hln11 hln13 e1113 sp e911 e913 e10 e11 e12 e14 e15 hy1 hM1 hy2 hM2 hy3 hM3 hx9 hla e915
        -- its ends
        obtain ⟨c0, hc0⟩ : ∃ q, cs[0]? = some q := ⟨_, List.getElem?_eq_getElem (by omega)⟩
        obtain ⟨c1, hc1⟩ : ∃ q, cs[cs.length - 1]? = some q := ⟨_, List.getElem?_eq_getElem (by omega)⟩
        obtain ⟨w0, hw0, u0, ta, ya, rfl, eu0, hta, _⟩ := hcs15.get hc0
        obtain ⟨w1, hw1, u1, tb, yb, rfl, eu1, htb, _⟩ := hcs15.get hc1
        have hl1 : atI xs (-1) = some (.ref u1) := atI_m1 (by rw [List.getLast?_eq_getElem?, hxl]; exact hw1)
        refine ⟨_, rfl, C, xs, 0, _, rfl, rfl, .inl (.inl hC15), atI_nat (j := 0) hw0, u0, _, 0, _, rfl, rfl, .inl (.inl eu0), rfl, ?_⟩
        refine ⟨_, rfl, _, rfl, C, xs, -1, _, rfl, rfl, .inl (.inl hC15), hl1, u1, _, 0, _, rfl, rfl, .inl (.inl eu1), rfl, _, _, rfl, ?_⟩
        have hab : toQ c0.1 < toQ c1.1 := up_at hu (by omega) hc0 hc1
        have ty0 := (hfi c0 (List.mem_of_getElem? hc0)).2.1
        have ty1 := (hfi c1 (List.mem_of_getElem? hc1)).2.1
        have pos : ∀ {x y : Int × Int}, Rd x → Rd y → x.2 * y.2 ≠ 0 := fun hx hy => Int.ne_of_gt (Int.mul_pos hx.1 hy.1)
        have hd0 : (cs.head? = some c0) := by rw [List.head?_eq_getElem?]; exact hc0
        have hdl : (cs.getLast? = some c1) := by rw [List.getLast?_eq_getElem?]; exact hc1
        refine ⟨5, rfl, by decide, by decide, for_range (n := 5) (fun _ σ H' => (∃ x9 x10 x11, σ = [some (.ref a0), some (.ref st), some (.int (0 + (i : Nat))), some (.ref C), some (.ref g), some (.ref ln), some (.ref D3), some (.ref ta), some (.ref tb), x9, x10, x11, v12, v13, v14, v15]) ∧ StAt H' st c ns ∧ Keep st H15 H')
          ⟨⟨v9, v10, v11, rfl⟩, s15, Keep.refl _ _⟩ ?_ ?_⟩
        · rintro j σ G1 hj ⟨⟨x9, x10, x11, rfl⟩, sG1, kG1⟩
          refine ⟨_, rfl, st, c, ns, 7, rfl, sG1, hl, by decide, sz_up (by decide : (7 : Int).natAbs < 2 ^ 3) (by decide), fun r G2 r0 r1 sG2 kG2 => ?_⟩
          obtain ⟨m1, m2, m3, m4, m5, m6⟩ := moment_ok ty0 ty1 hab r0 r1
          refine ⟨r, 6, rfl, by decide, sz_up (by decide : (6 : Int).natAbs < 2 ^ 3) (by decide), fun u10 G3 q3 h10 => ?_⟩
          have n3 : NL H15 G3 := (NL.keep (kG1.trans kG2) s15).trans (.of q3)
          have hta3 := hta.nl n3
          have htb3 := htb.nl n3
          refine ⟨_, rfl, _, rfl, _, rfl, _, rfl, ta, _, _, _, rfl, rfl, .inl (.inl hta3), rfl, _, rfl, _, rfl, ta, _, _, _, rfl, rfl, .inl (.inl hta3), rfl, (by show 2 ≤ sizeLine; decide), fun n1 nn1 => ?_⟩
          have q4 : Same G3 (upd G3 n1 (.tup [.int (-c0.1.1), .int c0.1.2])) := same_upd nn1
          have hn1 : (upd G3 n1 (.tup [.int (-c0.1.1), .int c0.1.2])) n1 = some (.tup [.int (-c0.1.1), .int c0.1.2]) := upd_same
          generalize upd G3 n1 (.tup [.int (-c0.1.1), .int c0.1.2]) = G4 at q4 hn1 ⊢
          have nm0 := ty0.nm (by decide)
          have nm1 := ty1.nm (by decide)
          refine ⟨tb, n1, c1.1, (-c0.1.1, c0.1.2), rfl, htb3.same q4, hn1, nm1.2.1, nm1.2.2, by rw [Int.natAbs_neg]; exact nm0.2.1, nm0.2.2, (by show c1.1.2 * c0.1.2 ≠ 0; exact pos ty1.1 ty0.1), fun o1 G5 q5 ho1 => ?_⟩
          rw [fAdd_ng] at ho1
          have q35 := q4.trans q5
          have nr := m1.nm (by decide)
          have nd := m2.nm (by decide)
          refine ⟨u10, o1, red r 6, subR c1.1 c0.1, rfl, h10.same q35, ho1, nr.2.1, nr.2.2, nd.2.1, nd.2.2, pos m1.1 m2.1, fun o2 G6 q6 ho2 => ?_⟩
          have nm := m3.nm (by decide)
          have q36 := q35.trans q6
          refine ⟨ta, o2, c0.1, mulR (red r 6) (subR c1.1 c0.1), rfl, hta3.same q36, ho2, nm0.2.1, nm0.2.2, nm.2.1, nm.2.2, pos ty0.1 m3.1, fun o3 G7 q7 ho3 => ?_⟩
          change PairAt G7 o3 (addR c0.1 (mulR (red r 6) (subR c1.1 c0.1))) at ho3
          generalize addR c0.1 (mulR (red r 6) (subR c1.1 c0.1)) = p at m4 m5 m6 ho3
          have q37 := q36.trans q7
          have sG7 := (sG2.same q3).same q37
          have kG7 : Keep st H15 G7 := (kG1.trans kG2).trans (Same.keep (q3.trans q37))
          clear m1 m2 m3 nr nd nm nm0 nm1 hta3 htb3 ho1 ho2 h10 hn1
          -- the height there
          refine ⟨_, rfl, ln, rfl, _, rfl, _, rfl, st, c, o3, ns, p, rfl, sG7, hl, ho3, m4.1, m4.nm, fun m G8 sG8 kG8 hm => ?_⟩
          have kG := kG7.trans kG8
          have n8 : NL H15 G8 := NL.keep kG s15
          have hln8 : LineS T.Line_a T.Exact_a G8 (.ref ln) sa (bentF cs) := hln15.nl n8 fun ys e => kG _ _ e sast
          have hx8 : ∃ dx, G8 ln = some (.ins T.Line_a dx [(("spots" : Str), .ref sa)]) := by
            obtain ⟨a, dx, ss, r, hx, _⟩ := hln8
            cases r
            exact ⟨dx, hx⟩
          obtain ⟨dx8, hx8⟩ := hx8
          refine ⟨.inr ⟨dx8, _, hx8⟩, .ref ln, m, bentF cs, p, rfl, hln8.at, bu, b2, by omega, hm, m4, ⟨c0, bh.trans hd0, m5⟩, ⟨c1, blast.trans hdl, m6⟩, fun v G9 y q9 hv rdy on1 => ?_⟩
          have kG9 := kG.trans (Same.keep q9)
          refine ⟨_, rfl, _, rfl, C, o3, xs, cs, p, rfl, kG9 _ _ hC15 nC, hcs15.nl (NL.keep kG9 s15), hu, hf, h2, by omega, (ho3.nl (NL.keep kG8 sG7)).same q9, m4, ⟨c0, hd0, m5⟩, ⟨c1, hdl, m6⟩, fun u G10 y2 q10 hu2 nz on2 => ?_⟩
          refine ⟨u, y2, rfl, hu2, nz.1, sz_up nz.2.2 (by decide), fun v2 G11 q11 hv2 => ?_⟩
          have ey : y = y2 := toQ_inj rdy nz.1 (on_uniq hu (on_bentF h2 hfr hu on1) on2)
          subst ey
          have q911 := q10.trans q11
          refine ⟨v, v2, dtT y, rfl, (hv.same q911).dt, hv2.dt, dtT_dep _, fun G12 q12 => ⟨_, rfl, iteF ?_⟩⟩
          have q912 := q911.trans q12
          exact ⟨⟨_, _, _, rfl⟩, (sG8.same q9).same q912, kG9.trans (Same.keep q912)⟩
        · rintro σ G1 ⟨⟨x9, x10, x11, rfl⟩, sG1, kG1⟩
          have n1 : NL H15 G1 := NL.keep kG1 s15
          have hln1 : LineS T.Line_a T.Exact_a G1 (.ref ln) sa (bentF cs) := hln15.nl n1 fun ys e => kG1 _ _ e sast
          have eD1 := kG1 _ _ eD15 nD3st
          have hzs1 := hzs15.nl n1
          have bf : FineAll (bentF cs) := fun s hs => hfr s (bm s hs)
          have hfb : ∀ s ∈ bentF cs, (Fine s.1 ∧ Fine s.2) ∧ Tiny s.1 ∧ Tiny s.2 := fun s hs => hfi s (bm s hs)
          have blast1 := blast.trans hdl
          clear hln15 eD15 hzs15 hta htb eu0 eu1 hC15 hcs15 s15 kG1 n1 nC hC hw0 hw1 hl1 bh hd0 sast nD3st
          -- another line
          refine ⟨_, rfl, fun l2 d2 nl2 nd2 ne2 => mk_line (ps := bentF cs) nl2 nd2 ne2 ⟨D3, rfl, .inl eD1⟩ (by omega) (line_fineU bf bu b2) hzs1.len hzs1.pn.hit fun G2 q2 hl2 => ?_⟩
          rw [bb] at hl2
          -- a line moved
          refine ⟨_, rfl, _, rfl, _, rfl, D3, zs, rfl, .inl (.inl (q2 _ _ eD1)), fun s1 ns1 => ?_⟩
          dsimp only
          rw [show cutV zs none (some (-1)) = zs.dropLast from cutV_front zs]
          have q3 : Same G2 (upd G2 s1 (.lst zs.dropLast)) := same_upd ns1
          have hs1 : (upd G2 s1 (.lst zs.dropLast)) s1 = some (.lst zs.dropLast) := upd_same
          generalize upd G2 s1 (.lst zs.dropLast) = G3 at q3 hs1 ⊢
          have hfz : SpAll T.Exact_a G3 zs.dropLast (bentF cs).dropLast := ((hzs1.same q2).same q3).front
          have hfl := hfz.len
          have hdn : (bentF cs).dropLast.length ≤ 7 := by rw [List.length_dropLast]; omega
          refine ⟨s1, rfl, ⟨zs.dropLast, .inl (.inl hs1)⟩, fun D4 nD4 => ?_⟩
          refine lc_it (walk_list (K := K) (a := s1) (xs := zs.dropLast)) (fun j H' => Same G3 H' ∧ ∃ us, H' D4 = some (.lst us) ∧ SpAll T.Exact_a H' us ((bentF cs).dropLast.take j)) ⟨same_upd nD4, [], upd_same, by rw [List.take_zero]; exact .nil⟩ (fun j H' _ e => .inl (.inl (e.1 _ _ hs1))) ?_ ?_
          · rintro j v G9 G4 hj ⟨e4, us, eD4, hus⟩ ⟨rfl, hv⟩
            obtain ⟨s, hs, ⟨tp, x, y, rfl, htp, hx, hy⟩, fs1, fs2⟩ := hfz.at hv
            have htp4 := e4 _ _ htp
            refine ⟨tp, [x, y], rfl, .inl (.inl htp4), rfl, _, _, rfl, _, _, rfl, rfl, rfl, yes_of ⟨_, rfl, _, rfl, (by show 2 ≤ sizeLine; decide), fun t2 nt2 => ?_⟩⟩
            have q5 : Same G4 (upd G4 t2 (.tup [x, y])) := same_upd nt2
            have ht2 : (upd G4 t2 (.tup [x, y])) t2 = some (.tup [x, y]) := upd_same
            generalize upd G4 t2 (.tup [x, y]) = G5 at q5 ht2 ⊢
            have e45 := e4.trans q5
            have spot : SpotAt T.Exact_a G5 (.ref t2) s := ⟨⟨t2, x, y, rfl, ht2, hx.same e45, hy.same e45⟩, fs1, fs2⟩
            have eD5 := q5 _ _ eD4
            have kp : ∀ o, Keep D4 G5 (upd G5 D4 o) := fun o b o' e n => (upd_ne n).trans e
            refine ⟨us, eD5, ?_, fun b o e => ?_, us ++ [.ref t2], upd_same, ?_⟩
            · rw [hus.len]
              exact small1000 (Nat.le_trans (List.length_take_le _ _) (by omega))
            · rw [upd_ne (ne_of_none e nD4)]
              exact e45 _ _ e
            · rw [List.take_succ, hs]
              exact ((hus.same q5).keepL eD5 (kp _)).snoc (spot.keepL eD5 (kp _))
          · rintro G4 ⟨e4, us, eD4, hus⟩
            rw [hfl, List.take_length] at hus
            have hul := hus.len
            have q24 := q3.trans e4
            have eD14 := q24 _ _ (q2 _ _ eD1)
            -- the last one
            obtain ⟨tl, xl, yl, hlz, htl, hxl2, hyl⟩ : ∃ t x y, atI zs (-1) = some (.ref t) ∧ G4 t = some (.tup [x, y]) ∧ NumAt T.Exact_a G4 x c1.1 ∧ NumAt T.Exact_a G4 y c1.2 := by
              obtain ⟨v, hv⟩ : ∃ v, zs[zs.length - 1]? = some v := ⟨_, List.getElem?_eq_getElem (by omega)⟩
              obtain ⟨s, hs, ⟨t, x, y, rfl, ht, hx, hy⟩, _⟩ := ((hzs1.same q2).same q24).at hv
              rw [hzl, ← List.getLast?_eq_getElem?, blast1] at hs
              cases hs
              exact ⟨t, x, y, atI_m1 (by rw [List.getLast?_eq_getElem?]; exact hv), ht, hx.num, hy.num⟩
            obtain ⟨⟨f1, f2⟩, tn1, tn2⟩ := hfb c1 (List.mem_of_getLast? blast1)
            have n11 : Nz 2 ((1, 1) : Int × Int) := ⟨rd_int 1, by decide, by decide⟩
            have nz := nz_add tn2 n11
            refine ⟨_, rfl, _, rfl, D3, zs, -1, _, rfl, rfl, .inl (.inl eD14), hlz, tl, _, 0, _, rfl, rfl, .inl (.inl htl), rfl, ?_⟩
            refine ⟨_, rfl, _, rfl, D3, zs, -1, _, rfl, rfl, .inl (.inl eD14), hlz, tl, _, 1, _, rfl, rfl, .inl (.inl htl), rfl, n_add hyl (.inl ⟨rfl, rfl⟩) f2.nm (n11.nm (by decide)) fun y1 G5 q5 hy1 => ?_⟩
            change NumAt T.Exact_a G5 y1 (addR c1.2 (1, 1)) at hy1
            have hne : addR c1.2 (1, 1) ≠ c1.2 := fun z => by
              have := toQ_add f2.1 n11.1
              rw [z] at this
              have e1 : toQ ((1, 1) : Int × Int) = 1 := by decide +kernel
              rw [e1] at this
              grind
            refine ⟨(by show 2 ≤ sizeLine; decide), fun t3 nt3 => ?_⟩
            have q6 : Same G5 (upd G5 t3 (.tup [xl, y1])) := same_upd nt3
            have ht3 : (upd G5 t3 (.tup [xl, y1])) t3 = some (.tup [xl, y1]) := upd_same
            generalize upd G5 t3 (.tup [xl, y1]) = G6 at q6 ht3 ⊢
            refine ⟨(by show 1 ≤ sizeLine; decide), fun w3 nw3 => ?_⟩
            have q7 : Same G6 (upd G6 w3 (.lst [.ref t3])) := same_upd nw3
            have hw3 : (upd G6 w3 (.lst [.ref t3])) w3 = some (.lst [.ref t3]) := upd_same
            generalize upd G6 w3 (.lst [.ref t3]) = G7 at q7 hw3 ⊢
            have q47 := (q5.trans q6).trans q7
            refine ⟨D4, w3, _, _, rfl, rfl, q47 _ _ eD4, hw3, len_ok' (by show _ + 1 ≤ 1000; omega), fun c3 nc3 => ?_⟩
            have q8 : Same G7 (upd G7 c3 (.lst (us ++ [.ref t3]))) := same_upd nc3
            have hc3 : (upd G7 c3 (.lst (us ++ [.ref t3]))) c3 = some (.lst (us ++ [.ref t3])) := upd_same
            generalize upd G7 c3 (.lst (us ++ [.ref t3])) = G8 at q8 hc3 ⊢
            have q48 := q47.trans q8
            have pn1 : PnAll T.Exact_a G8 (us ++ [.ref t3]) ((bentF cs).dropLast ++ [(c1.1, addR c1.2 (1, 1))]) := (hus.same q48).pn.app (.cons ⟨xl, y1, ⟨t3, rfl, .inr ((q7.trans q8) _ _ ht3)⟩, hxl2.same q48, hy1.same ((q6.trans q7).trans q8), f1, ⟨nz.1, sz_up nz.2.1 (by decide), sz_up nz.2.2 (by decide)⟩⟩ .nil)
            obtain ⟨mw, mne⟩ := moved_ok bu bf b2 blast1 (addR c1.2 (1, 1)) nz.1 hne
            have q28 := q24.trans q48
            have hln8 := (hln1.at.same q2).same q28
            have hl28 := hl2.same q28
            obtain ⟨a5, d5, f5, r5, h5, ty5, nf5⟩ := line_ty T hln8
            cases r5
            obtain ⟨a6, d6, f6, r6, h6, ty6, nf6⟩ := line_ty T hl28
            cases r6
            refine ⟨_, rfl, _, rfl, ln, d5, f5, _, rfl, h5, ty6, nf6, .ref ln, .ref l2, bentF cs, rfl, hln8, .inl ⟨bentF cs, hl28, fun G9 q9 => ⟨_, rfl, _, rfl, ?_⟩⟩⟩
            rw [decide_eq_true rfl]
            refine iteF ?_
            refine ⟨_, rfl, _, rfl, fun l3 d3 nl3 nd3 ne3 => mk_line (ps := (bentF cs).dropLast ++ [(c1.1, addR c1.2 (1, 1))]) nl3 nd3 ne3 ⟨c3, rfl, .inl (q9 _ _ hc3)⟩ (by rw [pn1.len, List.length_append, List.length_dropLast]; show _ + 1 ≤ 900; omega) mw pn1.len (fun i x s a b => ((pn1.hit i x s a b).same q9)) fun G10 q10 hl3 => ?_⟩
            have q810 := q9.trans q10
            obtain ⟨a7, d7, f7, r7, h7', ty7, nf7⟩ := line_ty T hl3
            cases r7
            refine ⟨ln, d5, f5, _, rfl, q810 _ _ h5, ty7, nf7, .ref ln, .ref l3, bentF cs, rfl, hln8.same q810, .inl ⟨_, hl3, fun G11 q11 => ⟨_, rfl, ?_⟩⟩⟩
            rw [decide_eq_false (mne _ blast1)]
            refine iteF ?_
            have q811 := q810.trans q11
            refine ⟨_, rfl, fun e1 ne1 => ?_⟩
            have q12 : Same G11 (upd G11 e1 (.dK [])) := same_upd ne1
            have he1 : (upd G11 e1 (.dK [])) e1 = some (.dK []) := upd_same
            generalize upd G11 e1 (.dK []) = G12 at q12 he1 ⊢
            refine ⟨(by show 4 ≤ sizeLine; decide), fun m1 nm1 => ?_⟩
            have q13 : Same G12 (upd G12 m1 (.lst [.non, .ref D3, .int 5, .ref e1])) := same_upd nm1
            have hm1 : (upd G12 m1 (.lst [.non, .ref D3, .int 5, .ref e1])) m1 = some (.lst [.non, .ref D3, .int 5, .ref e1]) := upd_same
            generalize upd G12 m1 (.lst [.non, .ref D3, .int 5, .ref e1]) = G13 at q13 hm1 ⊢
            refine ⟨m1, rfl, ⟨[.non, .ref D3, .int 5, .ref e1], .inl (.inl hm1)⟩, fun D5 nD5 => ?_⟩
            have q813 := (q811.trans q12).trans q13
            have eD13 : G13 D3 = some (.lst zs) := q813 _ _ (q48 _ _ eD14)
            have he13 := q13 _ _ he1
            refine lc_it (walk_list (K := K) (a := m1) (xs := [.non, .ref D3, .int 5, .ref e1])) (fun j H' => Same G13 H' ∧ H' D5 = some (.lst (List.replicate j (.bl false)))) ⟨same_upd nD5, upd_same⟩ (fun j H' _ e => .inl (.inl (e.1 _ _ hm1))) ?_ ?_
            · rintro j v G14 G15 hj ⟨e15, eD5⟩ ⟨rfl, hv⟩
              have q815 := q813.trans e15
              obtain ⟨ty, t1, t2, t3⟩ := odd_no T (e15 _ _ eD13) (e15 _ _ he13) (List.mem_of_getElem? hv)
              refine ⟨rfl, yes_of ?_⟩
              refine ⟨_, rfl, _, rfl, ln, d5, f5, ty, rfl, q815 _ _ h5, t1, t2, .ref ln, v, bentF cs, rfl, hln8.same q815, .inr ⟨⟨ty, t1, t3⟩, ?_⟩⟩
              refine ⟨_, eD5, ?_, fun b o e => ?_, ?_⟩
              · rw [List.length_replicate]
                exact small1000 (Nat.le_trans (Nat.le_of_lt hj) (by show 4 ≤ 1000; decide))
              · rw [upd_ne (ne_of_none e nD5)]
                exact e15 _ _ e
              · rw [upd_same, List.replicate_succ']
            · rintro G15 ⟨e15, eD5⟩
              refine ⟨D5, [false, false, false, false], rfl, .inl (.inl eD5), _, rfl, ?_⟩
              refine iteF ?_
              exact ⟨⟨_, _, _, _, _, _, _, _, _, _, _, _, _, _, rfl⟩, (((sG1.same q2).same q28).same (q813.trans e15))⟩
end



theorem all_mk {l : PySem.W.OpenLaw} {w : World} {K : PySem.W.Frag} {h : Heap} {mg : Str → Option Value} {fa : Addr} (X : K.In h) (G : h.Ns mainGlobals mg) (hfa : mg "law" = some (.ref fa))
    {LevelError_a BadPoint_a BadMoment_a Exact_a Line_a BadPoint_init_a BadMoment_init_a is_whole_a is_list_a Exact_init_a Exact_add_a Exact_radd_a Exact_sub_a Exact_rsub_a Exact_mul_a Exact_rmul_a Exact_neg_a Exact_eq_a Exact_lt_a Exact_le_a Exact_gt_a Exact_ge_a divisor_a is_number_a parts_a plain_a quotient_a copied_a Line_init_a Line_call_a Line_eq_a Line_points_a checked_points_a is_point_a bent_a is_straight_a heights_at_a height_between_a law_fresh_a law_fill_a law_take_a law_handed_a law_same_a law_spoil_a law_gcd_a law_frac_a law_add_a law_mul_a law_less_a law_as_number_a law_plain_a law_is_told_a law_on_a law_course_of_a law_bends_a law_a : Addr}
    {od_BadPoint_init an_BadPoint_init od_BadMoment_init an_BadMoment_init od_is_whole an_is_whole od_is_list an_is_list od_Exact_init an_Exact_init od_Exact_add an_Exact_add od_Exact_radd an_Exact_radd od_Exact_sub an_Exact_sub od_Exact_rsub an_Exact_rsub od_Exact_mul an_Exact_mul od_Exact_rmul an_Exact_rmul od_Exact_neg an_Exact_neg od_Exact_eq an_Exact_eq od_Exact_lt an_Exact_lt od_Exact_le an_Exact_le od_Exact_gt an_Exact_gt od_Exact_ge an_Exact_ge od_divisor an_divisor od_is_number an_is_number od_parts an_parts od_plain an_plain od_quotient an_quotient od_copied an_copied od_Line_init an_Line_init od_Line_call an_Line_call od_Line_eq an_Line_eq od_Line_points an_Line_points od_checked_points an_checked_points od_is_point an_is_point od_bent an_bent od_is_straight an_is_straight od_heights_at an_heights_at od_height_between an_height_between od_law_fresh an_law_fresh od_law_fill an_law_fill od_law_take an_law_take od_law_handed an_law_handed od_law_same an_law_same od_law_spoil an_law_spoil od_law_gcd an_law_gcd od_law_frac an_law_frac od_law_add an_law_add od_law_mul an_law_mul od_law_less an_law_less od_law_as_number an_law_as_number od_law_plain an_law_plain od_law_is_told an_law_is_told od_law_on an_law_on od_law_course_of an_law_course_of od_law_bends an_law_bends od_law an_law : Option Addr}
    {sl_BadPoint_init sl_BadMoment_init sl_is_whole sl_is_list sl_Exact_init sl_Exact_add sl_Exact_radd sl_Exact_sub sl_Exact_rsub sl_Exact_mul sl_Exact_rmul sl_Exact_neg sl_Exact_eq sl_Exact_lt sl_Exact_le sl_Exact_gt sl_Exact_ge sl_divisor sl_is_number sl_parts sl_plain sl_quotient sl_copied sl_Line_init sl_Line_call sl_Line_eq sl_Line_points sl_checked_points sl_is_point sl_bent sl_is_straight sl_heights_at sl_height_between sl_law_fresh sl_law_fill sl_law_take sl_law_handed sl_law_same sl_law_spoil sl_law_gcd sl_law_frac sl_law_add sl_law_mul sl_law_less sl_law_as_number sl_law_plain sl_law_is_told sl_law_on sl_law_course_of sl_law_bends sl_law : Array (Option Value)}
    {oc_BadPoint_init kV_BadPoint_init dc_BadPoint_init pm_BadPoint_init cd_BadPoint_init ct_BadPoint_init oc_BadMoment_init kV_BadMoment_init dc_BadMoment_init pm_BadMoment_init cd_BadMoment_init ct_BadMoment_init oc_is_whole kV_is_whole dc_is_whole pm_is_whole cd_is_whole ct_is_whole oc_is_list kV_is_list dc_is_list pm_is_list cd_is_list ct_is_list oc_Exact_init kV_Exact_init dc_Exact_init pm_Exact_init cd_Exact_init ct_Exact_init oc_Exact_add kV_Exact_add dc_Exact_add pm_Exact_add cd_Exact_add ct_Exact_add oc_Exact_radd kV_Exact_radd dc_Exact_radd pm_Exact_radd cd_Exact_radd ct_Exact_radd oc_Exact_sub kV_Exact_sub dc_Exact_sub pm_Exact_sub cd_Exact_sub ct_Exact_sub oc_Exact_rsub kV_Exact_rsub dc_Exact_rsub pm_Exact_rsub cd_Exact_rsub ct_Exact_rsub oc_Exact_mul kV_Exact_mul dc_Exact_mul pm_Exact_mul cd_Exact_mul ct_Exact_mul oc_Exact_rmul kV_Exact_rmul dc_Exact_rmul pm_Exact_rmul cd_Exact_rmul ct_Exact_rmul oc_Exact_neg kV_Exact_neg dc_Exact_neg pm_Exact_neg cd_Exact_neg ct_Exact_neg oc_Exact_eq kV_Exact_eq dc_Exact_eq pm_Exact_eq cd_Exact_eq ct_Exact_eq oc_Exact_lt kV_Exact_lt dc_Exact_lt pm_Exact_lt cd_Exact_lt ct_Exact_lt oc_Exact_le kV_Exact_le dc_Exact_le pm_Exact_le cd_Exact_le ct_Exact_le oc_Exact_gt kV_Exact_gt dc_Exact_gt pm_Exact_gt cd_Exact_gt ct_Exact_gt oc_Exact_ge kV_Exact_ge dc_Exact_ge pm_Exact_ge cd_Exact_ge ct_Exact_ge oc_divisor kV_divisor dc_divisor pm_divisor cd_divisor ct_divisor oc_is_number kV_is_number dc_is_number pm_is_number cd_is_number ct_is_number oc_parts kV_parts dc_parts pm_parts cd_parts ct_parts oc_plain kV_plain dc_plain pm_plain cd_plain ct_plain oc_quotient kV_quotient dc_quotient pm_quotient cd_quotient ct_quotient oc_copied kV_copied dc_copied pm_copied cd_copied ct_copied oc_Line_init kV_Line_init dc_Line_init pm_Line_init cd_Line_init ct_Line_init oc_Line_call kV_Line_call dc_Line_call pm_Line_call cd_Line_call ct_Line_call oc_Line_eq kV_Line_eq dc_Line_eq pm_Line_eq cd_Line_eq ct_Line_eq oc_Line_points kV_Line_points dc_Line_points pm_Line_points cd_Line_points ct_Line_points oc_checked_points kV_checked_points dc_checked_points pm_checked_points cd_checked_points ct_checked_points oc_is_point kV_is_point dc_is_point pm_is_point cd_is_point ct_is_point oc_bent kV_bent dc_bent pm_bent cd_bent ct_bent oc_is_straight kV_is_straight dc_is_straight pm_is_straight cd_is_straight ct_is_straight oc_heights_at kV_heights_at dc_heights_at pm_heights_at cd_heights_at ct_heights_at oc_height_between kV_height_between dc_height_between pm_height_between cd_height_between ct_height_between oc_law_fresh kV_law_fresh dc_law_fresh pm_law_fresh cd_law_fresh ct_law_fresh oc_law_fill kV_law_fill dc_law_fill pm_law_fill cd_law_fill ct_law_fill oc_law_take kV_law_take dc_law_take pm_law_take cd_law_take ct_law_take oc_law_handed kV_law_handed dc_law_handed pm_law_handed cd_law_handed ct_law_handed oc_law_same kV_law_same dc_law_same pm_law_same cd_law_same ct_law_same oc_law_spoil kV_law_spoil dc_law_spoil pm_law_spoil cd_law_spoil ct_law_spoil oc_law_gcd kV_law_gcd dc_law_gcd pm_law_gcd cd_law_gcd ct_law_gcd oc_law_frac kV_law_frac dc_law_frac pm_law_frac cd_law_frac ct_law_frac oc_law_add kV_law_add dc_law_add pm_law_add cd_law_add ct_law_add oc_law_mul kV_law_mul dc_law_mul pm_law_mul cd_law_mul ct_law_mul oc_law_less kV_law_less dc_law_less pm_law_less cd_law_less ct_law_less oc_law_as_number kV_law_as_number dc_law_as_number pm_law_as_number cd_law_as_number ct_law_as_number oc_law_plain kV_law_plain dc_law_plain pm_law_plain cd_law_plain ct_law_plain oc_law_is_told kV_law_is_told dc_law_is_told pm_law_is_told cd_law_is_told ct_law_is_told oc_law_on kV_law_on dc_law_on pm_law_on cd_law_on ct_law_on oc_law_course_of kV_law_course_of dc_law_course_of pm_law_course_of cd_law_course_of ct_law_course_of oc_law_bends kV_law_bends dc_law_bends pm_law_bends cd_law_bends ct_law_bends oc_law kV_law dc_law pm_law cd_law ct_law : Value}
    {dT_Exact_init : Addr} {tc_Exact_init : Value} {td_Exact_init : Option Addr} {tn_Exact_init : Nat} {ts_Exact_init : Array (Option Value)} {tt_Exact_init_0 : Tok}
    {nm_LevelError q_LevelError : Str} {N_LevelError : Addr} {bs_LevelError : List Value} {sn_LevelError : List Str} {sub_LevelError : List Value} {ab_LevelError : Bool} {col_LevelError : Option Bool} {dd_LevelError : Option Addr} {k0_LevelError k1_LevelError k2_LevelError k3_LevelError k5_LevelError : Option Value}
    {nm_BadPoint q_BadPoint : Str} {N_BadPoint : Addr} {bs_BadPoint : List Value} {sn_BadPoint : List Str} {sub_BadPoint : List Value} {ab_BadPoint : Bool} {col_BadPoint : Option Bool} {dd_BadPoint : Option Addr} {k0_BadPoint k1_BadPoint k2_BadPoint k3_BadPoint k5_BadPoint : Option Value}
    {nm_BadMoment q_BadMoment : Str} {N_BadMoment : Addr} {bs_BadMoment : List Value} {sn_BadMoment : List Str} {sub_BadMoment : List Value} {ab_BadMoment : Bool} {col_BadMoment : Option Bool} {dd_BadMoment : Option Addr} {k0_BadMoment k1_BadMoment k2_BadMoment k3_BadMoment k5_BadMoment : Option Value}
    {fo1_add fo2_add fo1_sub fo2_sub fo1_mul fo2_mul : Option Value}
    (g_LevelError : PySem.W.nsIn K mainGlobals "LevelError" = some (some (.ref LevelError_a)))
    (xl_LevelError : K.lookup LevelError_a = some (excClassObj nm_LevelError q_LevelError LevelError_a N_LevelError bs_LevelError [.type "ValueError", .type "Exception", .type "BaseException", .type "object"] true sn_LevelError sub_LevelError ab_LevelError col_LevelError dd_LevelError k0_LevelError k1_LevelError k2_LevelError k3_LevelError k5_LevelError "ValueError.__new__"))
    (sa_LevelError : PySem.W.findIn K (.ref LevelError_a) "__setattr__" = some (some (.builtin "object.__setattr__")))
    (ga_LevelError : PySem.W.findIn K (.ref LevelError_a) "__getattribute__" = some (some (.builtin "BaseException.__getattribute__")))
    (ca_LevelError : PySem.W.findIn K (.ref LevelError_a) "__class__" = some (some (.builtin "object.__class__")))
    (gg_LevelError : PySem.W.findIn K (.ref LevelError_a) "__getattr__" = some none)
    (ty_LevelError : PySem.W.typeIn K (.ref LevelError_a) = some (.type "type"))
    (kp_LevelError : PySem.W.keepIn K (.ref LevelError_a) = true)
    (g_BadPoint : PySem.W.nsIn K mainGlobals "BadPoint" = some (some (.ref BadPoint_a)))
    (xl_BadPoint : K.lookup BadPoint_a = some (excClassObj nm_BadPoint q_BadPoint BadPoint_a N_BadPoint bs_BadPoint [.ref LevelError_a, .type "ValueError", .type "Exception", .type "BaseException", .type "object"] true sn_BadPoint sub_BadPoint ab_BadPoint col_BadPoint dd_BadPoint k0_BadPoint k1_BadPoint k2_BadPoint k3_BadPoint k5_BadPoint "ValueError.__new__"))
    (sa_BadPoint : PySem.W.findIn K (.ref BadPoint_a) "__setattr__" = some (some (.builtin "object.__setattr__")))
    (ga_BadPoint : PySem.W.findIn K (.ref BadPoint_a) "__getattribute__" = some (some (.builtin "BaseException.__getattribute__")))
    (ca_BadPoint : PySem.W.findIn K (.ref BadPoint_a) "__class__" = some (some (.builtin "object.__class__")))
    (gg_BadPoint : PySem.W.findIn K (.ref BadPoint_a) "__getattr__" = some none)
    (ty_BadPoint : PySem.W.typeIn K (.ref BadPoint_a) = some (.type "type"))
    (kp_BadPoint : PySem.W.keepIn K (.ref BadPoint_a) = true)
    (n_BadPoint_index : PySem.W.findIn K (.ref BadPoint_a) "index" = some none)
    (g_BadMoment : PySem.W.nsIn K mainGlobals "BadMoment" = some (some (.ref BadMoment_a)))
    (xl_BadMoment : K.lookup BadMoment_a = some (excClassObj nm_BadMoment q_BadMoment BadMoment_a N_BadMoment bs_BadMoment [.ref LevelError_a, .type "ValueError", .type "Exception", .type "BaseException", .type "object"] true sn_BadMoment sub_BadMoment ab_BadMoment col_BadMoment dd_BadMoment k0_BadMoment k1_BadMoment k2_BadMoment k3_BadMoment k5_BadMoment "ValueError.__new__"))
    (sa_BadMoment : PySem.W.findIn K (.ref BadMoment_a) "__setattr__" = some (some (.builtin "object.__setattr__")))
    (ga_BadMoment : PySem.W.findIn K (.ref BadMoment_a) "__getattribute__" = some (some (.builtin "BaseException.__getattribute__")))
    (ca_BadMoment : PySem.W.findIn K (.ref BadMoment_a) "__class__" = some (some (.builtin "object.__class__")))
    (gg_BadMoment : PySem.W.findIn K (.ref BadMoment_a) "__getattr__" = some none)
    (ty_BadMoment : PySem.W.typeIn K (.ref BadMoment_a) = some (.type "type"))
    (kp_BadMoment : PySem.W.keepIn K (.ref BadMoment_a) = true)
    (n_BadMoment_moment : PySem.W.findIn K (.ref BadMoment_a) "moment" = some none)
    (eg1 : PySem.W.specialIn K (.builtin "object.__class__") "__get__" = some (some (.builtin "getset_descriptor.__get__")))
    (eg2 : PySem.W.takesIn K (.builtin "object.__class__") = some true)
    (ev : PySem.W.findCls K (.type "ValueError") (.type "type") "__init__" = some (.val (.builtin "ValueError.__init__")))
    (e_nd : List.Nodup [LevelError_a, BadPoint_a, BadMoment_a])
    (g_Exact : PySem.W.nsIn K mainGlobals "Exact" = some (some (.ref Exact_a)))
    (pg_Exact : PySem.W.plainGet K Exact_a Str.empty = true)
    (hd_Exact : PySem.W.hasDictIn K Exact_a = true)
    (po_Exact : PySem.W.plainOver K Exact_a = true)
    (sa_Exact : PySem.W.findIn K (.ref Exact_a) "__setattr__" = some (some (.builtin "object.__setattr__")))
    (n_Exact_over : PySem.W.findIn K (.ref Exact_a) "over" = some none)
    (n_Exact_under : PySem.W.findIn K (.ref Exact_a) "under" = some none)
    (i1_Exact : PySem.W.findIn K (.ref Exact_a) "__class__" = some (some (.builtin "object.__class__")))
    (i2_Exact : PySem.W.specialIn K (.builtin "object.__class__") "__get__" = some (some (.builtin "getset_descriptor.__get__")))
    (i3_Exact : PySem.W.takesIn K (.builtin "object.__class__") = some true)
    (i4_Exact : PySem.W.mroIn K Exact_a (.type "object") = some true)
    (ic_Exact : PySem.W.isClsIn K Exact_a = true)
    (ty_Exact : PySem.W.typeIn K (.ref Exact_a) = some (.type "type"))
    (u_int_Exact : PySem.W.subIn K (.type "int") (.ref Exact_a) = some false)
    (d_int_Exact : PySem.W.subIn K (.ref Exact_a) (.type "int") = some false)
    (up_int_Exact : PySem.W.subIn K (.type "int") (.ref Exact_a) = some false)
    (dn_int_Exact : PySem.W.subIn K (.ref Exact_a) (.type "int") = some false)
    (u_bool_Exact : PySem.W.subIn K (.type "bool") (.ref Exact_a) = some false)
    (d_bool_Exact : PySem.W.subIn K (.ref Exact_a) (.type "bool") = some false)
    (u_str_Exact : PySem.W.subIn K (.type "str") (.ref Exact_a) = some false)
    (u_list_Exact : PySem.W.subIn K (.type "list") (.ref Exact_a) = some false)
    (d_list_Exact : PySem.W.subIn K (.ref Exact_a) (.type "list") = some false)
    (u_tuple_Exact : PySem.W.subIn K (.type "tuple") (.ref Exact_a) = some false)
    (d_tuple_Exact : PySem.W.subIn K (.ref Exact_a) (.type "tuple") = some false)
    (u_NoneType_Exact : PySem.W.subIn K (.type "NoneType") (.ref Exact_a) = some false)
    (od_add : PySem.W.findIn K (.ref Exact_a) (PySem.dunder Operator.Add.info.2) = some (some (.ref Exact_add_a)))
    (or_add : PySem.W.findIn K (.ref Exact_a) (dunderR Operator.Add.info.2) = some (some (.ref Exact_radd_a)))
    (o1_add : PySem.W.findIn K (.type "int") (PySem.dunder Operator.Add.info.2) = some fo1_add)
    (o2_add : PySem.W.findIn K (.type "int") (dunderR Operator.Add.info.2) = some fo2_add)
    (osf_add : PySem.W.selfFirst K Exact_a = true)
    (oup_add : PySem.W.subIn K (.type "int") (.ref Exact_a) = some false)
    (odn_add : PySem.W.subIn K (.ref Exact_a) (.type "int") = some false)
    (od_sub : PySem.W.findIn K (.ref Exact_a) (PySem.dunder Operator.Sub.info.2) = some (some (.ref Exact_sub_a)))
    (or_sub : PySem.W.findIn K (.ref Exact_a) (dunderR Operator.Sub.info.2) = some (some (.ref Exact_rsub_a)))
    (o1_sub : PySem.W.findIn K (.type "int") (PySem.dunder Operator.Sub.info.2) = some fo1_sub)
    (o2_sub : PySem.W.findIn K (.type "int") (dunderR Operator.Sub.info.2) = some fo2_sub)
    (osf_sub : PySem.W.selfFirst K Exact_a = true)
    (oup_sub : PySem.W.subIn K (.type "int") (.ref Exact_a) = some false)
    (odn_sub : PySem.W.subIn K (.ref Exact_a) (.type "int") = some false)
    (od_mul : PySem.W.findIn K (.ref Exact_a) (PySem.dunder Operator.Mult.info.2) = some (some (.ref Exact_mul_a)))
    (or_mul : PySem.W.findIn K (.ref Exact_a) (dunderR Operator.Mult.info.2) = some (some (.ref Exact_rmul_a)))
    (o1_mul : PySem.W.findIn K (.type "int") (PySem.dunder Operator.Mult.info.2) = some fo1_mul)
    (o2_mul : PySem.W.findIn K (.type "int") (dunderR Operator.Mult.info.2) = some fo2_mul)
    (osf_mul : PySem.W.selfFirst K Exact_a = true)
    (oup_mul : PySem.W.subIn K (.type "int") (.ref Exact_a) = some false)
    (odn_mul : PySem.W.subIn K (.ref Exact_a) (.type "int") = some false)
    (g_Line : PySem.W.nsIn K mainGlobals "Line" = some (some (.ref Line_a)))
    (pg_Line : PySem.W.plainGet K Line_a Str.empty = true)
    (hd_Line : PySem.W.hasDictIn K Line_a = true)
    (po_Line : PySem.W.plainOver K Line_a = true)
    (sa_Line : PySem.W.findIn K (.ref Line_a) "__setattr__" = some (some (.builtin "object.__setattr__")))
    (n_Line_spots : PySem.W.findIn K (.ref Line_a) "spots" = some none)
    (i1_Line : PySem.W.findIn K (.ref Line_a) "__class__" = some (some (.builtin "object.__class__")))
    (i2_Line : PySem.W.specialIn K (.builtin "object.__class__") "__get__" = some (some (.builtin "getset_descriptor.__get__")))
    (i3_Line : PySem.W.takesIn K (.builtin "object.__class__") = some true)
    (i4_Line : PySem.W.mroIn K Line_a (.type "object") = some true)
    (ne_Line : PySem.W.findIn K (.ref Line_a) "__ne__" = some (some (.builtin "object.__ne__")))
    (ic_Line : PySem.W.isClsIn K Line_a = true)
    (ty_Line : PySem.W.typeIn K (.ref Line_a) = some (.type "type"))
    (u_int_Line : PySem.W.subIn K (.type "int") (.ref Line_a) = some false)
    (up_int_Line : PySem.W.subIn K (.type "int") (.ref Line_a) = some false)
    (u_list_Line : PySem.W.subIn K (.type "list") (.ref Line_a) = some false)
    (up_list_Line : PySem.W.subIn K (.type "list") (.ref Line_a) = some false)
    (u_dict_Line : PySem.W.subIn K (.type "dict") (.ref Line_a) = some false)
    (up_dict_Line : PySem.W.subIn K (.type "dict") (.ref Line_a) = some false)
    (u_NoneType_Line : PySem.W.subIn K (.type "NoneType") (.ref Line_a) = some false)
    (up_NoneType_Line : PySem.W.subIn K (.type "NoneType") (.ref Line_a) = some false)
    (ne9_Line_Exact : Line_a ≠ Exact_a)
    (g_BadPoint_init : PySem.W.findIn K (.ref BadPoint_a) "__init__" = some (some (.ref BadPoint_init_a)))
    (i_BadPoint_init : PySem.W.isFn K (.ref BadPoint_init_a) = true)
    (l_BadPoint_init : K.lookup BadPoint_init_a = some ⟨oc_BadPoint_init, od_BadPoint_init, .func (PySem.W.fnOf "__init__" "BadPoint.__init__" (defArgs s_BadPoint_init) (defBody s_BadPoint_init) (defScope s_BadPoint_init) .none kV_BadPoint_init dc_BadPoint_init pm_BadPoint_init an_BadPoint_init cd_BadPoint_init ct_BadPoint_init), sl_BadPoint_init⟩)
    (c_BadPoint_init : PySem.W.codeIn K cd_BadPoint_init "BadPoint.__init__" = true)
    (k_BadPoint_init : PySem.W.keepIn K (.ref BadPoint_init_a) = true)
    (g_BadMoment_init : PySem.W.findIn K (.ref BadMoment_a) "__init__" = some (some (.ref BadMoment_init_a)))
    (i_BadMoment_init : PySem.W.isFn K (.ref BadMoment_init_a) = true)
    (l_BadMoment_init : K.lookup BadMoment_init_a = some ⟨oc_BadMoment_init, od_BadMoment_init, .func (PySem.W.fnOf "__init__" "BadMoment.__init__" (defArgs s_BadMoment_init) (defBody s_BadMoment_init) (defScope s_BadMoment_init) .none kV_BadMoment_init dc_BadMoment_init pm_BadMoment_init an_BadMoment_init cd_BadMoment_init ct_BadMoment_init), sl_BadMoment_init⟩)
    (c_BadMoment_init : PySem.W.codeIn K cd_BadMoment_init "BadMoment.__init__" = true)
    (k_BadMoment_init : PySem.W.keepIn K (.ref BadMoment_init_a) = true)
    (g_is_whole : PySem.W.nsIn K mainGlobals "is_whole" = some (some (.ref is_whole_a)))
    (l_is_whole : K.lookup is_whole_a = some ⟨oc_is_whole, od_is_whole, .func (PySem.W.fnOf "is_whole" "is_whole" (defArgs s_is_whole) (defBody s_is_whole) (defScope s_is_whole) .none kV_is_whole dc_is_whole pm_is_whole an_is_whole cd_is_whole ct_is_whole), sl_is_whole⟩)
    (c_is_whole : PySem.W.codeIn K cd_is_whole "is_whole" = true)
    (k_is_whole : PySem.W.keepIn K (.ref is_whole_a) = true)
    (g_is_list : PySem.W.nsIn K mainGlobals "is_list" = some (some (.ref is_list_a)))
    (l_is_list : K.lookup is_list_a = some ⟨oc_is_list, od_is_list, .func (PySem.W.fnOf "is_list" "is_list" (defArgs s_is_list) (defBody s_is_list) (defScope s_is_list) .none kV_is_list dc_is_list pm_is_list an_is_list cd_is_list ct_is_list), sl_is_list⟩)
    (c_is_list : PySem.W.codeIn K cd_is_list "is_list" = true)
    (k_is_list : PySem.W.keepIn K (.ref is_list_a) = true)
    (g_Exact_init : PySem.W.findIn K (.ref Exact_a) "__init__" = some (some (.ref Exact_init_a)))
    (i_Exact_init : PySem.W.isFn K (.ref Exact_init_a) = true)
    (l_Exact_init : K.lookup Exact_init_a = some ⟨oc_Exact_init, od_Exact_init, .func (PySem.W.fnOf "__init__" "Exact.__init__" (defArgs s_Exact_init) (defBody s_Exact_init) (defScope s_Exact_init) (.ref dT_Exact_init) kV_Exact_init dc_Exact_init pm_Exact_init an_Exact_init cd_Exact_init ct_Exact_init), sl_Exact_init⟩)
    (c_Exact_init : PySem.W.codeIn K cd_Exact_init "Exact.__init__" = true)
    (k_Exact_init : PySem.W.keepIn K (.ref Exact_init_a) = true)
    (t_Exact_init : K.lookup dT_Exact_init = some ⟨tc_Exact_init, td_Exact_init, .seq (List.toArray [Value.int 1 tt_Exact_init_0]) tn_Exact_init, ts_Exact_init⟩)
    (mk_Exact : PySem.W.makesIn K Exact_a = true)
    (kc_Exact : PySem.W.keepIn K (.ref Exact_a) = true)
    (g_Exact_add : PySem.W.findIn K (.ref Exact_a) "__add__" = some (some (.ref Exact_add_a)))
    (i_Exact_add : PySem.W.isFn K (.ref Exact_add_a) = true)
    (l_Exact_add : K.lookup Exact_add_a = some ⟨oc_Exact_add, od_Exact_add, .func (PySem.W.fnOf "__add__" "Exact.__add__" (defArgs s_Exact_add) (defBody s_Exact_add) (defScope s_Exact_add) .none kV_Exact_add dc_Exact_add pm_Exact_add an_Exact_add cd_Exact_add ct_Exact_add), sl_Exact_add⟩)
    (c_Exact_add : PySem.W.codeIn K cd_Exact_add "Exact.__add__" = true)
    (k_Exact_add : PySem.W.keepIn K (.ref Exact_add_a) = true)
    (g_Exact_radd : PySem.W.findIn K (.ref Exact_a) "__radd__" = some (some (.ref Exact_radd_a)))
    (i_Exact_radd : PySem.W.isFn K (.ref Exact_radd_a) = true)
    (l_Exact_radd : K.lookup Exact_radd_a = some ⟨oc_Exact_radd, od_Exact_radd, .func (PySem.W.fnOf "__radd__" "Exact.__radd__" (defArgs s_Exact_radd) (defBody s_Exact_radd) (defScope s_Exact_radd) .none kV_Exact_radd dc_Exact_radd pm_Exact_radd an_Exact_radd cd_Exact_radd ct_Exact_radd), sl_Exact_radd⟩)
    (c_Exact_radd : PySem.W.codeIn K cd_Exact_radd "Exact.__radd__" = true)
    (k_Exact_radd : PySem.W.keepIn K (.ref Exact_radd_a) = true)
    (g_Exact_sub : PySem.W.findIn K (.ref Exact_a) "__sub__" = some (some (.ref Exact_sub_a)))
    (i_Exact_sub : PySem.W.isFn K (.ref Exact_sub_a) = true)
    (l_Exact_sub : K.lookup Exact_sub_a = some ⟨oc_Exact_sub, od_Exact_sub, .func (PySem.W.fnOf "__sub__" "Exact.__sub__" (defArgs s_Exact_sub) (defBody s_Exact_sub) (defScope s_Exact_sub) .none kV_Exact_sub dc_Exact_sub pm_Exact_sub an_Exact_sub cd_Exact_sub ct_Exact_sub), sl_Exact_sub⟩)
    (c_Exact_sub : PySem.W.codeIn K cd_Exact_sub "Exact.__sub__" = true)
    (k_Exact_sub : PySem.W.keepIn K (.ref Exact_sub_a) = true)
    (g_Exact_rsub : PySem.W.findIn K (.ref Exact_a) "__rsub__" = some (some (.ref Exact_rsub_a)))
    (i_Exact_rsub : PySem.W.isFn K (.ref Exact_rsub_a) = true)
    (l_Exact_rsub : K.lookup Exact_rsub_a = some ⟨oc_Exact_rsub, od_Exact_rsub, .func (PySem.W.fnOf "__rsub__" "Exact.__rsub__" (defArgs s_Exact_rsub) (defBody s_Exact_rsub) (defScope s_Exact_rsub) .none kV_Exact_rsub dc_Exact_rsub pm_Exact_rsub an_Exact_rsub cd_Exact_rsub ct_Exact_rsub), sl_Exact_rsub⟩)
    (c_Exact_rsub : PySem.W.codeIn K cd_Exact_rsub "Exact.__rsub__" = true)
    (k_Exact_rsub : PySem.W.keepIn K (.ref Exact_rsub_a) = true)
    (g_Exact_mul : PySem.W.findIn K (.ref Exact_a) "__mul__" = some (some (.ref Exact_mul_a)))
    (i_Exact_mul : PySem.W.isFn K (.ref Exact_mul_a) = true)
    (l_Exact_mul : K.lookup Exact_mul_a = some ⟨oc_Exact_mul, od_Exact_mul, .func (PySem.W.fnOf "__mul__" "Exact.__mul__" (defArgs s_Exact_mul) (defBody s_Exact_mul) (defScope s_Exact_mul) .none kV_Exact_mul dc_Exact_mul pm_Exact_mul an_Exact_mul cd_Exact_mul ct_Exact_mul), sl_Exact_mul⟩)
    (c_Exact_mul : PySem.W.codeIn K cd_Exact_mul "Exact.__mul__" = true)
    (k_Exact_mul : PySem.W.keepIn K (.ref Exact_mul_a) = true)
    (g_Exact_rmul : PySem.W.findIn K (.ref Exact_a) "__rmul__" = some (some (.ref Exact_rmul_a)))
    (i_Exact_rmul : PySem.W.isFn K (.ref Exact_rmul_a) = true)
    (l_Exact_rmul : K.lookup Exact_rmul_a = some ⟨oc_Exact_rmul, od_Exact_rmul, .func (PySem.W.fnOf "__rmul__" "Exact.__rmul__" (defArgs s_Exact_rmul) (defBody s_Exact_rmul) (defScope s_Exact_rmul) .none kV_Exact_rmul dc_Exact_rmul pm_Exact_rmul an_Exact_rmul cd_Exact_rmul ct_Exact_rmul), sl_Exact_rmul⟩)
    (c_Exact_rmul : PySem.W.codeIn K cd_Exact_rmul "Exact.__rmul__" = true)
    (k_Exact_rmul : PySem.W.keepIn K (.ref Exact_rmul_a) = true)
    (g_Exact_neg : PySem.W.findIn K (.ref Exact_a) "__neg__" = some (some (.ref Exact_neg_a)))
    (i_Exact_neg : PySem.W.isFn K (.ref Exact_neg_a) = true)
    (l_Exact_neg : K.lookup Exact_neg_a = some ⟨oc_Exact_neg, od_Exact_neg, .func (PySem.W.fnOf "__neg__" "Exact.__neg__" (defArgs s_Exact_neg) (defBody s_Exact_neg) (defScope s_Exact_neg) .none kV_Exact_neg dc_Exact_neg pm_Exact_neg an_Exact_neg cd_Exact_neg ct_Exact_neg), sl_Exact_neg⟩)
    (c_Exact_neg : PySem.W.codeIn K cd_Exact_neg "Exact.__neg__" = true)
    (k_Exact_neg : PySem.W.keepIn K (.ref Exact_neg_a) = true)
    (g_Exact_eq : PySem.W.findIn K (.ref Exact_a) "__eq__" = some (some (.ref Exact_eq_a)))
    (i_Exact_eq : PySem.W.isFn K (.ref Exact_eq_a) = true)
    (l_Exact_eq : K.lookup Exact_eq_a = some ⟨oc_Exact_eq, od_Exact_eq, .func (PySem.W.fnOf "__eq__" "Exact.__eq__" (defArgs s_Exact_eq) (defBody s_Exact_eq) (defScope s_Exact_eq) .none kV_Exact_eq dc_Exact_eq pm_Exact_eq an_Exact_eq cd_Exact_eq ct_Exact_eq), sl_Exact_eq⟩)
    (c_Exact_eq : PySem.W.codeIn K cd_Exact_eq "Exact.__eq__" = true)
    (k_Exact_eq : PySem.W.keepIn K (.ref Exact_eq_a) = true)
    (g_Exact_lt : PySem.W.findIn K (.ref Exact_a) "__lt__" = some (some (.ref Exact_lt_a)))
    (i_Exact_lt : PySem.W.isFn K (.ref Exact_lt_a) = true)
    (l_Exact_lt : K.lookup Exact_lt_a = some ⟨oc_Exact_lt, od_Exact_lt, .func (PySem.W.fnOf "__lt__" "Exact.__lt__" (defArgs s_Exact_lt) (defBody s_Exact_lt) (defScope s_Exact_lt) .none kV_Exact_lt dc_Exact_lt pm_Exact_lt an_Exact_lt cd_Exact_lt ct_Exact_lt), sl_Exact_lt⟩)
    (c_Exact_lt : PySem.W.codeIn K cd_Exact_lt "Exact.__lt__" = true)
    (k_Exact_lt : PySem.W.keepIn K (.ref Exact_lt_a) = true)
    (g_Exact_le : PySem.W.findIn K (.ref Exact_a) "__le__" = some (some (.ref Exact_le_a)))
    (i_Exact_le : PySem.W.isFn K (.ref Exact_le_a) = true)
    (l_Exact_le : K.lookup Exact_le_a = some ⟨oc_Exact_le, od_Exact_le, .func (PySem.W.fnOf "__le__" "Exact.__le__" (defArgs s_Exact_le) (defBody s_Exact_le) (defScope s_Exact_le) .none kV_Exact_le dc_Exact_le pm_Exact_le an_Exact_le cd_Exact_le ct_Exact_le), sl_Exact_le⟩)
    (c_Exact_le : PySem.W.codeIn K cd_Exact_le "Exact.__le__" = true)
    (k_Exact_le : PySem.W.keepIn K (.ref Exact_le_a) = true)
    (g_Exact_gt : PySem.W.findIn K (.ref Exact_a) "__gt__" = some (some (.ref Exact_gt_a)))
    (i_Exact_gt : PySem.W.isFn K (.ref Exact_gt_a) = true)
    (l_Exact_gt : K.lookup Exact_gt_a = some ⟨oc_Exact_gt, od_Exact_gt, .func (PySem.W.fnOf "__gt__" "Exact.__gt__" (defArgs s_Exact_gt) (defBody s_Exact_gt) (defScope s_Exact_gt) .none kV_Exact_gt dc_Exact_gt pm_Exact_gt an_Exact_gt cd_Exact_gt ct_Exact_gt), sl_Exact_gt⟩)
    (c_Exact_gt : PySem.W.codeIn K cd_Exact_gt "Exact.__gt__" = true)
    (k_Exact_gt : PySem.W.keepIn K (.ref Exact_gt_a) = true)
    (g_Exact_ge : PySem.W.findIn K (.ref Exact_a) "__ge__" = some (some (.ref Exact_ge_a)))
    (i_Exact_ge : PySem.W.isFn K (.ref Exact_ge_a) = true)
    (l_Exact_ge : K.lookup Exact_ge_a = some ⟨oc_Exact_ge, od_Exact_ge, .func (PySem.W.fnOf "__ge__" "Exact.__ge__" (defArgs s_Exact_ge) (defBody s_Exact_ge) (defScope s_Exact_ge) .none kV_Exact_ge dc_Exact_ge pm_Exact_ge an_Exact_ge cd_Exact_ge ct_Exact_ge), sl_Exact_ge⟩)
    (c_Exact_ge : PySem.W.codeIn K cd_Exact_ge "Exact.__ge__" = true)
    (k_Exact_ge : PySem.W.keepIn K (.ref Exact_ge_a) = true)
    (g_divisor : PySem.W.nsIn K mainGlobals "divisor" = some (some (.ref divisor_a)))
    (l_divisor : K.lookup divisor_a = some ⟨oc_divisor, od_divisor, .func (PySem.W.fnOf "divisor" "divisor" (defArgs s_divisor) (defBody s_divisor) (defScope s_divisor) .none kV_divisor dc_divisor pm_divisor an_divisor cd_divisor ct_divisor), sl_divisor⟩)
    (c_divisor : PySem.W.codeIn K cd_divisor "divisor" = true)
    (k_divisor : PySem.W.keepIn K (.ref divisor_a) = true)
    (g_is_number : PySem.W.nsIn K mainGlobals "is_number" = some (some (.ref is_number_a)))
    (l_is_number : K.lookup is_number_a = some ⟨oc_is_number, od_is_number, .func (PySem.W.fnOf "is_number" "is_number" (defArgs s_is_number) (defBody s_is_number) (defScope s_is_number) .none kV_is_number dc_is_number pm_is_number an_is_number cd_is_number ct_is_number), sl_is_number⟩)
    (c_is_number : PySem.W.codeIn K cd_is_number "is_number" = true)
    (k_is_number : PySem.W.keepIn K (.ref is_number_a) = true)
    (g_parts : PySem.W.nsIn K mainGlobals "parts" = some (some (.ref parts_a)))
    (l_parts : K.lookup parts_a = some ⟨oc_parts, od_parts, .func (PySem.W.fnOf "parts" "parts" (defArgs s_parts) (defBody s_parts) (defScope s_parts) .none kV_parts dc_parts pm_parts an_parts cd_parts ct_parts), sl_parts⟩)
    (c_parts : PySem.W.codeIn K cd_parts "parts" = true)
    (k_parts : PySem.W.keepIn K (.ref parts_a) = true)
    (g_plain : PySem.W.nsIn K mainGlobals "plain" = some (some (.ref plain_a)))
    (l_plain : K.lookup plain_a = some ⟨oc_plain, od_plain, .func (PySem.W.fnOf "plain" "plain" (defArgs s_plain) (defBody s_plain) (defScope s_plain) .none kV_plain dc_plain pm_plain an_plain cd_plain ct_plain), sl_plain⟩)
    (c_plain : PySem.W.codeIn K cd_plain "plain" = true)
    (k_plain : PySem.W.keepIn K (.ref plain_a) = true)
    (g_quotient : PySem.W.nsIn K mainGlobals "quotient" = some (some (.ref quotient_a)))
    (l_quotient : K.lookup quotient_a = some ⟨oc_quotient, od_quotient, .func (PySem.W.fnOf "quotient" "quotient" (defArgs s_quotient) (defBody s_quotient) (defScope s_quotient) .none kV_quotient dc_quotient pm_quotient an_quotient cd_quotient ct_quotient), sl_quotient⟩)
    (c_quotient : PySem.W.codeIn K cd_quotient "quotient" = true)
    (k_quotient : PySem.W.keepIn K (.ref quotient_a) = true)
    (g_copied : PySem.W.nsIn K mainGlobals "copied" = some (some (.ref copied_a)))
    (l_copied : K.lookup copied_a = some ⟨oc_copied, od_copied, .func (PySem.W.fnOf "copied" "copied" (defArgs s_copied) (defBody s_copied) (defScope s_copied) .none kV_copied dc_copied pm_copied an_copied cd_copied ct_copied), sl_copied⟩)
    (c_copied : PySem.W.codeIn K cd_copied "copied" = true)
    (k_copied : PySem.W.keepIn K (.ref copied_a) = true)
    (g_Line_init : PySem.W.findIn K (.ref Line_a) "__init__" = some (some (.ref Line_init_a)))
    (i_Line_init : PySem.W.isFn K (.ref Line_init_a) = true)
    (l_Line_init : K.lookup Line_init_a = some ⟨oc_Line_init, od_Line_init, .func (PySem.W.fnOf "__init__" "Line.__init__" (defArgs s_Line_init) (defBody s_Line_init) (defScope s_Line_init) .none kV_Line_init dc_Line_init pm_Line_init an_Line_init cd_Line_init ct_Line_init), sl_Line_init⟩)
    (c_Line_init : PySem.W.codeIn K cd_Line_init "Line.__init__" = true)
    (k_Line_init : PySem.W.keepIn K (.ref Line_init_a) = true)
    (mk_Line : PySem.W.makesIn K Line_a = true)
    (kc_Line : PySem.W.keepIn K (.ref Line_a) = true)
    (g_Line_call : PySem.W.findIn K (.ref Line_a) "__call__" = some (some (.ref Line_call_a)))
    (i_Line_call : PySem.W.isFn K (.ref Line_call_a) = true)
    (l_Line_call : K.lookup Line_call_a = some ⟨oc_Line_call, od_Line_call, .func (PySem.W.fnOf "__call__" "Line.__call__" (defArgs s_Line_call) (defBody s_Line_call) (defScope s_Line_call) .none kV_Line_call dc_Line_call pm_Line_call an_Line_call cd_Line_call ct_Line_call), sl_Line_call⟩)
    (c_Line_call : PySem.W.codeIn K cd_Line_call "Line.__call__" = true)
    (k_Line_call : PySem.W.keepIn K (.ref Line_call_a) = true)
    (fi_Line_call : PySem.W.fnIn K Line_call_a = true)
    (g_Line_eq : PySem.W.findIn K (.ref Line_a) "__eq__" = some (some (.ref Line_eq_a)))
    (i_Line_eq : PySem.W.isFn K (.ref Line_eq_a) = true)
    (l_Line_eq : K.lookup Line_eq_a = some ⟨oc_Line_eq, od_Line_eq, .func (PySem.W.fnOf "__eq__" "Line.__eq__" (defArgs s_Line_eq) (defBody s_Line_eq) (defScope s_Line_eq) .none kV_Line_eq dc_Line_eq pm_Line_eq an_Line_eq cd_Line_eq ct_Line_eq), sl_Line_eq⟩)
    (c_Line_eq : PySem.W.codeIn K cd_Line_eq "Line.__eq__" = true)
    (k_Line_eq : PySem.W.keepIn K (.ref Line_eq_a) = true)
    (g_Line_points : PySem.W.findIn K (.ref Line_a) "points" = some (some (.ref Line_points_a)))
    (i_Line_points : PySem.W.isFn K (.ref Line_points_a) = true)
    (l_Line_points : K.lookup Line_points_a = some ⟨oc_Line_points, od_Line_points, .func (PySem.W.fnOf "points" "Line.points" (defArgs s_Line_points) (defBody s_Line_points) (defScope s_Line_points) .none kV_Line_points dc_Line_points pm_Line_points an_Line_points cd_Line_points ct_Line_points), sl_Line_points⟩)
    (c_Line_points : PySem.W.codeIn K cd_Line_points "Line.points" = true)
    (k_Line_points : PySem.W.keepIn K (.ref Line_points_a) = true)
    (g_checked_points : PySem.W.nsIn K mainGlobals "checked_points" = some (some (.ref checked_points_a)))
    (l_checked_points : K.lookup checked_points_a = some ⟨oc_checked_points, od_checked_points, .func (PySem.W.fnOf "checked_points" "checked_points" (defArgs s_checked_points) (defBody s_checked_points) (defScope s_checked_points) .none kV_checked_points dc_checked_points pm_checked_points an_checked_points cd_checked_points ct_checked_points), sl_checked_points⟩)
    (c_checked_points : PySem.W.codeIn K cd_checked_points "checked_points" = true)
    (k_checked_points : PySem.W.keepIn K (.ref checked_points_a) = true)
    (g_is_point : PySem.W.nsIn K mainGlobals "is_point" = some (some (.ref is_point_a)))
    (l_is_point : K.lookup is_point_a = some ⟨oc_is_point, od_is_point, .func (PySem.W.fnOf "is_point" "is_point" (defArgs s_is_point) (defBody s_is_point) (defScope s_is_point) .none kV_is_point dc_is_point pm_is_point an_is_point cd_is_point ct_is_point), sl_is_point⟩)
    (c_is_point : PySem.W.codeIn K cd_is_point "is_point" = true)
    (k_is_point : PySem.W.keepIn K (.ref is_point_a) = true)
    (g_bent : PySem.W.nsIn K mainGlobals "bent" = some (some (.ref bent_a)))
    (l_bent : K.lookup bent_a = some ⟨oc_bent, od_bent, .func (PySem.W.fnOf "bent" "bent" (defArgs s_bent) (defBody s_bent) (defScope s_bent) .none kV_bent dc_bent pm_bent an_bent cd_bent ct_bent), sl_bent⟩)
    (c_bent : PySem.W.codeIn K cd_bent "bent" = true)
    (k_bent : PySem.W.keepIn K (.ref bent_a) = true)
    (g_is_straight : PySem.W.nsIn K mainGlobals "is_straight" = some (some (.ref is_straight_a)))
    (l_is_straight : K.lookup is_straight_a = some ⟨oc_is_straight, od_is_straight, .func (PySem.W.fnOf "is_straight" "is_straight" (defArgs s_is_straight) (defBody s_is_straight) (defScope s_is_straight) .none kV_is_straight dc_is_straight pm_is_straight an_is_straight cd_is_straight ct_is_straight), sl_is_straight⟩)
    (c_is_straight : PySem.W.codeIn K cd_is_straight "is_straight" = true)
    (k_is_straight : PySem.W.keepIn K (.ref is_straight_a) = true)
    (g_heights_at : PySem.W.nsIn K mainGlobals "heights_at" = some (some (.ref heights_at_a)))
    (l_heights_at : K.lookup heights_at_a = some ⟨oc_heights_at, od_heights_at, .func (PySem.W.fnOf "heights_at" "heights_at" (defArgs s_heights_at) (defBody s_heights_at) (defScope s_heights_at) .none kV_heights_at dc_heights_at pm_heights_at an_heights_at cd_heights_at ct_heights_at), sl_heights_at⟩)
    (c_heights_at : PySem.W.codeIn K cd_heights_at "heights_at" = true)
    (k_heights_at : PySem.W.keepIn K (.ref heights_at_a) = true)
    (g_height_between : PySem.W.nsIn K mainGlobals "height_between" = some (some (.ref height_between_a)))
    (l_height_between : K.lookup height_between_a = some ⟨oc_height_between, od_height_between, .func (PySem.W.fnOf "height_between" "height_between" (defArgs s_height_between) (defBody s_height_between) (defScope s_height_between) .none kV_height_between dc_height_between pm_height_between an_height_between cd_height_between ct_height_between), sl_height_between⟩)
    (c_height_between : PySem.W.codeIn K cd_height_between "height_between" = true)
    (k_height_between : PySem.W.keepIn K (.ref height_between_a) = true)
    (g_law_fresh : PySem.W.nsIn K mainGlobals "_law_fresh" = some (some (.ref law_fresh_a)))
    (l_law_fresh : K.lookup law_fresh_a = some ⟨oc_law_fresh, od_law_fresh, .func (PySem.W.fnOf "_law_fresh" "_law_fresh" (defArgs s_law_fresh) (defBody s_law_fresh) (defScope s_law_fresh) .none kV_law_fresh dc_law_fresh pm_law_fresh an_law_fresh cd_law_fresh ct_law_fresh), sl_law_fresh⟩)
    (c_law_fresh : PySem.W.codeIn K cd_law_fresh "_law_fresh" = true)
    (k_law_fresh : PySem.W.keepIn K (.ref law_fresh_a) = true)
    (g_law_fill : PySem.W.nsIn K mainGlobals "_law_fill" = some (some (.ref law_fill_a)))
    (l_law_fill : K.lookup law_fill_a = some ⟨oc_law_fill, od_law_fill, .func (PySem.W.fnOf "_law_fill" "_law_fill" (defArgs s_law_fill) (defBody s_law_fill) (defScope s_law_fill) .none kV_law_fill dc_law_fill pm_law_fill an_law_fill cd_law_fill ct_law_fill), sl_law_fill⟩)
    (c_law_fill : PySem.W.codeIn K cd_law_fill "_law_fill" = true)
    (k_law_fill : PySem.W.keepIn K (.ref law_fill_a) = true)
    (g_law_take : PySem.W.nsIn K mainGlobals "_law_take" = some (some (.ref law_take_a)))
    (l_law_take : K.lookup law_take_a = some ⟨oc_law_take, od_law_take, .func (PySem.W.fnOf "_law_take" "_law_take" (defArgs s_law_take) (defBody s_law_take) (defScope s_law_take) .none kV_law_take dc_law_take pm_law_take an_law_take cd_law_take ct_law_take), sl_law_take⟩)
    (c_law_take : PySem.W.codeIn K cd_law_take "_law_take" = true)
    (k_law_take : PySem.W.keepIn K (.ref law_take_a) = true)
    (g_law_handed : PySem.W.nsIn K mainGlobals "_law_handed" = some (some (.ref law_handed_a)))
    (l_law_handed : K.lookup law_handed_a = some ⟨oc_law_handed, od_law_handed, .func (PySem.W.fnOf "_law_handed" "_law_handed" (defArgs s_law_handed) (defBody s_law_handed) (defScope s_law_handed) .none kV_law_handed dc_law_handed pm_law_handed an_law_handed cd_law_handed ct_law_handed), sl_law_handed⟩)
    (c_law_handed : PySem.W.codeIn K cd_law_handed "_law_handed" = true)
    (k_law_handed : PySem.W.keepIn K (.ref law_handed_a) = true)
    (g_law_same : PySem.W.nsIn K mainGlobals "_law_same" = some (some (.ref law_same_a)))
    (l_law_same : K.lookup law_same_a = some ⟨oc_law_same, od_law_same, .func (PySem.W.fnOf "_law_same" "_law_same" (defArgs s_law_same) (defBody s_law_same) (defScope s_law_same) .none kV_law_same dc_law_same pm_law_same an_law_same cd_law_same ct_law_same), sl_law_same⟩)
    (c_law_same : PySem.W.codeIn K cd_law_same "_law_same" = true)
    (k_law_same : PySem.W.keepIn K (.ref law_same_a) = true)
    (g_law_spoil : PySem.W.nsIn K mainGlobals "_law_spoil" = some (some (.ref law_spoil_a)))
    (l_law_spoil : K.lookup law_spoil_a = some ⟨oc_law_spoil, od_law_spoil, .func (PySem.W.fnOf "_law_spoil" "_law_spoil" (defArgs s_law_spoil) (defBody s_law_spoil) (defScope s_law_spoil) .none kV_law_spoil dc_law_spoil pm_law_spoil an_law_spoil cd_law_spoil ct_law_spoil), sl_law_spoil⟩)
    (c_law_spoil : PySem.W.codeIn K cd_law_spoil "_law_spoil" = true)
    (k_law_spoil : PySem.W.keepIn K (.ref law_spoil_a) = true)
    (g_law_gcd : PySem.W.nsIn K mainGlobals "_law_gcd" = some (some (.ref law_gcd_a)))
    (l_law_gcd : K.lookup law_gcd_a = some ⟨oc_law_gcd, od_law_gcd, .func (PySem.W.fnOf "_law_gcd" "_law_gcd" (defArgs s_law_gcd) (defBody s_law_gcd) (defScope s_law_gcd) .none kV_law_gcd dc_law_gcd pm_law_gcd an_law_gcd cd_law_gcd ct_law_gcd), sl_law_gcd⟩)
    (c_law_gcd : PySem.W.codeIn K cd_law_gcd "_law_gcd" = true)
    (k_law_gcd : PySem.W.keepIn K (.ref law_gcd_a) = true)
    (g_law_frac : PySem.W.nsIn K mainGlobals "_law_frac" = some (some (.ref law_frac_a)))
    (l_law_frac : K.lookup law_frac_a = some ⟨oc_law_frac, od_law_frac, .func (PySem.W.fnOf "_law_frac" "_law_frac" (defArgs s_law_frac) (defBody s_law_frac) (defScope s_law_frac) .none kV_law_frac dc_law_frac pm_law_frac an_law_frac cd_law_frac ct_law_frac), sl_law_frac⟩)
    (c_law_frac : PySem.W.codeIn K cd_law_frac "_law_frac" = true)
    (k_law_frac : PySem.W.keepIn K (.ref law_frac_a) = true)
    (g_law_add : PySem.W.nsIn K mainGlobals "_law_add" = some (some (.ref law_add_a)))
    (l_law_add : K.lookup law_add_a = some ⟨oc_law_add, od_law_add, .func (PySem.W.fnOf "_law_add" "_law_add" (defArgs s_law_add) (defBody s_law_add) (defScope s_law_add) .none kV_law_add dc_law_add pm_law_add an_law_add cd_law_add ct_law_add), sl_law_add⟩)
    (c_law_add : PySem.W.codeIn K cd_law_add "_law_add" = true)
    (k_law_add : PySem.W.keepIn K (.ref law_add_a) = true)
    (g_law_mul : PySem.W.nsIn K mainGlobals "_law_mul" = some (some (.ref law_mul_a)))
    (l_law_mul : K.lookup law_mul_a = some ⟨oc_law_mul, od_law_mul, .func (PySem.W.fnOf "_law_mul" "_law_mul" (defArgs s_law_mul) (defBody s_law_mul) (defScope s_law_mul) .none kV_law_mul dc_law_mul pm_law_mul an_law_mul cd_law_mul ct_law_mul), sl_law_mul⟩)
    (c_law_mul : PySem.W.codeIn K cd_law_mul "_law_mul" = true)
    (k_law_mul : PySem.W.keepIn K (.ref law_mul_a) = true)
    (g_law_less : PySem.W.nsIn K mainGlobals "_law_less" = some (some (.ref law_less_a)))
    (l_law_less : K.lookup law_less_a = some ⟨oc_law_less, od_law_less, .func (PySem.W.fnOf "_law_less" "_law_less" (defArgs s_law_less) (defBody s_law_less) (defScope s_law_less) .none kV_law_less dc_law_less pm_law_less an_law_less cd_law_less ct_law_less), sl_law_less⟩)
    (c_law_less : PySem.W.codeIn K cd_law_less "_law_less" = true)
    (k_law_less : PySem.W.keepIn K (.ref law_less_a) = true)
    (g_law_as_number : PySem.W.nsIn K mainGlobals "_law_as_number" = some (some (.ref law_as_number_a)))
    (l_law_as_number : K.lookup law_as_number_a = some ⟨oc_law_as_number, od_law_as_number, .func (PySem.W.fnOf "_law_as_number" "_law_as_number" (defArgs s_law_as_number) (defBody s_law_as_number) (defScope s_law_as_number) .none kV_law_as_number dc_law_as_number pm_law_as_number an_law_as_number cd_law_as_number ct_law_as_number), sl_law_as_number⟩)
    (c_law_as_number : PySem.W.codeIn K cd_law_as_number "_law_as_number" = true)
    (k_law_as_number : PySem.W.keepIn K (.ref law_as_number_a) = true)
    (g_law_plain : PySem.W.nsIn K mainGlobals "_law_plain" = some (some (.ref law_plain_a)))
    (l_law_plain : K.lookup law_plain_a = some ⟨oc_law_plain, od_law_plain, .func (PySem.W.fnOf "_law_plain" "_law_plain" (defArgs s_law_plain) (defBody s_law_plain) (defScope s_law_plain) .none kV_law_plain dc_law_plain pm_law_plain an_law_plain cd_law_plain ct_law_plain), sl_law_plain⟩)
    (c_law_plain : PySem.W.codeIn K cd_law_plain "_law_plain" = true)
    (k_law_plain : PySem.W.keepIn K (.ref law_plain_a) = true)
    (g_law_is_told : PySem.W.nsIn K mainGlobals "_law_is_told" = some (some (.ref law_is_told_a)))
    (l_law_is_told : K.lookup law_is_told_a = some ⟨oc_law_is_told, od_law_is_told, .func (PySem.W.fnOf "_law_is_told" "_law_is_told" (defArgs s_law_is_told) (defBody s_law_is_told) (defScope s_law_is_told) .none kV_law_is_told dc_law_is_told pm_law_is_told an_law_is_told cd_law_is_told ct_law_is_told), sl_law_is_told⟩)
    (c_law_is_told : PySem.W.codeIn K cd_law_is_told "_law_is_told" = true)
    (k_law_is_told : PySem.W.keepIn K (.ref law_is_told_a) = true)
    (g_law_on : PySem.W.nsIn K mainGlobals "_law_on" = some (some (.ref law_on_a)))
    (l_law_on : K.lookup law_on_a = some ⟨oc_law_on, od_law_on, .func (PySem.W.fnOf "_law_on" "_law_on" (defArgs s_law_on) (defBody s_law_on) (defScope s_law_on) .none kV_law_on dc_law_on pm_law_on an_law_on cd_law_on ct_law_on), sl_law_on⟩)
    (c_law_on : PySem.W.codeIn K cd_law_on "_law_on" = true)
    (k_law_on : PySem.W.keepIn K (.ref law_on_a) = true)
    (g_law_course_of : PySem.W.nsIn K mainGlobals "_law_course_of" = some (some (.ref law_course_of_a)))
    (l_law_course_of : K.lookup law_course_of_a = some ⟨oc_law_course_of, od_law_course_of, .func (PySem.W.fnOf "_law_course_of" "_law_course_of" (defArgs s_law_course_of) (defBody s_law_course_of) (defScope s_law_course_of) .none kV_law_course_of dc_law_course_of pm_law_course_of an_law_course_of cd_law_course_of ct_law_course_of), sl_law_course_of⟩)
    (c_law_course_of : PySem.W.codeIn K cd_law_course_of "_law_course_of" = true)
    (k_law_course_of : PySem.W.keepIn K (.ref law_course_of_a) = true)
    (g_law_bends : PySem.W.nsIn K mainGlobals "_law_bends" = some (some (.ref law_bends_a)))
    (l_law_bends : K.lookup law_bends_a = some ⟨oc_law_bends, od_law_bends, .func (PySem.W.fnOf "_law_bends" "_law_bends" (defArgs s_law_bends) (defBody s_law_bends) (defScope s_law_bends) .none kV_law_bends dc_law_bends pm_law_bends an_law_bends cd_law_bends ct_law_bends), sl_law_bends⟩)
    (c_law_bends : PySem.W.codeIn K cd_law_bends "_law_bends" = true)
    (k_law_bends : PySem.W.keepIn K (.ref law_bends_a) = true)
    (g_law : PySem.W.nsIn K mainGlobals "law" = some (some (.ref law_a)))
    (l_law : K.lookup law_a = some ⟨oc_law, od_law, .func (PySem.W.fnOf "law" "law" (defArgs s_law) (defBody s_law) (defScope s_law) .none kV_law dc_law pm_law an_law cd_law ct_law), sl_law⟩)
    (c_law : PySem.W.codeIn K cd_law "law" = true)
    (k_law : PySem.W.keepIn K (.ref law_a) = true)
    (hz_abs : PySem.W.nsIn K mainGlobals "abs" = some none)
    (hz_all : PySem.W.nsIn K mainGlobals "all" = some none)
    (hz_any : PySem.W.nsIn K mainGlobals "any" = some none)
    (hz_bool : PySem.W.nsIn K mainGlobals "bool" = some none)
    (hz_enumerate : PySem.W.nsIn K mainGlobals "enumerate" = some none)
    (hz_int : PySem.W.nsIn K mainGlobals "int" = some none)
    (hz_isinstance : PySem.W.nsIn K mainGlobals "isinstance" = some none)
    (hz_len : PySem.W.nsIn K mainGlobals "len" = some none)
    (hz_list : PySem.W.nsIn K mainGlobals "list" = some none)
    (hz_range : PySem.W.nsIn K mainGlobals "range" = some none)
    (hz_tuple : PySem.W.nsIn K mainGlobals "tuple" = some none)
    (hz_zip : PySem.W.nsIn K mainGlobals "zip" = some none)
    : ∃ fd : FuncData, (∀ (s : Shared) (v : Value), BindsTo s fd ⟨[v], []⟩ [("_law_script", v)]) ∧ ∀ base : Heap, K.In base → base.Ns mainGlobals mg → FnOk l.prog w K mg base CX0 30 fa fd ["_law_script"] (spLaw K) := by
  have e := hfa.symm.trans (PySem.W.mg_of X G g_law)
  cases e
  have F_Exact_init := (⟨⟨_, _, _, _, _, _, _, _, _, _, rfl, l_Exact_init, c_Exact_init, .inr ⟨List.cons_ne_nil _ _, dT_Exact_init, _, _, _, rfl, t_Exact_init, rfl, .cons ⟨_, rfl⟩ .nil⟩, .inl rfl⟩, k_Exact_init⟩ : FunD K "__init__" "Exact.__init__" (defArgs s_Exact_init) (defBody s_Exact_init) (defScope s_Exact_init) [V.int 1] [] Exact_init_a _)
  obtain ⟨ds_Exact_init, vs_Exact_init, b_Exact_init⟩ := F_Exact_init.binds1 (ps := ["self", "over", "under"]) 3 1 (List.cons_ne_nil _ _) rfl fun _ _ _ _ _ _ _ us its h1 h2 => match us, its, h1, h2 with | [_, _, _], [_], _, _ => ⟨_, rfl, rfl⟩
  cases vs_Exact_init
  let T : Tx K mg := {
    LevelError_a := LevelError_a
    LevelError_m := PySem.W.mg_of X G g_LevelError
    LevelError_e := ⟨⟨⟨nm_LevelError, q_LevelError, N_LevelError, bs_LevelError, sn_LevelError, sub_LevelError, ab_LevelError, col_LevelError, dd_LevelError, k0_LevelError, k1_LevelError, k2_LevelError, k3_LevelError, k5_LevelError⟩, [], .inl ⟨rfl, rfl⟩, xl_LevelError⟩, sa_LevelError, ga_LevelError, gg_LevelError, ca_LevelError, ty_LevelError, kp_LevelError⟩
    BadPoint_a := BadPoint_a
    BadPoint_m := PySem.W.mg_of X G g_BadPoint
    BadPoint_e := ⟨⟨⟨nm_BadPoint, q_BadPoint, N_BadPoint, bs_BadPoint, sn_BadPoint, sub_BadPoint, ab_BadPoint, col_BadPoint, dd_BadPoint, k0_BadPoint, k1_BadPoint, k2_BadPoint, k3_BadPoint, k5_BadPoint⟩, [.ref LevelError_a], .inr rfl, xl_BadPoint⟩, sa_BadPoint, ga_BadPoint, gg_BadPoint, ca_BadPoint, ty_BadPoint, kp_BadPoint⟩
    BadPoint_n_index := n_BadPoint_index
    BadMoment_a := BadMoment_a
    BadMoment_m := PySem.W.mg_of X G g_BadMoment
    BadMoment_e := ⟨⟨⟨nm_BadMoment, q_BadMoment, N_BadMoment, bs_BadMoment, sn_BadMoment, sub_BadMoment, ab_BadMoment, col_BadMoment, dd_BadMoment, k0_BadMoment, k1_BadMoment, k2_BadMoment, k3_BadMoment, k5_BadMoment⟩, [.ref LevelError_a], .inr rfl, xl_BadMoment⟩, sa_BadMoment, ga_BadMoment, gg_BadMoment, ca_BadMoment, ty_BadMoment, kp_BadMoment⟩
    BadMoment_n_moment := n_BadMoment_moment
    E_g := ⟨eg1, eg2⟩
    E_nd := e_nd
    E_v := ev
    Exact_a := Exact_a
    Exact_m := PySem.W.mg_of X G g_Exact
    Exact_cl := ⟨pg_Exact, hd_Exact, po_Exact, sa_Exact⟩
    Exact_n_over := n_Exact_over
    Exact_n_under := n_Exact_under
    Exact_i1 := i1_Exact
    Exact_i2 := i2_Exact
    Exact_i3 := i3_Exact
    Exact_i4 := i4_Exact
    Exact_k0 := kit_self
    Exact_kt_int := kit_to ic_Exact ty_Exact u_int_Exact
    Exact_ko_int := kit_ob (by decide +kernel) d_int_Exact
    Exact_up_int := up_int_Exact
    Exact_dn_int := dn_int_Exact
    Exact_kt_bool := kit_to ic_Exact ty_Exact u_bool_Exact
    Exact_ko_bool := kit_ob (by decide +kernel) d_bool_Exact
    Exact_kt_str := kit_to ic_Exact ty_Exact u_str_Exact
    Exact_kt_list := kit_to ic_Exact ty_Exact u_list_Exact
    Exact_ko_list := kit_ob (by decide +kernel) d_list_Exact
    Exact_kt_tuple := kit_to ic_Exact ty_Exact u_tuple_Exact
    Exact_ko_tuple := kit_ob (by decide +kernel) d_tuple_Exact
    Exact_kt_NoneType := kit_to ic_Exact ty_Exact u_NoneType_Exact
    op_add := ⟨osf_add, od_add, i_Exact_add, or_add, i_Exact_radd, ⟨_, o1_add⟩, ⟨_, o2_add⟩, oup_add, odn_add⟩
    op_sub := ⟨osf_sub, od_sub, i_Exact_sub, or_sub, i_Exact_rsub, ⟨_, o1_sub⟩, ⟨_, o2_sub⟩, oup_sub, odn_sub⟩
    op_mul := ⟨osf_mul, od_mul, i_Exact_mul, or_mul, i_Exact_rmul, ⟨_, o1_mul⟩, ⟨_, o2_mul⟩, oup_mul, odn_mul⟩
    Line_a := Line_a
    Line_m := PySem.W.mg_of X G g_Line
    Line_cl := ⟨pg_Line, hd_Line, po_Line, sa_Line⟩
    Line_n_spots := n_Line_spots
    Line_i1 := i1_Line
    Line_i2 := i2_Line
    Line_i3 := i3_Line
    Line_i4 := i4_Line
    Line_ne := ne_Line
    Line_k0 := kit_self
    Line_kt_int := kit_to ic_Line ty_Line u_int_Line
    Line_up_int := up_int_Line
    Line_kt_list := kit_to ic_Line ty_Line u_list_Line
    Line_up_list := up_list_Line
    Line_kt_dict := kit_to ic_Line ty_Line u_dict_Line
    Line_up_dict := up_dict_Line
    Line_kt_NoneType := kit_to ic_Line ty_Line u_NoneType_Line
    Line_up_NoneType := up_NoneType_Line
    Line_ne_Exact := ne9_Line_Exact
    BadPoint_init_a := BadPoint_init_a
    BadPoint_init_d := _
    BadPoint_init_F := fun_mk (st := s_BadPoint_init) l_BadPoint_init c_BadPoint_init k_BadPoint_init
    BadPoint_init_b := (fun_mk (st := s_BadPoint_init) l_BadPoint_init c_BadPoint_init k_BadPoint_init).binds (ps := ["self", "index"]) fun _ _ _ _ _ _ us hl => match us, hl with | [_, _], _ => rfl
    BadPoint_init_M := ⟨g_BadPoint_init, i_BadPoint_init, k_BadPoint_init⟩
    BadPoint_init_kb := kw_binds (fun_mk (st := s_BadPoint_init) l_BadPoint_init c_BadPoint_init k_BadPoint_init) fun _ _ _ _ _ _ _ _ => rfl
    BadMoment_init_a := BadMoment_init_a
    BadMoment_init_d := _
    BadMoment_init_F := fun_mk (st := s_BadMoment_init) l_BadMoment_init c_BadMoment_init k_BadMoment_init
    BadMoment_init_b := (fun_mk (st := s_BadMoment_init) l_BadMoment_init c_BadMoment_init k_BadMoment_init).binds (ps := ["self", "moment"]) fun _ _ _ _ _ _ us hl => match us, hl with | [_, _], _ => rfl
    BadMoment_init_M := ⟨g_BadMoment_init, i_BadMoment_init, k_BadMoment_init⟩
    BadMoment_init_kb := kw_binds (fun_mk (st := s_BadMoment_init) l_BadMoment_init c_BadMoment_init k_BadMoment_init) fun _ _ _ _ _ _ _ _ => rfl
    is_whole_a := is_whole_a
    is_whole_d := _
    is_whole_F := fun_mk (st := s_is_whole) l_is_whole c_is_whole k_is_whole
    is_whole_b := (fun_mk (st := s_is_whole) l_is_whole c_is_whole k_is_whole).binds (ps := ["thing"]) fun _ _ _ _ _ _ us hl => match us, hl with | [_], _ => rfl
    is_whole_m := PySem.W.mg_of X G g_is_whole
    is_list_a := is_list_a
    is_list_d := _
    is_list_F := fun_mk (st := s_is_list) l_is_list c_is_list k_is_list
    is_list_b := (fun_mk (st := s_is_list) l_is_list c_is_list k_is_list).binds (ps := ["thing"]) fun _ _ _ _ _ _ us hl => match us, hl with | [_], _ => rfl
    is_list_m := PySem.W.mg_of X G g_is_list
    Exact_init_a := Exact_init_a
    Exact_init_d := _
    Exact_init_F := F_Exact_init
    Exact_init_b := b_Exact_init
    Exact_init_M := ⟨g_Exact_init, i_Exact_init, k_Exact_init⟩
    Exact_mk := ⟨mk_Exact, g_Exact_init, i_Exact_init, kc_Exact⟩
    Exact_add_a := Exact_add_a
    Exact_add_d := _
    Exact_add_F := fun_mk (st := s_Exact_add) l_Exact_add c_Exact_add k_Exact_add
    Exact_add_b := (fun_mk (st := s_Exact_add) l_Exact_add c_Exact_add k_Exact_add).binds (ps := ["self", "other"]) fun _ _ _ _ _ _ us hl => match us, hl with | [_, _], _ => rfl
    Exact_add_M := ⟨g_Exact_add, i_Exact_add, k_Exact_add⟩
    Exact_radd_a := Exact_radd_a
    Exact_radd_d := _
    Exact_radd_F := fun_mk (st := s_Exact_radd) l_Exact_radd c_Exact_radd k_Exact_radd
    Exact_radd_b := (fun_mk (st := s_Exact_radd) l_Exact_radd c_Exact_radd k_Exact_radd).binds (ps := ["self", "other"]) fun _ _ _ _ _ _ us hl => match us, hl with | [_, _], _ => rfl
    Exact_radd_M := ⟨g_Exact_radd, i_Exact_radd, k_Exact_radd⟩
    Exact_sub_a := Exact_sub_a
    Exact_sub_d := _
    Exact_sub_F := fun_mk (st := s_Exact_sub) l_Exact_sub c_Exact_sub k_Exact_sub
    Exact_sub_b := (fun_mk (st := s_Exact_sub) l_Exact_sub c_Exact_sub k_Exact_sub).binds (ps := ["self", "other"]) fun _ _ _ _ _ _ us hl => match us, hl with | [_, _], _ => rfl
    Exact_sub_M := ⟨g_Exact_sub, i_Exact_sub, k_Exact_sub⟩
    Exact_rsub_a := Exact_rsub_a
    Exact_rsub_d := _
    Exact_rsub_F := fun_mk (st := s_Exact_rsub) l_Exact_rsub c_Exact_rsub k_Exact_rsub
    Exact_rsub_b := (fun_mk (st := s_Exact_rsub) l_Exact_rsub c_Exact_rsub k_Exact_rsub).binds (ps := ["self", "other"]) fun _ _ _ _ _ _ us hl => match us, hl with | [_, _], _ => rfl
    Exact_rsub_M := ⟨g_Exact_rsub, i_Exact_rsub, k_Exact_rsub⟩
    Exact_mul_a := Exact_mul_a
    Exact_mul_d := _
    Exact_mul_F := fun_mk (st := s_Exact_mul) l_Exact_mul c_Exact_mul k_Exact_mul
    Exact_mul_b := (fun_mk (st := s_Exact_mul) l_Exact_mul c_Exact_mul k_Exact_mul).binds (ps := ["self", "other"]) fun _ _ _ _ _ _ us hl => match us, hl with | [_, _], _ => rfl
    Exact_mul_M := ⟨g_Exact_mul, i_Exact_mul, k_Exact_mul⟩
    Exact_rmul_a := Exact_rmul_a
    Exact_rmul_d := _
    Exact_rmul_F := fun_mk (st := s_Exact_rmul) l_Exact_rmul c_Exact_rmul k_Exact_rmul
    Exact_rmul_b := (fun_mk (st := s_Exact_rmul) l_Exact_rmul c_Exact_rmul k_Exact_rmul).binds (ps := ["self", "other"]) fun _ _ _ _ _ _ us hl => match us, hl with | [_, _], _ => rfl
    Exact_rmul_M := ⟨g_Exact_rmul, i_Exact_rmul, k_Exact_rmul⟩
    Exact_neg_a := Exact_neg_a
    Exact_neg_d := _
    Exact_neg_F := fun_mk (st := s_Exact_neg) l_Exact_neg c_Exact_neg k_Exact_neg
    Exact_neg_b := (fun_mk (st := s_Exact_neg) l_Exact_neg c_Exact_neg k_Exact_neg).binds (ps := ["self"]) fun _ _ _ _ _ _ us hl => match us, hl with | [_], _ => rfl
    Exact_neg_M := ⟨g_Exact_neg, i_Exact_neg, k_Exact_neg⟩
    Exact_eq_a := Exact_eq_a
    Exact_eq_d := _
    Exact_eq_F := fun_mk (st := s_Exact_eq) l_Exact_eq c_Exact_eq k_Exact_eq
    Exact_eq_b := (fun_mk (st := s_Exact_eq) l_Exact_eq c_Exact_eq k_Exact_eq).binds (ps := ["self", "other"]) fun _ _ _ _ _ _ us hl => match us, hl with | [_, _], _ => rfl
    Exact_eq_M := ⟨g_Exact_eq, i_Exact_eq, k_Exact_eq⟩
    Exact_lt_a := Exact_lt_a
    Exact_lt_d := _
    Exact_lt_F := fun_mk (st := s_Exact_lt) l_Exact_lt c_Exact_lt k_Exact_lt
    Exact_lt_b := (fun_mk (st := s_Exact_lt) l_Exact_lt c_Exact_lt k_Exact_lt).binds (ps := ["self", "other"]) fun _ _ _ _ _ _ us hl => match us, hl with | [_, _], _ => rfl
    Exact_lt_M := ⟨g_Exact_lt, i_Exact_lt, k_Exact_lt⟩
    Exact_le_a := Exact_le_a
    Exact_le_d := _
    Exact_le_F := fun_mk (st := s_Exact_le) l_Exact_le c_Exact_le k_Exact_le
    Exact_le_b := (fun_mk (st := s_Exact_le) l_Exact_le c_Exact_le k_Exact_le).binds (ps := ["self", "other"]) fun _ _ _ _ _ _ us hl => match us, hl with | [_, _], _ => rfl
    Exact_le_M := ⟨g_Exact_le, i_Exact_le, k_Exact_le⟩
    Exact_gt_a := Exact_gt_a
    Exact_gt_d := _
    Exact_gt_F := fun_mk (st := s_Exact_gt) l_Exact_gt c_Exact_gt k_Exact_gt
    Exact_gt_b := (fun_mk (st := s_Exact_gt) l_Exact_gt c_Exact_gt k_Exact_gt).binds (ps := ["self", "other"]) fun _ _ _ _ _ _ us hl => match us, hl with | [_, _], _ => rfl
    Exact_gt_M := ⟨g_Exact_gt, i_Exact_gt, k_Exact_gt⟩
    Exact_ge_a := Exact_ge_a
    Exact_ge_d := _
    Exact_ge_F := fun_mk (st := s_Exact_ge) l_Exact_ge c_Exact_ge k_Exact_ge
    Exact_ge_b := (fun_mk (st := s_Exact_ge) l_Exact_ge c_Exact_ge k_Exact_ge).binds (ps := ["self", "other"]) fun _ _ _ _ _ _ us hl => match us, hl with | [_, _], _ => rfl
    Exact_ge_M := ⟨g_Exact_ge, i_Exact_ge, k_Exact_ge⟩
    divisor_a := divisor_a
    divisor_d := _
    divisor_F := fun_mk (st := s_divisor) l_divisor c_divisor k_divisor
    divisor_b := (fun_mk (st := s_divisor) l_divisor c_divisor k_divisor).binds (ps := ["one", "other"]) fun _ _ _ _ _ _ us hl => match us, hl with | [_, _], _ => rfl
    divisor_m := PySem.W.mg_of X G g_divisor
    is_number_a := is_number_a
    is_number_d := _
    is_number_F := fun_mk (st := s_is_number) l_is_number c_is_number k_is_number
    is_number_b := (fun_mk (st := s_is_number) l_is_number c_is_number k_is_number).binds (ps := ["thing"]) fun _ _ _ _ _ _ us hl => match us, hl with | [_], _ => rfl
    is_number_m := PySem.W.mg_of X G g_is_number
    parts_a := parts_a
    parts_d := _
    parts_F := fun_mk (st := s_parts) l_parts c_parts k_parts
    parts_b := (fun_mk (st := s_parts) l_parts c_parts k_parts).binds (ps := ["number"]) fun _ _ _ _ _ _ us hl => match us, hl with | [_], _ => rfl
    parts_m := PySem.W.mg_of X G g_parts
    plain_a := plain_a
    plain_d := _
    plain_F := fun_mk (st := s_plain) l_plain c_plain k_plain
    plain_b := (fun_mk (st := s_plain) l_plain c_plain k_plain).binds (ps := ["number"]) fun _ _ _ _ _ _ us hl => match us, hl with | [_], _ => rfl
    plain_m := PySem.W.mg_of X G g_plain
    quotient_a := quotient_a
    quotient_d := _
    quotient_F := fun_mk (st := s_quotient) l_quotient c_quotient k_quotient
    quotient_b := (fun_mk (st := s_quotient) l_quotient c_quotient k_quotient).binds (ps := ["one", "other"]) fun _ _ _ _ _ _ us hl => match us, hl with | [_, _], _ => rfl
    quotient_m := PySem.W.mg_of X G g_quotient
    copied_a := copied_a
    copied_d := _
    copied_F := fun_mk (st := s_copied) l_copied c_copied k_copied
    copied_b := (fun_mk (st := s_copied) l_copied c_copied k_copied).binds (ps := ["row"]) fun _ _ _ _ _ _ us hl => match us, hl with | [_], _ => rfl
    copied_m := PySem.W.mg_of X G g_copied
    Line_init_a := Line_init_a
    Line_init_d := _
    Line_init_F := fun_mk (st := s_Line_init) l_Line_init c_Line_init k_Line_init
    Line_init_b := (fun_mk (st := s_Line_init) l_Line_init c_Line_init k_Line_init).binds (ps := ["self", "points"]) fun _ _ _ _ _ _ us hl => match us, hl with | [_, _], _ => rfl
    Line_init_M := ⟨g_Line_init, i_Line_init, k_Line_init⟩
    Line_mk := ⟨mk_Line, g_Line_init, i_Line_init, kc_Line⟩
    Line_call_a := Line_call_a
    Line_call_d := _
    Line_call_F := fun_mk (st := s_Line_call) l_Line_call c_Line_call k_Line_call
    Line_call_b := (fun_mk (st := s_Line_call) l_Line_call c_Line_call k_Line_call).binds (ps := ["self", "moment"]) fun _ _ _ _ _ _ us hl => match us, hl with | [_, _], _ => rfl
    Line_call_M := ⟨g_Line_call, i_Line_call, k_Line_call⟩
    Line_call_O := ⟨g_Line_call, i_Line_call, fi_Line_call⟩
    Line_eq_a := Line_eq_a
    Line_eq_d := _
    Line_eq_F := fun_mk (st := s_Line_eq) l_Line_eq c_Line_eq k_Line_eq
    Line_eq_b := (fun_mk (st := s_Line_eq) l_Line_eq c_Line_eq k_Line_eq).binds (ps := ["self", "other"]) fun _ _ _ _ _ _ us hl => match us, hl with | [_, _], _ => rfl
    Line_eq_M := ⟨g_Line_eq, i_Line_eq, k_Line_eq⟩
    Line_points_a := Line_points_a
    Line_points_d := _
    Line_points_F := fun_mk (st := s_Line_points) l_Line_points c_Line_points k_Line_points
    Line_points_b := (fun_mk (st := s_Line_points) l_Line_points c_Line_points k_Line_points).binds (ps := ["self"]) fun _ _ _ _ _ _ us hl => match us, hl with | [_], _ => rfl
    Line_points_M := ⟨g_Line_points, i_Line_points, k_Line_points⟩
    checked_points_a := checked_points_a
    checked_points_d := _
    checked_points_F := fun_mk (st := s_checked_points) l_checked_points c_checked_points k_checked_points
    checked_points_b := (fun_mk (st := s_checked_points) l_checked_points c_checked_points k_checked_points).binds (ps := ["things"]) fun _ _ _ _ _ _ us hl => match us, hl with | [_], _ => rfl
    checked_points_m := PySem.W.mg_of X G g_checked_points
    is_point_a := is_point_a
    is_point_d := _
    is_point_F := fun_mk (st := s_is_point) l_is_point c_is_point k_is_point
    is_point_b := (fun_mk (st := s_is_point) l_is_point c_is_point k_is_point).binds (ps := ["thing"]) fun _ _ _ _ _ _ us hl => match us, hl with | [_], _ => rfl
    is_point_m := PySem.W.mg_of X G g_is_point
    bent_a := bent_a
    bent_d := _
    bent_F := fun_mk (st := s_bent) l_bent c_bent k_bent
    bent_b := (fun_mk (st := s_bent) l_bent c_bent k_bent).binds (ps := ["spots"]) fun _ _ _ _ _ _ us hl => match us, hl with | [_], _ => rfl
    bent_m := PySem.W.mg_of X G g_bent
    is_straight_a := is_straight_a
    is_straight_d := _
    is_straight_F := fun_mk (st := s_is_straight) l_is_straight c_is_straight k_is_straight
    is_straight_b := (fun_mk (st := s_is_straight) l_is_straight c_is_straight k_is_straight).binds (ps := ["one", "two", "three"]) fun _ _ _ _ _ _ us hl => match us, hl with | [_, _, _], _ => rfl
    is_straight_m := PySem.W.mg_of X G g_is_straight
    heights_at_a := heights_at_a
    heights_at_d := _
    heights_at_F := fun_mk (st := s_heights_at) l_heights_at c_heights_at k_heights_at
    heights_at_b := (fun_mk (st := s_heights_at) l_heights_at c_heights_at k_heights_at).binds (ps := ["spots", "moments"]) fun _ _ _ _ _ _ us hl => match us, hl with | [_, _], _ => rfl
    heights_at_m := PySem.W.mg_of X G g_heights_at
    height_between_a := height_between_a
    height_between_d := _
    height_between_F := fun_mk (st := s_height_between) l_height_between c_height_between k_height_between
    height_between_b := (fun_mk (st := s_height_between) l_height_between c_height_between k_height_between).binds (ps := ["one", "other", "moment"]) fun _ _ _ _ _ _ us hl => match us, hl with | [_, _, _], _ => rfl
    height_between_m := PySem.W.mg_of X G g_height_between
    law_fresh_a := law_fresh_a
    law_fresh_d := _
    law_fresh_F := fun_mk (st := s_law_fresh) l_law_fresh c_law_fresh k_law_fresh
    law_fresh_b := (fun_mk (st := s_law_fresh) l_law_fresh c_law_fresh k_law_fresh).binds (ps := ["_law_script"]) fun _ _ _ _ _ _ us hl => match us, hl with | [_], _ => rfl
    law_fresh_m := PySem.W.mg_of X G g_law_fresh
    law_fill_a := law_fill_a
    law_fill_d := _
    law_fill_F := fun_mk (st := s_law_fill) l_law_fill c_law_fill k_law_fill
    law_fill_b := (fun_mk (st := s_law_fill) l_law_fill c_law_fill k_law_fill).binds (ps := ["_law_state"]) fun _ _ _ _ _ _ us hl => match us, hl with | [_], _ => rfl
    law_fill_m := PySem.W.mg_of X G g_law_fill
    law_take_a := law_take_a
    law_take_d := _
    law_take_F := fun_mk (st := s_law_take) l_law_take c_law_take k_law_take
    law_take_b := (fun_mk (st := s_law_take) l_law_take c_law_take k_law_take).binds (ps := ["_law_state", "_law_many"]) fun _ _ _ _ _ _ us hl => match us, hl with | [_, _], _ => rfl
    law_take_m := PySem.W.mg_of X G g_law_take
    law_handed_a := law_handed_a
    law_handed_d := _
    law_handed_F := fun_mk (st := s_law_handed) l_law_handed c_law_handed k_law_handed
    law_handed_b := (fun_mk (st := s_law_handed) l_law_handed c_law_handed k_law_handed).binds (ps := ["_law_state", "_law_things"]) fun _ _ _ _ _ _ us hl => match us, hl with | [_, _], _ => rfl
    law_handed_m := PySem.W.mg_of X G g_law_handed
    law_same_a := law_same_a
    law_same_d := _
    law_same_F := fun_mk (st := s_law_same) l_law_same c_law_same k_law_same
    law_same_b := (fun_mk (st := s_law_same) l_law_same c_law_same k_law_same).binds (ps := ["_law_found", "_law_due"]) fun _ _ _ _ _ _ us hl => match us, hl with | [_, _], _ => rfl
    law_same_m := PySem.W.mg_of X G g_law_same
    law_spoil_a := law_spoil_a
    law_spoil_d := _
    law_spoil_F := fun_mk (st := s_law_spoil) l_law_spoil c_law_spoil k_law_spoil
    law_spoil_b := (fun_mk (st := s_law_spoil) l_law_spoil c_law_spoil k_law_spoil).binds (ps := ["_law_x"]) fun _ _ _ _ _ _ us hl => match us, hl with | [_], _ => rfl
    law_spoil_m := PySem.W.mg_of X G g_law_spoil
    law_gcd_a := law_gcd_a
    law_gcd_d := _
    law_gcd_F := fun_mk (st := s_law_gcd) l_law_gcd c_law_gcd k_law_gcd
    law_gcd_b := (fun_mk (st := s_law_gcd) l_law_gcd c_law_gcd k_law_gcd).binds (ps := ["_law_a", "_law_b"]) fun _ _ _ _ _ _ us hl => match us, hl with | [_, _], _ => rfl
    law_gcd_m := PySem.W.mg_of X G g_law_gcd
    law_frac_a := law_frac_a
    law_frac_d := _
    law_frac_F := fun_mk (st := s_law_frac) l_law_frac c_law_frac k_law_frac
    law_frac_b := (fun_mk (st := s_law_frac) l_law_frac c_law_frac k_law_frac).binds (ps := ["_law_over", "_law_under"]) fun _ _ _ _ _ _ us hl => match us, hl with | [_, _], _ => rfl
    law_frac_m := PySem.W.mg_of X G g_law_frac
    law_add_a := law_add_a
    law_add_d := _
    law_add_F := fun_mk (st := s_law_add) l_law_add c_law_add k_law_add
    law_add_b := (fun_mk (st := s_law_add) l_law_add c_law_add k_law_add).binds (ps := ["_law_a", "_law_b"]) fun _ _ _ _ _ _ us hl => match us, hl with | [_, _], _ => rfl
    law_add_m := PySem.W.mg_of X G g_law_add
    law_mul_a := law_mul_a
    law_mul_d := _
    law_mul_F := fun_mk (st := s_law_mul) l_law_mul c_law_mul k_law_mul
    law_mul_b := (fun_mk (st := s_law_mul) l_law_mul c_law_mul k_law_mul).binds (ps := ["_law_a", "_law_b"]) fun _ _ _ _ _ _ us hl => match us, hl with | [_, _], _ => rfl
    law_mul_m := PySem.W.mg_of X G g_law_mul
    law_less_a := law_less_a
    law_less_d := _
    law_less_F := fun_mk (st := s_law_less) l_law_less c_law_less k_law_less
    law_less_b := (fun_mk (st := s_law_less) l_law_less c_law_less k_law_less).binds (ps := ["_law_a", "_law_b"]) fun _ _ _ _ _ _ us hl => match us, hl with | [_, _], _ => rfl
    law_less_m := PySem.W.mg_of X G g_law_less
    law_as_number_a := law_as_number_a
    law_as_number_d := _
    law_as_number_F := fun_mk (st := s_law_as_number) l_law_as_number c_law_as_number k_law_as_number
    law_as_number_b := (fun_mk (st := s_law_as_number) l_law_as_number c_law_as_number k_law_as_number).binds (ps := ["_law_state", "_law_a"]) fun _ _ _ _ _ _ us hl => match us, hl with | [_, _], _ => rfl
    law_as_number_m := PySem.W.mg_of X G g_law_as_number
    law_plain_a := law_plain_a
    law_plain_d := _
    law_plain_F := fun_mk (st := s_law_plain) l_law_plain c_law_plain k_law_plain
    law_plain_b := (fun_mk (st := s_law_plain) l_law_plain c_law_plain k_law_plain).binds (ps := ["_law_a"]) fun _ _ _ _ _ _ us hl => match us, hl with | [_], _ => rfl
    law_plain_m := PySem.W.mg_of X G g_law_plain
    law_is_told_a := law_is_told_a
    law_is_told_d := _
    law_is_told_F := fun_mk (st := s_law_is_told) l_law_is_told c_law_is_told k_law_is_told
    law_is_told_b := (fun_mk (st := s_law_is_told) l_law_is_told c_law_is_told k_law_is_told).binds (ps := ["_law_x", "_law_due"]) fun _ _ _ _ _ _ us hl => match us, hl with | [_, _], _ => rfl
    law_is_told_m := PySem.W.mg_of X G g_law_is_told
    law_on_a := law_on_a
    law_on_d := _
    law_on_F := fun_mk (st := s_law_on) l_law_on c_law_on k_law_on
    law_on_b := (fun_mk (st := s_law_on) l_law_on c_law_on k_law_on).binds (ps := ["_law_course", "_law_t"]) fun _ _ _ _ _ _ us hl => match us, hl with | [_, _], _ => rfl
    law_on_m := PySem.W.mg_of X G g_law_on
    law_course_of_a := law_course_of_a
    law_course_of_d := _
    law_course_of_F := fun_mk (st := s_law_course_of) l_law_course_of c_law_course_of k_law_course_of
    law_course_of_b := (fun_mk (st := s_law_course_of) l_law_course_of c_law_course_of k_law_course_of).binds (ps := ["_law_state"]) fun _ _ _ _ _ _ us hl => match us, hl with | [_], _ => rfl
    law_course_of_m := PySem.W.mg_of X G g_law_course_of
    law_bends_a := law_bends_a
    law_bends_d := _
    law_bends_F := fun_mk (st := s_law_bends) l_law_bends c_law_bends k_law_bends
    law_bends_b := (fun_mk (st := s_law_bends) l_law_bends c_law_bends k_law_bends).binds (ps := ["_law_course"]) fun _ _ _ _ _ _ us hl => match us, hl with | [_], _ => rfl
    law_bends_m := PySem.W.mg_of X G g_law_bends
    law_a := fa
    law_d := _
    law_F := fun_mk (st := s_law) l_law c_law k_law
    law_b := (fun_mk (st := s_law) l_law c_law k_law).binds (ps := ["_law_script"]) fun _ _ _ _ _ _ us hl => match us, hl with | [_], _ => rfl
    law_m := PySem.W.mg_of X G g_law
    z_abs := PySem.W.mg_none_of X G hz_abs
    z_all := PySem.W.mg_none_of X G hz_all
    z_any := PySem.W.mg_none_of X G hz_any
    z_bool := PySem.W.mg_none_of X G hz_bool
    z_enumerate := PySem.W.mg_none_of X G hz_enumerate
    z_int := PySem.W.mg_none_of X G hz_int
    z_isinstance := PySem.W.mg_none_of X G hz_isinstance
    z_len := PySem.W.mg_none_of X G hz_len
    z_list := PySem.W.mg_none_of X G hz_list
    z_range := PySem.W.mg_none_of X G hz_range
    z_tuple := PySem.W.mg_none_of X G hz_tuple
    z_zip := PySem.W.mg_none_of X G hz_zip }
  exact ⟨T.law_d, fun s v => .of_eq rfl, fun base _ _ => ok_law T⟩
theorem walk {l : PySem.W.OpenLaw} {q : Program} {loose : List Str} {XP : (Str → Option Value) → Heap → Prop} {YP : World → Heap → Prop} {d : DefRec} {K : Params → PySem.W.Frag} (hn : l.most = some 63) (hdf : d.params.defaults = [])
    (hY : ∀ (w : World) (h : Heap), YP w h → (K w.params).In h)
    (F : ∀ (w : World) (mg : Str → Option Value) (fa : Addr) (h : Heap), (K w.params).In h → h.Ns mainGlobals mg → mg d.name = some (.ref fa) →
      ∃ fd : FuncData, (∀ (s : Shared) (u : Value), BindsTo s fd ⟨[u], []⟩ [("_law_script", u)]) ∧ ∀ base : Heap, (K w.params).In base → base.Ns mainGlobals mg → FnOk l.prog w (K w.params) mg base CX0 30 fa fd ["_law_script"] (spLaw (K w.params))) :
    PySem.W.WalkO q loose XP YP l.row.toRowW d [] (fun f vs => PySem.call f vs) :=
  L2.walk_of (n := 63) (k := 30) (x := "_law_script") (CX := fun _ => CX0) (sp := fun w => spLaw (K w.params)) hn (by decide) hdf ⟨rfl, by decide, by decide⟩ hY F (fun _ _ a ns hl _ hS => ⟨a, ns, rfl, hS, hl, fun _ => rfl⟩) fun _ _ _ _ _ z => z
end Gy
open PySem PySem.W PyProof.Rows
set_option maxRecDepth 100000 in
set_option maxHeartbeats 0 in
theorem PySem.Challenge.cw_surelevels_k11_lines_told_holds : PySem.Challenge.rw_surelevels_k11_lines_told.Holds := by
  w_on; o_law; k_head; (case hw => w_witness2)
  k_fill
  refine Gy.walk (l := PySem.Challenge.rw_surelevels_k11_lines_told) rfl rfl (fun w h Y => PySem.W.kIn_of Y) ?F
  case F =>
    intro w mg fa h KX G hmg
    refine' Gy.all_mk KX G hmg ?g_LevelError ?xl_LevelError ?sa_LevelError ?ga_LevelError ?ca_LevelError ?gg_LevelError ?ty_LevelError ?kp_LevelError ?g_BadPoint ?xl_BadPoint ?sa_BadPoint ?ga_BadPoint ?ca_BadPoint ?gg_BadPoint ?ty_BadPoint ?kp_BadPoint ?n_BadPoint_index ?g_BadMoment ?xl_BadMoment ?sa_BadMoment ?ga_BadMoment ?ca_BadMoment ?gg_BadMoment ?ty_BadMoment ?kp_BadMoment ?n_BadMoment_moment ?eg1 ?eg2 ?ev ?e_nd ?g_Exact ?pg_Exact ?hd_Exact ?po_Exact ?sa_Exact ?n_Exact_over ?n_Exact_under ?i1_Exact ?i2_Exact ?i3_Exact ?i4_Exact ?ic_Exact ?ty_Exact ?u_int_Exact ?d_int_Exact ?up_int_Exact ?dn_int_Exact ?u_bool_Exact ?d_bool_Exact ?u_str_Exact ?u_list_Exact ?d_list_Exact ?u_tuple_Exact ?d_tuple_Exact ?u_NoneType_Exact ?od_add ?or_add ?o1_add ?o2_add ?osf_add ?oup_add ?odn_add ?od_sub ?or_sub ?o1_sub ?o2_sub ?osf_sub ?oup_sub ?odn_sub ?od_mul ?or_mul ?o1_mul ?o2_mul ?osf_mul ?oup_mul ?odn_mul ?g_Line ?pg_Line ?hd_Line ?po_Line ?sa_Line ?n_Line_spots ?i1_Line ?i2_Line ?i3_Line ?i4_Line ?ne_Line ?ic_Line ?ty_Line ?u_int_Line ?up_int_Line ?u_list_Line ?up_list_Line ?u_dict_Line ?up_dict_Line ?u_NoneType_Line ?up_NoneType_Line ?ne9_Line_Exact ?g_BadPoint_init ?i_BadPoint_init ?l_BadPoint_init ?c_BadPoint_init ?k_BadPoint_init ?g_BadMoment_init ?i_BadMoment_init ?l_BadMoment_init ?c_BadMoment_init ?k_BadMoment_init ?g_is_whole ?l_is_whole ?c_is_whole ?k_is_whole ?g_is_list ?l_is_list ?c_is_list ?k_is_list ?g_Exact_init ?i_Exact_init ?l_Exact_init ?c_Exact_init ?k_Exact_init ?t_Exact_init ?mk_Exact ?kc_Exact ?g_Exact_add ?i_Exact_add ?l_Exact_add ?c_Exact_add ?k_Exact_add ?g_Exact_radd ?i_Exact_radd ?l_Exact_radd ?c_Exact_radd ?k_Exact_radd ?g_Exact_sub ?i_Exact_sub ?l_Exact_sub ?c_Exact_sub ?k_Exact_sub ?g_Exact_rsub ?i_Exact_rsub ?l_Exact_rsub ?c_Exact_rsub ?k_Exact_rsub ?g_Exact_mul ?i_Exact_mul ?l_Exact_mul ?c_Exact_mul ?k_Exact_mul ?g_Exact_rmul ?i_Exact_rmul ?l_Exact_rmul ?c_Exact_rmul ?k_Exact_rmul ?g_Exact_neg ?i_Exact_neg ?l_Exact_neg ?c_Exact_neg ?k_Exact_neg ?g_Exact_eq ?i_Exact_eq ?l_Exact_eq ?c_Exact_eq ?k_Exact_eq ?g_Exact_lt ?i_Exact_lt ?l_Exact_lt ?c_Exact_lt ?k_Exact_lt ?g_Exact_le ?i_Exact_le ?l_Exact_le ?c_Exact_le ?k_Exact_le ?g_Exact_gt ?i_Exact_gt ?l_Exact_gt ?c_Exact_gt ?k_Exact_gt ?g_Exact_ge ?i_Exact_ge ?l_Exact_ge ?c_Exact_ge ?k_Exact_ge ?g_divisor ?l_divisor ?c_divisor ?k_divisor ?g_is_number ?l_is_number ?c_is_number ?k_is_number ?g_parts ?l_parts ?c_parts ?k_parts ?g_plain ?l_plain ?c_plain ?k_plain ?g_quotient ?l_quotient ?c_quotient ?k_quotient ?g_copied ?l_copied ?c_copied ?k_copied ?g_Line_init ?i_Line_init ?l_Line_init ?c_Line_init ?k_Line_init ?mk_Line ?kc_Line ?g_Line_call ?i_Line_call ?l_Line_call ?c_Line_call ?k_Line_call ?fi_Line_call ?g_Line_eq ?i_Line_eq ?l_Line_eq ?c_Line_eq ?k_Line_eq ?g_Line_points ?i_Line_points ?l_Line_points ?c_Line_points ?k_Line_points ?g_checked_points ?l_checked_points ?c_checked_points ?k_checked_points ?g_is_point ?l_is_point ?c_is_point ?k_is_point ?g_bent ?l_bent ?c_bent ?k_bent ?g_is_straight ?l_is_straight ?c_is_straight ?k_is_straight ?g_heights_at ?l_heights_at ?c_heights_at ?k_heights_at ?g_height_between ?l_height_between ?c_height_between ?k_height_between ?g_law_fresh ?l_law_fresh ?c_law_fresh ?k_law_fresh ?g_law_fill ?l_law_fill ?c_law_fill ?k_law_fill ?g_law_take ?l_law_take ?c_law_take ?k_law_take ?g_law_handed ?l_law_handed ?c_law_handed ?k_law_handed ?g_law_same ?l_law_same ?c_law_same ?k_law_same ?g_law_spoil ?l_law_spoil ?c_law_spoil ?k_law_spoil ?g_law_gcd ?l_law_gcd ?c_law_gcd ?k_law_gcd ?g_law_frac ?l_law_frac ?c_law_frac ?k_law_frac ?g_law_add ?l_law_add ?c_law_add ?k_law_add ?g_law_mul ?l_law_mul ?c_law_mul ?k_law_mul ?g_law_less ?l_law_less ?c_law_less ?k_law_less ?g_law_as_number ?l_law_as_number ?c_law_as_number ?k_law_as_number ?g_law_plain ?l_law_plain ?c_law_plain ?k_law_plain ?g_law_is_told ?l_law_is_told ?c_law_is_told ?k_law_is_told ?g_law_on ?l_law_on ?c_law_on ?k_law_on ?g_law_course_of ?l_law_course_of ?c_law_course_of ?k_law_course_of ?g_law_bends ?l_law_bends ?c_law_bends ?k_law_bends ?g_law ?l_law ?c_law ?k_law ?hz_abs ?hz_all ?hz_any ?hz_bool ?hz_enumerate ?hz_int ?hz_isinstance ?hz_len ?hz_list ?hz_range ?hz_tuple ?hz_zip
    (case g_LevelError => k_is); (case xl_LevelError => k_is); (case sa_LevelError => k_is); (case ga_LevelError => k_is); (case ca_LevelError => k_is); (case gg_LevelError => k_is); (case ty_LevelError => k_is); (case kp_LevelError => k_is)
    (case g_BadPoint => k_is); (case xl_BadPoint => k_is); (case sa_BadPoint => k_is); (case ga_BadPoint => k_is); (case ca_BadPoint => k_is); (case gg_BadPoint => k_is); (case ty_BadPoint => k_is); (case kp_BadPoint => k_is)
    (case n_BadPoint_index => k_is); (case g_BadMoment => k_is); (case xl_BadMoment => k_is); (case sa_BadMoment => k_is); (case ga_BadMoment => k_is); (case ca_BadMoment => k_is); (case gg_BadMoment => k_is); (case ty_BadMoment => k_is)
    (case kp_BadMoment => k_is); (case n_BadMoment_moment => k_is); (case eg1 => k_is); (case eg2 => k_is); (case ev => k_is); (case g_Exact => k_is); (case pg_Exact => k_is); (case hd_Exact => k_is)
    (case po_Exact => k_is); (case sa_Exact => k_is); (case n_Exact_over => k_is); (case n_Exact_under => k_is); (case i1_Exact => k_is); (case i2_Exact => k_is); (case i3_Exact => k_is); (case i4_Exact => k_is)
    (case ic_Exact => k_is); (case ty_Exact => k_is); (case u_int_Exact => k_is); (case d_int_Exact => k_is); (case up_int_Exact => k_is); (case dn_int_Exact => k_is); (case u_bool_Exact => k_is); (case d_bool_Exact => k_is)
    (case u_str_Exact => k_is); (case u_list_Exact => k_is); (case d_list_Exact => k_is); (case u_tuple_Exact => k_is); (case d_tuple_Exact => k_is); (case u_NoneType_Exact => k_is); (case od_add => k_is); (case or_add => k_is)
    (case o1_add => k_is); (case o2_add => k_is); (case osf_add => k_is); (case oup_add => k_is); (case odn_add => k_is); (case od_sub => k_is); (case or_sub => k_is); (case o1_sub => k_is)
    (case o2_sub => k_is); (case osf_sub => k_is); (case oup_sub => k_is); (case odn_sub => k_is); (case od_mul => k_is); (case or_mul => k_is); (case o1_mul => k_is); (case o2_mul => k_is)
    (case osf_mul => k_is); (case oup_mul => k_is); (case odn_mul => k_is); (case g_Line => k_is); (case pg_Line => k_is); (case hd_Line => k_is); (case po_Line => k_is); (case sa_Line => k_is)
    (case n_Line_spots => k_is); (case i1_Line => k_is); (case i2_Line => k_is); (case i3_Line => k_is); (case i4_Line => k_is); (case ne_Line => k_is); (case ic_Line => k_is); (case ty_Line => k_is)
    (case u_int_Line => k_is); (case up_int_Line => k_is); (case u_list_Line => k_is); (case up_list_Line => k_is); (case u_dict_Line => k_is); (case up_dict_Line => k_is); (case u_NoneType_Line => k_is); (case up_NoneType_Line => k_is)
    (case g_BadPoint_init => k_is); (case i_BadPoint_init => k_is); (case l_BadPoint_init => k_is); (case c_BadPoint_init => k_is); (case k_BadPoint_init => k_is); (case g_BadMoment_init => k_is); (case i_BadMoment_init => k_is); (case l_BadMoment_init => k_is)
    (case c_BadMoment_init => k_is); (case k_BadMoment_init => k_is); (case g_is_whole => k_is); (case l_is_whole => k_is); (case c_is_whole => k_is); (case k_is_whole => k_is); (case g_is_list => k_is); (case l_is_list => k_is)
    (case c_is_list => k_is); (case k_is_list => k_is); (case g_Exact_init => k_is); (case i_Exact_init => k_is); (case l_Exact_init => k_is); (case c_Exact_init => k_is); (case k_Exact_init => k_is); (case t_Exact_init => k_is)
    (case mk_Exact => k_is); (case kc_Exact => k_is); (case g_Exact_add => k_is); (case i_Exact_add => k_is); (case l_Exact_add => k_is); (case c_Exact_add => k_is); (case k_Exact_add => k_is); (case g_Exact_radd => k_is)
    (case i_Exact_radd => k_is); (case l_Exact_radd => k_is); (case c_Exact_radd => k_is); (case k_Exact_radd => k_is); (case g_Exact_sub => k_is); (case i_Exact_sub => k_is); (case l_Exact_sub => k_is); (case c_Exact_sub => k_is)
    (case k_Exact_sub => k_is); (case g_Exact_rsub => k_is); (case i_Exact_rsub => k_is); (case l_Exact_rsub => k_is); (case c_Exact_rsub => k_is); (case k_Exact_rsub => k_is); (case g_Exact_mul => k_is); (case i_Exact_mul => k_is)
    (case l_Exact_mul => k_is); (case c_Exact_mul => k_is); (case k_Exact_mul => k_is); (case g_Exact_rmul => k_is); (case i_Exact_rmul => k_is); (case l_Exact_rmul => k_is); (case c_Exact_rmul => k_is); (case k_Exact_rmul => k_is)
    (case g_Exact_neg => k_is); (case i_Exact_neg => k_is); (case l_Exact_neg => k_is); (case c_Exact_neg => k_is); (case k_Exact_neg => k_is); (case g_Exact_eq => k_is); (case i_Exact_eq => k_is); (case l_Exact_eq => k_is)
    (case c_Exact_eq => k_is); (case k_Exact_eq => k_is); (case g_Exact_lt => k_is); (case i_Exact_lt => k_is); (case l_Exact_lt => k_is); (case c_Exact_lt => k_is); (case k_Exact_lt => k_is); (case g_Exact_le => k_is)
    (case i_Exact_le => k_is); (case l_Exact_le => k_is); (case c_Exact_le => k_is); (case k_Exact_le => k_is); (case g_Exact_gt => k_is); (case i_Exact_gt => k_is); (case l_Exact_gt => k_is); (case c_Exact_gt => k_is)
    (case k_Exact_gt => k_is); (case g_Exact_ge => k_is); (case i_Exact_ge => k_is); (case l_Exact_ge => k_is); (case c_Exact_ge => k_is); (case k_Exact_ge => k_is); (case g_divisor => k_is); (case l_divisor => k_is)
    (case c_divisor => k_is); (case k_divisor => k_is); (case g_is_number => k_is); (case l_is_number => k_is); (case c_is_number => k_is); (case k_is_number => k_is); (case g_parts => k_is); (case l_parts => k_is)
    (case c_parts => k_is); (case k_parts => k_is); (case g_plain => k_is); (case l_plain => k_is); (case c_plain => k_is); (case k_plain => k_is); (case g_quotient => k_is); (case l_quotient => k_is)
    (case c_quotient => k_is); (case k_quotient => k_is); (case g_copied => k_is); (case l_copied => k_is); (case c_copied => k_is); (case k_copied => k_is); (case g_Line_init => k_is); (case i_Line_init => k_is)
    (case l_Line_init => k_is); (case c_Line_init => k_is); (case k_Line_init => k_is); (case mk_Line => k_is); (case kc_Line => k_is); (case g_Line_call => k_is); (case i_Line_call => k_is); (case l_Line_call => k_is)
    (case c_Line_call => k_is); (case k_Line_call => k_is); (case fi_Line_call => k_is); (case g_Line_eq => k_is); (case i_Line_eq => k_is); (case l_Line_eq => k_is); (case c_Line_eq => k_is); (case k_Line_eq => k_is)
    (case g_Line_points => k_is); (case i_Line_points => k_is); (case l_Line_points => k_is); (case c_Line_points => k_is); (case k_Line_points => k_is); (case g_checked_points => k_is); (case l_checked_points => k_is); (case c_checked_points => k_is)
    (case k_checked_points => k_is); (case g_is_point => k_is); (case l_is_point => k_is); (case c_is_point => k_is); (case k_is_point => k_is); (case g_bent => k_is); (case l_bent => k_is); (case c_bent => k_is)
    (case k_bent => k_is); (case g_is_straight => k_is); (case l_is_straight => k_is); (case c_is_straight => k_is); (case k_is_straight => k_is); (case g_heights_at => k_is); (case l_heights_at => k_is); (case c_heights_at => k_is)
    (case k_heights_at => k_is); (case g_height_between => k_is); (case l_height_between => k_is); (case c_height_between => k_is); (case k_height_between => k_is); (case g_law_fresh => k_is); (case l_law_fresh => k_is); (case c_law_fresh => k_is)
    (case k_law_fresh => k_is); (case g_law_fill => k_is); (case l_law_fill => k_is); (case c_law_fill => k_is); (case k_law_fill => k_is); (case g_law_take => k_is); (case l_law_take => k_is); (case c_law_take => k_is)
    (case k_law_take => k_is); (case g_law_handed => k_is); (case l_law_handed => k_is); (case c_law_handed => k_is); (case k_law_handed => k_is); (case g_law_same => k_is); (case l_law_same => k_is); (case c_law_same => k_is)
    (case k_law_same => k_is); (case g_law_spoil => k_is); (case l_law_spoil => k_is); (case c_law_spoil => k_is); (case k_law_spoil => k_is); (case g_law_gcd => k_is); (case l_law_gcd => k_is); (case c_law_gcd => k_is)
    (case k_law_gcd => k_is); (case g_law_frac => k_is); (case l_law_frac => k_is); (case c_law_frac => k_is); (case k_law_frac => k_is); (case g_law_add => k_is); (case l_law_add => k_is); (case c_law_add => k_is)
    (case k_law_add => k_is); (case g_law_mul => k_is); (case l_law_mul => k_is); (case c_law_mul => k_is); (case k_law_mul => k_is); (case g_law_less => k_is); (case l_law_less => k_is); (case c_law_less => k_is)
    (case k_law_less => k_is); (case g_law_as_number => k_is); (case l_law_as_number => k_is); (case c_law_as_number => k_is); (case k_law_as_number => k_is); (case g_law_plain => k_is); (case l_law_plain => k_is); (case c_law_plain => k_is)
    (case k_law_plain => k_is); (case g_law_is_told => k_is); (case l_law_is_told => k_is); (case c_law_is_told => k_is); (case k_law_is_told => k_is); (case g_law_on => k_is); (case l_law_on => k_is); (case c_law_on => k_is)
    (case k_law_on => k_is); (case g_law_course_of => k_is); (case l_law_course_of => k_is); (case c_law_course_of => k_is); (case k_law_course_of => k_is); (case g_law_bends => k_is); (case l_law_bends => k_is); (case c_law_bends => k_is)
    (case k_law_bends => k_is); (case g_law => k_is); (case l_law => k_is); (case c_law => k_is); (case k_law => k_is); (case hz_abs => k_is); (case hz_all => k_is); (case hz_any => k_is)
    (case hz_bool => k_is); (case hz_enumerate => k_is); (case hz_int => k_is); (case hz_isinstance => k_is); (case hz_len => k_is); (case hz_list => k_is); (case hz_range => k_is); (case hz_tuple => k_is)
    (case hz_zip => k_is); (case e_nd => decide); (case ne9_Line_Exact => decide)

