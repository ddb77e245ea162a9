import PyProof.Rows.All
import Wide.All
import OpenK.AllK
import Wide.FinOn
import PyProof.EqAt
import PyProof.EqKinds
import PyProof.TupleCall
import PyProof.NoPylong
import PyProof.StrReplace2
import KE.KOpsOwn
import KE.GoesMore
import KE.GoesEnum
import HandS.ForMost
import HandS.ForExc
import HandS.IsInst
import HandS.Wide
import HandS.EndBits
import HandS.Style
import HandS.Zip
import HandS.Walk
import HandS.Defaults
import KE.KExcIs
import HandS.ExcInit
import HandS.More
import KE.KNestM
import HandS.HotCalls
import HandS.ExcIs
import HandS.Lambda
import HandS.EndTab
import HandS.Text
import HandS.StrMore
import HandS.RevTup
import HandS.Rev
import HandS.Star
import KE.KDictZip
import KE.KDictItemsList
import PySem.Challenge.RW_surelevels_k12_lines_joined
set_option Elab.async false
set_option linter.all false
set_option maxRecDepth 100000
set_option maxHeartbeats 4000000
/-! Lay0: what every law of this program leans on, beside the library: own operators, great numbers, enumerate of a tuple. -/
namespace PySem.W
open PySem PySem.Calls PyProof.Rows
section
variable {prog : Program} {w : World} {A : Around} {E : Value → Shared → Prop} {s : Shared} {K : Frag} {x C L f : Addr} {h₀ : Heap} {m : Str → Option Value} {ox : Obj} {od : Option Obj} {nm T : String}

/-- x op b, x an own instance, b of a built-in type that the heap may tell -/
theorem gy_binT {op : Operator} {b : Value} {fo ro rc : Option Value} {Q : Value → Shared → Prop} (F : Fr h₀ L s.heap m) (X₀ : K.In h₀) (I : InstAt s.heap x ox C od) (hb : Looks (model prog w) s.heap (typeOf b) (.type T)) (hc : selfFirst K C = true)
    (hs : findIn K (.ref C) (PySem.dunder op.info.2) = some (some (.ref f))) (hf : isFn K (.ref f) = true) (hr : findIn K (.ref C) (dunderR op.info.2) = some rc) (hp : rc = none ∨ ∃ g : Addr, rc = some (.ref g))
    (h1 : findIn K (.type T) (PySem.dunder op.info.2) = some fo) (h2 : findIn K (.type T) (dunderR op.info.2) = some ro) (hsub : subIn K (.type T) (.ref C) = some false)
    (h : wpAny (model prog w) A (call (.ref f) [.ref x, b]) (CmpBack Q) E s) : wpAny (model prog w) A (binaryOp op (.ref x) b) Q E s := by
  have X := X₀.keeps F.keep
  obtain ⟨cd, rest, hcd, hm⟩ := ksp_first hc
  rcases hi : op.info with ⟨sym, nm'⟩
  rw [hi] at hs hr h1 h2
  dsimp only at hs hr h1 h2
  have one := ksp_try X I hs hf h
  obtain ⟨hh, g, d, tt, os⟩ := s
  have L1 : Looks (model prog w) hh (typeOf (.ref x)) (.ref C) := I.type
  have L2 : Looks (model prog w) hh (typeOf b) (.type T) := hb
  have L3 : Looks (model prog w) hh (fillsNumberSlot (.ref C) nm') true := fills_K X hcd hm hs
  have L4 : Looks (model prog w) hh (fillsNumberSlot (.type T) nm') ((fo.isSome && !isSeqSlot fo) || (ro.isSome && !isSeqSlot ro)) := ksp_fillsT X h1 h2
  have L5 : Looks (model prog w) hh (isSubtype (.type T) (.ref C)) false := looks_subIn X hsub
  have L6 : Looks (model prog w) hh (numberSlotInPython (.ref C) nm') true := ksp_inPy X hs hr hp
  have L7 : Looks (model prog w) hh (numberSlotInPython (.type T) nm') false := Looks.of_pure rfl
  have L8 : Looks (model prog w) hh (typeLookup (.type T) (dunderR nm')) ro := looks_findIn X h2
  generalize ((fo.isSome && !isSeqSlot fo) || (ro.isSome && !isSeqSlot ro)) = right at L4
  have hne : (Value.ref C == Value.type T) = false := Bool.eq_false_iff.mpr fun q => by cases beq_iff_eq.mp q
  simp only [binaryOp, hi]
  refine wpAny_holding (wpAny_bind ?_)
  unfold binaryOp1
  refine wpAny_bind (L1.at (wpAny_bind (L2.at (wpAny_bind (L3.at ?_)))))
  simp only [hne, Bool.false_eq_true, if_false]
  cases right with
  | false =>
    ksp_lk
    refine wpAny_mono one (fun r s' hr' => ?_) fun _ _ e => e
    obtain ⟨v, rfl, hq⟩ := hr'
    ksp_lk
    exact hq
  | true =>
    ksp_lk
    refine wpAny_mono one (fun r s' hr' => ?_) fun _ _ e => e
    obtain ⟨v, rfl, hq⟩ := hr'
    ksp_lk
    exact hq

/-- the class of x fills the slot by its reflected method -/
theorem gy_fillsR {M : Model} {h : Heap} {cd : ClassData} {rest : List Value} {fd : Option Value} (X : K.In h) (hc : clsIn K C = some cd) (hm : cd.mro = .ref C :: rest) (hd : findIn K (.ref C) (PySem.dunder nm) = some fd) (hp : fd = none ∨ ∃ g : Addr, fd = some (.ref g))
    (hs : findIn K (.ref C) (dunderR nm) = some (some (.ref f))) : Looks M h (fillsNumberSlot (.ref C) nm) true := by
  rcases hp with rfl | ⟨g, rfl⟩
  · intro A Q E s k q
    unfold fillsNumberSlot
    refine wpAny_bind ((looks_clsIn X hc).andThen (f := fun cd => pure cd.mro) .now A _ E s k ?_)
    rw [hm, List.anyM_cons]
    refine wpAny_bind ?_
    show wpAny M A (List.anyM _ [PySem.dunder nm, dunderR nm]) _ _ _
    rw [List.anyM_cons]
    refine wpAny_bind (wpAny_bind (looks_findIn X hd A _ E s k ?_))
    dsimp only
    refine wpAny_pure ?_
    rw [if_neg (by decide), List.anyM_cons]
    refine wpAny_bind (wpAny_bind (looks_findIn X hs A _ E s k ?_))
    dsimp only
    rw [if_pos (show (!ownNameWrapper (.ref f) (dunderR nm)) = true from rfl)]
    refine wpAny_pure ?_
    rw [if_pos rfl]
    refine wpAny_pure ?_
    rw [if_pos rfl]
    exact wpAny_pure q
  · exact fills_K X hc hm hd

/-- b op x, b of a built-in type whose own slot (if it is a number's) declines, x an own instance with the reflected method at f -/
theorem gy_binR {op : Operator} {b : Value} {fd fo ro : Option Value} {Q : Value → Shared → Prop} (F : Fr h₀ L s.heap m) (X₀ : K.In h₀) (I : InstAt s.heap x ox C od) (hb : Looks (model prog w) s.heap (typeOf b) (.type T)) (hc : selfFirst K C = true)
    (hd : findIn K (.ref C) (PySem.dunder op.info.2) = some fd) (hp : fd = none ∨ ∃ g : Addr, fd = some (.ref g))
    (hs : findIn K (.ref C) (dunderR op.info.2) = some (some (.ref f))) (hf : isFn K (.ref f) = true)
    (h1 : findIn K (.type T) (PySem.dunder op.info.2) = some fo) (h2 : findIn K (.type T) (dunderR op.info.2) = some ro) (hsub : subIn K (.ref C) (.type T) = some false)
    (hdec : ((fo.isSome && !isSeqSlot fo) || (ro.isSome && !isSeqSlot ro)) = true → ∀ P : Option Value → Shared → Prop, P none s → wpAny (model prog w) A (tryMethod b (PySem.dunder op.info.2) (.ref x)) P E s)
    (h : wpAny (model prog w) A (call (.ref f) [.ref x, b]) (CmpBack Q) E s) : wpAny (model prog w) A (binaryOp op b (.ref x)) Q E s := by
  have X := X₀.keeps F.keep
  obtain ⟨cd, rest, hcd, hm⟩ := ksp_first hc
  rcases hi : op.info with ⟨sym, nm'⟩
  rw [hi] at hs hd h1 h2 hdec
  dsimp only at hs hd h1 h2 hdec
  have one := ksp_try X I hs hf h
  obtain ⟨hh, g, d, tt, os⟩ := s
  have L1 : Looks (model prog w) hh (typeOf (.ref x)) (.ref C) := I.type
  have L2 : Looks (model prog w) hh (typeOf b) (.type T) := hb
  have L3 : Looks (model prog w) hh (fillsNumberSlot (.ref C) nm') true := gy_fillsR X hcd hm hd hp hs
  have L4 : Looks (model prog w) hh (fillsNumberSlot (.type T) nm') ((fo.isSome && !isSeqSlot fo) || (ro.isSome && !isSeqSlot ro)) := ksp_fillsT X h1 h2
  have L5 : Looks (model prog w) hh (isSubtype (.ref C) (.type T)) false := looks_subIn X hsub
  have L7 : Looks (model prog w) hh (numberSlotInPython (.type T) nm') false := Looks.of_pure rfl
  generalize ((fo.isSome && !isSeqSlot fo) || (ro.isSome && !isSeqSlot ro)) = left at L4 hdec
  have hne : (Value.type T == Value.ref C) = false := Bool.eq_false_iff.mpr fun q => by cases beq_iff_eq.mp q
  simp only [binaryOp, hi]
  refine wpAny_holding (wpAny_bind ?_)
  unfold binaryOp1
  refine wpAny_bind (L2.at (wpAny_bind (L1.at (wpAny_bind (L4.at ?_)))))
  simp only [hne, Bool.false_eq_true, if_false]
  cases left with
  | false =>
    ksp_lk
    refine wpAny_mono one (fun r s' hr' => ?_) fun _ _ e => e
    obtain ⟨v, rfl, hq⟩ := hr'
    ksp_lk
    exact hq
  | true =>
    ksp_lk
    refine hdec rfl _ ?_
    ksp_lk
    refine wpAny_mono one (fun r s' hr' => ?_) fun _ _ e => e
    obtain ⟨v, rfl, hq⟩ := hr'
    ksp_lk
    exact hq
end
end PySem.W

namespace PySem.GyDec
open PySem PySem.W
section
variable {C dx x : Addr} (a : Int) (t : Tok)
theorem add_dec : GivesAt (fun s => s.heap.get? x = some (instObj C dx)) (Builtin.«int.__add__» ⟨[.int a t, .ref x], []⟩) (.val .notImplemented) := fun prog w A R s hP h => by
  obtain ⟨hp, g, d, tk, os⟩ := s
  have hl : Heap.get? (Shared.heap ⟨hp, g, d, tk, os⟩) x = some (instObj C dx) := hP
  wp_walk using AutoSeq1.wpAny_loadPart' hl
  exact h
theorem sub_dec : GivesAt (fun s => s.heap.get? x = some (instObj C dx)) (Builtin.«int.__sub__» ⟨[.int a t, .ref x], []⟩) (.val .notImplemented) := fun prog w A R s hP h => by
  obtain ⟨hp, g, d, tk, os⟩ := s
  have hl : Heap.get? (Shared.heap ⟨hp, g, d, tk, os⟩) x = some (instObj C dx) := hP
  wp_walk using AutoSeq1.wpAny_loadPart' hl
  exact h
theorem mul_dec : GivesAt (fun s => s.heap.get? x = some (instObj C dx)) (Builtin.«int.__mul__» ⟨[.int a t, .ref x], []⟩) (.val .notImplemented) := fun prog w A R s hP h => by
  obtain ⟨hp, g, d, tk, os⟩ := s
  have hl : Heap.get? (Shared.heap ⟨hp, g, d, tk, os⟩) x = some (instObj C dx) := hP
  wp_walk using AutoSeq1.wpAny_loadPart' hl
  exact h
end
section
variable {prog : Program} {w : World} {A : Around} {E : Value → Shared → Prop} {s : Shared} {C dx x : Addr} {a : Int} {t : Tok} {P : Option Value → Shared → Prop}
theorem try_dec {name : Str} {id : String} {B : Builtin} (slot : Slot "int" name id) (entry : entryFor table id = some B) (args : argsOk id ⟨[.int a t, .ref x], []⟩)
    (g : GivesAt (fun s => s.heap.get? x = some (instObj C dx)) (B ⟨[.int a t, .ref x], []⟩) (.val .notImplemented)) (hx : s.heap.get? x = some (instObj C dx)) (h : P none s) : wpAny (model prog w) A (tryMethod (.int a t) name (.ref x)) P E s :=
  wpAny_tryMethod_declines (typeIs_int s a t) slot (call_givesAt slot (typeIs_int s a t) entry args g hx ⟨rfl, h⟩)
theorem try_add (hx : s.heap.get? x = some (instObj C dx)) (h : P none s) : wpAny (model prog w) A (tryMethod (.int a t) (PySem.dunder Operator.Add.info.2) (.ref x)) P E s :=
  try_dec (name := PySem.dunder Operator.Add.info.2) (id := "int.__add__") (B := Builtin.«int.__add__») F.slot_int_add F.entry_int_add (F.args_int_add_2 _ _) (add_dec a t) hx h
theorem try_sub (hx : s.heap.get? x = some (instObj C dx)) (h : P none s) : wpAny (model prog w) A (tryMethod (.int a t) (PySem.dunder Operator.Sub.info.2) (.ref x)) P E s :=
  try_dec (name := PySem.dunder Operator.Sub.info.2) (id := "int.__sub__") (B := Builtin.«int.__sub__») F.slot_int_sub F.entry_int_sub (F.args_int_sub_2 _ _) (sub_dec a t) hx h
theorem try_mul (hx : s.heap.get? x = some (instObj C dx)) (h : P none s) : wpAny (model prog w) A (tryMethod (.int a t) (PySem.dunder Operator.Mult.info.2) (.ref x)) P E s :=
  try_dec (name := PySem.dunder Operator.Mult.info.2) (id := "int.__mul__") (B := Builtin.«int.__mul__») F.slot_int_mul F.entry_int_mul (F.args_int_mul_2 _ _) (mul_dec a t) hx h
end
end PySem.GyDec

namespace L2
open PySem PySem.Spec PyProof.Rows
/-! ### an own class's operators -/
/-- what the text says of the class at C for the operator op: its method at g, its reflected one at r -/
structure GyOp (K : PySem.W.Frag) (C : Addr) (op : Operator) (g r : Addr) : Prop where
  sf : PySem.W.selfFirst K C = true
  d : PySem.W.findIn K (.ref C) (PySem.dunder op.info.2) = some (some (.ref g))
  df : PySem.W.isFn K (.ref g) = true
  rm : PySem.W.findIn K (.ref C) (dunderR op.info.2) = some (some (.ref r))
  rf : PySem.W.isFn K (.ref r) = true
  i1 : ∃ fo, PySem.W.findIn K (.type "int") (PySem.dunder op.info.2) = some fo
  i2 : ∃ ro, PySem.W.findIn K (.type "int") (dunderR op.info.2) = some ro
  up : PySem.W.subIn K (.type "int") (.ref C) = some false
  dn : PySem.W.subIn K (.ref C) (.type "int") = some false
theorem gy_back {P : Value → Shared → Prop} {z : V} {v : Value} {s' : Shared} (r : RelV z v) (h : P v s') : PySem.W.CmpBack P v s' := by
  cases z with
  | non => cases (show v = Value.none from r); exact h
  | bl b => cases (show v = Value.bool b from r); exact h
  | int i => obtain ⟨t, e⟩ := (show ∃ t, v = Value.int i t from r); cases e; exact h
  | str x => obtain ⟨t, e⟩ := (show ∃ t, v = Value.str x t from r); cases e; exact h
  | byt b => obtain ⟨t, e⟩ := (show ∃ t, v = Value.bytes b t from r); cases e; exact h
  | flt b => obtain ⟨t, e⟩ := (show ∃ t, v = Value.float b t from r); cases e; exact h
  | ref a => cases (show v = Value.ref a from r); exact h
  | ty n => cases (show v = Value.type n from r); exact h
section
variable {X : Cx} {CX : CXT} {pins : List (Addr × Obj)} {σ : St} {H : Hp} {s : Shared} {a C dx g r : Addr} {fs : List (Str × V)} {k : Nat} {fd : FuncData} {ps : List Str} {sp : Sp} {E : XK}
theorem ins_at (I : Inv X pins σ H s) (h : H a = some (.ins C dx fs)) : ∃ od, PySem.W.InstAt s.heap a (PySem.W.instObj C dx) C (some od) ∧ s.heap.get? a = some (PySem.W.instObj C dx) := by
  obtain ⟨mA, O, _⟩ := ins_get I.hok h
  obtain ⟨od, J, _⟩ := O.look
  exact ⟨od, J, J.at_⟩
/-- x op y, x an instance, y an instance or an int -/
def rGyD (C : Addr) (sp : Sp) (E : XK) : R2 := fun x y H Q => ∃ a dx fs, x = .ref a ∧ H a = some (.ins C dx fs) ∧ ((∃ b dy gs, y = .ref b ∧ H b = some (.ins C dy gs)) ∨ ∃ i, y = .int i) ∧ sp [x, y] H Q E
theorem op_gyD {op : Operator} (D : GyOp X.K C op g r) (F : FnOk X.prog X.w X.K X.mg X.base CX k g fd ps sp) (hr : Room k X.A) (hb : Binds X.K fd ps []) (hx : Passes CX X E) : OpR X (binaryOp op) (rGyD C sp E) := by
  intro pins s σ H x y v u Q I rx ry h
  obtain ⟨a, dx, fs, rfl, ha, hy, q⟩ := h
  obtain rfl : v = Value.ref a := rx
  obtain ⟨od, J, _⟩ := ins_at I ha
  obtain ⟨m, hF⟩ := I.fr
  have q' : sp ([.ref a, y] ++ []) H Q E := q
  have go : wpAny (model X.prog X.w) X.A (call (.ref g) [.ref a, u]) (PySem.W.CmpBack (EP X pins σ Q)) X.xe s :=
    wpAny_mono (run_fn (us := [.ref a, u]) (vs := [.ref a, y]) F hr hb .nil hx I (.cons rfl (.cons ry .nil)) q') (fun w s' z => by
      obtain ⟨z', H', I', rz, qz⟩ := z
      exact gy_back rz ⟨z', H', I', rz, qz⟩) fun _ _ e => e
  rcases hy with ⟨b, dy, gs, rfl, hb'⟩ | ⟨i, rfl⟩
  · obtain rfl : u = Value.ref b := ry
    obtain ⟨od', J', _⟩ := ins_at I hb'
    exact PySem.W.binop_K hF I.ok.mod.kin J J'.type D.sf D.d D.df go
  · obtain ⟨t, rfl⟩ := ry
    obtain ⟨fo, h1⟩ := D.i1
    obtain ⟨ro, h2⟩ := D.i2
    exact PySem.W.gy_binT hF I.ok.mod.kin J (PySem.W.Looks.of_pure rfl) D.sf D.d D.df D.rm (.inr ⟨r, rfl⟩) h1 h2 D.up go
/-- n op y, n an int, y an instance: its reflected method -/
def rGyR (C : Addr) (sp : Sp) (E : XK) : R2 := fun x y H Q => ∃ i b dy gs, x = .int i ∧ y = .ref b ∧ H b = some (.ins C dy gs) ∧ sp [y, x] H Q E
theorem op_gyR {op : Operator} (D : GyOp X.K C op g r) (dec : ∀ (A : Around) (E : Value → Shared → Prop) (s : Shared) (C dx x : Addr) (a : Int) (t : Tok) (P : Option Value → Shared → Prop), s.heap.get? x = some (PySem.W.instObj C dx) → P none s →
      wpAny (model X.prog X.w) A (tryMethod (.int a t) (PySem.dunder op.info.2) (.ref x)) P E s)
    (F : FnOk X.prog X.w X.K X.mg X.base CX k r fd ps sp) (hr : Room k X.A) (hb : Binds X.K fd ps []) (hx : Passes CX X E) : OpR X (binaryOp op) (rGyR C sp E) := by
  intro pins s σ H x y v u Q I rx ry h
  obtain ⟨i, b, dy, gs, rfl, rfl, hb', q⟩ := h
  obtain ⟨t, rfl⟩ := rx
  obtain rfl : u = Value.ref b := ry
  obtain ⟨od, J, hg⟩ := ins_at I hb'
  obtain ⟨m, hF⟩ := I.fr
  obtain ⟨fo, h1⟩ := D.i1
  obtain ⟨ro, h2⟩ := D.i2
  have q' : sp ([.ref b, .int i] ++ []) H Q E := q
  have go : wpAny (model X.prog X.w) X.A (call (.ref r) [.ref b, .int i t]) (PySem.W.CmpBack (EP X pins σ Q)) X.xe s :=
    wpAny_mono (run_fn (us := [.ref b, .int i t]) (vs := [.ref b, .int i]) F hr hb .nil hx I (.cons rfl (.cons ⟨t, rfl⟩ .nil)) q') (fun w s' z => by
      obtain ⟨z', H', I', rz, qz⟩ := z
      exact gy_back rz ⟨z', H', I', rz, qz⟩) fun _ _ e => e
  exact PySem.W.gy_binR hF I.ok.mod.kin J (PySem.W.Looks.of_pure rfl) D.sf D.d (.inr ⟨g, rfl⟩) D.rm D.rf h1 h2 D.dn (fun _ P hp => dec X.A _ s C dy b i t P hg hp) go
theorem op_gyRadd (D : GyOp X.K C .Add g r) (F : FnOk X.prog X.w X.K X.mg X.base CX k r fd ps sp) (hr : Room k X.A) (hb : Binds X.K fd ps []) (hx : Passes CX X E) : OpR X (binaryOp .Add) (rGyR C sp E) :=
  op_gyR D (fun A E s C dx x a t P hx hp => GyDec.try_add hx hp) F hr hb hx
theorem op_gyRsub (D : GyOp X.K C .Sub g r) (F : FnOk X.prog X.w X.K X.mg X.base CX k r fd ps sp) (hr : Room k X.A) (hb : Binds X.K fd ps []) (hx : Passes CX X E) : OpR X (binaryOp .Sub) (rGyR C sp E) :=
  op_gyR D (fun A E s C dx x a t P hx hp => GyDec.try_sub hx hp) F hr hb hx
theorem op_gyRmul (D : GyOp X.K C .Mult g r) (F : FnOk X.prog X.w X.K X.mg X.base CX k r fd ps sp) (hr : Room k X.A) (hb : Binds X.K fd ps []) (hx : Passes CX X E) : OpR X (binaryOp .Mult) (rGyR C sp E) :=
  op_gyR D (fun A E s C dx x a t P hx hp => GyDec.try_mul hx hp) F hr hb hx
/-- -x of an instance -/
def rGyN (C : Addr) (sp : Sp) (E : XK) : V → Hp → VK → Prop := fun x H Q => ∃ a dx fs, x = .ref a ∧ H a = some (.ins C dx fs) ∧ sp [x] H Q E
theorem un_gyN (hs : PySem.W.findIn X.K (.ref C) "__neg__" = some (some (.ref g))) (hf : PySem.W.isFn X.K (.ref g) = true) (F : FnOk X.prog X.w X.K X.mg X.base CX k g fd ps sp) (hr : Room k X.A) (hb : Binds X.K fd ps []) (hx : Passes CX X E) :
    UnR X (unaryOp .USub) (rGyN C sp E) := by
  intro pins s σ H x v Q I rx h
  obtain ⟨a, dx, fs, rfl, ha, q⟩ := h
  obtain rfl : v = Value.ref a := rx
  obtain ⟨od, J, _⟩ := ins_at I ha
  obtain ⟨m, hF⟩ := I.fr
  have q' : sp ([.ref a] ++ []) H Q E := q
  exact PySem.W.ksp_neg hF I.ok.mod.kin J hs hf (run_fn (us := [.ref a]) (vs := [.ref a]) F hr hb .nil hx I (.cons rfl .nil) q')
end
/-! ### great numbers -/
section
variable {X : Cx}
def GDiv (_ j : Int) : Prop := j ≠ 0 ∧ j.natAbs.log2 < 9000
theorem op_mulG : OpR X (binaryOp .Mult) (rI IntMulOk fun i j => .int (i * j)) := opI fun _ _ _ _ _ _ _ hc q => mul_int q hc
theorem op_fdivG : OpR X (binaryOp .FloorDiv) (rI GDiv fun i j => .int (i.fdiv j)) := opI fun _ _ _ _ _ _ _ hc q => floordiv_int hc.1 q (.inl (PyProof.noPylong_of_log2 hc.2))
end
theorem gDiv_lt {i j : Int} {b : Nat} (h : j ≠ 0) (hb : j.natAbs < 2 ^ b) (h0 : 0 < b) (h9 : b ≤ 9000) : GDiv i j := ⟨h, Nat.lt_of_lt_of_le (PySem.Flt.log2_lt_of h0 hb) h9⟩
end L2

namespace PySem
open PySem.W PyProof.Rows AutoSeq1
theorem gy_enum_new (l : Addr) (items : Array Value) (o : Obj) (n : Nat) (ho : o.cls = .type "tuple" ∧ o.data = .seq items n) :
    Meets (Builtin.«enumerate.__new__» ⟨[.type "enumerate", .ref l], []⟩) (fun _ R s => s.heap.get? l = some o ∧
      R (.ok (.ret (.ref (s.heap.push { cls := .type "tuple_iterator", data := .fields #[.ref l, .int 0 0] }).objs.size)))
        { s with heap := (s.heap.push { cls := .type "tuple_iterator", data := .fields #[.ref l, .int 0 0] }).push { cls := .type "enumerate", data := .fields #[.none, .bool false, .ref s.heap.objs.size, rawInt 0, .none, .none] } }) :=
  .of_wp fun prog w A R s h => by
    obtain ⟨hp, g, d, tk, os⟩ := s
    obtain ⟨hl, h⟩ := h
    have hsub := sub_enumerate
    have hL : Heap.IsTuple (Shared.heap ⟨hp, g, d, tk, os⟩) l items := ⟨_, hl, ho.1, n, ho.2⟩
    wp_walk using wpAny_loadPart' hl
    refine wpAny_stack_any fun st => wpAny_pure ?_
    split
    · rename_i c _ _ _ _ _
      cases (c == Value.type "enumerate")
      · wp_walk using wpAny_loadPart' hl, wpAny_pyIter_tuple hL
        exact ⟨_, rfl, h⟩
      · wp_walk using wpAny_loadPart' hl, wpAny_pyIter_tuple hL
        exact ⟨_, rfl, h⟩
    · wp_walk using wpAny_loadPart' hl, wpAny_pyIter_tuple hL
      exact ⟨_, rfl, h⟩
section
variable {prog : Program} {w : World} {A : Around} {E : Value → Shared → Prop} {s : Shared}
theorem gy_call_enum {l : Addr} {items : Array Value} {Q : Value → Shared → Prop} (hL : IsTup s.heap l items)
    (h : ∀ h', IsEnum h' (s.heap.objs.size + 1) s.heap.objs.size 0 .none → h'.IsTupleIter s.heap.objs.size l 0 → h'.objs.size = s.heap.objs.size + 2 →
      (∀ b o, s.heap.get? b = some o → h'.get? b = some o) → Q (.ref (s.heap.objs.size + 1)) { s with heap := h' }) :
    wpAny (model prog w) A (call (.type "enumerate") [.ref l]) Q E s := by
  obtain ⟨o, hl, hc, n, hd⟩ := hL
  refine callType_new F.called_enumerate (by decide) (F.typeCall_enumerate_1 _) (F.newCall_enumerate_1 _) (fun obj => F.args_object_init_2 obj _) F.entry_enumerate_new
    (gy_enum_new l items o n ⟨hc, hd⟩) ⟨hl, ?_⟩
  have hz : (s.heap.push { cls := .type "tuple_iterator", data := .fields #[.ref l, .int 0 0] }).objs.size = s.heap.objs.size + 1 := Heap.size_push ..
  show _ ∧ _
  rw [hz]
  have he : IsEnum ((s.heap.push { cls := .type "tuple_iterator", data := .fields #[.ref l, .int 0 0] }).push
      { cls := .type "enumerate", data := .fields #[.none, .bool false, .ref s.heap.objs.size, rawInt 0, .none, .none] }) (s.heap.objs.size + 1) s.heap.objs.size 0 .none := by
    have := Heap.get?_push_size (s.heap.push { cls := .type "tuple_iterator", data := .fields #[.ref l, .int 0 0] })
      (o := { cls := .type "enumerate", data := .fields #[.none, .bool false, .ref s.heap.objs.size, rawInt 0, .none, .none] }) rfl
    rw [hz] at this; exact this
  refine ⟨⟨_, he, rfl⟩, h _ he ⟨_, Heap.get?_push_of_some _ (Heap.get?_push_size _ rfl), rfl, rfl⟩ (by rw [Heap.size_push, hz]) fun b o x => Heap.get?_push_of_some _ (Heap.get?_push_of_some _ x)⟩
end
end PySem
namespace L2
open PySem PySem.Spec PyProof.Rows
/-! ### enumerate of a tuple -/
def IteT (K : PySem.W.Frag) (a : Addr) : It :=
  ⟨fun i H => ∃ (xs : List V) (x : V), SqT K H a xs ∧ xs[i]? = some x, fun i H v H' => ∃ T x, v = .ref T ∧ H T = none ∧ H' = upd H T (.tup [.int (i : Nat), x]) ∧ ∀ xs, SqT K H a xs → xs[i]? = some x, fun i H => ∃ xs : List V, SqT K H a xs ∧ xs.length ≤ i⟩
theorem turn_enumT {P : Program} {w : World} {K : PySem.W.Frag} {elts : List Expr} {kk : Nat} {tpos : Pos} (a e it : Addr) :
    Turn P w K (.Tuple elts kk tpos) (IteT K a) [e, it] e (fun i h => (∃ old, IsEnum h e it ((i : Nat) : Int) old) ∧ h.IsTupleIter it a i ∧ e ≠ it) where
  mem := by simp
  obj := fun i h st b hb => by
    obtain ⟨⟨old, he⟩, ⟨o, ho, hc, hd⟩, _⟩ := st
    have e' : b = e ∨ b = it := by simpa using hb
    rcases e' with z | z
    · rw [z]; exact ⟨_, he, fun v q => nomatch q⟩
    · rw [z]; exact ⟨o, ho, fun v q => by rw [hd] at q; cases q⟩
  keep := fun i h h' st k => let ⟨⟨old, he⟩, hi, hne⟩ := st; ⟨⟨old, k e (by simp) _ he⟩, hi.at fun o q => k it (by simp) o q, hne⟩
  item := by
    intro X hP hw hK hc i pins s σ H E I hf st hg
    subst hP hw hK
    obtain ⟨⟨old, he⟩, hit, hne⟩ := st
    obtain ⟨xs, x, hq, hx⟩ := hg
    obtain ⟨its, rv, p, hz⟩ := I.tuple hq
    obtain ⟨u, hu, ru⟩ := rv.get hx
    have hel : e < s.heap.objs.size := Heap.lt_size he
    have hil : it < s.heap.objs.size := by obtain ⟨_, q, _⟩ := hit; exact Heap.lt_size q
    have pa : s.heap.IsTuple a its.toArray := p
    have ha_it : a ≠ it := by
      intro z
      obtain ⟨o, h1, h2, _⟩ := p
      obtain ⟨o', h3, h4, _⟩ := hit
      rw [z, h3] at h1
      cases h1
      rw [h2] at h4
      exact absurd (Value.type.inj h4) (by decide)
    have ha_e : a ≠ e := by
      intro z
      obtain ⟨o, h1, h2, _⟩ := p
      have h3 := he
      unfold IsEnum at h3
      rw [z, h3] at h1
      cases h1
      exact absurd (Value.type.inj h2) (by decide)
    have hhd : X.A.in1.handled = none := I.ok.hd hc
    have hlt : i < its.toArray.size := by
      have := (List.getElem?_eq_some_iff.mp hu).1
      simpa using this
    refine wpAny_pyNext_enum_itemD (Draws.tuple (prog := X.prog) (w := X.w) hhd it a ha_it its.toArray) he ⟨hit, pa⟩ hlt hne (by simp [hne, ha_e.symm]) fun y h' tk hy ho hst hT hsz hk => ?_
    have hyu : y = u := by
      have h1 : its.toArray[i]? = some y := hy
      have h2 : its[i]? = some y := by simpa using h1
      rw [hu] at h2
      exact (Option.some.inj h2).symm
    subst hyu
    refine ⟨_, rfl, wpAny_letOwnedTupleGo_enum (s := { s with heap := h', toks := tk + 1 }) ho fun h'' he' sb => ?_⟩
    have hT2 : h''.get? s.heap.objs.size = some { cls := .type "tuple", data := .seq #[.int i tk, y] } := (sb.2 _ (Nat.ne_of_gt hel)).trans hT
    have new : ObjOk X.prog X.w (upd H s.heap.objs.size (.tup [.int (i : Nat), x])) h'' s.heap.objs.size (.tup [.int (i : Nat), x]) :=
      ⟨by show 2 ≤ sizeLine; decide, [.int i tk, y], .cons ⟨_, rfl⟩ (.cons ru .nil), ⟨_, hT2, rfl, _, rfl⟩⟩
    have I1 : Inv X pins σ (upd H s.heap.objs.size (.tup [.int (i : Nat), x])) { s with heap := h'', toks := tk + 1 } :=
      I.turnedNew (ch := [e, it]) (fun b ob hb q => (sb.2 b (fun z => hb (by simp [z]))).trans (hk b ob (fun z => hb (by simp [z])) (fun z => hb (by simp [z])) q)) hf (Nat.le_refl _) new
    refine ⟨.ref s.heap.objs.size, _, I1, rfl, ⟨_, x, rfl, I.hok.fresh (Nat.le_refl _), rfl, fun ys hy => by rw [I.tuple_inj hy hq]; exact hx⟩, ⟨⟨y, ?_⟩, hst.1.at fun o q => (sb.2 it (Ne.symm hne)).trans q, hne⟩, fun b hb => ?_⟩
    · have e1 : ((i + 1 : Nat) : Int) = (i : Int) + 1 := by omega
      rw [e1]; exact he'
    · have hb' : b < s.heap.objs.size := by
        have e' : b = e ∨ b = it := by simpa using hb
        rcases e' with z | z
        · rw [z]; exact hel
        · rw [z]; exact hil
      rw [upd_ne (Nat.ne_of_lt hb')]
      exact (hf b hb).1
  done := by
    intro X hP hw hK hc i pins s σ H E I hf st hg
    subst hP hw hK
    obtain ⟨⟨old, he⟩, hit, hne⟩ := st
    obtain ⟨xs, hq, hx⟩ := hg
    obtain ⟨its, rv, p, hz⟩ := I.tuple hq
    obtain ⟨f0, f1, f2, f3, f4, f5⟩ := hf it (by simp)
    have hl := rv.length
    have pa : s.heap.IsTuple a its.toArray := p
    have ha_it : a ≠ it := by
      intro z
      obtain ⟨o, h1, h2, _⟩ := p
      obtain ⟨o', h3, h4, _⟩ := hit
      rw [z, h3] at h1
      cases h1
      rw [h2] at h4
      exact absurd (Value.type.inj h4) (by decide)
    have hhd : X.A.in1.handled = none := I.ok.hd hc
    have hT : s.TypeIs (.ref e) "enumerate" := ⟨_, he, rfl⟩
    unfold pyNext
    refine wpAny_bind (wpAny_attempt (wpAny_callSpecial?_slot (name := Str.ofString "__next__") hT F.slot_enumerate_next
      (wpAny_call_entry F.slot_enumerate_next hT F.entry_enumerate_next ?_ (F.args_enumerate_next_1 _))))
    show wpAny _ _ (field (.ref e) 2 >>= _) _ _ _
    refine wpAny_bind (wpAny_field he rfl (x := .ref it) rfl ?_)
    refine wpAny_bind (wpAny_nextOf_tuple_end hhd hit pa (by simp; omega) fun h' x he' hx' => ?_)
    obtain ⟨o, ho, hcl⟩ := hx'
    refine wpAny_bind (wpAny_isInstance (T := "StopIteration") (b := true) ⟨o, ho, hcl⟩ isSubtype_stop ?_)
    exact wpAny_pure ⟨rfl, I.turned (t' := s.toks) (fun b o hb q => he' b o hb q) f0 f1 f3 f4 f5⟩
  self := fun A i s Q E st h => let ⟨⟨_, he⟩, _⟩ := st; wpAny_pyIter_enum he h
def iEnumT (K : PySem.W.Frag) (ta : TA) : TI := fun σ H R => ta σ H fun vs H1 => ∃ a xs, vs = [.ref a] ∧ SqT K H1 a xs ∧ R (IteT K a) H1
theorem pi_enumT {X : Cx} {e : Expr} {ta : TA} {p pos tpos : Pos} {elts : List Expr} {kk : Nat} (hg : Gl X "enumerate") (hm : X.mg "enumerate" = none) (ha : PA X [e] ta) (hs : starEach [e] X.env = [(false, eval e X.env)] := by rfl) :
    PI X (.Tuple elts kk tpos) (.Call (.Name "enumerate" p) [e] [] pos) (iEnumT X.K ta) := by
  refine ⟨fun pins s σ H R I h => ?_⟩
  refine Call_ (ld_blt I hg hm boot_enumerate (PyProof.Rows.callWith_type1 (thn (ha.run pos pins s σ H _ I h) fun us s1 ⟨vs, H1, I1, r1, q1⟩ => ?_) hs rfl))
  obtain ⟨a, xs, ex, hq, q⟩ := q1
  subst ex
  cases r1 with
  | cons r rr =>
    cases rr
    cases r
    obtain ⟨its, rv, p', hz⟩ := I1.tuple hq
    refine gy_call_enum p' fun h' he hit hsz hk => wpAny_pyIter_enum he ?_
    have I2 : Inv X pins σ H1 { s1 with heap := h' } := I1.kept (t' := s1.toks) hk
    refine ⟨s1.heap.objs.size + 1, [s1.heap.objs.size + 1, s1.heap.objs.size], _, _, H1, rfl, I2, turn_enumT a (s1.heap.objs.size + 1) s1.heap.objs.size, ⟨⟨.none, he⟩, hit, Nat.succ_ne_self _⟩, fun b hb => ?_, q⟩
    have e' : b = s1.heap.objs.size + 1 ∨ b = s1.heap.objs.size := by simpa using hb
    have hle : s1.heap.objs.size ≤ b := by
      rcases e' with z | z
      · rw [z]; exact Nat.le_add_right _ _
      · rw [z]; exact Nat.le_refl _
    exact I1.fpOk hle (I1.hok.fresh hle)
/-- over enumerate of a tuple that stands still: the pair stands in a new tuple at T -/
theorem for_enumT {K : PySem.W.Frag} {a : Addr} {xs : List V} {g : TG} {tb : TS} {D : Ends} {σ : St} {H : Hp} (Pv : Nat → St → Hp → Prop) (h0 : Pv 0 σ H) (hl : ∀ i σ H, i ≤ xs.length → Pv i σ H → SqT K H a xs)
    (hs : ∀ i x σ H T, xs[i]? = some x → Pv i σ H → H T = none → g (.ref T) σ (upd H T (.tup [.int (i : Nat), x])) fun σ2 H2 => tb { D with nx := Pv (i + 1), ct := Pv (i + 1), bk := D.nx } σ2 H2) (hd : ∀ σ H, Pv xs.length σ H → D.nx σ H) :
    ∃ W : Nat → Nat → St → Hp → Prop, (∃ m, W 0 m σ H) ∧ ∀ i m σ H, W i m σ H →
      ((IteT K a).stop i H ∧ D.nx σ H) ∨ ((IteT K a).go i H ∧ ∃ N : St → Hp → Prop, (∀ σ' H', N σ' H' → ∃ m', m' < m ∧ W (i + 1) m' σ' H') ∧ ∀ x H', (IteT K a).yld i H x H' → g x σ H' fun σ2 H2 => tb { D with nx := N, ct := N, bk := D.nx } σ2 H2) := by
  refine ⟨fun i m σ H => m = xs.length - i ∧ i ≤ xs.length ∧ Pv i σ H, ⟨xs.length, by simp, Nat.zero_le _, h0⟩, ?_⟩
  rintro i m σ H ⟨rfl, hi, p⟩
  have q := hl i σ H hi p
  by_cases hlt : i < xs.length
  · refine .inr ⟨⟨xs, xs[i], q, by simp [hlt]⟩, Pv (i + 1), fun σ' H' p' => ⟨xs.length - (i + 1), by omega, rfl, hlt, p'⟩, fun x H' y => ?_⟩
    obtain ⟨T, z, rfl, hT, e, y⟩ := y
    subst e
    exact hs i z σ H T (y xs q) p hT
  · have e : i = xs.length := by omega
    subst e
    exact .inl ⟨⟨xs, q, Nat.le_refl _⟩, hd σ H p⟩
end L2

set_option Elab.async false
set_option linter.all false
set_option maxRecDepth 100000
set_option maxHeartbeats 4000000
/-! Lay1: heaps from one moment to the next, reduced fractions, sizes. -/
namespace Gy
open PySem L2

/-! ### heaps -/
/-- a new object, its heap by a name of its own -/
theorem alloc {H : Hp} {o : HO} {Q : V → Hp → Prop} (h : ∀ p H1, H p = none → Same H H1 → H1 p = some o → Q (.ref p) H1) : ∀ p, H p = none → Q (.ref p) (upd H p o) := fun p hp =>
  h p _ hp (fun b u e => by rw [upd_ne (ne_of_none e hp)]; exact e) upd_same
/-- all but the object at st is as it was -/
def Keep (st : Addr) (H H' : Hp) : Prop := ∀ b o, H b = some o → b ≠ st → H' b = some o
theorem Keep.refl (st : Addr) (H : Hp) : Keep st H H := fun _ _ e _ => e
theorem Keep.trans {st : Addr} {H H1 H2 : Hp} (a : Keep st H H1) (b : Keep st H1 H2) : Keep st H H2 := fun c o e n => b c o (a c o e n) n
theorem Same.keep {st : Addr} {H H1 : Hp} (a : Same H H1) : Keep st H H1 := fun c o e _ => a c o e
theorem keep_upd {st : Addr} {H : Hp} {o : HO} : Keep st H (upd H st o) := fun b u e n => by rw [upd_ne n]; exact e
theorem same_upd {p : Addr} {H : Hp} {o : HO} (h : H p = none) : Same H (upd H p o) := fun b u e => by rw [upd_ne (ne_of_none e h)]; exact e
/-- an instance that is being made -/
theorem made {H : Hp} {x dx C : Addr} (nx : H x = none) (nd : H dx = none) (ne : dx ≠ x) : Same H (upd (upd H dx (.own x)) x (.ins C dx [])) := fun b o e => by
  rw [upd_ne (ne_of_none e nx), upd_ne (ne_of_none e nd)]
  exact e

/-- the state of the draws at st: its cells are the ints ns -/
def StAt (H : Hp) (st c : Addr) (ns : List Int) : Prop := (∃ nth left mx, H st = some (.lst [.ref c, .int nth, .int left, .bl mx])) ∧ H c = some (.lst (ns.map V.int)) ∧ c ≠ st
theorem StAt.same {H H' : Hp} {st c : Addr} {ns : List Int} (h : StAt H st c ns) (e : Same H H') : StAt H' st c ns :=
  ⟨let ⟨a, b, d, z⟩ := h.1; ⟨a, b, d, e _ _ z⟩, e _ _ h.2.1, h.2.2⟩
theorem StAt.upd {H : Hp} {st c : Addr} {ns : List Int} {nth left : Int} {mx : Bool} (h : StAt H st c ns) : StAt (upd H st (.lst [.ref c, .int nth, .int left, .bl mx])) st c ns :=
  ⟨⟨nth, left, mx, upd_same⟩, by rw [upd_ne h.2.2]; exact h.2.1, h.2.2⟩

/-! ### sizes -/
theorem mulOk {a b : Int} {m n : Nat} (ha : a.natAbs < 2 ^ m) (hb : b.natAbs < 2 ^ n) (h0 : 0 < m) (h1 : 0 < n) (h : m + n ≤ 1000000) : IntMulOk a b := (wide_mul ha hb h0 h1 h).ok
theorem mulOk_l {a b : Int} (h : -(2 ^ 64) < a ∧ a < 2 ^ 64) : IntMulOk a b := (show CMul a b from .inl h).ok
theorem mulOk_r {a b : Int} (h : -(2 ^ 64) < b ∧ b < 2 ^ 64) : IntMulOk a b := (show CMul a b from .inr h).ok
theorem sz_mul {a b : Int} {m n : Nat} (ha : a.natAbs < 2 ^ m) (hb : b.natAbs < 2 ^ n) : (a * b).natAbs < 2 ^ (m + n) := wide_lt ha hb
theorem sz_add {a b : Int} {m : Nat} (ha : a.natAbs < 2 ^ m) (hb : b.natAbs < 2 ^ m) : (a + b).natAbs < 2 ^ (m + 1) := by
  rw [Nat.pow_succ]
  omega
theorem sz_sub {a b : Int} {m : Nat} (ha : a.natAbs < 2 ^ m) (hb : b.natAbs < 2 ^ m) : (a - b).natAbs < 2 ^ (m + 1) := by
  rw [Nat.pow_succ]
  omega
theorem sz_neg {a : Int} {m : Nat} (ha : a.natAbs < 2 ^ m) : (-a).natAbs < 2 ^ m := by
  rw [Int.natAbs_neg]
  exact ha
theorem sz_up {a : Int} {m n : Nat} (ha : a.natAbs < 2 ^ m) (h : m ≤ n) : a.natAbs < 2 ^ n := Nat.lt_of_lt_of_le ha (Nat.pow_le_pow_right (by decide) h)

/-! ### fractions -/
/-- what reduces a over b: their greatest common part, with b's sign -/
def red_w (a b : Int) : Int := if b < 0 then -(Int.gcd a b : Int) else (Int.gcd a b : Int)
def red (a b : Int) : Int × Int := (a.fdiv (red_w a b), b.fdiv (red_w a b))
/-- a reduced pair -/
def Rd (p : Int × Int) : Prop := 0 < p.2 ∧ Int.gcd p.1 p.2 = 1
theorem red_w_ne {a b : Int} (h : b ≠ 0) : red_w a b ≠ 0 := by
  have g : (Int.gcd a b) ≠ 0 := by
    intro z
    exact h (Int.gcd_eq_zero_iff.mp z).2
  unfold red_w
  split <;> omega
theorem gcd_le {a b : Int} (h : b ≠ 0) : Int.gcd a b ≤ b.natAbs := Nat.le_of_dvd (Int.natAbs_pos.mpr h) (by rw [Int.gcd]; exact Nat.gcd_dvd_right _ _)
theorem red_w_abs {a b : Int} : (red_w a b).natAbs = Int.gcd a b := by
  unfold red_w
  split <;> simp
theorem red_w_dvd {a b : Int} : red_w a b ∣ a ∧ red_w a b ∣ b := by
  have h1 : (Int.gcd a b : Int) ∣ a := Int.gcd_dvd_left ..
  have h2 : (Int.gcd a b : Int) ∣ b := Int.gcd_dvd_right ..
  unfold red_w
  split
  · exact ⟨Int.neg_dvd.mpr h1, Int.neg_dvd.mpr h2⟩
  · exact ⟨h1, h2⟩
/-- the two parts, times what was taken out -/
theorem red_mul {a b : Int} : (red a b).1 * red_w a b = a ∧ (red a b).2 * red_w a b = b := by
  obtain ⟨h1, h2⟩ := red_w_dvd (a := a) (b := b)
  unfold red
  exact ⟨Int.fdiv_mul_cancel h1, Int.fdiv_mul_cancel h2⟩
theorem red_rd {a b : Int} (h : b ≠ 0) : Rd (red a b) := by
  obtain ⟨e1, e2⟩ := red_mul (a := a) (b := b)
  have w0 := red_w_ne (a := a) h
  have wa := red_w_abs (a := a) (b := b)
  generalize hp : (red a b).1 = p at e1
  generalize hq : (red a b).2 = q at e2
  generalize hw : red_w a b = w at *
  refine ⟨?_, ?_⟩
  · rw [hq]
    -- b and w have the same sign
    have hs : (b < 0 → w < 0) ∧ (0 < b → 0 < w) := by
      unfold red_w at hw
      have g : 0 < Int.gcd a b := Nat.pos_of_ne_zero fun z => h (Int.gcd_eq_zero_iff.mp z).2
      constructor
      · intro hb
        rw [if_pos hb] at hw
        omega
      · intro hb
        rw [if_neg (by omega)] at hw
        omega
    rcases Int.lt_or_gt_of_ne h with hb | hb
    · have hw0 := hs.1 hb
      rcases Int.lt_trichotomy q 0 with z | z | z
      · have := Int.mul_pos_of_neg_of_neg z hw0
        omega
      · rw [z] at e2
        omega
      · exact z
    · have hw0 := hs.2 hb
      rcases Int.lt_trichotomy q 0 with z | z | z
      · have := Int.mul_neg_of_neg_of_pos z hw0
        omega
      · rw [z] at e2
        omega
      · exact z
  · rw [hp, hq]
    have e : Int.gcd a b = Int.gcd p q * w.natAbs := by rw [← e1, ← e2, Int.gcd_mul_right]
    rw [wa] at e
    have g : 0 < Int.gcd a b := Nat.pos_of_ne_zero fun z => h (Int.gcd_eq_zero_iff.mp z).2
    have : 1 * Int.gcd a b = Int.gcd p q * Int.gcd a b := by rw [Nat.one_mul]; exact e
    exact (Nat.eq_of_mul_eq_mul_right g this).symm
/-- a reduced pair made larger by a factor is what it was -/
theorem red_scale {p : Int × Int} (h : Rd p) {s : Int} (hs : s ≠ 0) : red (p.1 * s) (p.2 * s) = p := by
  obtain ⟨h1, h2⟩ := h
  have eg : Int.gcd (p.1 * s) (p.2 * s) = s.natAbs := by rw [Int.gcd_mul_right, h2, Nat.one_mul]
  have ew : red_w (p.1 * s) (p.2 * s) = s := by
    unfold red_w
    rw [eg]
    rcases Int.lt_or_gt_of_ne hs with z | z
    · rw [if_pos (Int.mul_neg_of_pos_of_neg h1 z)]
      omega
    · rw [if_neg (by have := Int.mul_pos h1 z; omega)]
      omega
  unfold red
  rw [ew]
  exact Prod.ext (Int.mul_fdiv_cancel _ hs) (Int.mul_fdiv_cancel _ hs)
theorem red_self {p : Int × Int} (h : Rd p) : red p.1 p.2 = p := by
  have := red_scale h (s := 1) (by decide)
  rwa [Int.mul_one, Int.mul_one] at this
theorem rd_int (n : Int) : Rd (n, 1) := ⟨(by decide : (0 : Int) < 1), Int.gcd_one_right ..⟩
theorem red_neg {p : Int × Int} (h : Rd p) : red (-p.1) p.2 = (-p.1, p.2) := red_self (p := (-p.1, p.2)) ⟨h.1, by show Int.gcd (-p.1) p.2 = 1; rw [Int.neg_gcd]; exact h.2⟩
theorem rd_neg {p : Int × Int} (h : Rd p) : Rd (-p.1, p.2) := ⟨h.1, by show Int.gcd (-p.1) p.2 = 1; rw [Int.neg_gcd]; exact h.2⟩
/-- parts are no larger than what they come from -/
theorem red_sz {a b : Int} {m n : Nat} (h : b ≠ 0) (ha : a.natAbs < 2 ^ m) (hb : b.natAbs < 2 ^ n) : (red a b).1.natAbs < 2 ^ m ∧ (red a b).2.natAbs < 2 ^ n := by
  obtain ⟨e1, e2⟩ := red_mul (a := a) (b := b)
  have w1 : 1 ≤ (red_w a b).natAbs := Int.natAbs_pos.mpr (red_w_ne h)
  have f : ∀ x w : Int, 1 ≤ w.natAbs → x.natAbs ≤ (x * w).natAbs := fun x w hw => by
    rw [Int.natAbs_mul]
    exact Nat.le_mul_of_pos_right _ hw
  exact ⟨Nat.lt_of_le_of_lt (Nat.le_trans (f _ _ w1) (Nat.le_of_eq (congrArg Int.natAbs e1))) ha, Nat.lt_of_le_of_lt (Nat.le_trans (f _ _ w1) (Nat.le_of_eq (congrArg Int.natAbs e2))) hb⟩
theorem red_w_sz {a b : Int} {n : Nat} (h : b ≠ 0) (hb : b.natAbs < 2 ^ n) : (red_w a b).natAbs < 2 ^ n := by
  rw [red_w_abs]
  exact Nat.lt_of_le_of_lt (gcd_le h) hb
/-- a step of Euclid -/
theorem gcd_step (a b : Int) : Int.gcd b (a.fmod b) = Int.gcd a b := by
  have e : a = b * a.fdiv b + a.fmod b := (Int.mul_fdiv_add_fmod a b).symm
  rw [Int.gcd_comm a b]
  conv => rhs; rw [e]
  rw [Int.add_comm, Int.gcd_add_mul_left_right]
theorem fmod_lt {a b : Int} (h : b ≠ 0) : (a.fmod b).natAbs < b.natAbs := by
  rcases Int.lt_or_gt_of_ne h with z | z
  · have e := Int.neg_fmod_neg a b
    have h1 := Int.fmod_nonneg_of_pos (-a) (b := -b) (by omega)
    have h2 := Int.fmod_lt_of_pos (-a) (b := -b) (by omega)
    omega
  · have h1 := Int.fmod_nonneg_of_pos a z
    have h2 := Int.fmod_lt_of_pos a z
    omega
end Gy
namespace Gy
open PySem L2
/-- a while whose test only reads: W by a measure that is not 0 where the body runs -/
theorem while_any {c : TT} {tb : TS} {D : Ends} {σ : L2.St} {H : Hp} (W : Nat → L2.St → Hp → Prop) (h0 : ∃ m, W m σ H)
    (test : ∀ m σ H (Q : Bool → Hp → Prop), W m σ H → (m ≠ 0 → Q true H) → Q false H → c σ H Q)
    (turn : ∀ m σ H, m ≠ 0 → W m σ H → tb { D with nx := fun σ' H' => ∃ m', m' < m ∧ W m' σ' H', ct := fun σ' H' => ∃ m', m' < m ∧ W m' σ' H', bk := D.nx } σ H) (done : ∀ m σ H, W m σ H → D.nx σ H) : tWhile c tb D σ H :=
  ⟨W, h0, fun m σ H w => test m σ H _ w (fun hm => iteT ⟨fun σ' H' => ∃ m', m' < m ∧ W m' σ' H', fun _ _ z => z, turn m σ H hm w⟩) (iteF (done m σ H w))⟩
end Gy
namespace Gy
open PySem L2
theorem walk_zipT {K : PySem.W.Frag} {a b : Addr} {xs ys : List V} {n : Nat} (hn : n = min xs.length ys.length) : Walk (RZ.ItzT K a b) n (fun H => SqT K H a xs ∧ SqT K H b ys) (YPair (fun i => xs[i]?) (fun i => ys[i]?)) := by
  refine ⟨fun i H hi hq => ?_, fun H hq => ?_, fun i H x H' _ hq y => ?_⟩
  · have h1 : i < xs.length := by omega
    have h2 : i < ys.length := by omega
    exact ⟨xs, ys, xs[i], ys[i], hq.1, hq.2, List.getElem?_eq_getElem h1, List.getElem?_eq_getElem h2⟩
  · refine ⟨xs, ys, hq.1, hq.2, ?_⟩
    omega
  · obtain ⟨T, u, v, rfl, nT, e, h1, h2⟩ := y
    exact ⟨T, u, v, rfl, nT, e, h1 xs hq.1, h2 ys hq.2⟩
end Gy
namespace Gy
open PySem L2
/-- a comprehension without a test keeps each item -/
theorem yes_of {σ : L2.St} {H : Hp} {A B : Hp → Prop} (h : A H) : tYes σ H fun b H3 => if b = true then A H3 else B H3 := by
  show (if true = true then A H else B H)
  exact iteT h
end Gy
namespace L2
open PySem PySem.Spec PyProof.Rows
/-- a def with defaults that lets nothing out -/
theorem FunD.ok0 {P : Program} {w : World} {K : PySem.W.Frag} {mg : Str → Option Value} {base : Heap} {x qual : Str} {params : Arguments} {body : List Stmt} {scope : Scope} {dvs : List V} {kws : List (Str × V)} {f : Addr} {fd : FuncData} {N ps : List Str} {k : Nat} {sp : Sp}
    (F : FunD K x qual params body scope dvs kws f fd) (S : FnScope N ps scope) (len : ∀ vs H Q E, sp vs H Q E → vs.length = ps.length)
    (hbody : ∀ (cdv : Value) (A : Around) (outer : List Env) (s : Shared) (H : Hp) (vs : List V) (Q : VK) (E : XK), Room k (A.deeper (envOfC qual scope s.heap.objs.size f cdv)) → sp vs H Q E →
      ∃ t, PSs (cxOf CX0 P w K mg base N qual scope f cdv A outer s H E).nox body t ∧ t { nx := fun _ H' => Q .non H', rt := Q } (start N vs) H) : FnOk P w K mg base CX0 (k + 1) f fd ps sp :=
  F.ok S len fun cdv A outer s H vs Q E hr h => let ⟨t, a, b⟩ := hbody cdv A outer s H vs Q E hr h; ⟨t, a.nox, b⟩
end L2
namespace Gy
open PySem L2
/-! ### isinstance against an own class, of an own class -/
theorem kit_self {K : PySem.W.Frag} {C : Addr} : PySem.W.kitOne K (.ref C) (.ref C) = some true := by
  unfold PySem.W.kitOne
  rw [if_pos (beq_iff_eq.mpr rfl)]
theorem kit_to {K : PySem.W.Frag} {C : Addr} {t : String} {b : Bool} (ic : PySem.W.isClsIn K C = true) (ty : PySem.W.typeIn K (.ref C) = some (.type "type")) (up : PySem.W.subIn K (.type t) (.ref C) = some b) : PySem.W.kitOne K (.type t) (.ref C) = some b := by
  unfold PySem.W.kitOne
  rw [if_neg (fun q => by cases beq_iff_eq.mp q)]
  unfold PySem.W.kitCls
  have h : ((PySem.W.clsIn K C).isSome && PySem.W.typeIn K (.ref C) == some (.type "type")) = true := by
    rw [ty, show (PySem.W.clsIn K C).isSome = true from ic]
    rfl
  show (if ((PySem.W.clsIn K C).isSome && PySem.W.typeIn K (.ref C) == some (.type "type")) = true then PySem.W.subIn K (.type t) (.ref C) else none) = some b
  rw [if_pos h]
  exact up
theorem kit_of_to {K : PySem.W.Frag} {C D : Addr} {b : Bool} (ne : C ≠ D) (ic : PySem.W.isClsIn K D = true) (ty : PySem.W.typeIn K (.ref D) = some (.type "type")) (up : PySem.W.subIn K (.ref C) (.ref D) = some b) : PySem.W.kitOne K (.ref C) (.ref D) = some b := by
  unfold PySem.W.kitOne
  rw [if_neg (fun q => ne (Value.ref.inj (beq_iff_eq.mp q)))]
  have h : ((PySem.W.clsIn K D).isSome && PySem.W.typeIn K (.ref D) == some (.type "type")) = true := by
    rw [ty, show (PySem.W.clsIn K D).isSome = true from ic]
    rfl
  show (if ((PySem.W.clsIn K D).isSome && PySem.W.typeIn K (.ref D) == some (.type "type")) = true then PySem.W.subIn K (.ref C) (.ref D) else none) = some b
  rw [if_pos h]
  exact up
theorem kit_ob {K : PySem.W.Frag} {C : Addr} {t : String} {b : Bool} (m : PySem.W.kitMeta t = true) (dn : PySem.W.subIn K (.ref C) (.type t) = some b) : PySem.W.kitOne K (.ref C) (.type t) = some b := by
  unfold PySem.W.kitOne
  rw [if_neg (fun q => by cases beq_iff_eq.mp q)]
  show (if PySem.W.kitMeta t = true then PySem.W.subIn K (.ref C) (.type t) else none) = some b
  rw [if_pos m]
  exact dn
end Gy

set_option Elab.async false
set_option linter.all false
set_option maxRecDepth 100000
set_option maxHeartbeats 4000000
/-! Lay2: comparisons of an own class: by its methods, turned about, and != by ==. -/
namespace PySem.GyDec
open PySem PySem.W AutoSeq1
section
variable {C dx x : Addr} (a : Int) (t : Tok)
abbrev GyAt (x C dx : Addr) : Shared → Prop := fun s => s.heap.get? x = some (instObj C dx)
theorem lt_dec : GivesAt (GyAt x C dx) (Builtin.«int.__lt__» ⟨[.int a t, .ref x], []⟩) (.val .notImplemented) := fun prog w A R s hP h => by
  obtain ⟨hp, g, d, tk, os⟩ := s
  have hl : Heap.get? (Shared.heap ⟨hp, g, d, tk, os⟩) x = some (instObj C dx) := hP
  wp_walk using wpAny_loadPart' hl
  exact h
theorem le_dec : GivesAt (GyAt x C dx) (Builtin.«int.__le__» ⟨[.int a t, .ref x], []⟩) (.val .notImplemented) := fun prog w A R s hP h => by
  obtain ⟨hp, g, d, tk, os⟩ := s
  have hl : Heap.get? (Shared.heap ⟨hp, g, d, tk, os⟩) x = some (instObj C dx) := hP
  wp_walk using wpAny_loadPart' hl
  exact h
theorem gt_dec : GivesAt (GyAt x C dx) (Builtin.«int.__gt__» ⟨[.int a t, .ref x], []⟩) (.val .notImplemented) := fun prog w A R s hP h => by
  obtain ⟨hp, g, d, tk, os⟩ := s
  have hl : Heap.get? (Shared.heap ⟨hp, g, d, tk, os⟩) x = some (instObj C dx) := hP
  wp_walk using wpAny_loadPart' hl
  exact h
theorem ge_dec : GivesAt (GyAt x C dx) (Builtin.«int.__ge__» ⟨[.int a t, .ref x], []⟩) (.val .notImplemented) := fun prog w A R s hP h => by
  obtain ⟨hp, g, d, tk, os⟩ := s
  have hl : Heap.get? (Shared.heap ⟨hp, g, d, tk, os⟩) x = some (instObj C dx) := hP
  wp_walk using wpAny_loadPart' hl
  exact h
theorem eq_dec : GivesAt (GyAt x C dx) (Builtin.«int.__eq__» ⟨[.int a t, .ref x], []⟩) (.val .notImplemented) := fun prog w A R s hP h => by
  obtain ⟨hp, g, d, tk, os⟩ := s
  have hl : Heap.get? (Shared.heap ⟨hp, g, d, tk, os⟩) x = some (instObj C dx) := hP
  wp_walk using wpAny_loadPart' hl
  exact h
theorem beq_dec (b : Bool) : GivesAt (GyAt x C dx) (Builtin.«int.__eq__» ⟨[.bool b, .ref x], []⟩) (.val .notImplemented) := fun prog w A R s hP h => by
  obtain ⟨hp, g, d, tk, os⟩ := s
  have hl : Heap.get? (Shared.heap ⟨hp, g, d, tk, os⟩) x = some (instObj C dx) := hP
  wp_walk using wpAny_loadPart' hl
  exact h
theorem seq_dec (y : Str) : GivesAt (GyAt x C dx) (Builtin.«str.__eq__» ⟨[.str y t, .ref x], []⟩) (.val .notImplemented) := fun prog w A R s hP h => by
  obtain ⟨hp, g, d, tk, os⟩ := s
  have hl : Heap.get? (Shared.heap ⟨hp, g, d, tk, os⟩) x = some (instObj C dx) := hP
  wp_walk using wpAny_loadPart' hl
  exact h
theorem neq_dec : GivesAt (GyAt x C dx) (Builtin.«NoneType.__eq__» ⟨[.none, .ref x], []⟩) (.val .notImplemented) := fun prog w A R s hP h => by
  obtain ⟨hp, g, d, tk, os⟩ := s
  have hl : Heap.get? (Shared.heap ⟨hp, g, d, tk, os⟩) x = some (instObj C dx) := hP
  wp_walk using wpAny_loadPart' hl
  exact h
end
section
variable {prog : Program} {w : World} {A : Around} {E : Value → Shared → Prop} {s : Shared} {C dx x : Addr} {a : Int} {t : Tok} {P : Option Value → Shared → Prop}
theorem tryC_dec {b : Value} {T : String} {name : Str} {id : String} {B : Builtin} (hT : s.TypeIs b T) (slot : Slot T name id) (entry : entryFor table id = some B) (args : argsOk id ⟨[b, .ref x], []⟩)
    (g : GivesAt (GyAt x C dx) (B ⟨[b, .ref x], []⟩) (.val .notImplemented)) (hx : s.heap.get? x = some (instObj C dx)) (h : P none s) : wpAny (model prog w) A (tryCompare b name (.ref x)) P E s :=
  wpAny_tryCompare_declines hT slot (call_givesAt slot hT entry args g hx ⟨rfl, h⟩)
theorem tryC_lt (hx : s.heap.get? x = some (instObj C dx)) (h : P none s) : wpAny (model prog w) A (tryCompare (.int a t) (cmpInfo .Lt).2.1 (.ref x)) P E s :=
  tryC_dec (T := "int") (name := (cmpInfo .Lt).2.1) (id := "int.__lt__") (B := Builtin.«int.__lt__») (typeIs_int s a t) F.slot_int_lt F.entry_int_lt (F.args_int_lt_2 _ _) (lt_dec a t) hx h
theorem tryC_le (hx : s.heap.get? x = some (instObj C dx)) (h : P none s) : wpAny (model prog w) A (tryCompare (.int a t) (cmpInfo .LtE).2.1 (.ref x)) P E s :=
  tryC_dec (T := "int") (name := (cmpInfo .LtE).2.1) (id := "int.__le__") (B := Builtin.«int.__le__») (typeIs_int s a t) F.slot_int_le F.entry_int_le (F.args_int_le_2 _ _) (le_dec a t) hx h
theorem tryC_gt (hx : s.heap.get? x = some (instObj C dx)) (h : P none s) : wpAny (model prog w) A (tryCompare (.int a t) (cmpInfo .Gt).2.1 (.ref x)) P E s :=
  tryC_dec (T := "int") (name := (cmpInfo .Gt).2.1) (id := "int.__gt__") (B := Builtin.«int.__gt__») (typeIs_int s a t) F.slot_int_gt F.entry_int_gt (F.args_int_gt_2 _ _) (gt_dec a t) hx h
theorem tryC_ge (hx : s.heap.get? x = some (instObj C dx)) (h : P none s) : wpAny (model prog w) A (tryCompare (.int a t) (cmpInfo .GtE).2.1 (.ref x)) P E s :=
  tryC_dec (T := "int") (name := (cmpInfo .GtE).2.1) (id := "int.__ge__") (B := Builtin.«int.__ge__») (typeIs_int s a t) F.slot_int_ge F.entry_int_ge (F.args_int_ge_2 _ _) (ge_dec a t) hx h
theorem tryC_eq (hx : s.heap.get? x = some (instObj C dx)) (h : P none s) : wpAny (model prog w) A (tryCompare (.int a t) (cmpInfo .Eq).2.1 (.ref x)) P E s :=
  tryC_dec (T := "int") (name := (cmpInfo .Eq).2.1) (id := "int.__eq__") (B := Builtin.«int.__eq__») (typeIs_int s a t) F.slot_int_eq F.entry_int_eq (F.args_int_eq_2 _ _) (eq_dec a t) hx h
theorem tryC_beq {b : Bool} (hx : s.heap.get? x = some (instObj C dx)) (h : P none s) : wpAny (model prog w) A (tryCompare (.bool b) (cmpInfo .Eq).2.1 (.ref x)) P E s :=
  tryC_dec (T := "bool") (name := (cmpInfo .Eq).2.1) (id := "int.__eq__") (B := Builtin.«int.__eq__») rfl F.slot_bool_eq F.entry_int_eq (F.args_int_eq_2 _ _) (beq_dec b) hx h
theorem tryC_seq {y : Str} (hx : s.heap.get? x = some (instObj C dx)) (h : P none s) : wpAny (model prog w) A (tryCompare (.str y t) (cmpInfo .Eq).2.1 (.ref x)) P E s :=
  tryC_dec (T := "str") (name := (cmpInfo .Eq).2.1) (id := "str.__eq__") (B := Builtin.«str.__eq__») (typeIs_str s y t) F.slot_str_eq F.entry_str_eq (F.args_str_eq_2 _ _) (seq_dec t y) hx h
theorem tryC_neq (hx : s.heap.get? x = some (instObj C dx)) (h : P none s) : wpAny (model prog w) A (tryCompare .none (cmpInfo .Eq).2.1 (.ref x)) P E s :=
  tryC_dec (T := "NoneType") (name := (cmpInfo .Eq).2.1) (id := "NoneType.__eq__") (B := Builtin.«NoneType.__eq__») rfl F.slot_NoneType_eq F.entry_NoneType_eq (F.args_NoneType_eq_2 _ _) neq_dec hx h
end
end PySem.GyDec
namespace PySem.W
open PySem PySem.Calls PyProof.Rows
section
variable {prog : Program} {w : World} {A : Around} {E : Value → Shared → Prop} {s : Shared} {K : Frag} {x C L f : Addr} {h₀ : Heap} {m : Str → Option Value} {ox : Obj} {od : Option Obj} {T : String}
/-- b op x, b of a built-in type whose own comparison declines: x's turned one is asked -/
theorem gy_cmpR {op : CmpOp} {b : Value} {Q : Value → Shared → Prop} (hu : A.units < cLine) (F : Fr h₀ L s.heap m) (X₀ : K.In h₀) (I : InstAt s.heap x ox C od) (hb : s.TypeIs b T) (hL : Looks (model prog w) s.heap (typeOf b) (.type T))
    (hs : findIn K (.ref C) (cmpInfo op).2.2 = some (some (.ref f))) (hf : isFn K (.ref f) = true) (dn : subIn K (.ref C) (.type T) = some false)
    (hdec : ∀ P : Option Value → Shared → Prop, P none s → wpAny (model prog w) A (tryCompare b (cmpInfo op).2.1 (.ref x)) P E s)
    (h : wpAny (model prog w) A (call (.ref f) [.ref x, b]) (CmpBack Q) E s) : wpAny (model prog w) A (richCompare op b (.ref x)) Q E s := by
  have X := X₀.keeps F.keep
  have one : wpAny (model prog w) A (tryCompare (.ref x) (cmpInfo op).2.2 b) (fun r s' => ∃ v, r = some v ∧ Q v s') E s := by
    unfold tryCompare
    refine wpAny_bind (ifBound_K X I hs hf (wpAny_mono h (fun v s' hv => ?_) fun _ _ e => e))
    cases v <;> first | exact hv.elim | exact wpAny_pure ⟨_, rfl, hv⟩
  have hne : (Value.type T != Value.ref C) = true := by
    rw [bne, Bool.not_eq_true', Bool.eq_false_iff]
    intro q
    cases beq_iff_eq.mp q
  unfold richCompare
  simp only [hb.oneThing_none]
  refine wpAny_holding (wpAny_bind (wpAny_cRoomFor hu ?_))
  refine wpAny_bind (hL.here (wpAny_bind (I.type.here ?_)))
  rw [if_pos hne]
  refine wpAny_bind ((looks_subIn X dn).here ?_)
  simp only [Bool.false_eq_true, if_false]
  refine wpAny_bind (hdec _ ?_)
  simp only [Bool.not_false, if_true]
  refine wpAny_bind (wpAny_mono one (fun r s' z => ?_) fun _ _ e => e)
  obtain ⟨v, rfl, hq⟩ := z
  exact wpAny_pure hq
end
end PySem.W
namespace PySem.W
open PySem PySem.Calls PyProof.Rows
section
variable {prog : Program} {w : World} {A : Around} {E : Value → Shared → Prop} {s : Shared} {K : Frag} {x C L f : Addr} {h₀ : Heap} {m : Str → Option Value} {ox : Obj} {od : Option Obj} {t : Value}
theorem gy_neObj {b : Value} {Q : Fin → Shared → Prop} (hu : A.units < cLine) (X : K.In s.heap) (I : InstAt s.heap x ox C od) (heq : findIn K (.ref C) "__eq__" = some (some (.ref f))) (hf : isFn K (.ref f) = true)
    (h : wpAny (model prog w) A (call (.ref f) [.ref x, b]) (fun v s' => ∃ c, v = .bool c ∧ Q (.done (.ret (.bool (!c)))) s') E s) : wpAny (model prog w) A (Builtin.«object.__ne__» ⟨[.ref x, b], []⟩) Q E s := by
  obtain ⟨hp, g, d, tk, os⟩ := s
  unfold Builtin.«object.__ne__»
  repeat (first
    | with_reducible refine wpAny_cRoomFor hu ?_
    | (refine wpAny_bind (m := callSpecialIfBound? (.ref x) (Str.ofString "__eq__") [b])
        (ifBound_K X I heq hf (wpAny_mono h (fun r s' hr => by
          obtain ⟨c, rfl, hq⟩ := hr
          repeat (first | exact hq | exact wpAny_pure hq | exact wpAny_truthy_bool hq | (refine wpAny_bind (m := truthy (.bool _)) (wpAny_truthy_bool ?_)) | wp_step)) fun _ _ e => e)))
    | wp_step)
theorem gy_ne {b : Value} {Q : Value → Shared → Prop} (hu : A.units + 1 < cLine) (FF : Fr h₀ L s.heap m) (X₀ : K.In h₀) (I : InstAt s.heap x ox C od) (hL : Looks (model prog w) s.heap (typeOf b) t) (hn : notFirst K C t = true)
    (hne : findIn K (.ref C) "__ne__" = some (some (.builtin "object.__ne__"))) (heq : findIn K (.ref C) "__eq__" = some (some (.ref f))) (hf : isFn K (.ref f) = true) (ho : mroIn K C (.type "object") = some true)
    (h : wpAny (model prog w) A.in1 (call (.ref f) [.ref x, b]) (fun v s' => ∃ c, v = .bool c ∧ Q (.bool (!c)) s') E s) : wpAny (model prog w) A (richCompare .NotEq (.ref x) b) Q E s := by
  have X := X₀.keeps FF.keep
  have hi : Looks (model prog w) s.heap (isInstance (.ref x) (.type "object")) true := I.type.andThen (looks_mroIn X ho)
  have cal : wpAny (model prog w) A (call (.builtin "object.__ne__") [.ref x, b]) (fun v s' => ∃ c, v = .bool c ∧ Q (.bool c) s') E s := by
    refine wpAny_call (codeAny_call_builtin F.slot_object_ne.plain F.entry_object_ne (check_slot (owner := "object") (n := "__ne__") (by decide +kernel) (by decide +kernel) hi (F.args_object_ne_2 _ _) ?_))
    refine gy_neObj (A := A.in1) (by have := hu; exact this) X I heq hf (wpAny_mono h (fun v s' hv => ?_) fun _ _ e => e)
    obtain ⟨c, rfl, hq⟩ := hv
    exact ⟨c, rfl, _, rfl, hq⟩
  have one : wpAny (model prog w) A (tryCompare (.ref x) (cmpInfo .NotEq).2.1 b) (fun r s' => ∃ v, r = some v ∧ Q v s') E s := by
    unfold tryCompare
    refine wpAny_bind (m := callSpecialIfBound? (.ref x) (Str.ofString "__ne__") [b]) ?_
    simp only [callSpecialIfBound?, bindSpecialIfBound?]
    refine wpAny_holding (wpAny_bind (wpAny_bind (wpAny_bind (I.type.here ((looks_findIn X hne).here ?_)))))
    refine wpAny_bind (wpAny_askSetting (wpAny_ite ?_))
    have fin : wpAny (model prog w) A (call (.builtin "object.__ne__") ([.ref x] ++ [b]) >>= fun v => pure (some v)) (fun a s' => wpAny (model prog w) A (match a with | some .notImplemented | none => pure none | some v => pure (some v)) (fun r s' => ∃ v, r = some v ∧ Q v s') E s') E s := by
      refine wpAny_bind (wpAny_mono cal (fun v s' hv => ?_) fun _ _ e => e)
      obtain ⟨c, rfl, hq⟩ := hv
      exact wpAny_pure (wpAny_pure ⟨_, rfl, hq⟩)
    simp only [F.slot_object_ne.bind]
    split
    · exact wpAny_bind (wpAny_pure (wpAny_pure (by exact fin)))
    · exact wpAny_tryCatch (wpAny_bind (wpAny_pure (wpAny_pure (by exact fin))))
  unfold richCompare
  simp only [oneThing_ref]
  refine wpAny_holding (wpAny_bind (wpAny_cRoomFor (Nat.lt_of_succ_lt hu) ?_))
  refine wpAny_bind (I.type.here (wpAny_bind (hL.here ?_)))
  split
  · rename_i q
    have e : subIn K t (.ref C) = some false := by
      rcases Bool.or_eq_true_iff.mp hn with e | e
      · rw [beq_iff_eq.mp e] at q; simp at q
      · exact beq_iff_eq.mp e
    refine wpAny_bind ((looks_subIn X e).here ?_)
    simp only [Bool.false_eq_true, if_false]
    refine wpAny_bind (wpAny_mono one (fun r s' z => ?_) fun _ _ e => e)
    obtain ⟨v, rfl, hq⟩ := z
    exact wpAny_pure hq
  · refine wpAny_bind (wpAny_pure ?_)
    simp only [Bool.false_eq_true, if_false]
    refine wpAny_bind (wpAny_mono one (fun r s' z => ?_) fun _ _ e => e)
    obtain ⟨v, rfl, hq⟩ := z
    exact wpAny_pure hq
end
end PySem.W
namespace PySem.GyDec
open PySem PySem.W AutoSeq1
section
variable {C dx x l : Addr} {n : Nat} {vs : List Value} {ol : Obj}
abbrev GyTwo (T : String) (l : Addr) (ol : Obj) (x C dx : Addr) : Shared → Prop := fun s => s.heap.get? l = some ol ∧ s.heap.get? x = some (instObj C dx) ∧ ∀ prog w, Looks (model prog w) s.heap (isSubtype (.ref C) (.type T)) false
theorem list_dec (dd : Option Addr) (a : Array Value) (nn : Nat) (sl : Array (Option Value)) : GivesAt (GyTwo "list" l ⟨.type "list", dd, .seq a nn, sl⟩ x C dx) (Builtin.«list.__eq__» ⟨[.ref l, .ref x], []⟩) (.val .notImplemented) := fun prog w A R s hP h => by
  obtain ⟨hp, g, d, tk, os⟩ := s
  obtain ⟨h1, h2, h3⟩ := hP
  have hl : Heap.get? (Shared.heap ⟨hp, g, d, tk, os⟩) l = some ⟨.type "list", dd, .seq a nn, sl⟩ := h1
  have hx : Heap.get? (Shared.heap ⟨hp, g, d, tk, os⟩) x = some (instObj C dx) := h2
  wp_walk using wpAny_loadPart' hl, wpAny_loadPart' hx
  refine (h3 prog w).here ?_
  simp only [Bool.not_false, if_true]
  wp_walk using wpAny_loadPart' hl
  exact h
theorem tup_dec {ol : Obj} (hc : ol.cls = .type "tuple") : GivesAt (GyTwo "tuple" l ol x C dx) (Builtin.«tuple.__eq__» ⟨[.ref l, .ref x], []⟩) (.val .notImplemented) := fun prog w A R s hP h => by
  obtain ⟨hp, g, d, tk, os⟩ := s
  obtain ⟨h1, h2, h3⟩ := hP
  obtain ⟨c, od, pl, sl⟩ := ol
  obtain rfl : c = .type "tuple" := hc
  have hl : Heap.get? (Shared.heap ⟨hp, g, d, tk, os⟩) l = some ⟨.type "tuple", od, pl, sl⟩ := h1
  have hx : Heap.get? (Shared.heap ⟨hp, g, d, tk, os⟩) x = some (instObj C dx) := h2
  wp_walk using wpAny_loadPart' hl, wpAny_loadPart' hx
  refine (h3 prog w).here ?_
  simp only [Bool.not_false, if_true]
  wp_walk using wpAny_loadPart' hl
  exact h
theorem dict_dec {ol : Obj} (hc : ol.cls = .type "dict") : GivesAt (GyTwo "dict" l ol x C dx) (Builtin.«dict.__eq__» ⟨[.ref l, .ref x], []⟩) (.val .notImplemented) := fun prog w A R s hP h => by
  obtain ⟨hp, g, d, tk, os⟩ := s
  obtain ⟨h1, h2, h3⟩ := hP
  obtain ⟨c, od, pl, sl⟩ := ol
  obtain rfl : c = .type "dict" := hc
  have hl : Heap.get? (Shared.heap ⟨hp, g, d, tk, os⟩) l = some ⟨.type "dict", od, pl, sl⟩ := h1
  have hx : Heap.get? (Shared.heap ⟨hp, g, d, tk, os⟩) x = some (instObj C dx) := h2
  wp_walk using wpAny_loadPart' hl, wpAny_loadPart' hx
  refine (h3 prog w).here ?_
  simp only [Bool.not_false, if_true]
  wp_walk using wpAny_loadPart' hl
  exact h
end
end PySem.GyDec
namespace L2
open PySem PySem.Spec PyProof.Rows
section
variable {X : Cx} {CX : CXT} {pins : List (Addr × Obj)} {σ : St} {H : Hp} {s : Shared} {a C dx g r : Addr} {fs : List (Str × V)} {k : Nat} {fd : FuncData} {ps : List Str} {sp : Sp} {E : XK}
theorem run_fn1 {Q : VK} {us : List Value} {vs : List V} (F : FnOk X.prog X.w X.K X.mg X.base CX k g fd ps sp) (hr : Room (k + 1) X.A) (hb : Binds X.K fd ps []) (hx : Passes CX X E)
    (I : Inv X pins σ H s) (r : Vals vs us) (h : sp vs H Q E) : wpAny (model X.prog X.w) X.A.in1 (call (.ref g) us) (EP X pins σ Q) X.xe s := by
  have hl : us.length = ps.length := by rw [← r.length]; exact F.len _ _ _ _ h
  have b := hb s us I.kIn (by rw [List.append_nil]; exact hl)
  rw [List.append_nil] at b
  refine wpAny_call (codeAny_mono (F.run X.A.in1 X.stack s H ⟨us, []⟩ us vs Q E hr.in1 I.env0.in1 b r h) fun r s' hq => ?_)
  cases r with
  | error e => exact hx pins σ H s e s' I hq
  | ok fl =>
    cases fl with
    | ret u => exact I.after hq
    | next => exact False.elim hq
    | brk => exact False.elim hq
    | cont => exact False.elim hq
/-- x op y, x an instance: its own method; y's type is no subclass -/
def rGyC (K : PySem.W.Frag) (C : Addr) (sp : Sp) (E : XK) : R2 := fun x y H Q => ∃ a dx fs t, x = .ref a ∧ H a = some (.ins C dx fs) ∧ TyX K H y t ∧ PySem.W.notFirst K C t = true ∧ sp [x, y] H Q E
theorem op_gyC {op : CmpOp} (ho : ∀ a b, compareOp op a b = richCompare op a b) (hs : PySem.W.findIn X.K (.ref C) (cmpInfo op).2.1 = some (some (.ref g))) (hf : PySem.W.isFn X.K (.ref g) = true)
    (F : FnOk X.prog X.w X.K X.mg X.base CX k g fd ps sp) (hr : Room k X.A) (hb : Binds X.K fd ps []) (hx : Passes CX X E) : OpR X (compareOp op) (rGyC X.K C sp E) := by
  intro pins s σ H x y v u Q I rx ry h
  obtain ⟨a, dx, fs, t, rfl, ha, ty, hn, q⟩ := h
  obtain rfl : v = Value.ref a := rx
  obtain ⟨od, J, _⟩ := ins_at I ha
  obtain ⟨m, hF⟩ := I.fr
  obtain ⟨P, kx, hP, _⟩ := kit_of I ry ty
  have q' : sp ([.ref a, y] ++ []) H Q E := q
  have go : wpAny (model X.prog X.w) X.A (call (.ref g) [.ref a, u]) (PySem.W.CmpBack (EP X pins σ Q)) X.xe s :=
    wpAny_mono (run_fn (us := [.ref a, u]) (vs := [.ref a, y]) F hr hb .nil hx I (.cons rfl (.cons ry .nil)) q') (fun w s' z => by
      obtain ⟨z', H', I', rz, qz⟩ := z
      exact gy_back rz ⟨z', H', I', rz, qz⟩) fun _ _ e => e
  rw [ho]
  exact PySem.W.cmp_K hr.units0 hF I.ok.mod.kin J (kx.ty _ _ I.kIn hP) hn hs hf go
/-- x != y by object's, through the own == -/
def rGyNe (K : PySem.W.Frag) (C : Addr) (sp : Sp) (E : XK) : R2 := fun x y H Q => ∃ a dx fs t, x = .ref a ∧ H a = some (.ins C dx fs) ∧ TyX K H y t ∧ PySem.W.notFirst K C t = true ∧ sp [x, y] H (fun v H' => ∃ c, v = .bl c ∧ Q (.bl (!c)) H') E
theorem op_gyNe (hne : PySem.W.findIn X.K (.ref C) "__ne__" = some (some (.builtin "object.__ne__"))) (hs : PySem.W.findIn X.K (.ref C) "__eq__" = some (some (.ref g))) (hf : PySem.W.isFn X.K (.ref g) = true) (hm : PySem.W.mroIn X.K C (.type "object") = some true)
    (F : FnOk X.prog X.w X.K X.mg X.base CX k g fd ps sp) (hr : Room (k + 1) X.A) (hb : Binds X.K fd ps []) (hx : Passes CX X E) : OpR X (compareOp .NotEq) (rGyNe X.K C sp E) := by
  intro pins s σ H x y v u Q I rx ry h
  obtain ⟨a, dx, fs, t, rfl, ha, ty, hn, q⟩ := h
  obtain rfl : v = Value.ref a := rx
  obtain ⟨od, J, _⟩ := ins_at I ha
  obtain ⟨m, hF⟩ := I.fr
  obtain ⟨P, kx, hP, _⟩ := kit_of I ry ty
  exact PySem.W.gy_ne (f := g) hr.in1.units0 hF I.ok.mod.kin J (kx.ty _ _ I.kIn hP) hn hne hs hf hm
    (wpAny_mono (run_fn1 (us := [.ref a, u]) (vs := [.ref a, y]) F hr hb hx I (.cons rfl (.cons ry .nil)) q) (fun w s' z => by
      obtain ⟨z', H', I', rz, c, rfl, qz⟩ := z
      cases (show w = Value.bool c from rz)
      exact ⟨c, rfl, .bl (!c), H', I', rfl, qz⟩) fun _ _ e => e)
/-- x's own comparison with an instance of C declines -/
def Turns (X : Cx) (C : Addr) (op : CmpOp) (x : V) (H : Hp) : Prop := ∀ (pins : List (Addr × Obj)) (σ : St) (s : Shared) (v : Value) (b dy : Addr) (gs : List (Str × V)), Inv X pins σ H s → RelV x v → H b = some (.ins C dy gs) →
  ∃ T, s.TypeIs v T ∧ PySem.W.Looks (model X.prog X.w) s.heap (typeOf v) (.type T) ∧ PySem.W.subIn X.K (.ref C) (.type T) = some false ∧
    ∀ (A : Around) (E : Value → Shared → Prop) (P : Option Value → Shared → Prop), P none s → wpAny (model X.prog X.w) A (tryCompare v (cmpInfo op).2.1 (.ref b)) P E s
/-- x op y, y an instance, x's own comparison declines: y's turned one -/
def rGyCR (X : Cx) (op : CmpOp) (C : Addr) (sp : Sp) (E : XK) : R2 := fun x y H Q => ∃ b dy gs, y = .ref b ∧ H b = some (.ins C dy gs) ∧ Turns X C op x H ∧ sp [y, x] H Q E
theorem op_gyCR {op : CmpOp} (ho : ∀ a b, compareOp op a b = richCompare op a b) (hs : PySem.W.findIn X.K (.ref C) (cmpInfo op).2.2 = some (some (.ref g))) (hf : PySem.W.isFn X.K (.ref g) = true)
    (F : FnOk X.prog X.w X.K X.mg X.base CX k g fd ps sp) (hr : Room k X.A) (hb : Binds X.K fd ps []) (hx : Passes CX X E) : OpR X (compareOp op) (rGyCR X op C sp E) := by
  intro pins s σ H x y v u Q I rx ry h
  obtain ⟨b, dy, gs, rfl, hb', tn, q⟩ := h
  obtain rfl : u = Value.ref b := ry
  obtain ⟨od, J, _⟩ := ins_at I hb'
  obtain ⟨m, hF⟩ := I.fr
  obtain ⟨T, t1, t2, t3, t4⟩ := tn pins σ s v b dy gs I rx hb'
  have q' : sp ([.ref b, x] ++ []) H Q E := q
  have go : wpAny (model X.prog X.w) X.A (call (.ref g) [.ref b, v]) (PySem.W.CmpBack (EP X pins σ Q)) X.xe s :=
    wpAny_mono (run_fn (us := [.ref b, v]) (vs := [.ref b, x]) F hr hb .nil hx I (.cons rfl (.cons rx .nil)) q') (fun w s' z => by
      obtain ⟨z', H', I', rz, qz⟩ := z
      exact gy_back rz ⟨z', H', I', rz, qz⟩) fun _ _ e => e
  rw [ho]
  exact PySem.W.gy_cmpR hr.units0 hF I.ok.mod.kin J t1 t2 hs hf t3 (fun P hp => t4 _ _ P hp) go
theorem turns_lt {i : Int} (hs : PySem.W.subIn X.K (.ref C) (.type "int") = some false) : Turns X C .Lt (.int i) H := fun pins σ s v b dy gs I rv hb => by
  obtain ⟨t, rfl⟩ := rv
  exact ⟨"int", typeIs_int s i t, PySem.W.Looks.of_pure rfl, hs, fun A E P hp => GyDec.tryC_lt (ins_at I hb).choose_spec.2 hp⟩
theorem turns_le {i : Int} (hs : PySem.W.subIn X.K (.ref C) (.type "int") = some false) : Turns X C .LtE (.int i) H := fun pins σ s v b dy gs I rv hb => by
  obtain ⟨t, rfl⟩ := rv
  exact ⟨"int", typeIs_int s i t, PySem.W.Looks.of_pure rfl, hs, fun A E P hp => GyDec.tryC_le (ins_at I hb).choose_spec.2 hp⟩
theorem turns_gt {i : Int} (hs : PySem.W.subIn X.K (.ref C) (.type "int") = some false) : Turns X C .Gt (.int i) H := fun pins σ s v b dy gs I rv hb => by
  obtain ⟨t, rfl⟩ := rv
  exact ⟨"int", typeIs_int s i t, PySem.W.Looks.of_pure rfl, hs, fun A E P hp => GyDec.tryC_gt (ins_at I hb).choose_spec.2 hp⟩
theorem turns_ge {i : Int} (hs : PySem.W.subIn X.K (.ref C) (.type "int") = some false) : Turns X C .GtE (.int i) H := fun pins σ s v b dy gs I rv hb => by
  obtain ⟨t, rfl⟩ := rv
  exact ⟨"int", typeIs_int s i t, PySem.W.Looks.of_pure rfl, hs, fun A E P hp => GyDec.tryC_ge (ins_at I hb).choose_spec.2 hp⟩
theorem turns_eq {i : Int} (hs : PySem.W.subIn X.K (.ref C) (.type "int") = some false) : Turns X C .Eq (.int i) H := fun pins σ s v b dy gs I rv hb => by
  obtain ⟨t, rfl⟩ := rv
  exact ⟨"int", typeIs_int s i t, PySem.W.Looks.of_pure rfl, hs, fun A E P hp => GyDec.tryC_eq (ins_at I hb).choose_spec.2 hp⟩
theorem turns_beq {c : Bool} (hs : PySem.W.subIn X.K (.ref C) (.type "bool") = some false) : Turns X C .Eq (.bl c) H := fun pins σ s v b dy gs I rv hb => by
  cases (show v = Value.bool c from rv)
  exact ⟨"bool", rfl, PySem.W.Looks.of_pure rfl, hs, fun A E P hp => GyDec.tryC_beq (ins_at I hb).choose_spec.2 hp⟩
theorem turns_seq {x : Str} (hs : PySem.W.subIn X.K (.ref C) (.type "str") = some false) : Turns X C .Eq (.str x) H := fun pins σ s v b dy gs I rv hb => by
  obtain ⟨t, rfl⟩ := rv
  exact ⟨"str", typeIs_str s x t, PySem.W.Looks.of_pure rfl, hs, fun A E P hp => GyDec.tryC_seq (ins_at I hb).choose_spec.2 hp⟩
theorem turns_neq (hs : PySem.W.subIn X.K (.ref C) (.type "NoneType") = some false) : Turns X C .Eq .non H := fun pins σ s v b dy gs I rv hb => by
  cases (show v = Value.none from rv)
  exact ⟨"NoneType", rfl, PySem.W.Looks.of_pure rfl, hs, fun A E P hp => GyDec.tryC_neq (ins_at I hb).choose_spec.2 hp⟩
end
end L2
namespace L2
open PySem PySem.Spec PyProof.Rows
section
variable {X : Cx} {CX : CXT} {pins : List (Addr × Obj)} {σ : St} {H : Hp} {s : Shared} {a C dx g r : Addr} {fs : List (Str × V)} {k : Nat} {fd : FuncData} {ps : List Str} {sp : Sp} {E : XK}
theorem turns_ref {T : String} {l : Addr} {op : CmpOp} {id : String} {B : Builtin} (hs : PySem.W.subIn X.K (.ref C) (.type T) = some false) (slot : Slot T (cmpInfo op).2.1 id) (entry : entryFor table id = some B) (args : ∀ a b, argsOk id ⟨[a, b], []⟩)
    (get : ∀ (pins : List (Addr × Obj)) (σ : St) (s : Shared), Inv X pins σ H s → ∃ ol, s.heap.get? l = some ol ∧ ol.cls = .type T ∧ ∀ b dy, GivesAt (PySem.GyDec.GyTwo T l ol b C dy) (B ⟨[.ref l, .ref b], []⟩) (.val .notImplemented)) : Turns X C op (.ref l) H := fun pins σ s v b dy gs I rv hb => by
  cases (show v = Value.ref l from rv)
  obtain ⟨ol, h1, h2, gv⟩ := get pins σ s I
  have hT : s.TypeIs (.ref l) T := ⟨ol, h1, h2⟩
  refine ⟨T, hT, ?_, hs, fun A E P hp => ?_⟩
  · exact PySem.W.kitAt_ty _ _ ⟨ol, h1, h2⟩
  · refine wpAny_tryCompare_declines hT slot (call_givesAt slot hT entry (args _ _) (gv b dy) ⟨h1, (ins_at I hb).choose_spec.2, fun prog w => PySem.W.looks_subIn I.kIn hs⟩ ⟨rfl, hp⟩)
theorem turns_list {l : Addr} {xs : List V} (h : H l = some (.lst xs)) (hs : PySem.W.subIn X.K (.ref C) (.type "list") = some false) : Turns X C .Eq (.ref l) H :=
  turns_ref (T := "list") (id := "list.__eq__") (B := Builtin.«list.__eq__») hs F.slot_list_eq F.entry_list_eq F.args_list_eq_2 fun pins σ s I => by
    obtain ⟨_, _, n, _, h1⟩ := (show ObjOk X.prog X.w H s.heap l (.lst xs) from I.hok l _ h)
    exact ⟨_, h1, rfl, fun b dy => PySem.GyDec.list_dec _ _ _ _⟩
theorem turns_tup {l : Addr} {xs : List V} (h : H l = some (.tup xs)) (hs : PySem.W.subIn X.K (.ref C) (.type "tuple") = some false) : Turns X C .Eq (.ref l) H :=
  turns_ref (T := "tuple") (id := "tuple.__eq__") (B := Builtin.«tuple.__eq__») hs F.slot_tuple_eq F.entry_tuple_eq F.args_tuple_eq_2 fun pins σ s I => by
    obtain ⟨_, _, _, o, h1, h2, _⟩ := (show ObjOk X.prog X.w H s.heap l (.tup xs) from I.hok l _ h)
    exact ⟨_, h1, h2, fun b dy => PySem.GyDec.tup_dec h2⟩
theorem turns_dK {l : Addr} {xs : List (Key × V)} (h : H l = some (.dK xs)) (hs : PySem.W.subIn X.K (.ref C) (.type "dict") = some false) : Turns X C .Eq (.ref l) H :=
  turns_ref (T := "dict") (id := "dict.__eq__") (B := Builtin.«dict.__eq__») hs F.slot_dict_eq F.entry_dict_eq F.args_dict_eq_2 fun pins σ s I => by
    obtain ⟨_, _, vs, _, o, es, ep, h1, h2, _⟩ := (show ObjOk X.prog X.w H s.heap l (.dK xs) from I.hok l _ h)
    exact ⟨_, h1, h2.1, fun b dy => PySem.GyDec.dict_dec h2.1⟩
end
end L2

set_option Elab.async false
set_option linter.all false
set_option maxRecDepth 100000
set_option maxHeartbeats 4000000
/-! Lay3: errors of the program's own as things: made (by place, by name), read, asked for their class. -/
namespace PySem.GyErr
open PySem PySem.W PySem.Calls PyProof.Rows PySem.HandSPX
/-- what a class object holds beside its line of bases -/
structure Pt where
  (nm q : Str) (N : Addr) (bs : List Value) (sn : List Str) (sub : List Value) (ab : Bool) (col : Option Bool) (dd : Option Addr)
  (k0 k1 k2 k3 k5 : Option Value)
abbrev Pt.ob (p : Pt) (C : Addr) (bm : List Value) : Obj :=
  excClassObj p.nm p.q C p.N p.bs bm true p.sn p.sub p.ab p.col p.dd p.k0 p.k1 p.k2 p.k3 p.k5 "ValueError.__new__"
section
variable {prog : Program} {w : World} {M : Model} {A : Around} {R : Result → Shared → Prop} {E : Value → Shared → Prop} {h : Heap}
  {g : Array GenState} {d : Drawn} {t : Nat} {os : OsState} {p : Pt} {C : Addr} {bm : List Value} {us : List Value} {kw : List (Str × Value)}
theorem new_args (v : Value) : Bind.checkArgs "ValueError.__new__"
    ⟨.any, "ValueError", "ValueError", .cls, [⟨"args", .varPos, false⟩, ⟨"kwargs", .varKw, false⟩]⟩ ⟨v :: us, kw⟩ = pure () := by kernel_rfl
theorem new_checked {Q : Unit → Shared → Prop} (hm : refsVE bm = true) (hC : h.get? C = some (p.ob C bm)) (hq : Q () ⟨h, g, d, t, os⟩) :
    wpAny M A (checkBuiltinCall "ValueError.__new__" ⟨.ref C :: us, kw⟩) Q E ⟨h, g, d, t, os⟩ := by
  have F := F.excBase_ValueError
  have has : (Value.ref C :: bm).contains (.type "ValueError") = true := by
    rw [List.contains_cons, refsVE_contains _ _ hm, show veTail.contains (.type "ValueError") = true by decide +kernel, Bool.or_true]
  have ha := new_args (us := us) (kw := kw) (.ref C)
  simp only [checkBuiltinCall, F.newKind, F.newSplit, F.newRow, ha]
  repeat (first
    | refine wpAny_loadPart_at hC ?_
    | (refine wpAny_isSubtype_exc hC ?_; rw [has])
    | refine wpAny_staticBase_exc hC ?_
    | refine wpAny_madeBy_exc hC ?_
    | simp only [bne_self_eq_false, Bool.false_eq_true, if_false]
    | wp_step)
  exact hq
theorem new_run (hm : refsVE bm = true) (hC : h.get? C = some (p.ob C bm)) (hl : us.length ≤ sizeLine)
    (hq : R (.ok (.ret (.ref (h.objs.size + 1)))) ⟨(h.push (kdv_tup us)).push (excO C h.objs.size), g, d, t, os⟩) :
    codeAny (model prog w) A (.builtin "ValueError.__new__" ⟨.ref C :: us, kw⟩) R ⟨h, g, d, t, os⟩ := by
  have F := F.excBase_ValueError
  have hends := F.ends
  have in_ : ∀ (T : String) (b : Bool), veTail.contains (.type T) = b → (Value.ref C :: bm).contains (.type T) = b := fun T b e => by
    rw [List.contains_cons, refsVE_contains _ _ hm, e]
    cases b <;> rfl
  have i1 := in_ "ValueError" true (by decide +kernel)
  have i2 := in_ "AttributeError" false (by decide +kernel)
  have i3 := in_ "NameError" false (by decide +kernel)
  refine codeAny_builtinAt F.entry ?_
  unfold Builtin.«BaseException.__new__»
  refine wpAt_bind ?_
  show wpAt _ _ _ (stack >>= _) _ _ _
  refine wpAt_bind (wpAt_stack fun p below => wpAt_of_wpAny ?_)
  wp_walk
  refine wpAt_of_wpAny ?_
  rw [F.owner]
  repeat (first
    | with_reducible refine wpAny_madeHere_exc F.canon hC ?_
    | with_reducible refine wpAny_loadPart_at hC ?_
    | (with_reducible refine wpAny_isSubtype_exc hC ?_; first | rw [i1] | rw [i2] | rw [i3])
    | wp_step)
  show R _ _
  rw [Heap.size_push]
  exact hq
/-- C(.., k = v, ..): the error is laid, then its __init__ -/
theorem call_err {fI : Addr} (hm : refsVE bm = true) (hC : h.get? C = some (p.ob C bm))
    (hi : W.Looks (model prog w) h (typeLookup (.ref C) "__init__") (some (.ref fI)))
    (hb : ∀ self, W.Looks (model prog w) h (bindSpecial (.ref fI) self) (.ref fI, [self])) (hl : us.length ≤ sizeLine)
    (hq : codeAny (model prog w) (A.under (.builtin "type.__call__" ⟨.ref C :: us, kw⟩)) (.call (.ref fI) ⟨.ref (h.objs.size + 1) :: us, kw⟩)
      (W.InitBack (h.objs.size + 1) R) ⟨(h.push (kdv_tup us)).push (excO C h.objs.size), g, d, t, os⟩) :
    codeAny (model prog w) A (.call (.ref C) ⟨us, kw⟩) R ⟨h, g, d, t, os⟩ := by
  have F := F.excBase_ValueError
  have f1 := tc_lookup
  have f2 := tc_bind (.ref C)
  have hTy : (⟨h, g, d, t, os⟩ : Shared).TypeIs (.ref C) "type" := ⟨_, hC, rfl⟩
  refine codeAny_of_tree ?_
  show wpAny _ _ (callAny (.ref C) _) _ _ _
  repeat (any_goals (first | assumption | with_reducible refine wpAny_loadPart_at hC ?_ | wp_step))
  refine ⟨rfl, ?_⟩
  have typ : Looks (model prog w) h (isInstance (.ref C) (.type "type")) true :=
    ((Looks.ld (part := none) hC).andThen .now).andThen (Looks.of_pure (by show isSubtype (.type "type") (.type "type") = pure true; rw [isSubtype_type]; kernel_rfl))
  refine codeAny_call_builtin_at (Code.quiet_builtin _ (by decide +kernel)) entry_typeCall
    (check_slot tc_kind tc_split typ (tc_args _ _ _) ?_)
  have k : ∀ b o, h.get? b = some o → ((h.push (kdv_tup us)).push (excO C h.objs.size)).get? b = some o := fun b o e =>
    Heap.get?_push_of_some _ (Heap.get?_push_of_some _ e)
  have hC1 := k _ _ hC
  have hx : ((h.push (kdv_tup us)).push (excO C h.objs.size)).get? (h.objs.size + 1) = some (excO C h.objs.size) := by heap_get
  have hcC : (Value.ref C :: bm).contains (.ref C) = true := by simp
  have i1 := hi.keeps k
  have b1 := (hb (.ref (h.objs.size + 1))).keeps k
  repeat (first | with_reducible refine wpAny_loadPart_at hC ?_ | with_reducible refine wpAny_madeBy_exc hC ?_ | wp_step)
  refine codeAny_call_builtin_code (Code.quiet_builtin _ F.quiet) (new_checked hm hC ?_)
  refine new_run hm hC hl ?_
  show wpAny _ _ _ _ _ _
  unfold isInstance
  repeat (first | with_reducible refine wpAny_loadPart_at hx ?_ | wp_step)
  show wpAny _ _ (isSubtype (.ref C) (.ref C)) _ _ _
  refine wpAny_isSubtype_exc hC1 ?_
  rw [hcC]
  repeat wp_step
  show wpAny _ _ (typeLookup (.ref C) _) _ _ _
  refine i1.at ?_
  refine wpAny_holding (wpAny_bind (b1.at ?_))
  refine wpAny_bind (wpAny_call (codeAny_mono hq fun r s' z => ?_))
  rcases r with e | (v | _ | _ | _) <;> first | exact z | exact z.elim | skip
  obtain ⟨rfl, z⟩ := z
  first
    | exact wpAny_pure (wpAny_pure z)
    | (wp_walk; exact z)
end
end PySem.GyErr
namespace Gy
open PySem L2
/-- an own error class at C: behind it stands L, but for L itself, then ValueError's line -/
structure ErrT (K : PySem.W.Frag) (L C : Addr) : Prop where
  line : ∃ (p : PySem.GyErr.Pt) (anc : List Value), (C = L ∧ anc = [] ∨ anc = [.ref L]) ∧ K.lookup C = some (p.ob C (anc ++ PySem.HandSPX.veTail))
  sa : PySem.W.findIn K (.ref C) "__setattr__" = some (some (.builtin "object.__setattr__"))
  ga : PySem.W.findIn K (.ref C) "__getattribute__" = some (some (.builtin "BaseException.__getattribute__"))
  gg : PySem.W.findIn K (.ref C) "__getattr__" = some none
  ca : PySem.W.findIn K (.ref C) "__class__" = some (some (.builtin "object.__class__"))
  ty : PySem.W.typeIn K (.ref C) = some (.type "type")
  kp : PySem.W.keepIn K (.ref C) = true
/-- how __class__ is read off such a thing -/
structure ErrG (K : PySem.W.Frag) : Prop where
  sp : PySem.W.specialIn K (.builtin "object.__class__") "__get__" = some (some (.builtin "getset_descriptor.__get__"))
  tk : PySem.W.takesIn K (.builtin "object.__class__") = some true
section
variable {K : PySem.W.Frag} {L C D : Addr}
theorem anc_refs {anc : List Value} (h : C = L ∧ anc = [] ∨ anc = [.ref L]) : PySem.HandSPX.refsVE (anc ++ PySem.HandSPX.veTail) = true := by
  rcases h with ⟨_, rfl⟩ | rfl
  · decide +kernel
  · show PySem.HandSPX.refsVE PySem.HandSPX.veTail = true
    decide +kernel
theorem ErrT.cd (T : ErrT K L C) : ∃ (cd : ClassData) (anc : List Value), PySem.W.clsIn K C = some cd ∧ (C = L ∧ anc = [] ∨ anc = [.ref L]) ∧ cd.mro = .ref C :: (anc ++ PySem.HandSPX.veTail) ∧ cd.hasDict = true := by
  obtain ⟨p, anc, ha, hl⟩ := T.line
  exact ⟨{ name := p.nm, bases := p.bs, mro := .ref C :: (anc ++ PySem.HandSPX.veTail), ns := p.N, qualname := p.q, hasDict := true, slotNames := p.sn, subclasses := p.sub, abstract := p.ab, collection := p.col, hasDel := false },
    anc, by unfold PySem.W.clsIn; rw [hl], ha, rfl, rfl⟩
theorem ErrT.mro (T : ErrT K L C) {base : Value} {b : Bool} (h : ∀ anc : List Value, (C = L ∧ anc = [] ∨ anc = [.ref L]) → (Value.ref C :: (anc ++ PySem.HandSPX.veTail)).contains base = b) : PySem.W.mroIn K C base = some b := by
  obtain ⟨cd, anc, hc, ha, hm, _⟩ := T.cd
  unfold PySem.W.mroIn
  rw [hc, Option.bind_some, hm]
  exact congrArg some (h anc ha)
theorem ErrT.subT (T : ErrT K L C) {t : String} {b : Bool} (e : PySem.HandSPX.veTail.contains (.type t) = b) : PySem.W.subIn K (.ref C) (.type t) = some b := T.mro fun anc ha => by
  rcases ha with ⟨_, rfl⟩ | rfl
  · rw [List.contains_cons, List.nil_append, e]
    cases b <;> rfl
  · rw [List.contains_cons, List.singleton_append, List.contains_cons, e]
    cases b <;> rfl
theorem tail_ref (a : Addr) : PySem.HandSPX.veTail.contains (.ref a) = false := by
  show ([Value.type "ValueError", .type "Exception", .type "BaseException", .type "object"] : List Value).contains (.ref a) = false
  simp
theorem ErrT.subL (T : ErrT K L C) : PySem.W.subIn K (.ref C) (.ref L) = some true := T.mro fun anc ha => by
  rcases ha with ⟨rfl, rfl⟩ | rfl <;> simp
theorem ErrT.subD (T : ErrT K L C) (h : D ≠ L) : PySem.W.subIn K (.ref C) (.ref D) = some (decide (C = D)) := T.mro fun anc ha => by
  have e : (Value.ref D == Value.ref C) = decide (C = D) := by
    by_cases z : C = D
    · rw [z, beq_self_eq_true, decide_eq_true rfl]
    · rw [decide_eq_false z]
      exact beq_eq_false_iff_ne.mpr fun q => z (Value.ref.inj q).symm
  have e2 : (Value.ref D == Value.ref L) = false := beq_eq_false_iff_ne.mpr fun q => h (Value.ref.inj q)
  rcases ha with ⟨_, rfl⟩ | rfl
  · rw [List.contains_cons, List.nil_append, tail_ref, e, Bool.or_false]
  · rw [List.contains_cons, List.singleton_append, List.contains_cons, tail_ref, e, e2, Bool.or_false, Bool.or_false]
theorem ErrT.isC (T : ErrT K L C) : PySem.W.isClsIn K C = true := by
  obtain ⟨cd, _, hc, _⟩ := T.cd
  unfold PySem.W.isClsIn
  rw [hc]
  rfl
theorem ErrT.hd (T : ErrT K L C) : PySem.W.hasDictIn K C = true := by
  obtain ⟨cd, _, hc, _, _, hh⟩ := T.cd
  unfold PySem.W.hasDictIn
  rw [hc]
  exact hh
theorem ErrT.oex (T : ErrT K L C) : OexC K C := by
  obtain ⟨p, anc, ha, hl⟩ := T.line
  exact ⟨⟨_, _, _, _, _, _, _, _, _, _, _, _, _, _, _, hl, anc_refs ha⟩, T.sa, T.subT (by decide +kernel), T.ty, T.kp⟩
/-- isinstance of such a thing -/
theorem ErrT.kitD (T : ErrT K L C) (U : ErrT K L D) (h : D ≠ L) : PySem.W.kitOne K (.ref C) (.ref D) = some (decide (C = D)) := by
  by_cases z : C = D
  · subst z
    rw [decide_eq_true rfl]
    exact kit_self
  · rw [decide_eq_false z]
    refine kit_of_to z U.isC U.ty ?_
    rw [T.subD h, decide_eq_false z]
theorem ErrT.kitL (T : ErrT K L C) (U : ErrT K L L) : PySem.W.kitOne K (.ref C) (.ref L) = some true := by
  by_cases z : C = L
  · subst z
    exact kit_self
  · exact kit_of_to z U.isC U.ty T.subL
theorem ErrT.kitT (T : ErrT K L C) {t : String} {b : Bool} (m : PySem.W.kitMeta t = true) (e : PySem.HandSPX.veTail.contains (.type t) = b) : PySem.W.kitOne K (.ref C) (.type t) = some b := kit_ob m (T.subT e)
end
/-! ### made -/
/-- C(..), a value: a new error, then its __init__ -/
def tErr (C : Addr) (sp : Sp) (E : XK) (t : TA) : TE := fun σ H Q => t σ H fun vs H1 => vs.length ≤ 1000 ∧ ∀ a, H1 a = none → sp (.ref a :: vs) (upd H1 a (exo a C none)) (fun v H2 => v = .non ∧ Q (.ref a) H2) E
section
variable {X : Cx} {CX : CXT} {k : Nat} {fI L C : Addr} {fd : FuncData} {ps : List Str} {sp : Sp} {E : XK} {x f : Str} {p pos kpos : Pos} {e : Expr} {es : List Expr} {t : TA} {te : TE}
theorem run_err {pins : List (Addr × Obj)} {σ : St} {H : Hp} {s : Shared} {Q : VK} {us gs : List Value} {kw : List (Str × Value)} {vs : List V} (T : ErrT X.K L C)
    (iC : PySem.W.findIn X.K (.ref C) "__init__" = some (some (.ref fI))) (tI : PySem.W.isFn X.K (.ref fI) = true) (F : FnOk X.prog X.w X.K X.mg X.base CX k fI fd ps sp) (hr : Room (k + 1) X.A)
    (hb : ∀ (s' : Shared) (u : Value), X.K.In s'.heap → (u :: gs).length = ps.length → BindsTo s' fd ⟨u :: us, kw⟩ (ps.zip (u :: gs))) (hx : Passes CX X E) (I : Inv X pins σ H s) (r : Vals vs gs) (hl : us.length ≤ gs.length) (hv : vs.length ≤ 1000)
    (h : ∀ a, H a = none → sp (.ref a :: vs) (upd H a (exo a C none)) (fun v H2 => v = .non ∧ Q (.ref a) H2) E) :
    wpAny (model X.prog X.w) X.A (call (.ref C) us kw) (EP X pins σ Q) X.xe s := by
  obtain ⟨p, anc, ha, hC⟩ := T.line
  obtain ⟨hp, g, dr, tk, os⟩ := s
  have above : hp.objs.size ≤ hp.objs.size + 1 := Nat.le_succ _
  have hq := h (hp.objs.size + 1) (I.hok.fresh above)
  have kept : ∀ b o, hp.get? b = some o → ((hp.push (PySem.W.kdv_tup us)).push (PySem.HandSPX.excO C hp.objs.size)).get? b = some o := fun b o z => Heap.get?_push_of_some _ (Heap.get?_push_of_some _ z)
  have new : ((hp.push (PySem.W.kdv_tup us)).push (PySem.HandSPX.excO C hp.objs.size)).get? (hp.objs.size + 1) = some (PySem.HandSPX.excO C hp.objs.size) := by heap_get
  have J : Inv X pins σ (upd H (hp.objs.size + 1) (exo (hp.objs.size + 1) C none)) ⟨(hp.push (PySem.W.kdv_tup us)).push (PySem.HandSPX.excO C hp.objs.size), g, dr, tk, os⟩ :=
    I.laid (t' := tk) kept above (exo_ok new)
  have rr : Vals (V.ref (hp.objs.size + 1) :: vs) (Value.ref (hp.objs.size + 1) :: gs) := .cons rfl r
  have ln : (Value.ref (hp.objs.size + 1) :: gs).length = ps.length := rr.length.symm.trans (F.len _ _ _ _ hq)
  have lu : us.length ≤ sizeLine := Nat.le_trans hl (Nat.le_trans (Nat.le_of_eq (Paired.length r).symm) (Nat.le_trans hv (by decide)))
  refine wpAny_call (PySem.GyErr.call_err (anc_refs ha) (I.kIn _ _ hC) (PySem.W.looks_findIn I.kIn iC) (fun u => PySem.W.bind_fn I.kIn u (beq_iff_eq.mp tI)) lu
    (codeAny_mono (F.run _ X.stack _ _ ⟨Value.ref (hp.objs.size + 1) :: us, kw⟩ _ _ _ E (hr.make C us kw) (J.env0.make C us kw) (hb _ _ J.kIn ln) rr hq) fun re s' z => ?_))
  cases re with
  | error er => exact hx pins σ _ _ er s' J z
  | ok fl =>
    cases fl with
    | ret u =>
      obtain ⟨v, H', I3, rv, ev, q3⟩ := J.after z
      subst ev
      exact ⟨rv, V.ref (hp.objs.size + 1), H', I3, rfl, q3⟩
    | next => exact z.elim
    | brk => exact z.elim
    | cont => exact z.elim
/-- C(e, ..) -/
theorem pe_err (T : ErrT X.K L C) (iC : PySem.W.findIn X.K (.ref C) "__init__" = some (some (.ref fI))) (tI : PySem.W.isFn X.K (.ref fI) = true) (F : FnOk X.prog X.w X.K X.mg X.base CX k fI fd ps sp) (hr : Room (k + 1) X.A) (hb : Binds X.K fd ps []) (hx : Passes CX X E)
    (hg : Gl X x) (hm : X.mg x = some (.ref C)) (ha : PA X (e :: es) t) (hd : (x == ("__debug__" : Str)) = false := by decide) (h1 : starEach (e :: es) X.env = (false, eval e X.env) :: starEach es X.env := by rfl)
    (h2 : (backTo pos (starEach es X.env)).any (·.1) = false := by rfl) : PE X (.Call (.Name x p) (e :: es) [] pos) (tErr C sp E t) := ⟨fun pins s σ H Q I h =>
  wpAny_Call_Name_kw (ld_glob I hg hm (PySem.W.callWith_K (h₀ := X.base) I.ok.mod.kin T.kp (thn (ha.run pos pins s σ H _ I h) fun us s1 ⟨vs, H1, I1, r, hv, q⟩ =>
    ⟨I1.kIn, run_err (gs := us) T iC tI F hr (fun s' u ki l => by have z := hb s' (u :: us) ki (by rw [List.append_nil]; exact l); rwa [List.append_nil] at z) hx I1 r (Nat.le_refl _) hv q⟩) h1 h2) hd)⟩
/-- C() -/
theorem pe_err0 (T : ErrT X.K L C) (iC : PySem.W.findIn X.K (.ref C) "__init__" = some (some (.ref fI))) (tI : PySem.W.isFn X.K (.ref fI) = true) (F : FnOk X.prog X.w X.K X.mg X.base CX k fI fd ps sp) (hr : Room (k + 1) X.A) (hb : Binds X.K fd ps []) (hx : Passes CX X E)
    (hg : Gl X x) (hm : X.mg x = some (.ref C)) (hd : (x == ("__debug__" : Str)) = false := by decide) : PE X (.Call (.Name x p) [] [] pos) (tErr C sp E tNil) := ⟨fun pins s σ H Q I h =>
  wpAny_Call_Name_kw (ld_glob I hg hm (PySem.W.callWith_K0 I.kIn T.kp (run_err (us := []) (gs := []) (vs := []) T iC tI F hr (fun s' u ki l => hb s' [u] ki l) hx I .nil (Nat.le_refl _) (by decide) h.2)) hd)⟩
/-- how C(f = e) binds -/
def KwB (K : PySem.W.Frag) (fd : FuncData) (ps : List Str) (f : Str) : Prop := ∀ (s : Shared) (u w : Value), K.In s.heap → BindsTo s fd ⟨[u], [(f, w)]⟩ (ps.zip [u, w])
theorem kw_binds {K : PySem.W.Frag} {y qual : Str} {st : Stmt} {a : Addr} (F : Fun K y qual st a fd) (h : ∀ (kV doc pm : Value) (an : Option Addr) (cdv ct u w : Value), bindArgs (PySem.W.fnOf y qual (defArgs st) (defBody st) (defScope st) .none kV doc pm an cdv ct) ⟨[u], [(f, w)]⟩ = pure (ps.zip [u, w])) : KwB K fd ps f := by
  obtain ⟨_, _, kV, doc, pm, an, cdv, ct, _, rfl, _, _⟩ := F.ex
  exact fun s u w _ => .of_eq (h kV doc pm an cdv ct u w)
/-- C(f = e) -/
theorem pe_errK (T : ErrT X.K L C) (iC : PySem.W.findIn X.K (.ref C) "__init__" = some (some (.ref fI))) (tI : PySem.W.isFn X.K (.ref fI) = true) (F : FnOk X.prog X.w X.K X.mg X.base CX k fI fd ps sp) (hr : Room (k + 1) X.A) (hb : KwB X.K fd ps f) (hx : Passes CX X E)
    (hg : Gl X x) (hm : X.mg x = some (.ref C)) (ha : PE X e te) (hd : (x == ("__debug__" : Str)) = false := by decide) : PE X (.Call (.Name x p) [] [⟨some f, e, kpos⟩] pos) (tErr C sp E (tCons te tNil)) := ⟨fun pins s σ H Q I h => by
  refine wpAny_Call_Name_kw (ld_glob I hg hm ?_ hd)
  refine PySem.W.callWith_KW0 (h₀ := X.base) I.ok.mod.kin T.kp (by rfl) ?_ (by rfl)
  show wpAny _ _ (evalAll [do let v ← eval e X.env; standAt pos; pure v]) _ _ s
  refine wpAny_evalAll_cons (wpAny_bind (thn (ha.run pins s σ H _ I h) fun u s1 ⟨v, H1, I1, r, hv, q⟩ => wpAny_bind (wpAny_standAt (wpAny_pure ?_))))
  exact wpAny_evalAll_nil ⟨I1.kIn, run_err (gs := [u]) T iC tI F hr (fun s' o ki _ => hb s' o u ki) hx I1 (.cons r .nil) (Nat.zero_le _) hv q⟩⟩
/-! ### read -/
/-- x.f of an error at a -/
def tXv (K : PySem.W.Frag) (f : Str) (te : TE) : TE := fun σ H Q => te σ H fun x H1 => ∃ (a C dd : Addr) (fs : List (Str × V)) (v : V), x = .ref a ∧ H1 a = some (exo a C (some dd)) ∧ H1 dd = some (exd dd fs) ∧ (∃ L, ErrT K L C) ∧ PySem.W.findIn K (.ref C) f = some none ∧ fs.lookup f = some v ∧ Q v H1
theorem pe_xv (he : PE X e te) (hb : attributeBase e f X.env (eval e X.env) = eval e X.env := by rfl) : PE X (.Attribute e f pos) (tXv X.K f te) := ⟨fun pins s σ H Q I h => attr_of hb (thn (he.run pins s σ H _ I h) fun u s1 ⟨x, H1, I1, rx, a, C, dd, fs, v, ex, ea, ed, ⟨L, T⟩, hno, l, q⟩ => by
  subst ex
  cases (show u = Value.ref a from rx)
  obtain ⟨t1, ho⟩ := exo_at I1.hok ea
  obtain ⟨mA, hns, hr⟩ := exd_at I1.hok ed
  obtain ⟨od, hod, hl⟩ := lookIn_ns hns
  obtain ⟨u, hu, ru⟩ := RelO.some_of (v := v) (o := mA f) (by rw [← l]; exact hr f)
  have J : PySem.W.InstAt s1.heap a { cls := .ref C, dict := some dd, data := .fields #[.ref t1, .none, .none, .none, .bool false, .none] } C (some od) := ⟨ho, rfl, rfl, hod⟩
  exact PySem.HandSPX.exc_get I1.kIn J T.ga T.gg (T.subT (by decide +kernel)) (PySem.W.findObj_own T.hd hno rfl (by rw [hl, hu])) (handed_of ru) ⟨v, H1, I1.tok _, ru, q⟩)⟩
/-! ### asked for its class -/
/-- an error of the class at C at a, whose fields are fs (none: it has no dict) -/
def ErrAt (H : Hp) (a C : Addr) : Option (List (Str × V)) → Prop
  | none => H a = some (exo a C none)
  | some fs => ∃ dd, H a = some (exo a C (some dd)) ∧ H dd = some (exd dd fs)
theorem ErrAt.same {H H' : Hp} {a C : Addr} {o : Option (List (Str × V))} (h : ErrAt H a C o) (s : Same H H') : ErrAt H' a C o := by
  cases o with
  | none => exact s _ _ h
  | some fs =>
    obtain ⟨dd, h1, h2⟩ := h
    exact ⟨dd, s _ _ h1, s _ _ h2⟩
def rIsV (K : PySem.W.Frag) : List V → Hp → VK → Prop := fun xs H Q => ∃ (a C L : Addr) (o : Option (List (Str × V))) (c : V) (cv : Value) (b : Bool), xs = [.ref a, c] ∧ ErrAt H a C o ∧ ErrT K L C ∧ ErrG K ∧ ClsV c cv ∧ PySem.W.kitOne K (.ref C) cv = some b ∧ Q (.bl b) H
theorem call_isV : CallR X (.builtin "isinstance") (rIsV X.K) := by
  intro pins s σ H xs us Q I r h
  obtain ⟨a, C, L, o, c, cv, b, rfl, ha, T, G, hc, e, q⟩ := h
  obtain ⟨u1, u2, rfl, r1, r2⟩ := vals2 r
  cases (show u1 = Value.ref a from r1)
  have e2 := hc.eq r2
  subst e2
  have J : ∃ (ox : Obj) (od : Option Obj), PySem.W.InstAt s.heap a ox C od := by
    cases o with
    | none =>
      obtain ⟨t1, ho⟩ := exo_at I.hok ha
      exact ⟨_, none, ho, rfl, rfl, True.intro⟩
    | some fs =>
      obtain ⟨dd, h1, h2⟩ := ha
      obtain ⟨t1, ho⟩ := exo_at I.hok h1
      obtain ⟨mA, hns, _⟩ := exd_at I.hok h2
      obtain ⟨od, hod, _⟩ := lookIn_ns hns
      exact ⟨_, some od, ho, rfl, rfl, hod⟩
  obtain ⟨ox, od, J⟩ := J
  exact PySem.W.kia_one (PySem.W.kitx_exc T.isC T.ga T.gg (T.subT (by decide +kernel)) T.ca G.sp G.tk (T.subT (t := "object") (by decide +kernel))) I.kIn J e (fun z => nomatch z) fun tk => ⟨.bl b, H, I.tok tk, rfl, q⟩
/-! ### what __init__ promises -/
def spErrF (C : Addr) (f : Str) : Sp := fun vs H Q _ => ∃ (a : Addr) (y : V), vs = [.ref a, y] ∧ H a = some (exo a C none) ∧ ∀ dx, H dx = none → dx ≠ a → Q .non (upd (upd H dx (exd dx [(f, y)])) a (exo a C (some dx)))
def spErr0 (K : PySem.W.Frag) : Sp := fun vs H Q _ => ∃ (a C L : Addr), vs = [.ref a] ∧ ErrT K L C ∧ H a = some (exo a C none) ∧ Q .non H
/-- an error with one field, made -/
theorem errF {H : Hp} {C : Addr} {f : Str} {y : V} {Q : Addr → Hp → Prop} {E : XK} (h : ∀ a H', H a = none → Same H H' → ErrAt H' a C (some [(f, y)]) → Q a H') :
    ∀ a, H a = none → spErrF C f (.ref a :: [y]) (upd H a (exo a C none)) (fun v H2 => v = .non ∧ Q a H2) E := fun a na => by
  refine ⟨a, y, rfl, upd_same, fun dx nd ne => ⟨rfl, h a _ na (fun b o e => ?_) ⟨dx, upd_same, ?_⟩⟩⟩
  · have nb : b ≠ a := ne_of_none e na
    have nd' : H dx = none := by rw [upd_ne ne] at nd; exact nd
    rw [upd_ne nb, upd_ne (ne_of_none e nd'), upd_ne nb]
    exact e
  · rw [upd_ne ne, upd_same]
theorem err0 {K : PySem.W.Frag} {L : Addr} {H : Hp} {C : Addr} {Q : Addr → Hp → Prop} {E : XK} (T : ErrT K L C) (h : ∀ a H', H a = none → Same H H' → ErrAt H' a C none → Q a H') :
    ∀ a, H a = none → spErr0 K (.ref a :: []) (upd H a (exo a C none)) (fun v H2 => v = .non ∧ Q a H2) E := fun a na =>
  ⟨a, C, L, rfl, T, upd_same, rfl, h a _ na (same_upd na) upd_same⟩
end
end Gy
namespace Gy
open PySem L2
/-! ### a text some times over -/
theorem fold_size {α : Type} (a : Array α) : ∀ (n : Nat) (acc : Array α), ((List.replicate n a).foldl (· ++ ·) acc).size = acc.size + n * a.size
  | 0, acc => by simp
  | n + 1, acc => by
    rw [List.replicate_succ, List.foldl_cons, fold_size a n, Array.size_append, Nat.succ_mul]
    omega
theorem op_repS {X : Cx} : OpR X (binaryOp .Mult) (fun x y H Q => ∃ (z : Str) (k : Int), x = .str z ∧ y = .int k ∧ 0 ≤ k ∧ k ≤ 1000 ∧ z.length ≤ 1000 ∧ ∀ r : Str, Q (.str r) H) := by
  intro pins s σ H x y v u Q I rx ry h
  obtain ⟨z, k, rfl, rfl, h0, h1, hz, q⟩ := h
  obtain ⟨t, rfl⟩ := rx
  obtain ⟨t2, rfl⟩ := ry
  have hm : z.length * k.toNat ≤ 1000 * 1000 := Nat.mul_le_mul hz (by omega)
  have sl : (1000 * 1000 : Nat) ≤ sizeLine := by decide
  refine PySem.P.mul_str (by rw [decide_eq_false (by omega), decide_eq_false (by omega)]; rfl) (fun hk _ => ?_) (fun _ _ => ?_) ?_
  · have : (z.length : Int) ≤ (2 ^ 63 - 1) / k := by
      refine Int.le_ediv_of_mul_le (by omega) ?_
      have e : ((z.length * k.toNat : Nat) : Int) = (z.length : Int) * k := by rw [Int.natCast_mul, Int.toNat_of_nonneg h0]
      omega
    omega
  · show decide (z.length * k.toNat > sizeLine) = false
    exact decide_eq_false (by omega)
  · split
    · exact ⟨by decide, .str _, H, I.tok _, ⟨_, rfl⟩, q _⟩
    · split
      · exact ⟨.str z, H, I, ⟨_, rfl⟩, q z⟩
      · refine ⟨?_, .str _, H, I.tok _, ⟨_, rfl⟩, q _⟩
        show ((List.replicate k.toNat z.cps).foldl (· ++ ·) #[]).size ≤ sizeLine
        rw [fold_size]
        have e : z.length = z.cps.size := rfl
        rw [e, Nat.mul_comm] at hm
        have e0 : (#[] : Array UInt32).size = 0 := rfl
        simp only [List.size_toArray, List.length_nil]
        omega
/-- the rest of a body, told once for several ways -/
theorem seq_ways {t u : TS} {D : Ends} {σ : St} {H : Hp} (J : St → Hp → Prop) (rest : ∀ σ' H', J σ' H' → u D σ' H') (main : ∀ D' : Ends, (∀ σ' H', J σ' H' → D'.nx σ' H') → t D' σ H) : tSeq t u D σ H := main _ rest
end Gy

set_option Elab.async false
set_option linter.all false
set_option maxRecDepth 100000
set_option maxHeartbeats 4000000
/-! Lay4: a deed is tried: lambdas handed to a def, the error that comes out of one, looked at by another def. -/
namespace Gy
open PySem L2
open L2H (RoomH PinOk cxH inv_startH roomH_of)
/-! ### defs that are called while an error is handled, and look at it -/
/-- what a def promises that gets the handled error: a its place, cls its class, d its dict -/
abbrev SpE := Addr → Value → Option Addr → Sp
structure FnP (P : Program) (w : World) (K : PySem.W.Frag) (mg : Str → Option Value) (base : Heap) (k : Nat) (f : Addr) (fd : FuncData) (ps : List Str) (sp : SpE) : Prop where
  len : ∀ a cls d vs H Q E, sp a cls d vs H Q E → vs.length = ps.length
  run : ∀ (A : Around) (outer : List Env) (s : Shared) (H : Hp) (args : Args) (us : List Value) (vs : List V) (Q : VK) (p : Addr × Obj) (cls : Value) (d : Option Addr), RoomH k A → PinOk outer H s p → Zc cls d p.2 → (∃ fs, p.2.data = .fields fs) →
    Env0 P w K mg base A outer s H → BindsTo s fd args (ps.zip us) → Vals vs us → sp p.1 cls d vs H Q E0 → codeAny (model P w) A (.call (.ref f) args) (CR CX0 outer P w H s Q E0) s
theorem Fun.okP {P : Program} {w : World} {K : PySem.W.Frag} {mg : Str → Option Value} {base : Heap} {k : Nat} {x qual : Str} {st : Stmt} {f : Addr} {fd : FuncData} {N ps : List Str} {sp : SpE} (F : Fun K x qual st f fd) (S : FnScope N ps (defScope st))
    (len : ∀ a cls d vs H Q E, sp a cls d vs H Q E → vs.length = ps.length)
    (body : ∀ (cdv : Value) (A : Around) (outer : List Env) (s : Shared) (H : Hp) (vs : List V) (Q : VK) (p : Addr × Obj) (cls : Value) (d : Option Addr), RoomH k (A.deeper (PyProof.Rows.envOfC qual (defScope st) s.heap.objs.size f cdv)) → Zc cls d p.2 → (∃ fs, p.2.data = .fields fs) → sp p.1 cls d vs H Q E0 →
      ∃ t, PSs (cxH CX0 P w K mg base N qual (defScope st) f cdv A outer s H E0 p).nox (defBody st) t ∧ t { nx := fun _ H' => Q .non H', rt := Q } (start N vs) H) : FnP P w K mg base (k + 1) f fd ps sp := by
  obtain ⟨oc, od, kV, doc, pm, an, cdv, ct, osl, rfl, lk, hcd⟩ := F.ex
  refine ⟨len, fun A outer s H args us vs Q p cls d hr hp hz hf e0 hb r h => ?_⟩
  have hl := len _ _ _ _ _ _ _ h
  have KX : K.In s.heap := e0.mod.kin.keeps fun b o e => (e0.bs b o e).1
  have kinds : ∀ y ∈ ps.zip us, (defScope st).names.lookup y.1 = some .local ∨ ((defScope st).names.lookup y.1 = some .cell ∧ ((cellsFrom (s.heap.objs.size + 1) (defScope st).names []).lookup y.1).isSome = true) := fun y hy =>
    (S.par y.1 (List.of_mem_zip hy).1).elim .inl fun q => .inr ⟨q, PySem.W.cellsFrom_some _ _ _ (.inl q)⟩
  refine codeAny_call_function hr.depth (KX _ _ lk) rfl S.co S.gen rfl (PySem.W.codeRec_of KX hcd) (hb _ _ _ _ (wpAny_newFunctionEnv_cells S.kind kinds fun env he s1 x => ?_))
  subst he
  refine ⟨(e0.mod.nolimit.keeps fun b o e => (e0.bs b o e).1).keeps x.toInCall.keep, codeAny_func ?_⟩
  obtain ⟨t, ht, hq⟩ := body cdv A outer s H vs Q p cls d (hr.deeper _) hz hf h
  refine wpAny_mono (ht.nox.run [] s1 (L2.start N vs) H _ (inv_startH S hp e0 hl r x) hq) (fun fl s' z => ?_) fun e s' z => z
  cases fl with
  | ret u =>
    obtain ⟨v, σ', H', J, rv, q⟩ := z
    exact ⟨v, H', J.os, J.bare, J.base, J.hok, rv, q⟩
  | next =>
    obtain ⟨σ', H', J, q⟩ := z
    exact ⟨.non, H', J.os, J.bare, J.base, J.hok, rfl, q⟩
  | brk =>
    obtain ⟨_, _, _, q⟩ := z
    exact q.elim
  | cont =>
    obtain ⟨_, _, _, q⟩ := z
    exact q.elim
/-- such a call -/
def tCallP (sp : SpE) (a : Addr) (cls : Value) (d : Option Addr) (t : TA) : TE := fun σ H Q => t σ H fun vs H1 => sp a cls d vs H1 Q E0
section
variable {X : Cx} {k : Nat} {f : Addr} {fd : FuncData} {ps : List Str} {sp : SpE} {x n : Str} {q pos : Pos} {e : Expr} {es : List Expr} {t : TA} {te : TE} {p : Addr × Obj} {cls : Value} {d : Option Addr}
theorem pe_callP (F : FnP X.prog X.w X.K X.mg X.base k f fd ps sp) (hr : RoomH k X.A) (hp : p ∈ X.pn) (hz : Zc cls d p.2) (hf : ∃ fs, p.2.data = .fields fs) (hg : Gl X x) (hm : X.mg x = some (.ref f)) (hk : PySem.W.keepIn X.K (.ref f) = true) (hb : Binds X.K fd ps [])
    (ha : PA X (e :: es) t) (hd : (x == ("__debug__" : Str)) = false := by decide) (h1 : starEach (e :: es) X.env = (false, eval e X.env) :: starEach es X.env := by rfl) (h2 : (backTo pos (starEach es X.env)).any (·.1) = false := by rfl) :
    PE X (.Call (.Name x q) (e :: es) [] pos) (tCallP sp p.1 cls d t) := ⟨fun pins s σ H Q I h =>
  wpAny_Call_Name_kw (ld_glob I hg hm (PySem.W.callWith_K (h₀ := X.base) I.ok.mod.kin hk (thn (ha.run pos pins s σ H _ I h) fun us s1 ⟨vs, H1, I1, r, q1⟩ => ⟨I1.kIn, by
    have P1 := I1.pin p (List.mem_append_left _ hp)
    have pin : PinOk X.stack H1 s1 p := ⟨P1.1, P1.2.1, fun hm => (List.mem_cons.mp (I1.stkSub p.1 hm)).elim P1.2.2.1 P1.2.2.2.1, P1.2.2.2.2⟩
    have b := hb s1 us I1.kIn (by rw [List.append_nil, ← r.length]; exact F.len _ _ _ _ _ _ _ q1)
    rw [List.append_nil] at b
    refine wpAny_call (codeAny_mono (F.run X.A X.stack s1 H1 ⟨us, []⟩ us vs Q p cls d hr pin hz hf I1.env0 b r q1) fun rs s' z => ?_)
    cases rs with
    | error er => exact (show False from z).elim
    | ok fl =>
      cases fl with
      | ret u => exact I1.after z
      | next => exact z.elim
      | brk => exact z.elim
      | cont => exact z.elim⟩) h1 h2) hd)⟩
/-- isinstance of the error that is looked at -/
def rIsP (K : PySem.W.Frag) (a C : Addr) (d : Option Addr) : List V → Hp → VK → Prop := fun xs H Q => ∃ (c : V) (cv : Value) (b : Bool), xs = [.ref a, c] ∧ (∀ dd, d = some dd → ∃ fs, H dd = some (.xd fs)) ∧ ClsV c cv ∧ PySem.W.kitOne K (.ref C) cv = some b ∧ Q (.bl b) H
theorem call_isP {L C : Addr} (T : ErrT X.K L C) (G : ErrG X.K) (hp : p ∈ X.pn) (hz : Zc (.ref C) d p.2) (hf : ∃ fs, p.2.data = .fields fs) : CallR X (.builtin "isinstance") (rIsP X.K p.1 C d) := by
  intro pins s σ H xs us Q I r h
  obtain ⟨c, cv, b, rfl, hd, hc, e, z⟩ := h
  obtain ⟨u1, u2, rfl, r1, r2⟩ := vals2 r
  cases (show u1 = Value.ref p.1 from r1)
  have e2 := hc.eq r2
  subst e2
  obtain ⟨hget, _⟩ := I.pin p (List.mem_append_left _ hp)
  obtain ⟨fs, hv⟩ := hf
  have nc : PySem.W.notCls p.2 = true := by
    unfold PySem.W.notCls
    rw [hv]
  obtain ⟨od, J⟩ : ∃ od, PySem.W.InstAt s.heap p.1 p.2 C od := by
    cases d with
    | none => exact ⟨none, hget, hz.1, nc, by rw [hz.2]; exact True.intro⟩
    | some dd =>
      obtain ⟨gs, hdd⟩ := hd dd rfl
      obtain ⟨mA, hns, _⟩ := (show ObjOk X.prog X.w H s.heap dd (.xd gs) from I.hok dd _ hdd)
      obtain ⟨od, ho, _⟩ := lookIn_ns hns
      exact ⟨some od, hget, hz.1, nc, by rw [hz.2]; exact ho⟩
  exact PySem.W.kia_one (PySem.W.kitx_exc T.isC T.ga T.gg (T.subT (by decide +kernel)) T.ca G.sp G.tk (T.subT (t := "object") (by decide +kernel))) I.kIn J e (fun z => nomatch z) fun tk => ⟨.bl b, H, I.tok tk, rfl, z⟩
/-- e.n of that error -/
def tXp (a : Addr) (d : Option Addr) (n : Str) (te : TE) : TE := fun σ H Q => te σ H fun x H1 => x = .ref a ∧ ∃ (dd : Addr) (fs : List (Str × V)) (v : V), d = some dd ∧ H1 dd = some (.xd fs) ∧ fs.lookup n = some v ∧ Q v H1
theorem pe_xp {L C : Addr} (T : ErrT X.K L C) (hno : PySem.W.findIn X.K (.ref C) n = some none) (hp : p ∈ X.pn) (hz : Zc (.ref C) d p.2) (hf : ∃ fs, p.2.data = .fields fs) (he : PE X e te) (hb : attributeBase e n X.env (eval e X.env) = eval e X.env := by rfl) :
    PE X (.Attribute e n pos) (tXp p.1 d n te) := ⟨fun pins s σ H Q I h => attr_of hb (thn (he.run pins s σ H _ I h) fun u s1 ⟨y, H1, I1, rx, ey, dd, fs, v, ed, ea, l, z⟩ => by
  subst ey ed
  cases (show u = Value.ref p.1 from rx)
  obtain ⟨hget, _⟩ := I1.pin p (List.mem_append_left _ hp)
  obtain ⟨gs, hv⟩ := hf
  obtain ⟨mA, hns, hr⟩ := (show ObjOk X.prog X.w H1 s1.heap dd (.xd fs) from I1.hok dd _ ea)
  obtain ⟨od, ho, hl⟩ := lookIn_ns hns
  obtain ⟨u, hu, ru⟩ := RelO.some_of (v := v) (o := mA n) (by rw [← l]; exact hr n)
  have J : PySem.W.InstAt s1.heap p.1 p.2 C (some od) := ⟨hget, hz.1, by unfold PySem.W.notCls; rw [hv], by rw [hz.2]; exact ho⟩
  exact PySem.HandSPX.exc_get I1.kIn J T.ga T.gg (T.subT (by decide +kernel)) (PySem.W.findObj_own T.hd hno rfl (by rw [hl, hu])) (handed_of ru) ⟨v, H1, I1.tok _, ru, z⟩)⟩
end
/-! ### tried: try: return ("told", deed()) / except L as e: return looker(e) -/
/-- tl: the deed's reading; hd: what is done of its error -/
def TTry (K : PySem.W.Frag) (L : Addr) (sp : SpE) : (XK → Hp → VK → Prop) → Hp → VK → Prop := fun tl H Q =>
  tl (fun cls d H' => PySem.W.exmOne K cls (.ref L) = some true ∧ ∀ a, H' a = none → sp a cls d [.ref a] H' Q E0) H fun v H' => 2 ≤ sizeLine ∧ ∀ p, H' p = none → Q (.ref p) (upd H' p (.tup [.str "told", v]))
theorem try_gives {X : Cx} {x a e y n q : Str} {sg : Scope} {g L fE : Addr} {cdg : Value} {j k kk : Nat} {fd : FuncData} {ps : List Str} {sp : SpE} {p1 p2 p3 p4 p5 p6 p7 p8 p9 p10 pb pc : Pos} (hnd : ([a, n] : List Str).Nodup) (hln : sg.names.lookup n = some .local)
    (hge : sg.names.lookup e = some .globalImplicit) (hme : X.mg e = some (.ref L)) (hde : (e == ("__debug__" : Str)) = false) (hk : sg.kind = .function)
    (F : FnP X.prog X.w X.K X.mg X.base k fE fd ps sp) (hr : ∀ s : Shared, Room k (X.A.deeper (PyProof.Rows.envOfC x sg s.heap.objs.size g cdg))) (hgy : sg.names.lookup y = some .globalImplicit) (hmy : X.mg y = some (.ref fE)) (hky : PySem.W.keepIn X.K (.ref fE) = true) (hb : Binds X.K fd ps [])
    (hdy : (y == ("__debug__" : Str)) = false) (hdn : (n == ("__debug__" : Str)) = false) (hcn : (n == ("__classdict__" : Str)) = false) :
    LamX.GivesTo X [a, n] x sg g cdg
      [.Try [.Return (some (.Tuple [.Constant (.str "told") j p1, .Call (.Name a p2) [] [] p3] kk p4)) p5]
        [.ExceptHandler (some (.Name e p6)) (some n) [.Return (some (.Call (.Name y p7) [.Name n p8] [] p9)) p10] pb] [] [] pc] a q (TTry X.K L sp) := by
  intro f c' s H Q tl act hc h
  refine ⟨_, pss_one (ps_try_as (X := (cxOf C8.CX0 X.prog X.w X.K X.mg X.base [a, n] x sg g cdg X.A X.stack s H C8.E0).nox) (i := 1) (c := .ref L)
      (ts := fun a cls d D σ H => (σ.length = 2 → σ[1]? = some (some (.ref a))) ∧ sp a cls d [.ref a] H D.rt E0)
      (tb := fun W D σ H => ∃ Ech : XK, (∀ cls d σ' H', Ech cls d H' → W cls d σ' H') ∧ σ[0]? = some (some (.ref f)) ∧ H c' = some (LamX.CodeO c' q) ∧ tl Ech H fun v H1 => 2 ≤ sizeLine ∧ ∀ p, H1 p = none → D.rt (.ref p) (upd H1 p (.tup [.str "told", v])))
      rfl rfl hnd rfl hln ⟨hge, hde, .inl hme⟩ LamX.takes0 (fun W pn xe tk _ => ?_) (fun b oe cls d pn hz hf => ?_)), ?_⟩
  · refine ⟨fun pins s' σ H' D I h' => ?_⟩
    obtain ⟨Ech, hW, h1, h2, h3⟩ := h'
    have hp := act W pn xe Ech p2 p3 tk hW
    have ht : PE ((cxOf C8.CX0 X.prog X.w X.K X.mg X.base [a, n] x sg g cdg X.A X.stack s H C8.E0).tr pn xe) (.Tuple [.Constant (.str "told") j p1, .Call (.Name a p2) [] [] p3] kk p4) _ := pe_tup (pa_cons pe_str (pa_cons hp pa_nil))
    have hq := pss_one (ps_ret (pos := p5) ht)
    exact hq.run pins s' σ H' D I ⟨h1, h2, h3⟩
  · refine ⟨fun pins s' σ H' D I h' => ?_⟩
    have hc' := pe_callP (X := (Cx.suite (cxOf C8.CX0 X.prog X.w X.K X.mg X.base [a, n] x sg g cdg X.A X.stack s H C8.E0).nox b ((b, oe) :: pn))) (p := (b, oe)) (q := p7) (pos := p9) F ⟨(hr s).dp, (hr s).un⟩ List.mem_cons_self hz hf hgy hmy hky hb (pa_cons (pe_var (i := 1) (pos := p8) rfl (.inl hln) hdn hcn) pa_nil) hdy
    exact (pss_one (ps_ret (pos := p10) hc')).run pins s' σ H' D I ⟨_, h'.1 I.len, h'.2⟩
  · refine ⟨fun cls d H' => PySem.W.exmOne X.K cls (.ref L) = some true ∧ ∀ a, H' a = none → sp a cls d [.ref a] H' Q E0, fun cls d σ' H' ⟨e1, e2⟩ => ⟨true, e1, fun _ a na => ⟨fun hl => ?_, e2 a na⟩, fun z => nomatch z⟩, rfl, hc, ?_⟩
    · rw [List.length_set] at hl
      rw [List.getElem?_set_self (by omega)]
    · exact h
end Gy
namespace PySem.GyDec
open PySem PySem.W
section
variable {C dx x : Addr} (a : Bool)
theorem addB_dec : GivesAt (fun s => s.heap.get? x = some (instObj C dx)) (Builtin.«int.__add__» ⟨[.bool a, .ref x], []⟩) (.val .notImplemented) := fun prog w A R s hP h => by
  obtain ⟨hp, g, d, tk, os⟩ := s
  have at_ : Heap.get? (Shared.heap ⟨hp, g, d, tk, os⟩) x = some (instObj C dx) := hP
  wp_walk using AutoSeq1.wpAny_loadPart' at_
  exact h
theorem subB_dec : GivesAt (fun s => s.heap.get? x = some (instObj C dx)) (Builtin.«int.__sub__» ⟨[.bool a, .ref x], []⟩) (.val .notImplemented) := fun prog w A R s hP h => by
  obtain ⟨hp, g, d, tk, os⟩ := s
  have at_ : Heap.get? (Shared.heap ⟨hp, g, d, tk, os⟩) x = some (instObj C dx) := hP
  wp_walk using AutoSeq1.wpAny_loadPart' at_
  exact h
theorem mulB_dec : GivesAt (fun s => s.heap.get? x = some (instObj C dx)) (Builtin.«int.__mul__» ⟨[.bool a, .ref x], []⟩) (.val .notImplemented) := fun prog w A R s hP h => by
  obtain ⟨hp, g, d, tk, os⟩ := s
  have at_ : Heap.get? (Shared.heap ⟨hp, g, d, tk, os⟩) x = some (instObj C dx) := hP
  wp_walk using AutoSeq1.wpAny_loadPart' at_
  exact h
end
section
variable {prog : Program} {w : World} {A : Around} {E : Value → Shared → Prop} {s : Shared} {C dx x : Addr} {a : Bool} {P : Option Value → Shared → Prop}
theorem tryB_dec {name : Str} {id : String} {B : Builtin} (slot : Slot "bool" name id) (entry : entryFor table id = some B) (args : argsOk id ⟨[.bool a, .ref x], []⟩)
    (g : GivesAt (fun s => s.heap.get? x = some (instObj C dx)) (B ⟨[.bool a, .ref x], []⟩) (.val .notImplemented)) (hx : s.heap.get? x = some (instObj C dx)) (h : P none s) : wpAny (model prog w) A (tryMethod (.bool a) name (.ref x)) P E s :=
  wpAny_tryMethod_declines (PyProof.Rows.typeIs_bool' s a) slot (call_givesAt slot (PyProof.Rows.typeIs_bool' s a) entry args g hx ⟨rfl, h⟩)
theorem tryB_add (hx : s.heap.get? x = some (instObj C dx)) (h : P none s) : wpAny (model prog w) A (tryMethod (.bool a) (PySem.dunder Operator.Add.info.2) (.ref x)) P E s :=
  tryB_dec (name := PySem.dunder Operator.Add.info.2) (id := "int.__add__") (B := Builtin.«int.__add__») F.slot_bool_add F.entry_int_add (F.args_int_add_2 _ _) (addB_dec a) hx h
theorem tryB_sub (hx : s.heap.get? x = some (instObj C dx)) (h : P none s) : wpAny (model prog w) A (tryMethod (.bool a) (PySem.dunder Operator.Sub.info.2) (.ref x)) P E s :=
  tryB_dec (name := PySem.dunder Operator.Sub.info.2) (id := "int.__sub__") (B := Builtin.«int.__sub__») F.slot_bool_sub F.entry_int_sub (F.args_int_sub_2 _ _) (subB_dec a) hx h
theorem tryB_mul (hx : s.heap.get? x = some (instObj C dx)) (h : P none s) : wpAny (model prog w) A (tryMethod (.bool a) (PySem.dunder Operator.Mult.info.2) (.ref x)) P E s :=
  tryB_dec (name := PySem.dunder Operator.Mult.info.2) (id := "int.__mul__") (B := Builtin.«int.__mul__») F.slot_bool_mul F.entry_int_mul (F.args_int_mul_2 _ _) (mulB_dec a) hx h
end
end PySem.GyDec
namespace Gy
open PySem L2
/-! ### an own class's operators beside what is no number -/
/-- a built-in type beside an operator: its own two slots are none of numbers, and it is no kin of C -/
structure OddT (K : PySem.W.Frag) (C : Addr) (op : Operator) (T : String) : Prop where
  s1 : ∃ fo ro, PySem.W.findIn K (.type T) (PySem.dunder op.info.2) = some fo ∧ PySem.W.findIn K (.type T) (dunderR op.info.2) = some ro ∧ (T ≠ "bool" → ((fo.isSome && !isSeqSlot fo) || (ro.isSome && !isSeqSlot ro)) = false)
  up : PySem.W.subIn K (.type T) (.ref C) = some false
  dn : PySem.W.subIn K (.ref C) (.type T) = some false
section
variable {X : Cx} {CX : CXT} {C g r : Addr} {k : Nat} {fd : FuncData} {ps : List Str} {sp : Sp} {E : XK}
/-- x op y, y odd -/
def rGyDO (K : PySem.W.Frag) (C : Addr) (op : Operator) (sp : Sp) (E : XK) : R2 := fun x y H Q => ∃ a dx fs T, x = .ref a ∧ H a = some (.ins C dx fs) ∧ TyX K H y (.type T) ∧ OddT K C op T ∧ sp [x, y] H Q E
theorem op_gyDO {op : Operator} (D : GyOp X.K C op g r) (F : FnOk X.prog X.w X.K X.mg X.base CX k g fd ps sp) (hr : Room k X.A) (hb : Binds X.K fd ps []) (hx : Passes CX X E) : OpR X (binaryOp op) (rGyDO X.K C op sp E) := by
  intro pins s σ H x y v u Q I rx ry h
  obtain ⟨a, dx, fs, T, rfl, ha, ty, O, q⟩ := h
  cases (show v = Value.ref a from rx)
  obtain ⟨od, J, _⟩ := ins_at I ha
  obtain ⟨m, hF⟩ := I.fr
  obtain ⟨P, Z, p, _⟩ := kit_of I ry ty
  obtain ⟨fo, ro, h1, h2, _⟩ := O.s1
  refine PySem.W.gy_binT hF I.ok.mod.kin J (Z.ty _ _ I.kIn p) D.sf D.d D.df D.rm (.inr ⟨r, rfl⟩) h1 h2 O.up ?_
  exact wpAny_mono (run_fn (us := [.ref a, u]) (vs := [.ref a, y]) F hr hb .nil hx I (.cons rfl (.cons ry .nil)) q) (fun w s' z => by
    obtain ⟨z', H', I', rz, qz⟩ := z
    exact gy_back rz ⟨z', H', I', rz, qz⟩) fun _ _ e => e
/-- x op y, x odd: y's turned method -/
def rGyRO (K : PySem.W.Frag) (C : Addr) (op : Operator) (sp : Sp) (E : XK) : R2 := fun x y H Q => ∃ b dy gs T, y = .ref b ∧ H b = some (.ins C dy gs) ∧ TyX K H x (.type T) ∧ OddT K C op T ∧ (T = "bool" → ∃ c, x = .bl c) ∧ sp [y, x] H Q E
theorem op_gyRO {op : Operator} (dec : ∀ (A : Around) (E : Value → Shared → Prop) (s : Shared) (C dx x : Addr) (a : Bool) (P : Option Value → Shared → Prop), s.heap.get? x = some (PySem.W.instObj C dx) → P none s →
      wpAny (model X.prog X.w) A (tryMethod (.bool a) (PySem.dunder op.info.2) (.ref x)) P E s)
    (D : GyOp X.K C op g r) (F : FnOk X.prog X.w X.K X.mg X.base CX k r fd ps sp) (hr : Room k X.A) (hb : Binds X.K fd ps []) (hx : Passes CX X E) : OpR X (binaryOp op) (rGyRO X.K C op sp E) := by
  intro pins s σ H x y v u Q I rx ry h
  obtain ⟨b, dy, gs, T, rfl, hb', ty, O, hB, q⟩ := h
  cases (show u = Value.ref b from ry)
  obtain ⟨od, J, hg⟩ := ins_at I hb'
  obtain ⟨m, hF⟩ := I.fr
  obtain ⟨P, Z, p, _⟩ := kit_of I rx ty
  obtain ⟨fo, ro, h1, h2, h3⟩ := O.s1
  refine PySem.W.gy_binR hF I.ok.mod.kin J (Z.ty _ _ I.kIn p) D.sf D.d (.inr ⟨g, rfl⟩) D.rm D.rf h1 h2 O.dn (fun e P hp => ?_) ?_
  · by_cases hT : T = "bool"
    · obtain ⟨c, rfl⟩ := hB hT
      cases (show v = Value.bool c from rx)
      exact dec X.A _ s C dy b c P hg hp
    · rw [h3 hT] at e
      cases e
  · exact wpAny_mono (run_fn (us := [.ref b, v]) (vs := [.ref b, x]) F hr hb .nil hx I (.cons rfl (.cons rx .nil)) q) (fun w s' z => by
      obtain ⟨z', H', I', rz, qz⟩ := z
      exact gy_back rz ⟨z', H', I', rz, qz⟩) fun _ _ e => e
theorem op_gyROadd (D : GyOp X.K C .Add g r) (F : FnOk X.prog X.w X.K X.mg X.base CX k r fd ps sp) (hr : Room k X.A) (hb : Binds X.K fd ps []) (hx : Passes CX X E) : OpR X (binaryOp .Add) (rGyRO X.K C .Add sp E) :=
  op_gyRO (fun A E s C dx x a P hx hp => PySem.GyDec.tryB_add hx hp) D F hr hb hx
theorem op_gyROsub (D : GyOp X.K C .Sub g r) (F : FnOk X.prog X.w X.K X.mg X.base CX k r fd ps sp) (hr : Room k X.A) (hb : Binds X.K fd ps []) (hx : Passes CX X E) : OpR X (binaryOp .Sub) (rGyRO X.K C .Sub sp E) :=
  op_gyRO (fun A E s C dx x a P hx hp => PySem.GyDec.tryB_sub hx hp) D F hr hb hx
theorem op_gyROmul (D : GyOp X.K C .Mult g r) (F : FnOk X.prog X.w X.K X.mg X.base CX k r fd ps sp) (hr : Room k X.A) (hb : Binds X.K fd ps []) (hx : Passes CX X E) : OpR X (binaryOp .Mult) (rGyRO X.K C .Mult sp E) :=
  op_gyRO (fun A E s C dx x a P hx hp => PySem.GyDec.tryB_mul hx hp) D F hr hb hx
end
/-- whether a type's two slots of an operator are those of no number, bool aside -/
def oddB (op : Operator) (T : String) : Bool := match PySem.W.findIn [] (.type T) (PySem.dunder op.info.2), PySem.W.findIn [] (.type T) (dunderR op.info.2) with
  | some fo, some ro => T == "bool" || !((fo.isSome && !isSeqSlot fo) || (ro.isSome && !isSeqSlot ro))
  | _, _ => false
theorem oddB_all : ([Operator.Add, .Sub, .Mult].all fun op => ["NoneType", "bool", "str", "list", "tuple", "dict"].all (oddB op)) = true := by kernel_rfl
theorem oddB_ok {K : PySem.W.Frag} {op : Operator} {T : String} (h : oddB op T = true) : ∃ fo ro, PySem.W.findIn K (.type T) (PySem.dunder op.info.2) = some fo ∧ PySem.W.findIn K (.type T) (dunderR op.info.2) = some ro ∧ (T ≠ "bool" → ((fo.isSome && !isSeqSlot fo) || (ro.isSome && !isSeqSlot ro)) = false) := by
  unfold oddB at h
  have e1 : PySem.W.findIn K (.type T) (PySem.dunder op.info.2) = PySem.W.findIn [] (.type T) (PySem.dunder op.info.2) := rfl
  have e2 : PySem.W.findIn K (.type T) (dunderR op.info.2) = PySem.W.findIn [] (.type T) (dunderR op.info.2) := rfl
  rw [e1, e2]
  split at h
  · rename_i fo ro h1 h2
    refine ⟨fo, ro, h1, h2, fun n => ?_⟩
    rw [beq_eq_false_iff_ne.mpr n, Bool.false_or] at h
    exact Bool.not_eq_true' _ ▸ h
  · cases h
/-- the built-in types that odd things have, beside + - * -/
theorem odd_T {K : PySem.W.Frag} {C : Addr} {op : Operator} {T : String} (ho : op ∈ [Operator.Add, .Sub, .Mult]) (hT : T ∈ ["NoneType", "bool", "str", "list", "tuple", "dict"]) (up : PySem.W.subIn K (.type T) (.ref C) = some false) (dn : PySem.W.subIn K (.ref C) (.type T) = some false) : OddT K C op T :=
  ⟨oddB_ok (List.all_eq_true.mp (List.all_eq_true.mp oddB_all op ho) T hT), up, dn⟩
end Gy
namespace Gy
open PySem L2
/-- where a code object's table stands -/
def codeAt (o : Obj) : Option Value := match o.data with
  | .fields vs => vs[11]?
  | _ => none
theorem pss_never {X : Cx} {sts : List Stmt} : PSs X sts tNever := ⟨fun _ _ _ _ _ _ h => h.elim⟩
/-- a heap without its tables -/
def noT (H : Hp) : Hp := fun b => match H b with
  | some (.tbl _) => none
  | o => o
theorem noT_le (H : Hp) : Same (noT H) H := fun b o e => by
  unfold noT at e
  split at e
  · cases e
  · exact e
theorem noT_tbl {H : Hp} {b : Addr} {o : HO} (e : noT H b = some o) : ∀ ps, o ≠ .tbl ps := fun ps z => by
  unfold noT at e
  split at e
  · cases e
  · rename_i h
    rw [z] at e
    exact h _ e
theorem noT_at {H : Hp} {b : Addr} {o : HO} (h : H b = some o) (n : ∀ ps, o ≠ .tbl ps) : noT H b = some o := by
  unfold noT
  rw [h]
  split
  · rename_i ps e
    cases e
    exact absurd rfl (n ps)
  · rfl
theorem noT_none {H : Hp} {b : Addr} (h : H b = none) : noT H b = none := by
  unfold noT
  rw [h]
theorem ext_noT {H H1 : Hp} {G : Hp} (s : Same (noT G) H) (e : LamX.ExtN H H1) : Same (noT G) H1 := fun b o z => e b o (s b o z) (noT_tbl z)
end Gy

set_option Elab.async false
set_option linter.all false
set_option maxRecDepth 100000
set_option maxHeartbeats 4000000
/-! Lay5: texts of numbers; a staticmethod called through its class; sep.join(reversed(a list)). -/
namespace Gy
open PySem L2 TL NumText

/-! ### digits -/
/-- one or more digits from 0 to 9 -/
def dig (l : List Nat) : Bool := !l.isEmpty && l.all fun c => decide (48 ≤ c) && decide (c ≤ 57)
theorem dig_iff {l : List Nat} : dig l = true ↔ l ≠ [] ∧ AllDigits l := by
  unfold dig AllDigits
  rw [Bool.and_eq_true, List.all_eq_true]
  constructor
  · rintro ⟨a, b⟩
    refine ⟨fun e => (by rw [e] at a; cases a), fun c hc => ?_⟩
    have := b c hc
    rw [Bool.and_eq_true] at this
    exact ⟨of_decide_eq_true this.1, of_decide_eq_true this.2⟩
  · rintro ⟨a, b⟩
    refine ⟨?_, fun c hc => ?_⟩
    · cases l with
      | nil => exact absurd rfl a
      | cons _ _ => rfl
    · obtain ⟨h1, h2⟩ := b c hc
      rw [decide_eq_true h1, decide_eq_true h2]
      rfl
/-- digits without a nought ahead -/
def nz (l : List Nat) : Bool := dig l && (decide (l = [48]) || decide (l.head? ≠ some 48))
theorem numL_head {n : Nat} (h : 0 < n) : ∃ c r, numL n = c :: r ∧ 49 ≤ c := by
  induction n using Nat.strongRecOn with
  | _ n ih =>
    by_cases h10 : n < 10
    · exact ⟨48 + n, [], numL_lt h10, by omega⟩
    · obtain ⟨c, r, e, h9⟩ := ih (n / 10) (by omega) (by omega)
      rw [numL_step (by omega), e]
      exact ⟨c, r ++ [48 + n % 10], rfl, h9⟩
theorem nz_num (n : Nat) : nz (numL n) = true := by
  unfold nz
  rw [dig_iff.mpr ⟨numL_ne n, numL_digits n⟩, Bool.true_and]
  by_cases h : n = 0
  · subst h
    rw [numL_lt (by decide)]
    rfl
  · obtain ⟨c, r, e, h9⟩ := numL_head (Nat.pos_of_ne_zero h)
    rw [e]
    have : decide ((c :: r).head? ≠ some 48) = true := decide_eq_true (by
      show some c ≠ some 48
      intro z
      cases z
      omega)
    rw [this, Bool.or_true]
theorem map_ofNat : ∀ {l : List Nat}, AllDigits l → (l.map Char.ofNat).map Char.toNat = l
  | [], _ => rfl
  | c :: r, h => by
    have hc := h.head
    rw [List.map_cons, List.map_cons, map_ofNat h.tail]
    have : (Char.ofNat c).toNat = c := by
      have : ∀ d : Nat, 48 ≤ d → d ≤ 57 → (Char.ofNat d).toNat = d := by
        intro d h1 h2
        have e : d = 48 + (d - 48) := by omega
        have f : ∀ k : Nat, k < 10 → (Char.ofNat (48 + k)).toNat = 48 + k := by decide
        rw [e]
        exact f _ (by omega)
      exact this c hc.1 hc.2
    rw [this]
theorem num_nz {l : List Nat} (h : nz l = true) : numL (digitsVal l) = l := by
  unfold nz at h
  rw [Bool.and_eq_true] at h
  obtain ⟨hd, hz⟩ := h
  obtain ⟨hne, had⟩ := dig_iff.mp hd
  have hn : l.length = (l.length - 1) + 1 := by
    have := List.length_pos_iff.mpr hne
    omega
  have hh : l.length - 1 = 0 ∨ ∃ c r, l = c :: r ∧ 49 ≤ c := by
    match l, hne, had with
    | c :: r, _, had =>
      rw [Bool.or_eq_true] at hz
      rcases hz with hz | hz
      · left
        have := of_decide_eq_true hz
        rw [this]
        rfl
      · right
        have := of_decide_eq_true hz
        have h8 := had.head
        refine ⟨c, r, rfl, ?_⟩
        have : c ≠ 48 := fun e => this (by rw [e]; rfl)
        omega
  have t := toDigits_digitsVal (l.length - 1) l hn had hh
  unfold numL
  rw [t, map_ofNat had]
theorem nz_val {l : List Nat} (h : nz l = true) : ∃ n, l = numL n := ⟨_, (num_nz h).symm⟩
theorem nz_dig {l : List Nat} (h : nz l = true) : dig l = true := by
  unfold nz at h
  rw [Bool.and_eq_true] at h
  exact h.1
theorem digitsVal_lt {l : List Nat} (h : AllDigits l) : digitsVal l < 10 ^ l.length := by
  have : ∀ (l : List Nat) (a : Nat), AllDigits l → l.foldl (fun acc c => acc * 10 + (c - 48)) a < (a + 1) * 10 ^ l.length := by
    intro l
    induction l with
    | nil => intro a _; show a < (a + 1) * 1; omega
    | cons c r ih =>
      intro a h
      have hc := h.head
      have := ih (a * 10 + (c - 48)) h.tail
      rw [List.foldl_cons, List.length_cons, Nat.pow_succ]
      refine Nat.lt_of_lt_of_le this ?_
      have e : (a + 1) * (10 ^ r.length * 10) = ((a + 1) * 10) * 10 ^ r.length := by
        rw [Nat.mul_comm (10 ^ r.length) 10, ← Nat.mul_assoc]
      rw [e]
      exact Nat.mul_le_mul_right _ (by omega)
  have := this l 0 h
  rw [Nat.zero_add, Nat.one_mul] at this
  exact this

/-! ### the text of a fraction -/
def signL (i : Int) : List Nat := if i < 0 then [45] else []
def underL (i : Int) : List Nat := if i = 1 then [] else 47 :: numL i.natAbs
def fracL (p : Int × Int) : List Nat := signL p.1 ++ (numL p.1.natAbs ++ underL p.2)
theorem tl_int (i : Int) : tl (Str.ofString (toString i)) = signL i ++ numL i.natAbs := by
  unfold signL
  cases i with
  | ofNat n =>
    rw [if_neg (by exact fun z => absurd z (Int.not_lt.mpr (Int.natCast_nonneg n)))]
    exact tl_num n
  | negSucc n =>
    rw [if_pos (Int.negSucc_lt_zero n)]
    have e1 : toString (Int.negSucc n) = "-" ++ toString (((n + 1 : Nat)) : Int) := rfl
    rw [e1, tl_ofString]
    have e2 := tl_num (n + 1)
    rw [tl_ofString] at e2
    rw [String.toList_append, List.map_append, e2]
    rfl
/-- cut at the first stroke -/
def cutA (l : List Nat) : List Nat := l.takeWhile (· != 47)
def cutB (l : List Nat) : List Nat := (l.dropWhile (· != 47)).tail
theorem cut_in {a r : List Nat} (h : 47 ∉ a) : cutA (a ++ 47 :: r) = a ∧ cutB (a ++ 47 :: r) = r := by
  have f : ∀ c ∈ a, (c != 47) = true := fun c hc => by
    rw [bne_iff_ne]
    exact fun e => h (e ▸ hc)
  unfold cutA cutB
  rw [List.takeWhile_append_of_pos f, List.dropWhile_append_of_pos f]
  constructor
  · show a ++ List.takeWhile (· != 47) (47 :: r) = a
    rw [List.takeWhile_cons_of_neg (by decide), List.append_nil]
  · show (List.dropWhile (· != 47) (47 :: r)).tail = r
    rw [List.dropWhile_cons_of_neg (by decide)]
    rfl

theorem cut_form {l : List Nat} (h : 47 ∈ l) : l = cutA l ++ 47 :: cutB l ∧ 47 ∉ cutA l := by
  induction l with
  | nil => cases h
  | cons c r ih =>
    by_cases e : c = 47
    · subst e
      unfold cutA cutB
      rw [List.takeWhile_cons_of_neg (by decide), List.dropWhile_cons_of_neg (by decide)]
      exact ⟨rfl, nofun⟩
    · have hr : 47 ∈ r := by
        rcases List.mem_cons.mp h with z | z
        · exact absurd z.symm e
        · exact z
      obtain ⟨h1, h2⟩ := ih hr
      have en : (c != 47) = true := bne_iff_ne.mpr e
      have ea : cutA (c :: r) = c :: cutA r := List.takeWhile_cons_of_pos en
      have eb : cutB (c :: r) = cutB r := congrArg List.tail (List.dropWhile_cons_of_pos en)
      rw [ea, eb]
      refine ⟨by rw [List.cons_append, ← h1], fun z => ?_⟩
      rcases List.mem_cons.mp z with z | z
      · exact e z.symm
      · exact h2 z
theorem cut_out {l : List Nat} (h : 47 ∉ l) : cutA l = l := by
  unfold cutA
  have := List.takeWhile_append_of_pos (p := (· != 47)) (l₁ := l) (l₂ := []) fun c hc => by
    rw [bne_iff_ne]
    exact fun e => h (e ▸ hc)
  rw [List.append_nil] at this
  rw [this]
  exact List.append_nil l
theorem par_cut (l : List Nat) : par [47] [] l = if 47 ∈ l then some (cutA l, cutB l) else none := by
  by_cases h : 47 ∈ l
  · rw [if_pos h]
    obtain ⟨e, n⟩ := cut_form h
    generalize cutA l = a at e n ⊢
    generalize cutB l = b at e ⊢
    subst e
    exact par_part1 n
  · rw [if_neg h]
    exact par_none1 h
/-- without a sign -/
def noSign (l : List Nat) : List Nat := if l.head? = some 45 then l.tail else l
def belowL (l : List Nat) : List Nat := if 47 ∈ l then cutB l else [49]
/-- what a text of that form is worth -/
def exN (l : List Nat) : Int × Int := red (if (cutA l).head? = some 45 then -(digitsVal (noSign (cutA l)) : Int) else (digitsVal (noSign (cutA l)) : Int)) (digitsVal (belowL l) : Int)
/-- the fraction with this text -/
def exOf (l : List Nat) : Option (Int × Int) :=
  if dig (noSign (cutA l)) = true ∧ dig (belowL l) = true ∧ digitsVal (belowL l) ≠ 0 then
    (if fracL (exN l) = l then some (exN l) else none)
  else none
/-- some reduced fraction has this text -/
def Canon (l : List Nat) : Prop := ∃ p, Rd p ∧ l = fracL p
theorem exOf_some {l : List Nat} {p : Int × Int} (h : exOf l = some p) : Rd p ∧ fracL p = l := by
  unfold exOf at h
  split at h
  · rename_i c
    split at h
    · rename_i e
      rw [← Option.some.inj h]
      exact ⟨red_rd (by have := c.2.2; omega), e⟩
    · cases h
  · cases h
theorem sign_free (i : Int) : 47 ∉ signL i ++ numL i.natAbs := fun h => by
  unfold signL at h
  rcases List.mem_append.mp h with h | h
  · split at h
    · rw [List.mem_singleton] at h
      cases h
    · cases h
  · exact numL_free (.inl (by decide)) h
theorem num_first (n : Nat) : (numL n).head? ≠ some 45 := fun h => by
  have hm : 45 ∈ numL n := List.mem_of_mem_head? h
  exact numL_free (.inl (by decide)) hm
theorem sign_no (i : Int) : noSign (signL i ++ numL i.natAbs) = numL i.natAbs ∧ ((signL i ++ numL i.natAbs).head? = some 45 ↔ i < 0) := by
  unfold signL noSign
  by_cases h : i < 0
  · rw [if_pos h]
    exact ⟨rfl, ⟨fun _ => h, fun _ => rfl⟩⟩
  · rw [if_neg h, List.nil_append, if_neg (num_first _)]
    exact ⟨rfl, ⟨fun e => absurd e (num_first _), fun e => absurd e h⟩⟩
theorem frac_cut {p : Int × Int} (h : 0 < p.2) : cutA (fracL p) = signL p.1 ++ numL p.1.natAbs ∧ digitsVal (belowL (fracL p)) = p.2.natAbs ∧ dig (belowL (fracL p)) = true := by
  unfold fracL underL belowL
  by_cases e : p.2 = 1
  · rw [if_pos e, List.append_nil, cut_out (sign_free _), if_neg (sign_free _), e]
    exact ⟨rfl, rfl, rfl⟩
  · rw [if_neg e, ← List.append_assoc]
    obtain ⟨h1, h2⟩ := cut_in (a := signL p.1 ++ numL p.1.natAbs) (r := numL p.2.natAbs) (sign_free _)
    have hm : 47 ∈ signL p.1 ++ numL p.1.natAbs ++ 47 :: numL p.2.natAbs := List.mem_append_right _ List.mem_cons_self
    rw [h1, if_pos hm, h2, numL_val]
    exact ⟨rfl, rfl, dig_iff.mpr ⟨numL_ne _, numL_digits _⟩⟩
theorem exOf_frac {p : Int × Int} (h : Rd p) : exOf (fracL p) = some p := by
  obtain ⟨e1, e2, e3⟩ := frac_cut h.1
  obtain ⟨s1, s2⟩ := sign_no p.1
  have h2 := h.1
  unfold exOf
  rw [e1, s1, e2]
  have c : dig (numL p.1.natAbs) = true ∧ dig (belowL (fracL p)) = true ∧ p.2.natAbs ≠ 0 := ⟨dig_iff.mpr ⟨numL_ne _, numL_digits _⟩, e3, by omega⟩
  rw [if_pos c]
  have e : (if (signL p.1 ++ numL p.1.natAbs).head? = some 45 then -(p.1.natAbs : Int) else (p.1.natAbs : Int)) = p.1 := by
    by_cases z : p.1 < 0
    · rw [if_pos (s2.mpr z)]
      omega
    · rw [if_neg (fun q => z (s2.mp q))]
      omega
  have e' : (p.2.natAbs : Int) = p.2 := by omega
  have en : exN (fracL p) = p := by
    unfold exN
    rw [e1, s1, e2, numL_val, e, e', red_self h]
  rw [en, if_pos rfl]
theorem exOf_iff {l : List Nat} {p : Int × Int} : exOf l = some p ↔ Rd p ∧ fracL p = l := ⟨exOf_some, fun ⟨h, e⟩ => e ▸ exOf_frac h⟩
theorem exOf_none {l : List Nat} : exOf l = none ↔ ¬ Canon l := by
  constructor
  · rintro h ⟨p, r, e⟩
    rw [e, exOf_frac r] at h
    cases h
  · intro h
    cases e : exOf l with
    | none => rfl
    | some p => exact absurd ⟨p, (exOf_some e).1, (exOf_some e).2.symm⟩ h
theorem fracL_inj {p q : Int × Int} (hp : Rd p) (hq : Rd q) (e : fracL p = fracL q) : p = q := by
  have := exOf_frac hp
  rw [e, exOf_frac hq] at this
  exact (Option.some.inj this).symm
/-! ### a text looked at another way: its parts between strokes -/
def isText (l : List Nat) : Bool :=
  match spl [47] 0 [] l with
  | [] => false
  | a :: r => ((noSign a) :: r).all nz && !(decide (r.length > 1) || decide (l.take 2 = [45, 48])) &&
    (match r with
     | [] => true
     | b :: _ => decide (1 < digitsVal b) && decide (Nat.gcd (digitsVal (noSign a)) (digitsVal b) = 1))
theorem isText_frac {p : Int × Int} (h : Rd p) : isText (fracL p) = true := by
  obtain ⟨h1, h2⟩ := h
  obtain ⟨s1, s2⟩ := sign_no p.1
  have tk : decide ((fracL p).take 2 = [45, 48]) = false := decide_eq_false fun z => by
    unfold fracL signL at z
    by_cases n : p.1 < 0
    · rw [if_pos n] at z
      obtain ⟨c, r, e, h9⟩ := numL_head (n := p.1.natAbs) (by omega)
      rw [e] at z
      have : [45, c] = [45, 48] := z
      cases this
      omega
    · rw [if_neg n, List.nil_append] at z
      obtain ⟨c, r, e⟩ := List.exists_cons_of_ne_nil (numL_ne p.1.natAbs)
      have hc := numL_digits p.1.natAbs c (by rw [e]; exact List.mem_cons_self)
      rw [e] at z
      have z' : (c :: (r ++ underL p.2)).take 2 = [45, 48] := z
      rw [List.take_succ_cons] at z'
      have := (List.cons.inj z').1
      omega
  unfold isText
  rw [tk]
  unfold fracL underL
  by_cases e : p.2 = 1
  · rw [if_pos e, List.append_nil, spl_last1 (sign_free _), List.nil_append]
    show (([noSign (signL p.1 ++ numL p.1.natAbs)] : List (List Nat)).all nz && _ && _) = true
    rw [s1]
    show ((nz (numL p.1.natAbs) && true) && !(decide (0 > 1) || false) && true) = true
    rw [nz_num]
    rfl
  · rw [if_neg e, ← List.append_assoc]
    have es : spl [47] 0 [] (signL p.1 ++ numL p.1.natAbs ++ 47 :: numL p.2.natAbs) = [signL p.1 ++ numL p.1.natAbs, numL p.2.natAbs] := by
      have := spl_part1 (s := 47) (S := []) (p := signL p.1 ++ numL p.1.natAbs) (rest := numL p.2.natAbs) (acc := []) (sign_free _)
      rw [spl_last1 (numL_free (.inl (by decide))), List.nil_append, List.nil_append] at this
      exact this
    rw [es]
    show ((noSign (signL p.1 ++ numL p.1.natAbs) :: [numL p.2.natAbs]).all nz && !(decide ([numL p.2.natAbs].length > 1) || false) && (decide (1 < digitsVal (numL p.2.natAbs)) && decide (Nat.gcd (digitsVal (noSign (signL p.1 ++ numL p.1.natAbs))) (digitsVal (numL p.2.natAbs)) = 1))) = true
    rw [s1, numL_val, numL_val]
    have g : Nat.gcd p.1.natAbs p.2.natAbs = 1 := h2
    rw [decide_eq_true g, decide_eq_true (by omega : 1 < p.2.natAbs)]
    show (nz (numL p.1.natAbs) && (nz (numL p.2.natAbs) && true) && _ && _) = true
    rw [nz_num, nz_num]
    rfl
theorem noSign_form (a : List Nat) : (a.head? = some 45 ∧ a = 45 :: noSign a) ∨ (a.head? ≠ some 45 ∧ a = noSign a) := by
  unfold noSign
  by_cases h : a.head? = some 45
  · left
    rw [if_pos h]
    cases a with
    | nil => cases h
    | cons c r => cases h; exact ⟨rfl, rfl⟩
  · right
    rw [if_neg h]
    exact ⟨h, rfl⟩
theorem signed_text {a : List Nat} {n : Nat} (e : noSign a = numL n) (hz : a.take 2 ≠ [45, 48] ) : ∃ i : Int, i.natAbs = n ∧ a = signL i ++ numL i.natAbs := by
  rcases noSign_form a with ⟨h, f⟩ | ⟨h, f⟩
  · rw [e] at f
    have hn : n ≠ 0 := fun z => hz (by rw [f, z]; rfl)
    refine ⟨-(n : Int), by omega, ?_⟩
    have e2 : (-(n : Int)).natAbs = n := by omega
    unfold signL
    rw [if_pos (by omega), e2]
    exact f
  · refine ⟨(n : Int), by omega, ?_⟩
    have e2 : ((n : Int)).natAbs = n := by omega
    unfold signL
    rw [if_neg (by omega), e2, ← e]
    exact f
theorem isText_canon {l : List Nat} (h : isText l = true) : Canon l := by
  unfold isText at h
  by_cases hm : 47 ∈ l
  · obtain ⟨e, hn⟩ := cut_form hm
    generalize cutA l = a at e hn
    generalize cutB l = b at e
    have es : spl [47] 0 [] l = a :: spl [47] 0 [] b := by
      rw [e]
      have := spl_part1 (s := 47) (S := []) (p := a) (rest := b) (acc := []) hn
      rw [List.nil_append] at this
      exact this
    rw [es] at h
    by_cases hb : 47 ∈ b
    · obtain ⟨e', hn'⟩ := cut_form hb
      generalize cutA b = a' at e' hn'
      generalize cutB b = b' at e'
      have es' : spl [47] 0 [] b = a' :: spl [47] 0 [] b' := by
        rw [e']
        have := spl_part1 (s := 47) (S := []) (p := a') (rest := b') (acc := []) hn'
        rw [List.nil_append] at this
        exact this
      have hne : spl [47] 0 [] b' ≠ [] := by
        by_cases hb' : 47 ∈ b'
        · obtain ⟨e2, n2⟩ := cut_form hb'
          rw [e2]
          have := spl_part1 (s := 47) (S := []) (p := cutA b') (rest := cutB b') (acc := []) n2
          intro z
          have y : spl [47] 0 [] (cutA b' ++ 47 :: cutB b') = [] ++ cutA b' :: spl [47] 0 [] (cutB b') := this
          rw [z] at y
          cases y
        · rw [spl_last1 hb']
          simp
      rw [es'] at h
      have : decide ((a' :: spl [47] 0 [] b').length > 1) = true := decide_eq_true (by
        rw [List.length_cons]
        have := List.length_pos_iff.mpr hne
        omega)
      dsimp only at h
      rw [this] at h
      simp at h
    · rw [spl_last1 hb, List.nil_append] at h
      dsimp only at h
      simp only [Bool.and_eq_true, List.all_cons, List.all_nil, Bool.and_true, decide_eq_true_eq, Bool.not_eq_true', Bool.or_eq_false_iff, decide_eq_false_iff_not] at h
      obtain ⟨⟨⟨ha, hb2⟩, _, ht⟩, hv, hg⟩ := h
      obtain ⟨m, em⟩ := nz_val ha
      obtain ⟨k, ek⟩ := nz_val hb2
      rw [ek, numL_val] at hv
      rw [em, ek, numL_val, numL_val] at hg
      have hta : a.take 2 ≠ [45, 48] := fun z => ht (by
        rw [e]
        have hl : 2 ≤ a.length := by
          have := congrArg List.length z
          rw [List.length_take] at this
          have e2 : ([45, 48] : List Nat).length = 2 := rfl
          rw [e2] at this
          omega
        rw [List.take_append_of_le_length hl]
        exact z)
      obtain ⟨i, hi, ea⟩ := signed_text em hta
      refine ⟨(i, (k : Int)), ⟨by show (0 : Int) < (k : Int); omega, ?_⟩, ?_⟩
      · show Nat.gcd i.natAbs (k : Int).natAbs = 1
        have : ((k : Int)).natAbs = k := by omega
        rw [this, hi]
        exact hg
      · show l = signL i ++ (numL i.natAbs ++ underL (k : Int))
        unfold underL
        have e2 : ((k : Int)).natAbs = k := by omega
        rw [if_neg (by omega), e, ea, ek, e2, List.append_assoc]
  · rw [spl_last1 hm, List.nil_append] at h
    dsimp only at h
    simp only [Bool.and_eq_true, List.all_cons, List.all_nil, Bool.and_true, decide_eq_true_eq, Bool.not_eq_true', Bool.or_eq_false_iff, decide_eq_false_iff_not] at h
    obtain ⟨ha, _, ht⟩ := h
    obtain ⟨m, em⟩ := nz_val ha
    obtain ⟨i, hi, ea⟩ := signed_text em ht
    refine ⟨(i, 1), rd_int i, ?_⟩
    show l = signL i ++ (numL i.natAbs ++ underL 1)
    unfold underL
    rw [if_pos rfl, List.append_nil]
    exact ea
theorem isText_iff {l : List Nat} : isText l = true ↔ Canon l := ⟨isText_canon, fun ⟨p, h, e⟩ => e ▸ isText_frac h⟩
theorem told_iff {l : List Nat} : (exOf l).isSome = isText l := by
  cases h : isText l with
  | true =>
    obtain ⟨p, r, e⟩ := isText_canon h
    rw [e, exOf_frac r]
    rfl
  | false =>
    cases e : exOf l with
    | none => rfl
    | some p =>
      obtain ⟨r, f⟩ := exOf_some e
      rw [← f, isText_frac r] at h
      cases h
end Gy

namespace L2
open PySem PySem.Spec PyProof.Rows
/-! ### C.m(..), m a staticmethod of the class at C -/
structure SMet (K : PySem.W.Frag) (C : Addr) (m : Str) (p f : Addr) : Prop where
  rd : PySem.W.readsIn K C (.type "type") = true
  ga : PySem.W.specialIn K (.ref C) "__getattribute__" = some (some (.builtin "type.__getattribute__"))
  at_ : PySem.W.findCls K (.ref C) (.type "type") m = some (.get (.builtin "staticmethod.__get__") (.ref p) .none (.ref C))
  rc : ∃ rest, PySem.W.recIn K p "staticmethod" = some (.ref f :: rest)
def tSMeth (C : Addr) (sp : Sp) (dvs : List V) (E : XK) (ta : TE) (t : TA) : TE := fun σ H Q => ta σ H fun x H1 => x = .ref C ∧ t σ H1 fun vs H2 => sp (vs ++ dvs) H2 Q E
theorem pe_smeth {X : Cx} {CX : CXT} {k : Nat} {C p f : Addr} {fd : FuncData} {ps : List Str} {ds : List Value} {dvs : List V} {sp : Sp} {E : XK} {o e : Expr} {es : List Expr} {m : Str} {pos apos : Pos} {ta : TE} {t : TA} {pl : Sem Bool}
    (he : PE X o ta) (c : SMet X.K C m p f) (F : FnOk X.prog X.w X.K X.mg X.base CX k f fd ps sp) (hr : Room k X.A) (hk : PySem.W.keepIn X.K (.ref f) = true) (hb : Binds X.K fd ps ds) (hd : Vals dvs ds) (hx : Passes CX X E) (ha : PA X (e :: es) t)
    (hst : starEach (e :: es) X.env = (false, eval e X.env) :: starEach es X.env := by rfl) (hpl : (backTo pos (starEach es X.env)).any (·.1) = false := by rfl)
    (ht : eval (.Call (.Attribute o m apos) (e :: es) [] pos) X.env = (do
      let ov ← eval o X.env
      standAt apos.atName
      let (f, first) ← holding [ov] (getMethod ov m pl)
      callWith pos f first (backTo pos (starEach (e :: es) X.env)) (backToKw pos (keywordEach [] X.env))) := by rfl) :
    PE X (.Call (.Attribute o m apos) (e :: es) [] pos) (tSMeth C sp dvs E ta t) := by
  refine ⟨fun pins s σ H Q I h => ?_⟩
  refine PySem.W.methodCall_KW (pl := pl) (thn (he.run pins s σ H _ I h) fun u s1 ⟨x, H1, I1, rx, ex, q⟩ => ?_) ht
  subst ex
  obtain rfl : u = Value.ref C := rx
  obtain ⟨rest, hp⟩ := c.rc
  refine PySem.W.method_cls I1.kIn c.ga (PySem.W.cls_bind I1.kIn c.rd c.at_ (wpAny_call (PySem.W.sm_get (s := { s1 with toks := s1.toks + 1 }) I1.kIn hp (PySem.W.handed_on rfl ?_))))
  exact PySem.W.callWith_K (h₀ := X.base) I.ok.mod.kin hk (thn (ha.run pos pins _ σ H1 _ (I1.tok _) q) fun us s3 ⟨vs, H2, I3, r, q2⟩ => ⟨I3.kIn, run_fn F hr hb hd hx I3 r q2⟩) hst hpl
end L2
namespace PySem.SC
open PySem PyProof.Rows Builtin Builtin.Str Builtin.Int
/-! ### sep.join(reversed(a list of texts)) -/
theorem joinRev {prog : Program} {w : World} {A : Around} {E : Value → Shared → Prop} {s : Shared} {x : Str} {t : Tok} {Q : Value → Shared → Prop} {it l : Addr} {items : Array Value} {ys : List Str}
    (hh : A.handled = none) (hit : s.heap.IsRevIter it l ((items.size : Int) - 1)) (hl : s.heap.IsList l items) (hne : l ≠ it) (hn : items.size ≤ sizeLine) (hlen : ys.length = items.size)
    (hs : ∀ (i : Nat) (v : Value), items[i]? = some v → ∃ y u, ys[i]? = some y ∧ v = Value.str y u) (hok : JoinOk x ys.reverse = true)
    (hq : ∀ (h' : Heap) (t' : Tok) (tk : Nat), (∀ b o, b ≠ it → s.heap.get? b = some o → h'.get? b = some o) → Q (.str (Txt.join x ys.reverse) t') { s with heap := h', toks := tk }) :
    wpAny (model prog w) A (call (.builtin "str.join") [.str x t, .ref it]) Q E s := by
  refine wpAny_call (codeAny_call_builtin F.slot_str_join.plain F.entry_str_join (F.slot_str_join.check _ _ _ _ _ _ _ _ (typeIs_str _ _ _) (F.args_str_join_2 _ _) ?_))
  rw [join_tree_other]
  refine wpAny_bind (wpAny_typeOf hit.typeIs ?_)
  show wpAny _ A.in1 ((pyIter (.ref it)).tryCatch _ >>= fun i => collect i >>= fun items => joinTail x items) _ _ s
  refine wpAny_bind (wpAny_tryCatch (wpAny_pyIter_revIter hit ?_))
  refine wpAny_bind (RT.collect_rev (A := A.in1) hh hit hl hne hn fun h' tk acc hk hacc => ?_)
  have el : acc.toList.length = ys.length := by rw [Array.length_toList, hacc.1, hlen]
  have hv : ∀ (j : Nat) (v : Value), acc.toList[j]? = some v → ∃ y u, ys.reverse[j]? = some y ∧ v = Value.str y u := fun j v e => by
    have hj : j < acc.toList.length := (List.getElem?_eq_some_iff.mp e).1
    obtain ⟨y, u, e1, e2⟩ := hs _ _ (hacc.2 j v (by rw [← Array.getElem?_toList]; exact e))
    refine ⟨y, u, ?_, e2⟩
    rw [List.getElem?_reverse (by omega), hlen]
    exact e1
  obtain ⟨l', hl'⟩ := exists_strValues acc.toList fun v hv' => by
    obtain ⟨j, hj⟩ := List.mem_iff_getElem?.mp hv'
    obtain ⟨y, u, _, e⟩ := hv j v hj
    exact ⟨y, u, e⟩
  have ej : l'.map (·.1) = ys.reverse := by
    refine List.ext_getElem? fun j => ?_
    have h9 : (strValues l')[j]? = acc.toList[j]? := by rw [hl']
    unfold strValues at h9
    rw [List.getElem?_map] at h9
    rw [List.getElem?_map]
    cases hj : l'[j]? with
    | none =>
      rw [hj] at h9
      have h8 : acc.toList[j]? = none := h9.symm
      rw [List.getElem?_eq_none_iff] at h8
      show none = ys.reverse[j]?
      rw [eq_comm, List.getElem?_eq_none_iff, List.length_reverse]
      omega
    | some p =>
      rw [hj] at h9
      obtain ⟨y, u, e1, e2⟩ := hv j _ h9.symm
      show some p.1 = ys.reverse[j]?
      rw [e1]
      injection e2 with e3
      rw [e3]
  rw [← hl']
  rw [← ej] at hok hq
  have hok' := hok
  unfold JoinOk at hok
  rw [Bool.not_eq_true'] at hok
  have g : Gives (joinTail x (strValues l')) (joinMade x l') := by
    have g0 := gives_joinTail x l' hok
    cases l' with
    | nil => exact g0
    | cons p r => cases r with
      | nil => exact g0
      | cons q r' => exact g0
  exact g prog w A (wants Q E) _ (post_join l' ⟨joinFit_length hok, fun t' k => hq h' t' k hk⟩)
end PySem.SC
namespace L2
open PySem PySem.Spec PyProof.Rows
def tJoinRev (K : PySem.W.Frag) (to te : TE) : TE := fun σ H Q => to σ H fun v H1 => ∃ sep : Str, v = .str sep ∧ te σ H1 fun u H2 => ∃ (a : Addr) (ws : List Str), u = .ref a ∧ SqL K H2 a (ws.map V.str) ∧ JoinOk sep ws.reverse = true ∧ Q (.str (Txt.join sep ws.reverse)) H2
theorem pe_joinRev {X : Cx} {o e : Expr} {to te : TE} {p2 apos cpos pos2 : Pos} (hc : X.calm = true) (hg2 : Gl X "reversed") (hm2 : X.mg "reversed" = none) (ho : PE X o to) (he : PE X e te)
    (hbase : attributeBase o "join" X.env (eval o X.env) = eval o X.env := by rfl)
    (hfew : ((backTo cpos (starEach [.Call (.Name "reversed" p2) [e] [] pos2] X.env)).all (fun x => !x.1) && (backToKw cpos (keywordEach [] X.env)).all (fun x => x.1.isSome)
      && decide (([.Call (.Name "reversed" p2) [e] [] pos2] : List Expr).length + ([] : List Keyword).length + (if ([] : List Keyword).isEmpty then 0 else 1) < 30)) = true := by rfl)
    (hline : (apos.endLine == cpos.line) = true := by rfl)
    (hs : starEach [e] X.env = (false, eval e X.env) :: starEach [] X.env := by rfl)
    (hs2 : starEach [.Call (.Name "reversed" p2) [e] [] pos2] X.env = (false, eval (.Call (.Name "reversed" p2) [e] [] pos2) X.env) :: starEach [] X.env := by rfl)
    (hplain : (backTo cpos (starEach [] X.env)).any (·.1) = false := by rfl) :
    PE X (.Call (.Attribute o "join" apos) [.Call (.Name "reversed" p2) [e] [] pos2] [] cpos) (tJoinRev X.K to te) := by
  refine ⟨fun pins s σ H Q I h => ?_⟩
  refine wpAny_Call_method_late hbase hfew hline rfl (thn (ho.run pins s σ H _ I h) fun v s1 ⟨x', H1, I1, r1, sep, ex, q1⟩ => ?_)
  subst ex
  obtain ⟨tk, rfl⟩ := (show ∃ t, v = Value.str sep t from r1)
  refine ⟨"str", _, PySem.F.plainAttrs_str, PySem.F.slot_str_join, PySem.F.type_str_join, typeIs_str _ _ _, (fun _ e => nomatch e), ?_⟩
  rw [hs2]
  refine Calls.callWith_builtin (by show (false || (backTo cpos (starEach [] X.env)).any (·.1)) = false; rw [hplain] <;> rfl) (Calls.evalArgs_plain ?_)
  show wpAny _ _ (spliced ((false, eval (.Call (.Name "reversed" p2) [e] [] pos2) X.env) :: backTo cpos (starEach [] X.env))) _ _ s1
  refine Calls.spliced_cons (Call_ (ld_blt I1 hg2 hm2 PyProof.Rows.boot_reversed (PyProof.Rows.callWith_type1 (args_cons (thn (he.run pins s1 σ H1 _ I1 q1) fun u s2 ⟨v, H2, I2, r2, q2⟩ => args_nil ?_) hs) hs rfl)))
  obtain ⟨a, ws, ev, hq, hj, q⟩ := q2
  subst ev
  obtain rfl : u = Value.ref a := r2
  obtain ⟨its, rv, p', hz⟩ := I2.list hq
  refine call_reversed_list p'.isList (Calls.spliced_nil ?_)
  have k0 : ∀ b o, s2.heap.get? b = some o → (s2.heap.push (revObj a ((its.toArray.size : Int) - 1))).get? b = some o := fun b o e => Heap.get?_push_of_some _ e
  have I3 : Inv X pins σ H2 { s2 with heap := s2.heap.push (revObj a ((its.toArray.size : Int) - 1)) } := I2.kept (t' := s2.toks) k0
  obtain ⟨f0, f1, f2, f3, f4, f5⟩ := I2.fpOk (H' := H2) (b := s2.heap.objs.size) (Nat.le_refl _) (I2.hok.fresh (Nat.le_refl _))
  have hl := p'.isList
  obtain ⟨ol, hol, _⟩ := id hl
  have hne : a ≠ s2.heap.objs.size := Nat.ne_of_lt (Heap.lt_size hol)
  have hlen : its.length = ws.length := by rw [← rv.length, List.length_map]
  have hn : its.toArray.size ≤ sizeLine := by rw [List.size_toArray, ← rv.length]; exact hz
  refine PySem.SC.joinRev (s := { s2 with heap := s2.heap.push (revObj a ((its.toArray.size : Int) - 1)) }) (ys := ws) (I2.ok.hd hc) ⟨_, Heap.get?_push_size _ rfl, rfl, rfl⟩ (hl.push _) hne hn (by rw [List.size_toArray, hlen]) (fun i v hv => ?_) hj fun h' t' tk' hk => ?_
  · have hv2 : its[i]? = some v := by simpa using hv
    have hi2 : i < its.length := (List.getElem?_eq_some_iff.mp hv2).1
    obtain ⟨b, ha⟩ : ∃ b, ws[i]? = some b := ⟨ws[i]'(by omega), List.getElem?_eq_getElem _⟩
    have hb : (ws.map V.str)[i]? = some (V.str b) := by rw [List.getElem?_map, ha] <;> rfl
    obtain ⟨u, hu, ru⟩ := rv.get hb
    rw [hv2] at hu
    cases hu
    obtain ⟨t, e⟩ := (show ∃ t, v = Value.str b t from ru)
    exact ⟨b, t, ha, e⟩
  · have I4 : Inv X pins σ H2 { s2 with heap := h', toks := tk' } := I3.turned (t' := tk') (fun b o hb e => hk b o hb e) f0 f1 f3 f4 f5
    exact ⟨.str _, H2, I4, ⟨t', rfl⟩, q⟩
end L2

set_option Elab.async false
set_option linter.all false
set_option maxRecDepth 100000
set_option maxHeartbeats 4000000
/-! Lay6: walks over a list or a tuple, whichever it is. -/
namespace L2
open PySem PySem.Spec PyProof.Rows
theorem PI.or {X : Cx} {tg e : Expr} {w1 w2 : TI} (h1 : PI X tg e w1) (h2 : PI X tg e w2) : PI X tg e (fun σ H R => w1 σ H R ∨ w2 σ H R) :=
  ⟨fun pins s σ H R I h => h.elim (fun z => h1.run pins s σ H R I z) fun z => h2.run pins s σ H R I z⟩
/-- a list or a tuple -/
theorem pi_lt {X : Cx} {tg l : Expr} {tl : TE} (hl : PE X l tl) : PI X tg l (fun σ H R => iList X.K tl σ H R ∨ iTup X.K tl σ H R) := (pi_list hl).or (pi_tup hl)
theorem pi_enumE {X : Cx} {e : Expr} {ta : TA} {p pos tpos : Pos} {elts : List Expr} {kk : Nat} (hg : Gl X "enumerate") (hm : X.mg "enumerate" = none) (ha : PA X [e] ta) (hs : starEach [e] X.env = [(false, eval e X.env)] := by rfl) :
    PI X (.Tuple elts kk tpos) (.Call (.Name "enumerate" p) [e] [] pos) (fun σ H R => iEnum X.K ta σ H R ∨ iEnumT X.K ta σ H R) := (pi_enum hg hm ha hs).or (pi_enumT hg hm ha hs)
end L2
namespace L2
open PySem PySem.Spec PyProof.Rows
/-- a promise that speaks of exceptions, where none may come -/
theorem FnOk.still {P : Program} {w : World} {K : PySem.W.Frag} {mg : Str → Option Value} {base : Heap} {k : Nat} {f : Addr} {fd : FuncData} {ps : List Str} {sp : Sp} (F : FnOk P w K mg base (L2.CX P w) k f fd ps sp) :
    FnOk P w K mg base CX0 k f fd ps (fun vs H Q _ => sp vs H Q E0) :=
  ⟨fun vs H Q E h => F.len _ _ _ _ h, fun A outer s H args us vs Q E hr e0 b r h => codeAny_mono (F.run A outer s H args us vs Q E0 hr e0 b r h) fun r s' z => by
    cases r with
    | error e =>
      obtain ⟨_, _, _, _, _, _, _, _, _, _, _, _, q⟩ := z
      exact q.elim
    | ok fl => cases fl <;> exact z⟩
end L2
namespace L2
open PySem PySem.Spec PyProof.Rows
theorem walk_enumT {K : PySem.W.Frag} {a : Addr} {xs : List V} : Walk (IteT K a) xs.length (fun H => SqT K H a xs) (YPair (fun i => some (.int (i : Nat))) (fun i => xs[i]?)) := by
  refine ⟨fun i _ hi q => ⟨xs, xs[i], q, by simp [hi]⟩, fun _ q => ⟨xs, q, Nat.le_refl _⟩, fun i H v H' _ q y => ?_⟩
  obtain ⟨T, x, h1, h2, h3, h4⟩ := y
  exact ⟨T, .int (i : Nat), x, h1, h2, h3, rfl, h4 xs q⟩
end L2
namespace L2
open PySem PySem.Spec PyProof.Rows
/-- an expression that no way leads to -/
theorem pe_never {X : Cx} {e : Expr} : PE X e (fun _ _ _ => False) := ⟨fun _ _ _ _ _ _ h => h.elim⟩
end L2
namespace L2
open PySem PySem.Spec PyProof.Rows
/-- two lists of the very same things -/
def rNeI (K : PySem.W.Frag) : R2 := fun x y H Q => ∃ (a b : Addr) (rs : List Addr), x = .ref a ∧ y = .ref b ∧ SqL K H a (rs.map V.ref) ∧ SqL K H b (rs.map V.ref) ∧ Q (.bl false) H
theorem vals_refs : ∀ {rs : List Addr} {us : List Value}, Vals (rs.map V.ref) us → us = rs.map Value.ref
  | [], _, .nil => rfl
  | r :: rs, _, .cons h t => by
    rw [vals_refs t, show _ = Value.ref r from h]
    rfl
theorem op_neI {X : Cx} (hu : X.A.units < cLine) : OpR X (compareOp .NotEq) (rNeI X.K) := by
  intro pins s σ H x y v u Q I rx ry h
  obtain ⟨a, b, rs, rfl, rfl, ha, hb, q⟩ := h
  obtain rfl : v = Value.ref a := rx
  obtain rfl : u = Value.ref b := ry
  obtain ⟨i1, r1, p1, _⟩ := I.list ha
  obtain ⟨i2, r2, p2, _⟩ := I.list hb
  have e1 := vals_refs r1
  have e2 := vals_refs r2
  subst e1 e2
  have hh := PySem.SeqAt.RcNeAt.lists (A := X.A) (e := fun _ => true) p1.isList p2.isList rfl hu (fun j h1 h2 => PySem.SeqAt.EqAt.same _)
  refine hh X.prog X.w X.xe _ ?_
  rw [show (List.range (rs.map Value.ref).toArray.size).all (fun _ => true) = true from List.all_eq_true.mpr fun _ _ => rfl]
  exact ⟨.bl false, H, I, rfl, q⟩
end L2
namespace L2
open PySem PySem.Spec PyProof.Rows
/-- an instance called -/
def tCallI (C : Addr) (sp : Sp) (E : XK) (tf : TE) (t : TA) : TE := fun σ H Q => tf σ H fun y H1 => ∃ a, y = V.ref a ∧ t σ H1 fun vs H2 => ((∃ dx vs, SlX.Slt H2 a C dx vs) ∨ ∃ dx fs, H2 a = some (.ins C dx fs)) ∧ sp (V.ref a :: vs) H2 Q E
theorem pe_callI {X : Cx} {CX : CXT} {k : Nat} {C g : Addr} {sp : Sp} {E : XK} {e fe : Expr} {es : List Expr} {tf : TE} {t : TA} {pos : Pos} (hf : PE X fe tf) (c : StX.CallO X.K C g) (F : FnR X.prog X.w X.K X.mg X.base CX k g sp) (hr : Room k X.A) (hx : Passes CX X E) (ha : PA X (e :: es) t)
    (ht : eval (.Call fe (e :: es) [] pos) X.env = (do callWith pos (← eval fe X.env) [] (backTo pos (starEach (e :: es) X.env)) (backToKw pos (keywordEach [] X.env))) := by rfl)
    (he : starEach (e :: es) X.env = (false, eval e X.env) :: starEach es X.env := by rfl) (hpl : (backTo pos (starEach es X.env)).any (·.1) = false := by rfl) : PE X (.Call fe (e :: es) [] pos) (tCallI C sp E tf t) :=
  StX.pe_callO hf c F hr hx ha ht he hpl
end L2

set_option Elab.async false
set_option linter.all false
set_option maxRecDepth 100000
set_option maxHeartbeats 4000000
/-! Lay7: == of two lists, of two tuples, whose items' own == runs code: what is asked of the state (J) is kept from item to item. -/
namespace PySem.Gj
open PySem PySem.SeqAt MeetsSeq MeetsSeq2 MeetsSeq3 SeqRoads2

section
variable (prog : Program) (w : World) (J : Shared → Prop)
/-- y == x as a bool, told b, wherever J holds; J holds behind it -/
def Eqs (A : Around) (y x : Value) (c : Bool) : Prop := ∀ (E : Value → Shared → Prop) (Q : Bool → Shared → Prop) (s : Shared), J s → (∀ s', J s' → Q c s') → wpAny (model prog w) A (eqBool y x) Q E s
/-- the rich comparison -/
def Rcs (A : Around) (y x : Value) (c : Bool) : Prop := ∀ (E : Value → Shared → Prop) (Q : Value → Shared → Prop) (s : Shared), J s → (∀ s', J s' → Q (.bool c) s') → wpAny (model prog w) A (richCompare .Eq y x) Q E s
end
section
variable {prog : Program} {w : World} {J : Shared → Prop}
abbrev finOf (prog : Program) (w : World) (A : Around) (R : Result → Shared → Prop) : Fin → Shared → Prop := fun fin s' => match fin with
  | .done f => R (.ok f) s'
  | .again c' => c'.quiet = true ∧ codeAny (model prog w) A c' R s'
theorem Eqs.here {A : Around} {v : Value} : Eqs prog w J A v v true := fun E Q s hj hq => EqAt.same v prog w E Q (hq s hj)
theorem Eqs.pure {A : Around} {y x : Value} {c : Bool} (h : ∀ s, J s → EqAt A s y x c) : Eqs prog w J A y x c := fun E Q s hj hq => h s hj prog w E Q (hq s hj)
theorem Eqs.rc {A : Around} {v u : Value} {c : Bool} (hv : (∃ i t, v = .int i t) ∨ ∃ a, v = .ref a) (hs : v = u → c = true) (h : Rcs prog w J A v u c) : Eqs prog w J A v u c := fun E Q s hj hq => by
  unfold eqBool
  refine wpAny_holding ?_
  refine wpAny_ite_split (fun z => ?_) (fun _ => ?_)
  · cases hs (eq_of_beq z)
    exact wpAny_bind (wpAny_rule (wpAny_pure (hq s hj)))
  · have go : wpAny (model prog w) A (do truthOfDropped (← richCompare .Eq v u)) Q E s := wpAny_bind (h E _ s hj fun s' hj' => wpAny_truthy_bool (hq s' hj'))
    rcases hv with ⟨i, t, rfl⟩ | ⟨a, rfl⟩ <;> exact go
theorem Eqs.refs {A : Around} {l b : Addr} {c : Bool} (hne : l ≠ b) (h : Rcs prog w J A (.ref l) (.ref b) c) : Eqs prog w J A (.ref l) (.ref b) c := fun E Q s hj hq => by
  unfold eqBool
  refine wpAny_holding ?_
  refine wpAny_ite_split (fun z => absurd (by have := eq_of_beq z; injection this) hne) (fun _ => ?_)
  exact wpAny_bind (h E _ s hj fun s' hj' => wpAny_truthy_bool (hq s' hj'))
theorem rc_at {A : Around} {T id : String} {B : Builtin} {a b : Value} {E : Value → Shared → Prop} {Q : Value → Shared → Prop} {s : Shared} (ha : s.TypeIs a T) (hb : s.TypeIs b T) (slot : Slot T (cmpInfo .Eq).2.1 id) (entry : entryFor table id = some B) (args : argsOk id ⟨[a, b], []⟩) (hu : A.units < cLine)
    (h : wpAny (model prog w) A.in1 (B ⟨[a, b], []⟩) (finOf prog w A (wants (fun v s' => v ≠ .notImplemented ∧ Q v s') E)) E s) : wpAny (model prog w) A (richCompare .Eq a b) Q E s :=
  wpAny_richCompare_same_room ha hb slot (wpAny_call (codeAny_call_builtin slot.plain entry (slot.check _ _ _ _ _ _ _ _ ha args h))) hu
theorem loopJ {l b : Addr} {us vs : Array Value} (hsz : us.size = vs.size) (hJ : ∀ s, J s → s.heap.IsList l us ∧ s.heap.IsList b vs) {A : Around} {e : Nat → Bool}
    (he : ∀ j (h1 : j < us.size) (h2 : j < vs.size), Eqs prog w J A.in1 us[j] vs[j] (e j)) {R : Result → Shared → Prop} (k : Nat) :
    ∀ (i : Nat) (s : Shared), us.size - i = k → J s → (∀ s', J s' → R (.ok (.ret (.bool (((List.range us.size).drop i).all e)))) s') →
      wpAny (model prog w) A.in1 (Builtin.«list.__eq__.loop» ⟨[.ref l, .ref b, rawInt i, rawInt 2], []⟩) (finOf prog w A R) (fun x s' => R (.error x) s') s := by
  induction k with
  | zero =>
    intro i s hk hj hR
    obtain ⟨⟨⟨cls, dd, data, sl⟩, hA, hc, n, hd⟩, ⟨⟨cls2, dd2, data2, sl2⟩, hB, hc2, n2, hd2⟩⟩ := hJ s hj
    simp only at hc hd hc2 hd2
    subst hc hd hc2 hd2
    have g1 : us[((i : Nat) : Int).toNat]? = none := Array.getElem?_eq_none (by omega)
    have g2 : vs[((i : Nat) : Int).toNat]? = none := Array.getElem?_eq_none (by omega)
    have gd : (List.range us.size).drop i = [] := List.drop_of_length_le (by rw [List.length_range]; omega)
    have hq := hR s hj
    rw [gd] at hq
    clear hR hj
    obtain ⟨hp, g, d, tk, os⟩ := s
    wp_walk using AutoSeq1.wpAny_loadPart' hA, AutoSeq1.wpAny_loadPart' hB
    rw [g1, g2]
    wp_walk using AutoSeq1.wpAny_loadPart' hA, AutoSeq1.wpAny_loadPart' hB
    show R (.ok (.ret (.bool (us.size == vs.size)))) _
    rw [hsz, beq_self_eq_true]
    exact hq
  | succ k ih =>
    intro i s hk hj hR
    obtain ⟨⟨⟨cls, dd, data, sl⟩, hA, hc, n, hd⟩, ⟨⟨cls2, dd2, data2, sl2⟩, hB, hc2, n2, hd2⟩⟩ := hJ s hj
    simp only at hc hd hc2 hd2
    subst hc hd hc2 hd2
    have l1 : i < us.size := by omega
    have l2 : i < vs.size := by omega
    have g1 : us[((i : Nat) : Int).toNat]? = some us[i] := Array.getElem?_eq_getElem l1
    have g2 : vs[((i : Nat) : Int).toNat]? = some vs[i] := Array.getElem?_eq_getElem l2
    have gd : (List.range us.size).drop i = i :: (List.range us.size).drop (i + 1) := by
      rw [List.drop_eq_getElem_cons (by rw [List.length_range]; exact l1), List.getElem_range]
    have gc : ((i : Int) + 1) = ((i + 1 : Nat) : Int) := by omega
    rw [gd, List.all_cons] at hR
    have hj0 := hj
    clear hj
    obtain ⟨hp, g, d, tk, os⟩ := s
    wp_walk using AutoSeq1.wpAny_loadPart' hA, AutoSeq1.wpAny_loadPart' hB
    rw [g1, g2]
    refine wpAny_bind (he i l1 l2 _ _ _ hj0 fun s' hj' => ?_)
    obtain ⟨⟨⟨cls, dd', data, sl'⟩, hA', hc, n', hd⟩, ⟨⟨cls2, dd2', data2, sl2'⟩, hB', hc2, n2', hd2⟩⟩ := hJ s' hj'
    simp only at hc hd hc2 hd2
    subst hc hd hc2 hd2
    cases hb' : e i with
    | true =>
      rw [hb', Bool.true_and] at hR
      obtain ⟨hp', g', d', tk', os'⟩ := s'
      wp_walk
      rw [gc]
      refine ⟨plainId_quiet plain_eq_loop _, codeAny_builtin entry_eq_loop ?_⟩
      rw [Around.under_plainId plain_eq_loop _]
      exact ih (i + 1) _ (by omega) hj' hR
    | false =>
      rw [hb', Bool.false_and] at hR
      have hq := hR s' hj'
      clear hR
      obtain ⟨hp', g', d', tk', os'⟩ := s'
      wp_walk using AutoSeq1.wpAny_loadPart' hA', AutoSeq1.wpAny_loadPart' hB'
      rw [g1, g2]
      wp_walk
      exact hq
theorem listJ {l b : Addr} {us vs : Array Value} (hsz : us.size = vs.size) (hJ : ∀ s, J s → s.heap.IsList l us ∧ s.heap.IsList b vs) {A : Around} (hu : A.units < cLine) {e : Nat → Bool}
    (he : ∀ j (h1 : j < us.size) (h2 : j < vs.size), Eqs prog w J A.in1 us[j] vs[j] (e j)) : Rcs prog w J A (.ref l) (.ref b) ((List.range us.size).all e) := fun E Q s hj hq => by
  obtain ⟨⟨⟨cls, dd, data, sl⟩, hA, hc, n, hd⟩, ⟨⟨cls2, dd2, data2, sl2⟩, hB, hc2, n2, hd2⟩⟩ := hJ s hj
  simp only at hc hd hc2 hd2
  subst hc hd hc2 hd2
  refine rc_at ⟨_, hA, rfl⟩ ⟨_, hB, rfl⟩ F.slot_list_eq F.entry_list_eq (F.args_list_eq_2 _ _) hu ?_
  have f3 := AutoSeq1.sub_list_list
  have gn : ¬ (us.size != vs.size) = true := by rw [hsz, bne_self_eq_false]; exact Bool.false_ne_true
  have hj0 := hj
  clear hj
  obtain ⟨hp, g, d, tk, os⟩ := s
  wp_walk using AutoSeq1.wpAny_loadPart' hA, AutoSeq1.wpAny_loadPart' hB
  refine ⟨plainId_quiet plain_eq_loop _, codeAny_builtin entry_eq_loop ?_⟩
  rw [Around.under_plainId plain_eq_loop _]
  exact loopJ hsz hJ he _ 0 _ rfl hj0 fun s' hj' => ⟨(fun z => nomatch z), hq s' hj'⟩
/-- of two lists of unlike lengths no item is asked -/
theorem lensJ {l b : Addr} {us vs : Array Value} (hsz : us.size ≠ vs.size) (hJ : ∀ s, J s → s.heap.IsList l us ∧ s.heap.IsList b vs) {A : Around} (hu : A.units < cLine) : Rcs prog w J A (.ref l) (.ref b) false := fun E Q s hj hq =>
  RcAt.lists_lengths (hJ s hj).1 (hJ s hj).2 (bne_iff_ne.mpr hsz) hu prog w E Q (hq s hj)
/-- two pairs: the second items are asked where the first ones are equal -/
theorem pairJ {l b : Addr} {u1 u2 v1 v2 : Value} {s : Shared} (hA : s.heap.IsTuple l #[u1, u2]) (hB : s.heap.IsTuple b #[v1, v2]) {A : Around} (hu : A.units < cLine) {c1 c2 : Bool}
    (h1 : Eqs prog w J A.in1 u1 v1 c1) (h2 : Eqs prog w J A.in1 u2 v2 c2) {E : Value → Shared → Prop} {Q : Value → Shared → Prop} (hj : J s) (hq : ∀ s', J s' → Q (.bool (c1 && c2)) s') : wpAny (model prog w) A (richCompare .Eq (.ref l) (.ref b)) Q E s := by
  obtain ⟨⟨cls, dd, data, sl⟩, hA, hc, n, hd⟩ := hA
  obtain ⟨⟨cls2, dd2, data2, sl2⟩, hB, hc2, n2, hd2⟩ := hB
  simp only at hc hd hc2 hd2
  subst hc hd hc2 hd2
  refine rc_at ⟨_, hA, rfl⟩ ⟨_, hB, rfl⟩ F.slot_tuple_eq F.entry_tuple_eq (F.args_tuple_eq_2 _ _) hu ?_
  have f3 := AutoSeq1.sub_tuple_tuple
  have hj0 := hj
  clear hj
  obtain ⟨hp, g, d, tk, os⟩ := s
  wp_walk using AutoSeq1.wpAny_loadPart' hA, AutoSeq1.wpAny_loadPart' hB, wpAny_forIn_list _ (fun rest m s' => m.1 = none ∧ J s' ∧ (rest = [(u1, v1), (u2, v2)] ∨ rest = [(u2, v2)] ∧ c1 = true ∨ rest = [] ∧ c1 = true ∧ c2 = true)) _
  case turn =>
    rintro ⟨y, x⟩ rest m s' ⟨hm, hj', z⟩
    rcases z with z | ⟨z, k1⟩ | ⟨z, _⟩
    · injection z with z1 z2
      injection z1 with z3 z4
      subst z2 z3 z4
      refine wpAny_bind (h1 _ _ s' hj' fun s2 hj2 => ?_)
      cases c1 with
      | true =>
        wp_walk
        exact ⟨rfl, hj2, .inr (.inl ⟨rfl, rfl⟩)⟩
      | false =>
        have hq2 := hq s2 hj2
        wp_walk
        exact ⟨(fun z => nomatch z), hq2⟩
    · injection z with z1 z2
      injection z1 with z3 z4
      subst z2 z3 z4
      refine wpAny_bind (h2 _ _ s' hj' fun s2 hj2 => ?_)
      cases c2 with
      | true =>
        wp_walk
        exact ⟨rfl, hj2, .inr (.inr ⟨rfl, k1, rfl⟩)⟩
      | false =>
        have hq2 := hq s2 hj2
        rw [Bool.and_false] at hq2
        wp_walk
        exact ⟨(fun z => nomatch z), hq2⟩
    · exact nomatch z
  case fin =>
    rintro ⟨m1, m2⟩ s' ⟨hm, hj', z⟩
    simp only at hm
    subst hm
    rcases z with z | ⟨z, _⟩ | ⟨_, k1, k2⟩
    · exact nomatch z
    · exact nomatch z
    · have hq2 := hq s' hj'
      rw [k1, k2] at hq2
      wp_walk
      exact ⟨(fun z => nomatch z), hq2⟩
  case h => exact ⟨rfl, hj0, .inl rfl⟩
end
end PySem.Gj
namespace L2
open PySem PySem.Spec PyProof.Rows PySem.Gj
section
variable {X : Cx} {pins : List (Addr × Obj)} {σ : St} {H : Hp} {s : Shared}
/-- the same frames, deeper down -/
abbrev Cx.in2 (X : Cx) : Cx := { X with A := X.A.in1.in1 }
theorem Cx.Ok.in2 (ok : X.Ok) : (Cx.in2 X).Ok := ⟨ok.mod, ok.kind, ok.glob, ok.blt, ok.above, ok.inj, ok.has, ok.cab, ok.hd, ok.frames, ok.stk, ok.exf, ok.bs, ok.bsz, ok.noex, ok.exfs, ok.funs, ok.frf⟩
theorem Cx.Ok.out2 (ok : (Cx.in2 X).Ok) : X.Ok := ⟨ok.mod, ok.kind, ok.glob, ok.blt, ok.above, ok.inj, ok.has, ok.cab, ok.hd, ok.frames, ok.stk, ok.exf, ok.bs, ok.bsz, ok.noex, ok.exfs, ok.funs, ok.frf⟩
theorem Inv.in2 (I : Inv X pins σ H s) : Inv (Cx.in2 X) pins σ H s := ⟨I.ok.in2, I.os, I.bare, I.base, I.loc, I.cell, I.free, I.freeC, I.pin, I.hok, I.len⟩
theorem Inv.out2 (I : Inv (Cx.in2 X) pins σ H s) : Inv X pins σ H s := ⟨I.ok.out2, I.os, I.bare, I.base, I.loc, I.cell, I.free, I.freeC, I.pin, I.hok, I.len⟩
/-- what stands, stands still -/
def JS (X : Cx) (pins : List (Addr × Obj)) (σ : St) (H : Hp) : Shared → Prop := fun s => ∃ H', Inv X pins σ H' s ∧ Same H H'
theorem eqs_op {c : Bool} {r : (Value → Shared → Prop) → R2} {x y : V} {v u : Value} (op : ∀ E, OpR ((Cx.in2 X).wish E) (compareOp .Eq) (r E)) (rx : RelV x v) (ry : RelV y u) (hv : (∃ i t, v = .int i t) ∨ ∃ a, v = .ref a) (hs : v = u → c = true)
    (h : ∀ E H', Same H H' → r E x y H' (fun z H'' => z = .bl c ∧ Same H' H'')) : Eqs X.prog X.w (JS X pins σ H) X.A.in1.in1 v u c :=
  Eqs.rc hv hs fun E Q s ⟨H', I, e⟩ hq => wpAny_mono (op E pins s σ H' x y v u _ (I.in2.wish E) rx ry (h E H' e)) (fun z s' ⟨z', H2, I2, rz, ez, e2⟩ => by
    subst ez
    cases (show z = Value.bool c from rz)
    exact hq s' ⟨H2, I2.unwish.out2, e.trans e2⟩) fun _ _ z => z
end
end L2

set_option Elab.async false
set_option linter.all false
set_option maxRecDepth 100000
set_option maxHeartbeats 4000000
/-! Lay8: list(zip(a, b, c)) of three lists. -/
namespace PySem.Gz
open PySem PySem.W PySem.Calls PyProof.Rows PyProof.V PySem.Spec
section
variable {prog : Program} {w : World} {A : Around} {E : Value → Shared → Prop} {s : Shared} {z TI TO T i1 i2 i3 : Addr} {fp1 fp2 fp3 : List Addr} {n1 n2 n3 i : Nat} {P1 P2 P3 : Nat → Value → Prop} {St1 St2 St3 : Nat → Heap → Prop} {a1 a2 a3 : Value} {f : Bool} {oT : Obj}
/-- the next tuple while the last one is still held -/
theorem next_held {Q : Value → Shared → Prop} (S : ZipSep3 z TI TO i1 i2 i3 fp1 fp2 fp3) (D1 : Draws prog w A i1 fp1 n1 P1 St1) (D2 : Draws prog w A i2 fp2 n2 P2 St2) (D3 : Draws prog w A i3 fp3 n3 P3 St3)
    (hz : IsZipHeld s.heap z TI TO T f) (hT : s.heap.get? T = some oT) (hTI : IsTupOf3 s.heap TI (.ref i1) (.ref i2) (.ref i3)) (st1 : St1 i s.heap) (st2 : St2 i s.heap) (st3 : St3 i s.heap) (hlt1 : i < n1) (hlt2 : i < n2) (hlt3 : i < n3)
    (hQ : ∀ x1 x2 x3 h' tk, P1 i x1 → P2 i x2 → P3 i x3 → IsZipHeld h' z TI TO T true → St1 (i + 1) h' → St2 (i + 1) h' → St3 (i + 1) h' → IsTupOf3 h' s.heap.objs.size x1 x2 x3 → h'.objs.size = s.heap.objs.size + 1 →
      (∀ c o, c ≠ z → c ≠ i1 → c ≠ i2 → c ≠ i3 → s.heap.get? c = some o → h'.get? c = some o) → Q (.ref s.heap.objs.size) { s with heap := h', toks := tk }) :
    wpAny (model prog w) A (Builtin.«zip.__next__» ⟨[.ref z], []⟩) (fun fin s' => ∃ v, fin = .done (.ret v) ∧ Q v s') E s := by
  obtain ⟨hp, g, d, tk0, os⟩ := s
  show wpAny _ _ (field (.ref z) 2 >>= _) _ _ _
  refine wpAny_bind (wpAny_field hz rfl (x := .bool false) rfl ?_)
  show wpAny _ _ (field (.ref z) 3 >>= _) _ _ _
  refine wpAny_bind (wpAny_field hz rfl (x := .ref TI) rfl ?_)
  refine wpAny_bind (wpAny_seqItems hTI rfl ?_)
  show wpAny _ _ (Builtin.SmallTypes.ownedTupleIsFree (.ref z) >>= _) _ _ _
  refine wpAny_bind (wpAny_tupleHeld_zip hz hT fun g0 hz0 hs0 => ?_)
  replace hs0 : Heap.SameBut z hp g0 := hs0
  simp only [Bool.false_eq_true, if_false]
  refine wpAny_bind ?_
  rw [← Array.forIn_toList]
  simp only [List.forIn_cons, List.forIn_nil]
  refine wpAny_bind (wpAny_bind (wpAny_holding ?_))
  show wpAny _ _ (Builtin.SmallTypes.nextOf (.ref i1) >>= _) _ _ ⟨g0, g, d, tk0, os⟩
  refine wpAny_bind (D1.item i _ _ _ hlt1 (D1.over st1 hs0 S.zf1) fun x1 p1 tk1 hx1 sn1 hp1 => wpAny_pure ?_)
  replace hp1 : Heap.SameBut i1 g0 p1 := hp1
  refine wpAny_pure ?_
  refine wpAny_bind (wpAny_bind (wpAny_holding ?_))
  show wpAny _ _ (Builtin.SmallTypes.nextOf (.ref i2) >>= _) _ _ ⟨p1, g, d, tk1, os⟩
  refine wpAny_bind (D2.item i _ _ _ hlt2 (D2.over (D2.over st2 hs0 S.zf2) hp1 S.sep1_2) fun x2 p2 tk2 hx2 sn2 hp2 => wpAny_pure ?_)
  replace hp2 : Heap.SameBut i2 p1 p2 := hp2
  refine wpAny_pure ?_
  refine wpAny_bind (wpAny_bind (wpAny_holding ?_))
  show wpAny _ _ (Builtin.SmallTypes.nextOf (.ref i3) >>= _) _ _ ⟨p2, g, d, tk2, os⟩
  refine wpAny_bind (D3.item i _ _ _ hlt3 (D3.over (D3.over (D3.over st3 hs0 S.zf3) hp1 S.sep1_3) hp2 S.sep2_3) fun x3 p3 tk3 hx3 sn3 hp3 => wpAny_pure ?_)
  replace hp3 : Heap.SameBut i3 p2 p3 := hp3
  refine wpAny_pure (wpAny_pure ?_)
  show wpAny _ _ (newTuple [x1, x2, x3] >>= _) _ _ _
  refine wpAny_bind (wpAny_newTuple ?_)
  have hsz : p3.objs.size = hp.objs.size := by rw [hp3.1, hp2.1, hp1.1, hs0.1]
  have hz3 : IsZipHeld p3 z TI TO T true := hp3.extBut _ _ S.zi3 (hp2.extBut _ _ S.zi2 (hp1.extBut _ _ S.zi1 hz0))
  have hk : ∀ c o, c ≠ z → c ≠ i1 → c ≠ i2 → c ≠ i3 → hp.get? c = some o → p3.get? c = some o := fun c o c0 c1 c2 c3 e => hp3.extBut _ _ c3 (hp2.extBut _ _ c2 (hp1.extBut _ _ c1 (hs0.extBut _ _ c0 e)))
  have up : ∀ c o, p3.get? c = some o → (p3.push { cls := .type "tuple", data := .seq #[x1, x2, x3] }).get? c = some o := fun c o e => Heap.get?_push_of_some _ e
  refine wpAny_pure ⟨_, rfl, ?_⟩
  have hp' : IsTupOf3 (p3.push { cls := .type "tuple", data := .seq #[x1, x2, x3] }) p3.objs.size x1 x2 x3 := Heap.get?_push_size _ rfl
  have hz4 : (p3.push { cls := .type "tuple", data := .seq #[x1, x2, x3] }).objs.size = p3.objs.size + 1 := Heap.size_push ..
  show Q (.ref p3.objs.size) ⟨_, g, d, tk3, os⟩
  rw [hsz] at hp' hz4 ⊢
  exact hQ x1 x2 x3 _ tk3 hx1 hx2 hx3 (up _ _ hz3) (D1.frame _ _ _ (D1.over (D1.over sn1 hp2 S.sep2_1) hp3 S.sep3_1) fun b _ o e => up b o e) (D2.frame _ _ _ (D2.over sn2 hp3 S.sep3_2) fun b _ o e => up b o e) (D3.frame _ _ _ sn3 fun b _ o e => up b o e) hp' hz4
    fun c o c0 c1 c2 c3 e => up c o (hk c o c0 c1 c2 c3 e)
theorem next_held_end {Q : Fin → Shared → Prop} (S : ZipSep3 z TI TO i1 i2 i3 fp1 fp2 fp3) (D1 : Draws prog w A i1 fp1 n1 P1 St1)
    (hz : IsZipHeld s.heap z TI TO T f) (hT : s.heap.get? T = some oT) (hTI : IsTupOf3 s.heap TI (.ref i1) (.ref i2) (.ref i3)) (st1 : St1 n1 s.heap)
    (hE : ∀ h' tk e, (∀ c o, c ≠ z → c ≠ i1 → s.heap.get? c = some o → h'.get? c = some o) → (∃ o, h'.get? e = some o ∧ o.cls = .type "StopIteration") → E (.ref e) { s with heap := h', toks := tk }) :
    wpAny (model prog w) A (Builtin.«zip.__next__» ⟨[.ref z], []⟩) Q E s := by
  obtain ⟨hp, g, d, tk0, os⟩ := s
  show wpAny _ _ (field (.ref z) 2 >>= _) _ _ _
  refine wpAny_bind (wpAny_field hz rfl (x := .bool false) rfl ?_)
  show wpAny _ _ (field (.ref z) 3 >>= _) _ _ _
  refine wpAny_bind (wpAny_field hz rfl (x := .ref TI) rfl ?_)
  refine wpAny_bind (wpAny_seqItems hTI rfl ?_)
  show wpAny _ _ (Builtin.SmallTypes.ownedTupleIsFree (.ref z) >>= _) _ _ _
  refine wpAny_bind (wpAny_tupleHeld_zip hz hT fun g0 hz0 hs0 => ?_)
  replace hs0 : Heap.SameBut z hp g0 := hs0
  simp only [Bool.false_eq_true, if_false]
  refine wpAny_bind ?_
  rw [← Array.forIn_toList]
  simp only [List.forIn_cons, List.forIn_nil]
  refine wpAny_bind (wpAny_bind (wpAny_holding ?_))
  show wpAny _ _ (Builtin.SmallTypes.nextOf (.ref i1) >>= _) _ _ ⟨g0, g, d, tk0, os⟩
  refine wpAny_bind (D1.done ⟨g0, g, d, tk0, os⟩ _ _ (D1.over st1 hs0 S.zf1) fun q e hq he => ?_)
  exact hE q tk0 e (fun c o c0 c1 x => hq _ _ c1 (hs0.extBut _ _ c0 x)) he
theorem pyNext_held {Q : Option Value → Shared → Prop} (S : ZipSep3 z TI TO i1 i2 i3 fp1 fp2 fp3) (D1 : Draws prog w A.in1 i1 fp1 n1 P1 St1) (D2 : Draws prog w A.in1 i2 fp2 n2 P2 St2) (D3 : Draws prog w A.in1 i3 fp3 n3 P3 St3)
    (hz : IsZipHeld s.heap z TI TO T f) (hT : s.heap.get? T = some oT) (hTI : IsTupOf3 s.heap TI (.ref i1) (.ref i2) (.ref i3)) (st1 : St1 i s.heap) (st2 : St2 i s.heap) (st3 : St3 i s.heap) (hlt1 : i < n1) (hlt2 : i < n2) (hlt3 : i < n3)
    (hQ : ∀ x1 x2 x3 h' tk, P1 i x1 → P2 i x2 → P3 i x3 → IsZipHeld h' z TI TO T true → St1 (i + 1) h' → St2 (i + 1) h' → St3 (i + 1) h' → IsTupOf3 h' s.heap.objs.size x1 x2 x3 → h'.objs.size = s.heap.objs.size + 1 →
      (∀ c o, c ≠ z → c ≠ i1 → c ≠ i2 → c ≠ i3 → s.heap.get? c = some o → h'.get? c = some o) → Q (some (.ref s.heap.objs.size)) { s with heap := h', toks := tk }) :
    wpAny (model prog w) A (pyNext (.ref z)) Q E s := by
  have hTy : s.TypeIs (.ref z) "zip" := ⟨_, hz, rfl⟩
  unfold pyNext
  exact wpAny_bind (wpAny_attempt (wpAny_callSpecial?_slot (name := Str.ofString "__next__") hTy F.slot_zip_next
    (wpAny_call_entry F.slot_zip_next hTy F.entry_zip_next
      (next_held S D1 D2 D3 hz hT hTI st1 st2 st3 hlt1 hlt2 hlt3 fun x1 x2 x3 h' tk y1 y2 y3 b1 d1 d2 d3 b5 b6 b7 => wpAny_pure (hQ x1 x2 x3 h' tk y1 y2 y3 b1 d1 d2 d3 b5 b6 b7)) (F.args_zip_next_1 _))))
theorem pyNext_held_end {Q : Option Value → Shared → Prop} (S : ZipSep3 z TI TO i1 i2 i3 fp1 fp2 fp3) (D1 : Draws prog w A.in1 i1 fp1 n1 P1 St1)
    (hz : IsZipHeld s.heap z TI TO T f) (hT : s.heap.get? T = some oT) (hTI : IsTupOf3 s.heap TI (.ref i1) (.ref i2) (.ref i3)) (st1 : St1 n1 s.heap)
    (hQ : ∀ h' tk, (∀ c o, c ≠ z → c ≠ i1 → s.heap.get? c = some o → h'.get? c = some o) → Q none { s with heap := h', toks := tk }) : wpAny (model prog w) A (pyNext (.ref z)) Q E s := by
  have hTy : s.TypeIs (.ref z) "zip" := ⟨_, hz, rfl⟩
  unfold pyNext
  refine wpAny_bind (wpAny_attempt (wpAny_callSpecial?_slot (name := Str.ofString "__next__") hTy F.slot_zip_next
    (wpAny_call_entry F.slot_zip_next hTy F.entry_zip_next (next_held_end S D1 hz hT hTI st1 fun h' tk e hk he => ?_) (F.args_zip_next_1 _))))
  obtain ⟨o, ho, hc⟩ := he
  refine wpAny_bind (wpAny_isInstance (T := "StopIteration") (b := true) ⟨o, ho, hc⟩ isSubtype_stop ?_)
  exact wpAny_pure (hQ _ _ hk)
end
/-- a zip of three at turn i, its tuples held -/
def ZSt (St1 St2 St3 : Nat → Heap → Prop) (z TI TO i1 i2 i3 S : Addr) (i : Nat) (h : Heap) : Prop :=
  IsTupOf3 h TI (.ref i1) (.ref i2) (.ref i3) ∧ St1 i h ∧ St2 i h ∧ St3 i h ∧
    ((i = 0 ∧ IsZip h z TI TO .none ∧ ∃ a1 a2 a3, IsTupOf3 h TO a1 a2 a3) ∨ ∃ T f oT, IsZipHeld h z TI TO T f ∧ h.get? T = some oT ∧ T ≠ S ∧ T ≠ z ∧ T ≠ i1 ∧ T ≠ i2 ∧ T ≠ i3)
/-- the tuples so far -/
structure ZG (P1 P2 P3 : Nat → Value → Prop) (lo : Addr) (h : Heap) (as : List Addr) : Prop where
  rise : as.Pairwise (· < ·)
  above : ∀ a ∈ as, lo < a
  tups : ∀ (j : Nat) (a : Addr), as[j]? = some a → ∃ x1 x2 x3, P1 j x1 ∧ P2 j x2 ∧ P3 j x3 ∧ IsTupOf3 h a x1 x2 x3
section
variable {prog : Program} {w : World} {A : Around} {s : Shared} {R : Result → Shared → Prop} {z TI TO i1 i2 i3 : Addr} {fp1 fp2 fp3 : List Addr} {n : Nat} {P1 P2 P3 : Nat → Value → Prop} {St1 St2 St3 : Nat → Heap → Prop}
theorem loop {S lo : Addr} (hh : A.handled = none) (D : ZipSep3 z TI TO i1 i2 i3 fp1 fp2 fp3) (D1 : Draws prog w A.in1.in1 i1 fp1 n P1 St1) (D2 : Draws prog w A.in1.in1 i2 fp2 n P2 St2) (D3 : Draws prog w A.in1.in1 i3 fp3 n P3 St3)
    (Sz : S ≠ z) (ST : S ≠ TO) (SI : S ≠ TI) (S1 : S ≠ i1) (S2 : S ≠ i2) (S3 : S ≠ i3) (Sf : S ∉ fp1 ∧ S ∉ fp2 ∧ S ∉ fp3) (hS0 : S ≤ lo) (lz : z ≤ lo ∧ TO ≤ lo ∧ i1 ≤ lo ∧ i2 ≤ lo ∧ i3 ≤ lo) (hn : n ≤ sizeLine) (res : Value) {h₁ : Heap}
    (hR : ∀ h' tk acc c as, (∀ b o, b ≠ S → b ≠ z → b ≠ TO → b ≠ i1 → b ≠ i2 → b ≠ i3 → h₁.get? b = some o → h'.get? b = some o) → h'.get? S = some { cls := .type "list", dict := none, data := .seq acc c, slots := #[] } → as.length = n → ZG P1 P2 P3 lo h' as →
      acc.toList = as.map Value.ref → R (.ok (.ret res)) { s with heap := h', toks := tk }) :
    ∀ (k i : Nat) (h : Heap) (tk c : Nat) (acc : Array Value) (as : List Addr), n - i = k → i ≤ n → ZSt St1 St2 St3 z TI TO i1 i2 i3 S i h → (∀ b o, b ≠ S → b ≠ z → b ≠ TO → b ≠ i1 → b ≠ i2 → b ≠ i3 → h₁.get? b = some o → h.get? b = some o) →
      h.get? S = some { cls := .type "list", dict := none, data := .seq acc c, slots := #[] } → acc.toList = as.map Value.ref → as.length = i → ZG P1 P2 P3 lo h as → lo < h.objs.size →
      codeAny (model prog w) A (.builtin "list.extend.loop" ⟨[.ref S, .ref z, res], []⟩) R { s with heap := h, toks := tk } := by
  have low : ∀ {h : Heap} {as : List Addr}, ZG P1 P2 P3 lo h as → ∀ a ∈ as, a ≠ S ∧ a ≠ z ∧ a ≠ TO ∧ a ≠ i1 ∧ a ≠ i2 ∧ a ≠ i3 := fun g a ha => by
    have := g.above a ha
    exact ⟨Nat.ne_of_gt (Nat.lt_of_le_of_lt hS0 this), Nat.ne_of_gt (Nat.lt_of_le_of_lt lz.1 this), Nat.ne_of_gt (Nat.lt_of_le_of_lt lz.2.1 this), Nat.ne_of_gt (Nat.lt_of_le_of_lt lz.2.2.1 this), Nat.ne_of_gt (Nat.lt_of_le_of_lt lz.2.2.2.1 this), Nat.ne_of_gt (Nat.lt_of_le_of_lt lz.2.2.2.2 this)⟩
  intro k
  induction k with
  | zero =>
    intro i h tk c acc as hk hi hst hkeep hS hacc hal hG hIs
    have hin : i = n := by omega
    subst hin
    refine codeAny_builtin PySem.F.entry_extend_loop ?_
    rw [Around.under_plainId PySem.F.plain_extend_loop _]
    show wpAny _ A.in1 (pyNext (.ref z) >>= _) _ _ _
    obtain ⟨hTI, st1, st2, st3, hz⟩ := hst
    have fin : ∀ h' tk', (∀ c o, c ≠ z → c ≠ TO → c ≠ i1 → c ≠ i2 → c ≠ i3 → h.get? c = some o → h'.get? c = some o) → R (.ok (.ret res)) { s with heap := h', toks := tk' } := fun h' tk' he =>
      hR h' tk' acc c as (fun b o q1 q2 q3 q4 q5 q6 e => he b o q2 q3 q4 q5 q6 (hkeep b o q1 q2 q3 q4 q5 q6 e)) (he S _ Sz ST S1 S2 S3 hS) hal ⟨hG.rise, hG.above, fun j a hj => by
        obtain ⟨x1, x2, x3, p1, p2, p3, e⟩ := hG.tups j a hj
        obtain ⟨_, q2, q3, q4, q5, q6⟩ := low hG a (List.mem_of_getElem? hj)
        exact ⟨x1, x2, x3, p1, p2, p3, he a _ q2 q3 q4 q5 q6 e⟩⟩ hacc
    rcases hz with ⟨_, hz, b1, b2, b3, hTO⟩ | ⟨T, f, oT, hz, hT, _⟩
    · refine wpAny_bind (wpAny_pyNext_zipD3_end (A := A.in1) D D1 D2 D3 hz hTI hTO st1 st2 st3 (Nat.le_refl _) (Nat.le_refl _) (Nat.le_refl _) (.inl rfl) fun h' tk' he => ?_)
      exact wpAny_pure (fin h' tk' he)
    · refine wpAny_bind (pyNext_held_end (A := A.in1) D D1 hz hT hTI st1 fun h' tk' he => ?_)
      exact wpAny_pure (fin h' tk' fun c o q2 _ q4 _ _ e => he c o q2 q4 e)
  | succ k ih =>
    intro i h tk c acc as hk hi hst hkeep hS hacc hal hG hIs
    have hlt : i < n := by omega
    have hsz : acc.size = i := by rw [← Array.length_toList, hacc, List.length_map, hal]
    have hSl : S < h.objs.size := Heap.lt_size hS
    refine codeAny_builtin PySem.F.entry_extend_loop ?_
    rw [Around.under_plainId PySem.F.plain_extend_loop _]
    show wpAny _ A.in1 (pyNext (.ref z) >>= _) _ _ _
    obtain ⟨hTI, st1, st2, st3, hz⟩ := hst
    have lt : ∀ {c o}, h.get? c = some o → c < h.objs.size := fun e => Heap.lt_size e
    have l1 : i1 < h.objs.size := by obtain ⟨_, e⟩ := D1.live _ _ st1; exact lt e
    have l2 : i2 < h.objs.size := by obtain ⟨_, e⟩ := D2.live _ _ st2; exact lt e
    have l3 : i3 < h.objs.size := by obtain ⟨_, e⟩ := D3.live _ _ st3; exact lt e
    -- behind the next tuple
    have go : ∀ (x1 x2 x3 : Value) (h' : Heap) (tk' : Nat), P1 i x1 → P2 i x2 → P3 i x3 → St1 (i + 1) h' → St2 (i + 1) h' → St3 (i + 1) h' → IsTupOf3 h' h.objs.size x1 x2 x3 → h'.objs.size = h.objs.size + 1 →
        (∀ c o, c ≠ z → c ≠ TO → c ≠ i1 → c ≠ i2 → c ≠ i3 → h.get? c = some o → h'.get? c = some o) → (∃ T f oT, IsZipHeld h' z TI TO T f ∧ h'.get? T = some oT ∧ T ≠ S ∧ T ≠ z ∧ T ≠ i1 ∧ T ≠ i2 ∧ T ≠ i3) →
        wpAny (model prog w) A.in1 (updateSeq S (·.push (Value.ref h.objs.size)) >>= fun _ => again (.builtin "list.extend.loop" ⟨[.ref S, .ref z, res], []⟩))
          (fun fin s' => match fin with | .done f => R (.ok f) s' | .again c' => c'.quiet = true ∧ codeAny (model prog w) A c' R s') (fun e s' => R (.error e) s') { s with heap := h', toks := tk' } := by
      intro x1 x2 x3 h' tk' y1 y2 y3 d1 d2 d3 ht hz' hkp ⟨T, f, oT, hzh, hT, tS, tz, t1, t2, t3⟩
      have hS' := hkp S _ Sz ST S1 S2 S3 hS
      have up : ∀ b o, b ≠ S → h'.get? b = some o → (h'.update S (Obj.mapSeq (·.push (Value.ref h.objs.size)))).get? b = some o := fun b o hb e => (Heap.get?_update_other _ _ (Ne.symm hb)).trans e
      have upf : ∀ (fp : List Addr), S ∉ fp → ∀ b ∈ fp, ∀ o, h'.get? b = some o → (h'.update S (Obj.mapSeq (·.push (Value.ref h.objs.size)))).get? b = some o := fun fp hf b hb o e => up b o (fun q => hf (q ▸ hb)) e
      refine wpAny_bind ?_
      refine wpAny_updateSeq hS' rfl (wpAny_pure ⟨plainId_quiet PySem.F.plain_extend_loop _, ih (i + 1) _ tk' _ (acc.push (Value.ref h.objs.size)) (as ++ [h.objs.size]) (by omega) hlt
        ⟨up _ _ (Ne.symm SI) (hkp _ _ D.TIz D.TITO D.TIi1 D.TIi2 D.TIi3 hTI), D1.frame _ _ _ d1 (upf fp1 Sf.1), D2.frame _ _ _ d2 (upf fp2 Sf.2.1), D3.frame _ _ _ d3 (upf fp3 Sf.2.2), .inr ⟨T, f, oT, up _ _ (Ne.symm Sz) hzh, up _ _ tS hT, tS, tz, t1, t2, t3⟩⟩
        (fun b o q1 q2 q3 q4 q5 q6 e => up b o q1 (hkp b o q2 q3 q4 q5 q6 (hkeep b o q1 q2 q3 q4 q5 q6 e))) (Heap.get?_update_self _ hS' rfl) (by rw [Array.toList_push, hacc, List.map_append]; rfl) (by rw [List.length_append, hal]; rfl) ⟨?_, ?_, ?_⟩ ?_⟩) (by rw [hsz]; omega) (by show (acc.push _).size ≤ _; rw [Array.size_push, hsz]; omega)
      · refine List.pairwise_append.mpr ⟨hG.rise, List.pairwise_singleton _ _, fun a ha b hb => ?_⟩
        rw [List.mem_singleton.mp hb]
        obtain ⟨j, hj⟩ := List.mem_iff_getElem?.mp ha
        obtain ⟨_, _, _, _, _, _, e⟩ := hG.tups j a hj
        exact lt e
      · intro a ha
        rcases List.mem_append.mp ha with ha | ha
        · exact hG.above a ha
        · rw [List.mem_singleton.mp ha]; exact hIs
      · intro j b hj
        rcases Nat.lt_trichotomy j as.length with q | q | q
        · rw [List.getElem?_append_left q] at hj
          obtain ⟨u1, u2, u3, p1, p2, p3, e⟩ := hG.tups j b hj
          obtain ⟨q1, q2, q3, q4, q5, q6⟩ := low hG b (List.mem_of_getElem? hj)
          exact ⟨u1, u2, u3, p1, p2, p3, up b _ q1 (hkp b _ q2 q3 q4 q5 q6 e)⟩
        · subst q
          have hb : h.objs.size = b := by simpa using hj
          subst hb
          rw [hal]
          exact ⟨x1, x2, x3, y1, y2, y3, up _ _ (Nat.ne_of_gt hSl) ht⟩
        · have hnone : (as ++ [h.objs.size])[j]? = none := List.getElem?_eq_none (by rw [List.length_append, List.length_singleton]; omega)
          rw [hnone] at hj; cases hj
      · have e : (h'.update S (Obj.mapSeq (·.push (Value.ref h.objs.size)))).get? h.objs.size = _ := up _ _ (Nat.ne_of_gt hSl) ht
        exact Nat.lt_trans hIs (Heap.lt_size e)
    rcases hz with ⟨_, hz, b1, b2, b3, hTO⟩ | ⟨T, f, oT, hz, hT, tS, tz, t1, t2, t3⟩
    · refine wpAny_bind (wpAny_pyNext_zipD3_item (s := { s with heap := h, toks := tk }) (A := A.in1) D D1 D2 D3 hz hTI hTO st1 st2 st3 hlt hlt hlt fun x1 x2 x3 h' tk' y1 y2 y3 c1 c2 d1 d2 d3 ht hz' hkp => ?_)
      exact go x1 x2 x3 h' tk' y1 y2 y3 d1 d2 d3 ht hz' hkp ⟨h.objs.size, false, _, c1, ht, Nat.ne_of_gt hSl, Nat.ne_of_gt (lt hz), Nat.ne_of_gt l1, Nat.ne_of_gt l2, Nat.ne_of_gt l3⟩
    · refine wpAny_bind (pyNext_held (s := { s with heap := h, toks := tk }) (A := A.in1) D D1 D2 D3 hz hT hTI st1 st2 st3 hlt hlt hlt fun x1 x2 x3 h' tk' y1 y2 y3 c1 d1 d2 d3 ht hz' hkp => ?_)
      exact go x1 x2 x3 h' tk' y1 y2 y3 d1 d2 d3 ht hz' (fun c o q2 _ q4 q5 q6 e => hkp c o q2 q4 q5 q6 e) ⟨T, true, oT, c1, hkp T _ tz t1 t2 t3 hT, tS, tz, t1, t2, t3⟩
end
theorem zip_no_len : typeLookup (.type "zip") "__len__" = pure none := am_miss_of_fast (by decide +kernel)
theorem zip_no_hint : typeLookup (.type "zip") "__length_hint__" = pure none := am_miss_of_fast (by decide +kernel)
section
variable {prog : Program} {w : World} {A : Around} {E : Value → Shared → Prop} {s : Shared} {z : Addr}
theorem hint {Q : Bool → Shared → Prop} (hT : s.TypeIs (.ref z) "zip") (h : Q true s) : wpAny (model prog w) A (Builtin.List.listLengthHint (.ref z)) Q E s := by
  unfold Builtin.List.listLengthHint
  refine wpAny_bind (wpAny_specialOf hT zip_no_len ?_)
  wp_delta
  refine wpAny_ite_split (fun hab => absurd hab (by decide +kernel)) (fun _ => ?_)
  refine wpAny_ite_split (fun hab => absurd hab (by decide)) (fun _ => ?_)
  refine wpAny_bind (wpAny_specialOf hT zip_no_hint ?_)
  exact wpAny_pure h
/-- list(z) begins: the empty list at S gets the items of z -/
theorem extend {R : Result → Shared → Prop} {TI TO : Addr} {f0 : Value} (hz : IsZip s.heap z TI TO f0) (S : Addr) (hSz : S ≠ z) (res : Value) (c₀ : Nat) (hS : s.heap.get? S = some { cls := .type "list", data := .seq #[] c₀ })
    (key : ∀ (h : Heap) (c₁ tk : Nat), (∀ b o, b ≠ S → s.heap.get? b = some o → h.get? b = some o) → h.objs.size = s.heap.objs.size → h.get? S = some { cls := .type "list", data := .seq #[] c₁ } → codeAny (model prog w) A (.builtin "list.extend.loop" ⟨[.ref S, .ref z, res], []⟩) R { s with heap := h, toks := tk }) :
    wpAny (model prog w) A.in1 (Builtin.List.listExtendWith (.ref S) (.ref z) res)
      (fun fin s' => match fin with | .done f => R (.ok f) s' | .again c' => c'.quiet = true ∧ codeAny (model prog w) A c' R s') (fun e s' => R (.error e) s') s := by
  have hT : s.TypeIs (.ref z) "zip" := ⟨_, hz, rfl⟩
  unfold Builtin.List.listExtendWith
  refine wpAny_bind (wpAny_typeOf (T := "zip") hT ?_)
  have h1 : Builtin.List.listSameRef (.ref S) (.ref z) = false := by simp [Builtin.List.listSameRef, hSz]
  have h2 : (Value.type "zip" == Value.type "list") = false := by decide
  have h3 : (Value.type "zip" == Value.type "tuple") = false := by decide
  simp only [h1, h2, h3, Bool.or_false, Bool.false_eq_true, if_false]
  refine wpAny_bind (wpAny_pyIter_zip hz ?_)
  refine wpAny_bind (wpAny_holding (hint hT ?_))
  refine wpAny_ite_split (fun _ => ?_) (fun hab => absurd (by simp) hab)
  refine wpAny_bind (wpAny_rule ?_)
  refine wpAny_bind ?_
  show wpAny _ _ (updateSeq S (·.push .none) >>= fun _ => updateSeq S (·.pop)) _ _ _
  refine wpAny_bind (wpAny_updateSeq hS rfl ?_)
  have hS₂ := Heap.get?_update_self (Obj.mapSeq (·.push Value.none)) hS rfl
  refine wpAny_updateSeq (hz := by seq_fits) hS₂ rfl ?_
  have hS₃ := Heap.get?_update_self (Obj.mapSeq (·.pop)) hS₂ rfl
  refine wpAny_pure ⟨plainId_quiet PySem.F.plain_extend_loop _, key _ _ _ (fun b o hb e => ?_) (by rw [Heap.size_update, Heap.size_update]) hS₃⟩
  exact (Heap.get?_update_other _ _ (Ne.symm hb)).trans ((Heap.get?_update_other _ _ (Ne.symm hb)).trans e)
theorem init {R : Result → Shared → Prop} {TI TO : Addr} {f0 : Value} (hz : IsZip s.heap z TI TO f0) (S : Addr) (hSz : S ≠ z) (hS : s.heap.get? S = some { cls := .type "list", data := .seq #[] })
    (key : ∀ (h : Heap) (c₁ tk : Nat), (∀ b o, b ≠ S → s.heap.get? b = some o → h.get? b = some o) → h.objs.size = s.heap.objs.size → h.get? S = some { cls := .type "list", data := .seq #[] c₁ } → codeAny (model prog w) A (.builtin "list.extend.loop" ⟨[.ref S, .ref z, .none], []⟩) R { s with heap := h, toks := tk }) :
    wpAny (model prog w) A.in1 (Builtin.«list.__init__» ⟨[.ref S, .ref z], []⟩)
      (fun fin s' => match fin with | .done f => R (.ok f) s' | .again c' => c'.quiet = true ∧ codeAny (model prog w) A c' R s') (fun e s' => R (.error e) s') s := by
  show wpAny _ _ (do let old ← Builtin.List.listItems (.ref S); Builtin.List.listUpdate (.ref S) (fun _ => #[]); letGo old.toList.reverse; Builtin.List.listExtendWith (.ref S) (.ref z) .none) _ _ s
  refine wpAny_bind ?_
  unfold Builtin.List.listItems
  refine wpAny_bind (wpAny_seqItems hS rfl (wpAny_pure ?_))
  show wpAny _ _ (updateSeq S (fun _ => #[]) >>= fun _ => letGo (#[] : Array Value).toList.reverse >>= fun _ => Builtin.List.listExtendWith (.ref S) (.ref z) .none) _ _ s
  refine wpAny_bind (wpAny_updateSeq hS rfl ?_)
  have hS₂ := Heap.get?_update_self (Obj.mapSeq (fun _ => (#[] : Array Value))) hS rfl
  have oth : ∀ b o, b ≠ S → s.heap.get? b = some o → (s.heap.update S (Obj.mapSeq (fun _ => (#[] : Array Value)))).get? b = some o :=
    fun b o hb e => (Heap.get?_update_other _ _ (Ne.symm hb)).trans e
  refine wpAny_bind (wpAny_letGo ?_)
  refine extend (oth _ _ (Ne.symm hSz) hz) S hSz .none _ hS₂ fun h c₁ tk hk hsz hS' => key h c₁ tk (fun b o hb e => hk b o hb (oth b o hb e)) (hsz.trans (Heap.size_update ..)) hS'
/-- list(z), z a zip of three lists, fresh -/
theorem call_list {Q : Value → Shared → Prop} {TI TO i1 i2 i3 : Addr} {fp1 fp2 fp3 : List Addr} {n : Nat} {P1 P2 P3 : Nat → Value → Prop} {St1 St2 St3 : Nat → Heap → Prop} {a1 a2 a3 : Value} (hh : A.handled = none) (D : ZipSep3 z TI TO i1 i2 i3 fp1 fp2 fp3)
    (D1 : Draws prog w A.in1.in1.in1 i1 fp1 n P1 St1) (D2 : Draws prog w A.in1.in1.in1 i2 fp2 n P2 St2) (D3 : Draws prog w A.in1.in1.in1 i3 fp3 n P3 St3)
    (hz : IsZip s.heap z TI TO .none) (hTI : IsTupOf3 s.heap TI (.ref i1) (.ref i2) (.ref i3)) (hTO : IsTupOf3 s.heap TO a1 a2 a3) (st1 : St1 0 s.heap) (st2 : St2 0 s.heap) (st3 : St3 0 s.heap)
    (low : ∀ b, b ∈ fp1 ∨ b ∈ fp2 ∨ b ∈ fp3 → b < s.heap.objs.size) (hn : n ≤ sizeLine)
    (hQ : ∀ h' tk acc c as, (∀ b o, b ≠ z → b ≠ TO → b ≠ i1 → b ≠ i2 → b ≠ i3 → s.heap.get? b = some o → h'.get? b = some o) → h'.get? s.heap.objs.size = some { cls := .type "list", dict := none, data := .seq acc c, slots := #[] } → as.length = n → ZG P1 P2 P3 s.heap.objs.size h' as →
      acc.toList = as.map Value.ref → Q (.ref s.heap.objs.size) { s with heap := h', toks := tk }) :
    wpAny (model prog w) A (call (.type "list") [.ref z]) Q E s := by
  refine callType_codes (Q₁ := fun obj s₁ => obj = .ref s.heap.objs.size ∧ s₁ = { s with heap := s.heap.push { cls := .type "list", data := .seq #[] } }) PySem.F.called_list (PySem.F.typeCall_list_1 _) PySem.F.entry_list_init
    (code_list_new _ ⟨rfl, rfl⟩) fun obj s₁ h₁ => ?_
  obtain ⟨rfl, rfl⟩ := h₁
  have hS : (s.heap.push { cls := .type "list", data := .seq #[] }).get? s.heap.objs.size = some { cls := .type "list", data := .seq #[] } := Heap.get?_push_size _ rfl
  have up : ∀ b o, s.heap.get? b = some o → (s.heap.push { cls := .type "list", data := .seq #[] }).get? b = some o := fun b o e => Heap.get?_push_of_some _ e
  have lz : z < s.heap.objs.size := Heap.lt_size hz
  have lT : TO < s.heap.objs.size := Heap.lt_size hTO
  have lI : TI < s.heap.objs.size := Heap.lt_size hTI
  have l1 : i1 < s.heap.objs.size := low _ (.inl D.mem1)
  have l2 : i2 < s.heap.objs.size := low _ (.inr (.inl D.mem2))
  have l3 : i3 < s.heap.objs.size := low _ (.inr (.inr D.mem3))
  have f1 : s.heap.objs.size ∉ fp1 := fun m => Nat.lt_irrefl _ (low _ (.inl m))
  have f2 : s.heap.objs.size ∉ fp2 := fun m => Nat.lt_irrefl _ (low _ (.inr (.inl m)))
  have f3 : s.heap.objs.size ∉ fp3 := fun m => Nat.lt_irrefl _ (low _ (.inr (.inr m)))
  refine ⟨⟨_, hS, rfl⟩, PySem.F.args_list_init_2 _ _, init (s := { s with heap := s.heap.push { cls := .type "list", data := .seq #[] } }) (A := A.in1) (up _ _ hz) _ (Nat.ne_of_gt lz) hS fun h c₁ tk hk hsz hS' => ?_⟩
  have kk : ∀ b o, s.heap.get? b = some o → h.get? b = some o := fun b o e => hk b o (Nat.ne_of_lt (Heap.lt_size e)) (up b o e)
  have frm : ∀ {i fp n P St} {i0 : Nat}, Draws prog w A.in1.in1.in1 i fp n P St → St i0 s.heap → St i0 h := fun D st => D.frame _ _ _ st fun b _ o e => kk b o e
  refine loop (s := s) (lo := s.heap.objs.size) (h₁ := s.heap) (A := A.in1) hh D D1 D2 D3 (Nat.ne_of_gt lz) (Nat.ne_of_gt lT) (Nat.ne_of_gt lI) (Nat.ne_of_gt l1) (Nat.ne_of_gt l2) (Nat.ne_of_gt l3) ⟨f1, f2, f3⟩ (Nat.le_refl _) ⟨Nat.le_of_lt lz, Nat.le_of_lt lT, Nat.le_of_lt l1, Nat.le_of_lt l2, Nat.le_of_lt l3⟩ hn .none
    (fun h' tk' acc c as hk' hS'' hl hG hacc => ?_) n 0 h tk c₁ #[] [] (Nat.sub_zero _) (Nat.zero_le _) ⟨kk _ _ hTI, frm D1 st1, frm D2 st2, frm D3 st3, .inl ⟨rfl, kk _ _ hz, _, _, _, kk _ _ hTO⟩⟩ (fun b o _ _ _ _ _ _ e => kk b o e) hS' rfl rfl ⟨List.Pairwise.nil, (fun _ ha => nomatch ha), (fun j a hj => by simp at hj)⟩ (Heap.lt_size hS')
  exact ⟨rfl, hQ h' tk' acc c as (fun b o q1 q2 q3 q4 q5 e => hk' b o (Nat.ne_of_lt (Heap.lt_size e)) q1 q2 q3 q4 q5 e) hS'' hl hG hacc⟩
end
end PySem.Gz
namespace L2
open PySem PySem.W PySem.Calls PyProof.Rows PyProof.V PySem.Spec PySem.Gz
/-- all new objects of a batch are laid at once -/
theorem Inv.batch {X : Cx} {pins : List (Addr × Obj)} {σ : St} {H H' : Hp} {s : Shared} {h' : Heap} {t' : Nat} (I : Inv X pins σ H s) (k : ∀ b u, s.heap.get? b = some u → h'.get? b = some u)
    (old : ∀ b, b < s.heap.objs.size → H' b = H b) (new : ∀ a o, s.heap.objs.size ≤ a → H' a = some o → ObjOk X.prog X.w H' h' a o) : Inv X pins σ H' { s with heap := h', toks := t' } := by
  have lt : ∀ {b o}, s.heap.get? b = some o → H' b = H b := fun e => old _ (Heap.lt_size e)
  have tr : ∀ {b o}, H b = some o → H' b = some o := fun e => (old _ (I.hok.lt e)).trans e
  refine I.un ⟨fun b o e _ _ _ => k b o e, fun b o e _ _ _ => ⟨o.slots, k b o e⟩, fun b o e n _ => (lt e).trans n, fun b o e _ => ⟨o, k b o e⟩, fun _ _ e => tr e, fun _ _ _ e => tr e, fun b ps e => ⟨#[], by rw [tr e]; simp⟩⟩ fun a o e => ?_
  rcases Nat.lt_or_ge a s.heap.objs.size with z | z
  · rw [old a z] at e
    exact (I.hok a o e).stay (fun b u _ q => k b u q) (fun _ q => tr q) fun _ _ q => tr q
  · exact new a o z e
/-- a list at S of the tuples at as -/
def zipHp (H : Hp) (S : Addr) (as : List Addr) (xs ys zs : List V) : Hp := fun b =>
  if b = S then some (.lst (as.map V.ref)) else match as.findIdx? (· == b) with
    | some j => some (.tup [xs.getD j .non, ys.getD j .non, zs.getD j .non])
    | none => H b
theorem zipHp_at {H : Hp} {S : Addr} {as : List Addr} {xs ys zs : List V} {j : Nat} {a : Addr} (hr : as.Pairwise (· < ·)) (hS : S ∉ as) (h : as[j]? = some a) : zipHp H S as xs ys zs a = some (.tup [xs.getD j .non, ys.getD j .non, zs.getD j .non]) := by
  unfold zipHp
  have hne : a ≠ S := fun z => hS (by rw [← z]; exact List.mem_of_getElem? h)
  rw [if_neg hne]
  have : as.findIdx? (· == a) = some j := by
    obtain ⟨hj, e⟩ := List.getElem?_eq_some_iff.mp h
    rw [List.findIdx?_eq_some_iff_getElem]
    refine ⟨hj, beq_iff_eq.mpr e, fun i hi => ?_⟩
    have := List.pairwise_iff_getElem.mp hr i j (Nat.lt_trans hi hj) hj hi
    rw [e] at this
    intro z
    have z' := beq_iff_eq.mp z
    rw [z'] at this
    exact Nat.lt_irrefl _ this
  rw [this]
theorem zipHp_off {H : Hp} {S : Addr} {as : List Addr} {xs ys zs : List V} {a : Addr} (hS : a ≠ S) (h : a ∉ as) : zipHp H S as xs ys zs a = H a := by
  unfold zipHp
  rw [if_neg hS]
  have : as.findIdx? (· == a) = none := List.findIdx?_eq_none_iff.mpr fun x hx => by
    cases z : (x == a) with
    | false => rfl
    | true => exact absurd ((beq_iff_eq.mp z) ▸ hx) h
  rw [this]
theorem zipHp_self {H : Hp} {S : Addr} {as : List Addr} {xs ys zs : List V} : zipHp H S as xs ys zs S = some (.lst (as.map V.ref)) := by
  unfold zipHp
  rw [if_pos rfl]
/-- list(zip(a, b, c)), a, b and c lists of one length -/
def tZip3L (K : PySem.W.Frag) (ta : TA) : TE := fun σ H Q => ta σ H fun vs H1 => ∃ (a b c : Addr) (xs ys zs : List V), vs = [.ref a, .ref b, .ref c] ∧ SqL K H1 a xs ∧ SqL K H1 b ys ∧ SqL K H1 c zs ∧ ys.length = xs.length ∧ zs.length = xs.length ∧
  ∀ (S : Addr) (as : List Addr) (H2 : Hp), H1 S = none → (∀ b o, H1 b = some o → H2 b = some o) → as.length = xs.length → H2 S = some (.lst (as.map V.ref)) →
    (∀ (j : Nat) (a : Addr), as[j]? = some a → H1 a = none ∧ a ≠ S ∧ ∃ x y z, xs[j]? = some x ∧ ys[j]? = some y ∧ zs[j]? = some z ∧ H2 a = some (.tup [x, y, z])) → Q (.ref S) H2
theorem getD_get {xs : List V} {j : Nat} (h : j < xs.length) : xs[j]? = some (xs.getD j .non) := by
  rw [List.getD_eq_getElem?_getD, List.getElem?_eq_getElem h]
  rfl
theorem pe_zip3L {X : Cx} {e1 e2 e3 : Expr} {ta : TA} {p p2 q pos : Pos} (hg : Gl X "list") (hm : X.mg "list" = none) (hg2 : Gl X "zip") (hm2 : X.mg "zip" = none) (ha : PA X [e1, e2, e3] ta) (hc : X.calm = true := by rfl)
    (hs : starEach [e1, e2, e3] X.env = (false, eval e1 X.env) :: starEach [e2, e3] X.env := by rfl) (hpl : (backTo q (starEach [e2, e3] X.env)).any (·.1) = false := by rfl) :
    PE X (.Call (.Name "list" p) [.Call (.Name "zip" p2) [e1, e2, e3] [] q] [] pos) (tZip3L X.K ta) := by
  refine ⟨fun pins s σ H Q I h => ?_⟩
  refine Call_ (ld_blt I hg hm PyProof.Rows.boot_list ?_)
  refine PyProof.Rows.callWith_type1 (PyProof.Rows.args_cons ?_ rfl) rfl rfl
  refine Call_ (ld_blt I hg2 hm2 PyProof.Rows.boot_zip (PyProof.Rows.callWith_type1 (thn (ha.run q pins s σ H _ I h) fun us s1 ⟨vs, H1, I1, r1, q1⟩ => ?_) hs hpl))
  obtain ⟨a, b, c, xs, ys, zs, rfl, hx, hy, hz, ly, lz, q1⟩ := q1
  cases r1 with
  | cons r rr =>
  cases rr with
  | cons r' rr =>
  cases rr with
  | cons r'' rr =>
  cases rr
  cases r
  cases r'
  cases r''
  obtain ⟨its1, rv1, p1, hsz1⟩ := I1.list hx
  obtain ⟨its2, rv2, p2, _⟩ := I1.list hy
  obtain ⟨its3, rv3, p3, _⟩ := I1.list hz
  have n1 : its1.toArray.size = xs.length := by rw [List.size_toArray, ← rv1.length]
  have n2 : its2.toArray.size = xs.length := by rw [List.size_toArray, ← rv2.length, ly]
  have n3 : its3.toArray.size = xs.length := by rw [List.size_toArray, ← rv3.length, lz]
  have k1 : a < s1.heap.objs.size := p1.lt
  have k2 : b < s1.heap.objs.size := p2.lt
  have k3 : c < s1.heap.objs.size := p3.lt
  refine zip_begins3 (begins_list a its1.toArray) (begins_list b its2.toArray) (begins_list c its3.toArray) p1.isList p2.isList p3.isList fun h' hzz hTI hTO g1 g2 g3 hsz hk => ?_
  refine PyProof.Rows.args_nil ?_
  have hh : X.A.handled = none := I.ok.hd hc
  have D1 := Draws.list (prog := X.prog) (w := X.w) (A := X.A.in1.in1.in1) hh s1.heap.objs.size a (Nat.ne_of_lt k1) its1.toArray
  have D2 := Draws.list (prog := X.prog) (w := X.w) (A := X.A.in1.in1.in1) hh (s1.heap.objs.size + 1) b (Nat.ne_of_lt (Nat.lt_succ_of_lt k2)) its2.toArray
  have D3 := Draws.list (prog := X.prog) (w := X.w) (A := X.A.in1.in1.in1) hh (s1.heap.objs.size + 2) c (Nat.ne_of_lt (Nat.lt_of_lt_of_le k3 (Nat.le_add_right _ 2))) its3.toArray
  rw [n1] at D1
  rw [n2] at D2
  rw [n3] at D3
  refine call_list (s := { s1 with heap := h' }) hh (zip_sep3 (fp1 := [a]) (fp2 := [b]) (fp3 := [c]) (fun x m => by rw [List.mem_singleton.mp m]; exact k1) (fun x m => by rw [List.mem_singleton.mp m]; exact k2) (fun x m => by rw [List.mem_singleton.mp m]; exact k3))
    D1 D2 D3 hzz hTI hTO ⟨⟨_, g1, rfl, rfl⟩, p1.isList.at fun o e => hk _ _ e⟩ ⟨⟨_, g2, rfl, rfl⟩, p2.isList.at fun o e => hk _ _ e⟩ ⟨⟨_, g3, rfl, rfl⟩, p3.isList.at fun o e => hk _ _ e⟩ (fun x m => ?_) hsz1 fun h2 tk acc cc as hk2 hS hlen hG hacc => ?_
  · show x < h'.objs.size
    rw [hsz]
    rcases m with m | m | m
    · rcases List.mem_cons.mp m with e | m
      · rw [e]; exact Nat.lt_of_lt_of_le (Nat.lt_succ_self _) (Nat.add_le_add_left (by decide : 1 ≤ 6) _)
      · rw [List.mem_singleton.mp m]; exact Nat.lt_of_lt_of_le k1 (Nat.le_add_right _ _)
    · rcases List.mem_cons.mp m with e | m
      · rw [e]; exact Nat.add_lt_add_left (by decide : 1 < 6) _
      · rw [List.mem_singleton.mp m]; exact Nat.lt_of_lt_of_le k2 (Nat.le_add_right _ _)
    · rcases List.mem_cons.mp m with e | m
      · rw [e]; exact Nat.add_lt_add_left (by decide : 2 < 6) _
      · rw [List.mem_singleton.mp m]; exact Nat.lt_of_lt_of_le k3 (Nat.le_add_right _ _)
  · replace hG : ZG _ _ _ h'.objs.size h2 as := hG
    replace hS : h2.get? h'.objs.size = some _ := hS
    have hSn : h'.objs.size ∉ as := fun m => Nat.lt_irrefl _ (hG.above _ m)
    have big : s1.heap.objs.size ≤ h'.objs.size := by rw [hsz]; exact Nat.le_add_right _ _
    have bigA : ∀ x ∈ as, s1.heap.objs.size ≤ x := fun x m => Nat.le_trans big (Nat.le_of_lt (hG.above x m))
    have I2 : Inv X pins σ (zipHp H1 h'.objs.size as xs ys zs) { s1 with heap := h2, toks := tk } := by
      refine I1.batch (fun x o e => ?_) (fun x hb => ?_) fun x o hb e => ?_
      · have l : x < s1.heap.objs.size := Heap.lt_size e
        have ne : ∀ i, x ≠ s1.heap.objs.size + i := fun i z => by
          rw [z] at l
          exact Nat.lt_irrefl _ (Nat.lt_of_le_of_lt (Nat.le_add_right _ i) l)
        exact hk2 x o (ne 5) (ne 4) (ne 0) (ne 1) (ne 2) (hk x o e)
      · exact zipHp_off (fun z => Nat.lt_irrefl _ (Nat.lt_of_lt_of_le (show h'.objs.size < s1.heap.objs.size by rw [← z]; exact hb) big)) fun m => Nat.lt_irrefl _ (Nat.lt_of_lt_of_le hb (bigA x m))
      · by_cases c1 : x = h'.objs.size
        · subst c1
          rw [zipHp_self] at e
          cases e
          refine ⟨by rw [List.length_map, hlen]; exact hsz1, acc.toList, cc, ?_, by rw [Array.toArray_toList]; exact hS⟩
          rw [hacc]
          clear hacc hG hSn bigA hS hk2 hlen
          induction as with
          | nil => exact .nil
          | cons y l ih => exact .cons rfl ih
        by_cases c2 : x ∈ as
        · obtain ⟨j, hj⟩ := List.mem_iff_getElem?.mp c2
          rw [zipHp_at hG.rise hSn hj] at e
          cases e
          obtain ⟨u1, u2, u3, e1, e2, e3, ht⟩ := hG.tups j x hj
          have jl : j < xs.length := by rw [← hlen]; exact (List.getElem?_eq_some_iff.mp hj).1
          obtain ⟨w1, f1, r1⟩ := rv1.get (getD_get jl)
          obtain ⟨w2, f2, r2⟩ := rv2.get (getD_get (by rw [ly]; exact jl))
          obtain ⟨w3, f3, r3⟩ := rv3.get (getD_get (by rw [lz]; exact jl))
          have g1 : u1 = w1 := by
            have : its1[j]? = some u1 := by simpa using e1
            rw [f1] at this
            exact (Option.some.inj this).symm
          have g2 : u2 = w2 := by
            have : its2[j]? = some u2 := by simpa using e2
            rw [f2] at this
            exact (Option.some.inj this).symm
          have g3 : u3 = w3 := by
            have : its3[j]? = some u3 := by simpa using e3
            rw [f3] at this
            exact (Option.some.inj this).symm
          subst g1 g2 g3
          exact ⟨by show 3 ≤ sizeLine; decide, [u1, u2, u3], .cons r1 (.cons r2 (.cons r3 .nil)), ⟨_, ht, rfl, _, rfl⟩⟩
        · rw [zipHp_off c1 c2, I1.hok.fresh hb] at e
          cases e
    refine ⟨.ref h'.objs.size, _, I2, rfl, q1 _ as _ (I1.hok.fresh big) (fun x o e => ?_) hlen zipHp_self fun j x hj => ?_⟩
    · have l := I1.hok.lt e
      rw [zipHp_off (fun z => Nat.lt_irrefl _ (Nat.lt_of_lt_of_le (show h'.objs.size < s1.heap.objs.size by rw [← z]; exact l) big)) fun m => Nat.lt_irrefl _ (Nat.lt_of_lt_of_le l (bigA x m))]
      exact e
    · have m := List.mem_of_getElem? hj
      have jl : j < xs.length := by rw [← hlen]; exact (List.getElem?_eq_some_iff.mp hj).1
      exact ⟨I1.hok.fresh (bigA x m), fun z => hSn (z ▸ m), _, _, _, getD_get jl, getD_get (by rw [ly]; exact jl), getD_get (by rw [lz]; exact jl), zipHp_at hG.rise hSn hj⟩
end L2

/-! Lines joined. -/
namespace Gy
open PySem L2

def top (i : Nat) : Stmt := PySem.Challenge.pw_surelevels_k12_lines_joined.main.body.getD i (.Pass ⟨0, 0, 0, 0⟩)
abbrev s_BadPoint_init : Stmt := (inClass (top 4) 0)
theorem sc_BadPoint_init : FnScope ["self", "index"] ["self", "index"] (defScope s_BadPoint_init) :=
  ⟨rfl, rfl, rfl, by decide +kernel, rfl, by decide +kernel, by decide +kernel⟩
abbrev s_BadMoment_init : Stmt := (inClass (top 5) 0)
theorem sc_BadMoment_init : FnScope ["self", "moment"] ["self", "moment"] (defScope s_BadMoment_init) :=
  ⟨rfl, rfl, rfl, by decide +kernel, rfl, by decide +kernel, by decide +kernel⟩
abbrev s_BadLine_init : Stmt := (inClass (top 6) 0)
theorem sc_BadLine_init : FnScope ["self", "line"] ["self", "line"] (defScope s_BadLine_init) :=
  ⟨rfl, rfl, rfl, by decide +kernel, rfl, by decide +kernel, by decide +kernel⟩
abbrev s_is_whole : Stmt := (top 8)
theorem sc_is_whole : FnScope ["thing"] ["thing"] (defScope s_is_whole) :=
  ⟨rfl, rfl, rfl, by decide +kernel, rfl, by decide +kernel, by decide +kernel⟩
abbrev s_is_list : Stmt := (top 9)
theorem sc_is_list : FnScope ["thing"] ["thing"] (defScope s_is_list) :=
  ⟨rfl, rfl, rfl, by decide +kernel, rfl, by decide +kernel, by decide +kernel⟩
abbrev s_Exact_init : Stmt := (inClass (top 11) 0)
theorem sc_Exact_init : FnScope ["self", "over", "under", "part", "shared"] ["self", "over", "under"] (defScope s_Exact_init) :=
  ⟨rfl, rfl, rfl, by decide +kernel, rfl, by decide +kernel, by decide +kernel⟩
abbrev s_Exact_add : Stmt := (inClass (top 11) 1)
theorem sc_Exact_add : FnScope ["self", "other", "over", "under"] ["self", "other"] (defScope s_Exact_add) :=
  ⟨rfl, rfl, rfl, by decide +kernel, rfl, by decide +kernel, by decide +kernel⟩
abbrev s_Exact_radd : Stmt := (inClass (top 11) 2)
theorem sc_Exact_radd : FnScope ["self", "other"] ["self", "other"] (defScope s_Exact_radd) :=
  ⟨rfl, rfl, rfl, by decide +kernel, rfl, by decide +kernel, by decide +kernel⟩
abbrev s_Exact_sub : Stmt := (inClass (top 11) 3)
theorem sc_Exact_sub : FnScope ["self", "other", "over", "under"] ["self", "other"] (defScope s_Exact_sub) :=
  ⟨rfl, rfl, rfl, by decide +kernel, rfl, by decide +kernel, by decide +kernel⟩
abbrev s_Exact_rsub : Stmt := (inClass (top 11) 4)
theorem sc_Exact_rsub : FnScope ["self", "other", "over", "under"] ["self", "other"] (defScope s_Exact_rsub) :=
  ⟨rfl, rfl, rfl, by decide +kernel, rfl, by decide +kernel, by decide +kernel⟩
abbrev s_Exact_mul : Stmt := (inClass (top 11) 5)
theorem sc_Exact_mul : FnScope ["self", "other", "over", "under"] ["self", "other"] (defScope s_Exact_mul) :=
  ⟨rfl, rfl, rfl, by decide +kernel, rfl, by decide +kernel, by decide +kernel⟩
abbrev s_Exact_rmul : Stmt := (inClass (top 11) 6)
theorem sc_Exact_rmul : FnScope ["self", "other"] ["self", "other"] (defScope s_Exact_rmul) :=
  ⟨rfl, rfl, rfl, by decide +kernel, rfl, by decide +kernel, by decide +kernel⟩
abbrev s_Exact_neg : Stmt := (inClass (top 11) 7)
theorem sc_Exact_neg : FnScope ["self"] ["self"] (defScope s_Exact_neg) :=
  ⟨rfl, rfl, rfl, by decide +kernel, rfl, by decide +kernel, by decide +kernel⟩
abbrev s_Exact_eq : Stmt := (inClass (top 11) 8)
theorem sc_Exact_eq : FnScope ["self", "other"] ["self", "other"] (defScope s_Exact_eq) :=
  ⟨rfl, rfl, rfl, by decide +kernel, rfl, by decide +kernel, by decide +kernel⟩
abbrev s_Exact_lt : Stmt := (inClass (top 11) 9)
theorem sc_Exact_lt : FnScope ["self", "other", "over", "under"] ["self", "other"] (defScope s_Exact_lt) :=
  ⟨rfl, rfl, rfl, by decide +kernel, rfl, by decide +kernel, by decide +kernel⟩
abbrev s_Exact_le : Stmt := (inClass (top 11) 10)
theorem sc_Exact_le : FnScope ["self", "other", "over", "under"] ["self", "other"] (defScope s_Exact_le) :=
  ⟨rfl, rfl, rfl, by decide +kernel, rfl, by decide +kernel, by decide +kernel⟩
abbrev s_Exact_gt : Stmt := (inClass (top 11) 11)
theorem sc_Exact_gt : FnScope ["self", "other", "over", "under"] ["self", "other"] (defScope s_Exact_gt) :=
  ⟨rfl, rfl, rfl, by decide +kernel, rfl, by decide +kernel, by decide +kernel⟩
abbrev s_Exact_ge : Stmt := (inClass (top 11) 12)
theorem sc_Exact_ge : FnScope ["self", "other", "over", "under"] ["self", "other"] (defScope s_Exact_ge) :=
  ⟨rfl, rfl, rfl, by decide +kernel, rfl, by decide +kernel, by decide +kernel⟩
abbrev s_divisor : Stmt := (top 12)
theorem sc_divisor : FnScope ["one", "other"] ["one", "other"] (defScope s_divisor) :=
  ⟨rfl, rfl, rfl, by decide +kernel, rfl, by decide +kernel, by decide +kernel⟩
abbrev s_is_number : Stmt := (top 13)
theorem sc_is_number : FnScope ["thing"] ["thing"] (defScope s_is_number) :=
  ⟨rfl, rfl, rfl, by decide +kernel, rfl, by decide +kernel, by decide +kernel⟩
abbrev s_parts : Stmt := (top 14)
theorem sc_parts : FnScope ["number"] ["number"] (defScope s_parts) :=
  ⟨rfl, rfl, rfl, by decide +kernel, rfl, by decide +kernel, by decide +kernel⟩
abbrev s_plain : Stmt := (top 15)
theorem sc_plain : FnScope ["number", "over", "under"] ["number"] (defScope s_plain) :=
  ⟨rfl, rfl, rfl, by decide +kernel, rfl, by decide +kernel, by decide +kernel⟩
abbrev s_quotient : Stmt := (top 16)
theorem sc_quotient : FnScope ["one", "other", "over", "under", "below", "above"] ["one", "other"] (defScope s_quotient) :=
  ⟨rfl, rfl, rfl, by decide +kernel, rfl, by decide +kernel, by decide +kernel⟩
abbrev s_copied : Stmt := (top 18)
theorem sc_copied : FnScope ["row", "part"] ["row"] (defScope s_copied) :=
  ⟨rfl, rfl, rfl, by decide +kernel, rfl, by decide +kernel, by decide +kernel⟩
abbrev s_lesser : Stmt := (top 20)
theorem sc_lesser : FnScope ["one", "other"] ["one", "other"] (defScope s_lesser) :=
  ⟨rfl, rfl, rfl, by decide +kernel, rfl, by decide +kernel, by decide +kernel⟩
abbrev s_greater : Stmt := (top 21)
theorem sc_greater : FnScope ["one", "other"] ["one", "other"] (defScope s_greater) :=
  ⟨rfl, rfl, rfl, by decide +kernel, rfl, by decide +kernel, by decide +kernel⟩
abbrev s_merged : Stmt := (top 22)
theorem sc_merged : FnScope ["ones", "others", "rows", "at", "to"] ["ones", "others"] (defScope s_merged) :=
  ⟨rfl, rfl, rfl, by decide +kernel, rfl, by decide +kernel, by decide +kernel⟩
abbrev s_Line_init : Stmt := (inClass (top 24) 0)
theorem sc_Line_init : FnScope ["self", "points"] ["self", "points"] (defScope s_Line_init) :=
  ⟨rfl, rfl, rfl, by decide +kernel, rfl, by decide +kernel, by decide +kernel⟩
abbrev s_Line_eq : Stmt := (inClass (top 24) 2)
theorem sc_Line_eq : FnScope ["self", "other"] ["self", "other"] (defScope s_Line_eq) :=
  ⟨rfl, rfl, rfl, by decide +kernel, rfl, by decide +kernel, by decide +kernel⟩
abbrev s_Line_is_below : Stmt := (inClass (top 24) 4)
theorem sc_Line_is_below : FnScope ["self", "other", "moment", "mine", "yours"] ["self", "other"] (defScope s_Line_is_below) :=
  ⟨rfl, rfl, rfl, by decide +kernel, rfl, by decide +kernel, by decide +kernel⟩
abbrev s_Line_lower : Stmt := (inClass (top 24) 5)
theorem sc_Line_lower : FnScope ["self", "other", "moment", "mine", "yours"] ["self", "other"] (defScope s_Line_lower) :=
  ⟨rfl, rfl, rfl, by decide +kernel, rfl, by decide +kernel, by decide +kernel⟩
abbrev s_Line_upper : Stmt := (inClass (top 24) 6)
theorem sc_Line_upper : FnScope ["self", "other", "moment", "mine", "yours"] ["self", "other"] (defScope s_Line_upper) :=
  ⟨rfl, rfl, rfl, by decide +kernel, rfl, by decide +kernel, by decide +kernel⟩
abbrev s_checked_points : Stmt := (top 25)
theorem sc_checked_points : FnScope ["things", "spots", "index", "thing"] ["things"] (defScope s_checked_points) :=
  ⟨rfl, rfl, rfl, by decide +kernel, rfl, by decide +kernel, by decide +kernel⟩
abbrev s_is_point : Stmt := (top 26)
theorem sc_is_point : FnScope ["thing"] ["thing"] (defScope s_is_point) :=
  ⟨rfl, rfl, rfl, by decide +kernel, rfl, by decide +kernel, by decide +kernel⟩
abbrev s_bent : Stmt := (top 27)
theorem sc_bent : FnScope ["spots", "kept", "spot", "following"] ["spots"] (defScope s_bent) :=
  ⟨rfl, rfl, rfl, by decide +kernel, rfl, by decide +kernel, by decide +kernel⟩
abbrev s_is_straight : Stmt := (top 28)
theorem sc_is_straight : FnScope ["one", "two", "three", "ahead", "behind"] ["one", "two", "three"] (defScope s_is_straight) :=
  ⟨rfl, rfl, rfl, by decide +kernel, rfl, by decide +kernel, by decide +kernel⟩
abbrev s_heights_at : Stmt := (top 29)
theorem sc_heights_at : FnScope ["spots", "moments", "heights", "at", "moment"] ["spots", "moments"] (defScope s_heights_at) :=
  ⟨rfl, rfl, rfl, by decide +kernel, rfl, by decide +kernel, by decide +kernel⟩
abbrev s_height_between : Stmt := (top 30)
theorem sc_height_between : FnScope ["one", "other", "moment", "since", "height", "until", "last"] ["one", "other", "moment"] (defScope s_height_between) :=
  ⟨rfl, rfl, rfl, by decide +kernel, rfl, by decide +kernel, by decide +kernel⟩
abbrev s_beside : Stmt := (top 31)
theorem sc_beside : FnScope ["line", "other", "moments", "rows", "found", "row", "following"] ["line", "other"] (defScope s_beside) :=
  ⟨rfl, rfl, rfl, by decide +kernel, rfl, by decide +kernel, by decide +kernel⟩
abbrev s_is_match : Stmt := (top 32)
theorem sc_is_match : FnScope ["line", "other"] ["line", "other"] (defScope s_is_match) :=
  ⟨rfl, rfl, rfl, by decide +kernel, rfl, by decide +kernel, by decide +kernel⟩
abbrev s_spans : Stmt := (top 33)
theorem sc_spans : FnScope ["line", "start", "end"] ["line", "start", "end"] (defScope s_spans) :=
  ⟨rfl, rfl, rfl, by decide +kernel, rfl, by decide +kernel, by decide +kernel⟩
abbrev s_moments_of : Stmt := (top 34)
theorem sc_moments_of : FnScope ["spots", "spot"] ["spots"] (defScope s_moments_of) :=
  ⟨rfl, rfl, rfl, by decide +kernel, rfl, by decide +kernel, by decide +kernel⟩
abbrev s_crossings : Stmt := (top 35)
theorem sc_crossings : FnScope ["row", "following", "gap", "rest", "share", "height"] ["row", "following"] (defScope s_crossings) :=
  ⟨rfl, rfl, rfl, by decide +kernel, rfl, by decide +kernel, by decide +kernel⟩
abbrev s_law_fresh : Stmt := (top 37)
theorem sc_law_fresh : FnScope ["_law_script"] ["_law_script"] (defScope s_law_fresh) :=
  ⟨rfl, rfl, rfl, by decide +kernel, rfl, by decide +kernel, by decide +kernel⟩
abbrev s_law_fill : Stmt := (top 38)
theorem sc_law_fill : FnScope ["_law_state", "_law_cells", "_law_nth", "_law_seed", "_law_k", "_law_prime", "_law_far"] ["_law_state"] (defScope s_law_fill) :=
  ⟨rfl, rfl, rfl, by decide +kernel, rfl, by decide +kernel, by decide +kernel⟩
abbrev s_law_take : Stmt := (top 39)
theorem sc_law_take : FnScope ["_law_state", "_law_many", "_law_laps", "_law_digit"] ["_law_state", "_law_many"] (defScope s_law_take) :=
  ⟨rfl, rfl, rfl, by decide +kernel, rfl, by decide +kernel, by decide +kernel⟩
abbrev s_law_one : Stmt := (top 40)
theorem sc_law_one : FnScope ["_law_state", "_law_things"] ["_law_state", "_law_things"] (defScope s_law_one) :=
  ⟨rfl, rfl, rfl, by decide +kernel, rfl, by decide +kernel, by decide +kernel⟩
abbrev s_law_same : Stmt := (top 41)
theorem sc_law_same : FnScope ["_law_found", "_law_due", "_law_a", "_law_b"] ["_law_found", "_law_due"] (defScope s_law_same) :=
  ⟨rfl, rfl, rfl, by decide +kernel, rfl, by decide +kernel, by decide +kernel⟩
abbrev s_law_gcd : Stmt := (top 42)
theorem sc_law_gcd : FnScope ["_law_a", "_law_b"] ["_law_a", "_law_b"] (defScope s_law_gcd) :=
  ⟨rfl, rfl, rfl, by decide +kernel, rfl, by decide +kernel, by decide +kernel⟩
abbrev s_law_frac : Stmt := (top 43)
theorem sc_law_frac : FnScope ["_law_over_here", "_law_under_here", "_law_whole"] ["_law_over_here", "_law_under_here"] (defScope s_law_frac) :=
  ⟨rfl, rfl, rfl, by decide +kernel, rfl, by decide +kernel, by decide +kernel⟩
abbrev s_law_add : Stmt := (top 44)
theorem sc_law_add : FnScope ["_law_a", "_law_b"] ["_law_a", "_law_b"] (defScope s_law_add) :=
  ⟨rfl, rfl, rfl, by decide +kernel, rfl, by decide +kernel, by decide +kernel⟩
abbrev s_law_mul : Stmt := (top 45)
theorem sc_law_mul : FnScope ["_law_a", "_law_b"] ["_law_a", "_law_b"] (defScope s_law_mul) :=
  ⟨rfl, rfl, rfl, by decide +kernel, rfl, by decide +kernel, by decide +kernel⟩
abbrev s_law_less : Stmt := (top 46)
theorem sc_law_less : FnScope ["_law_a", "_law_b"] ["_law_a", "_law_b"] (defScope s_law_less) :=
  ⟨rfl, rfl, rfl, by decide +kernel, rfl, by decide +kernel, by decide +kernel⟩
abbrev s_law_plain : Stmt := (top 47)
theorem sc_law_plain : FnScope ["_law_a"] ["_law_a"] (defScope s_law_plain) :=
  ⟨rfl, rfl, rfl, by decide +kernel, rfl, by decide +kernel, by decide +kernel⟩
abbrev s_law_on : Stmt := (top 48)
theorem sc_law_on : FnScope ["_law_course", "_law_t", "_law_k", "_law_a", "_law_x", "_law_b", "_law_y", "_law_one_here", "_law_whole", "_law_share"] ["_law_course", "_law_t"] (defScope s_law_on) :=
  ⟨rfl, rfl, rfl, by decide +kernel, rfl, by decide +kernel, by decide +kernel⟩
abbrev s_law_over : Stmt := (top 49)
theorem sc_law_over : FnScope ["_law_a"] ["_law_a"] (defScope s_law_over) :=
  ⟨rfl, rfl, rfl, by decide +kernel, rfl, by decide +kernel, by decide +kernel⟩
abbrev s_law_moments : Stmt := (top 50)
theorem sc_law_moments : FnScope ["_law_rows", "_law_found", "_law_t", "_law_at", "_law_x"] ["_law_rows"] (defScope s_law_moments) :=
  ⟨rfl, rfl, rfl, by decide +kernel, rfl, by decide +kernel, by decide +kernel⟩
abbrev s_law_drawn_course : Stmt := (top 51)
theorem sc_law_drawn_course : FnScope ["_law_state", "_law_a", "_law_b", "_law_stops", "_law_k", "_law_t"] ["_law_state", "_law_a", "_law_b"] (defScope s_law_drawn_course) :=
  ⟨rfl, rfl, rfl, by decide +kernel, rfl, by decide +kernel, by decide +kernel⟩
abbrev s_law_as_line : Stmt := (top 52)
theorem sc_law_as_line : FnScope ["_law_course", "_law_x"] ["_law_course"] (defScope s_law_as_line) :=
  ⟨rfl, rfl, rfl, by decide +kernel, rfl, by decide +kernel, by decide +kernel⟩
abbrev s_law_lower : Stmt := (top 53)
theorem sc_law_lower : FnScope ["_law_one_here", "_law_other", "_law_stops", "_law_found", "_law_k", "_law_t", "_law_x", "_law_y", "_law_a", "_law_b", "_law_back", "_law_here", "_law_share", "_law_span", "_law_middle"] ["_law_one_here", "_law_other"] (defScope s_law_lower) :=
  ⟨rfl, rfl, rfl, by decide +kernel, rfl, by decide +kernel, by decide +kernel⟩
abbrev s_law_under : Stmt := (top 54)
theorem sc_law_under : FnScope ["_law_course", "_law_x"] ["_law_course"] (defScope s_law_under) :=
  ⟨rfl, rfl, rfl, by decide +kernel, rfl, by decide +kernel, by decide +kernel⟩
abbrev s_law : Stmt := (top 55)
theorem sc_law : FnScope ["_law_script", "_law_state", "_law_turn", "_law_a", "_law_b", "_law_one_here", "_law_other", "_law_x", "_law_y", "_law_low", "_law_high", "_law_below"] ["_law_script"] (defScope s_law) :=
  ⟨rfl, rfl, rfl, by decide +kernel, rfl, by decide +kernel, by decide +kernel⟩
structure Tx (K : PySem.W.Frag) (mg : Str → Option Value) where
  LevelError_a : Addr
  LevelError_m : mg "LevelError" = some (.ref LevelError_a)
  LevelError_e : ErrT K LevelError_a LevelError_a
  BadPoint_a : Addr
  BadPoint_m : mg "BadPoint" = some (.ref BadPoint_a)
  BadPoint_e : ErrT K LevelError_a BadPoint_a
  BadPoint_n_index : PySem.W.findIn K (.ref BadPoint_a) "index" = some none
  BadMoment_a : Addr
  BadMoment_m : mg "BadMoment" = some (.ref BadMoment_a)
  BadMoment_e : ErrT K LevelError_a BadMoment_a
  BadMoment_n_moment : PySem.W.findIn K (.ref BadMoment_a) "moment" = some none
  BadLine_a : Addr
  BadLine_m : mg "BadLine" = some (.ref BadLine_a)
  BadLine_e : ErrT K LevelError_a BadLine_a
  BadLine_n_line : PySem.W.findIn K (.ref BadLine_a) "line" = some none
  E_g : ErrG K
  E_nd : List.Nodup [LevelError_a, BadPoint_a, BadMoment_a, BadLine_a]
  E_v : PySem.W.findCls K (.type "ValueError") (.type "type") "__init__" = some (.val (.builtin "ValueError.__init__"))
  Exact_a : Addr
  Exact_m : mg "Exact" = some (.ref Exact_a)
  Exact_cl : Cls K Exact_a
  Exact_n_over : NoAttr K Exact_a "over"
  Exact_n_under : NoAttr K Exact_a "under"
  Exact_i1 : PySem.W.findIn K (.ref Exact_a) "__class__" = some (some (.builtin "object.__class__"))
  Exact_i2 : PySem.W.specialIn K (.builtin "object.__class__") "__get__" = some (some (.builtin "getset_descriptor.__get__"))
  Exact_i3 : PySem.W.takesIn K (.builtin "object.__class__") = some true
  Exact_i4 : PySem.W.mroIn K Exact_a (.type "object") = some true
  Exact_k0 : PySem.W.kitOne K (.ref Exact_a) (.ref Exact_a) = some true
  Exact_kt_int : PySem.W.kitOne K (.type "int") (.ref Exact_a) = some false
  Exact_ko_int : PySem.W.kitOne K (.ref Exact_a) (.type "int") = some false
  Exact_up_int : PySem.W.subIn K (.type "int") (.ref Exact_a) = some false
  Exact_dn_int : PySem.W.subIn K (.ref Exact_a) (.type "int") = some false
  Line_a : Addr
  Line_m : mg "Line" = some (.ref Line_a)
  Line_cl : Cls K Line_a
  Line_n_spots : NoAttr K Line_a "spots"
  Line_i1 : PySem.W.findIn K (.ref Line_a) "__class__" = some (some (.builtin "object.__class__"))
  Line_i2 : PySem.W.specialIn K (.builtin "object.__class__") "__get__" = some (some (.builtin "getset_descriptor.__get__"))
  Line_i3 : PySem.W.takesIn K (.builtin "object.__class__") = some true
  Line_i4 : PySem.W.mroIn K Line_a (.type "object") = some true
  Line_ne : PySem.W.findIn K (.ref Line_a) "__ne__" = some (some (.builtin "object.__ne__"))
  Line_k0 : PySem.W.kitOne K (.ref Line_a) (.ref Line_a) = some true
  BadPoint_init_a : Addr
  BadPoint_init_d : FuncData
  BadPoint_init_F : Fun K "__init__" "BadPoint.__init__" s_BadPoint_init BadPoint_init_a BadPoint_init_d
  BadPoint_init_b : Binds K BadPoint_init_d ["self", "index"] []
  BadPoint_init_M : Meth K BadPoint_a "__init__" BadPoint_init_a
  BadPoint_init_kb : KwB K BadPoint_init_d ["self", "index"] "index"
  BadMoment_init_a : Addr
  BadMoment_init_d : FuncData
  BadMoment_init_F : Fun K "__init__" "BadMoment.__init__" s_BadMoment_init BadMoment_init_a BadMoment_init_d
  BadMoment_init_b : Binds K BadMoment_init_d ["self", "moment"] []
  BadMoment_init_M : Meth K BadMoment_a "__init__" BadMoment_init_a
  BadMoment_init_kb : KwB K BadMoment_init_d ["self", "moment"] "moment"
  BadLine_init_a : Addr
  BadLine_init_d : FuncData
  BadLine_init_F : Fun K "__init__" "BadLine.__init__" s_BadLine_init BadLine_init_a BadLine_init_d
  BadLine_init_b : Binds K BadLine_init_d ["self", "line"] []
  BadLine_init_M : Meth K BadLine_a "__init__" BadLine_init_a
  BadLine_init_kb : KwB K BadLine_init_d ["self", "line"] "line"
  is_whole_a : Addr
  is_whole_d : FuncData
  is_whole_F : Fun K "is_whole" "is_whole" s_is_whole is_whole_a is_whole_d
  is_whole_b : Binds K is_whole_d ["thing"] []
  is_whole_m : mg "is_whole" = some (.ref is_whole_a)
  is_list_a : Addr
  is_list_d : FuncData
  is_list_F : Fun K "is_list" "is_list" s_is_list is_list_a is_list_d
  is_list_b : Binds K is_list_d ["thing"] []
  is_list_m : mg "is_list" = some (.ref is_list_a)
  Exact_init_a : Addr
  Exact_init_d : FuncData
  Exact_init_F : FunD K "__init__" "Exact.__init__" (defArgs s_Exact_init) (defBody s_Exact_init) (defScope s_Exact_init) [V.int 1] [] Exact_init_a Exact_init_d
  Exact_init_b : Binds K Exact_init_d ["self", "over", "under"] []
  Exact_init_M : Meth K Exact_a "__init__" Exact_init_a
  Exact_mk : Mk K Exact_a Exact_init_a
  Exact_add_a : Addr
  Exact_add_d : FuncData
  Exact_add_F : Fun K "__add__" "Exact.__add__" s_Exact_add Exact_add_a Exact_add_d
  Exact_add_b : Binds K Exact_add_d ["self", "other"] []
  Exact_add_M : Meth K Exact_a "__add__" Exact_add_a
  Exact_radd_a : Addr
  Exact_radd_d : FuncData
  Exact_radd_F : Fun K "__radd__" "Exact.__radd__" s_Exact_radd Exact_radd_a Exact_radd_d
  Exact_radd_b : Binds K Exact_radd_d ["self", "other"] []
  Exact_radd_M : Meth K Exact_a "__radd__" Exact_radd_a
  Exact_sub_a : Addr
  Exact_sub_d : FuncData
  Exact_sub_F : Fun K "__sub__" "Exact.__sub__" s_Exact_sub Exact_sub_a Exact_sub_d
  Exact_sub_b : Binds K Exact_sub_d ["self", "other"] []
  Exact_sub_M : Meth K Exact_a "__sub__" Exact_sub_a
  Exact_rsub_a : Addr
  Exact_rsub_d : FuncData
  Exact_rsub_F : Fun K "__rsub__" "Exact.__rsub__" s_Exact_rsub Exact_rsub_a Exact_rsub_d
  Exact_rsub_b : Binds K Exact_rsub_d ["self", "other"] []
  Exact_rsub_M : Meth K Exact_a "__rsub__" Exact_rsub_a
  Exact_mul_a : Addr
  Exact_mul_d : FuncData
  Exact_mul_F : Fun K "__mul__" "Exact.__mul__" s_Exact_mul Exact_mul_a Exact_mul_d
  Exact_mul_b : Binds K Exact_mul_d ["self", "other"] []
  Exact_mul_M : Meth K Exact_a "__mul__" Exact_mul_a
  Exact_rmul_a : Addr
  Exact_rmul_d : FuncData
  Exact_rmul_F : Fun K "__rmul__" "Exact.__rmul__" s_Exact_rmul Exact_rmul_a Exact_rmul_d
  Exact_rmul_b : Binds K Exact_rmul_d ["self", "other"] []
  Exact_rmul_M : Meth K Exact_a "__rmul__" Exact_rmul_a
  Exact_neg_a : Addr
  Exact_neg_d : FuncData
  Exact_neg_F : Fun K "__neg__" "Exact.__neg__" s_Exact_neg Exact_neg_a Exact_neg_d
  Exact_neg_b : Binds K Exact_neg_d ["self"] []
  Exact_neg_M : Meth K Exact_a "__neg__" Exact_neg_a
  Exact_eq_a : Addr
  Exact_eq_d : FuncData
  Exact_eq_F : Fun K "__eq__" "Exact.__eq__" s_Exact_eq Exact_eq_a Exact_eq_d
  Exact_eq_b : Binds K Exact_eq_d ["self", "other"] []
  Exact_eq_M : Meth K Exact_a "__eq__" Exact_eq_a
  Exact_lt_a : Addr
  Exact_lt_d : FuncData
  Exact_lt_F : Fun K "__lt__" "Exact.__lt__" s_Exact_lt Exact_lt_a Exact_lt_d
  Exact_lt_b : Binds K Exact_lt_d ["self", "other"] []
  Exact_lt_M : Meth K Exact_a "__lt__" Exact_lt_a
  Exact_le_a : Addr
  Exact_le_d : FuncData
  Exact_le_F : Fun K "__le__" "Exact.__le__" s_Exact_le Exact_le_a Exact_le_d
  Exact_le_b : Binds K Exact_le_d ["self", "other"] []
  Exact_le_M : Meth K Exact_a "__le__" Exact_le_a
  Exact_gt_a : Addr
  Exact_gt_d : FuncData
  Exact_gt_F : Fun K "__gt__" "Exact.__gt__" s_Exact_gt Exact_gt_a Exact_gt_d
  Exact_gt_b : Binds K Exact_gt_d ["self", "other"] []
  Exact_gt_M : Meth K Exact_a "__gt__" Exact_gt_a
  Exact_ge_a : Addr
  Exact_ge_d : FuncData
  Exact_ge_F : Fun K "__ge__" "Exact.__ge__" s_Exact_ge Exact_ge_a Exact_ge_d
  Exact_ge_b : Binds K Exact_ge_d ["self", "other"] []
  Exact_ge_M : Meth K Exact_a "__ge__" Exact_ge_a
  divisor_a : Addr
  divisor_d : FuncData
  divisor_F : Fun K "divisor" "divisor" s_divisor divisor_a divisor_d
  divisor_b : Binds K divisor_d ["one", "other"] []
  divisor_m : mg "divisor" = some (.ref divisor_a)
  is_number_a : Addr
  is_number_d : FuncData
  is_number_F : Fun K "is_number" "is_number" s_is_number is_number_a is_number_d
  is_number_b : Binds K is_number_d ["thing"] []
  is_number_m : mg "is_number" = some (.ref is_number_a)
  parts_a : Addr
  parts_d : FuncData
  parts_F : Fun K "parts" "parts" s_parts parts_a parts_d
  parts_b : Binds K parts_d ["number"] []
  parts_m : mg "parts" = some (.ref parts_a)
  plain_a : Addr
  plain_d : FuncData
  plain_F : Fun K "plain" "plain" s_plain plain_a plain_d
  plain_b : Binds K plain_d ["number"] []
  plain_m : mg "plain" = some (.ref plain_a)
  quotient_a : Addr
  quotient_d : FuncData
  quotient_F : Fun K "quotient" "quotient" s_quotient quotient_a quotient_d
  quotient_b : Binds K quotient_d ["one", "other"] []
  quotient_m : mg "quotient" = some (.ref quotient_a)
  copied_a : Addr
  copied_d : FuncData
  copied_F : Fun K "copied" "copied" s_copied copied_a copied_d
  copied_b : Binds K copied_d ["row"] []
  copied_m : mg "copied" = some (.ref copied_a)
  lesser_a : Addr
  lesser_d : FuncData
  lesser_F : Fun K "lesser" "lesser" s_lesser lesser_a lesser_d
  lesser_b : Binds K lesser_d ["one", "other"] []
  lesser_m : mg "lesser" = some (.ref lesser_a)
  greater_a : Addr
  greater_d : FuncData
  greater_F : Fun K "greater" "greater" s_greater greater_a greater_d
  greater_b : Binds K greater_d ["one", "other"] []
  greater_m : mg "greater" = some (.ref greater_a)
  merged_a : Addr
  merged_d : FuncData
  merged_F : Fun K "merged" "merged" s_merged merged_a merged_d
  merged_b : Binds K merged_d ["ones", "others"] []
  merged_m : mg "merged" = some (.ref merged_a)
  Line_init_a : Addr
  Line_init_d : FuncData
  Line_init_F : Fun K "__init__" "Line.__init__" s_Line_init Line_init_a Line_init_d
  Line_init_b : Binds K Line_init_d ["self", "points"] []
  Line_init_M : Meth K Line_a "__init__" Line_init_a
  Line_mk : Mk K Line_a Line_init_a
  Line_eq_a : Addr
  Line_eq_d : FuncData
  Line_eq_F : Fun K "__eq__" "Line.__eq__" s_Line_eq Line_eq_a Line_eq_d
  Line_eq_b : Binds K Line_eq_d ["self", "other"] []
  Line_eq_M : Meth K Line_a "__eq__" Line_eq_a
  Line_is_below_a : Addr
  Line_is_below_d : FuncData
  Line_is_below_F : Fun K "is_below" "Line.is_below" s_Line_is_below Line_is_below_a Line_is_below_d
  Line_is_below_b : Binds K Line_is_below_d ["self", "other"] []
  Line_is_below_M : Meth K Line_a "is_below" Line_is_below_a
  Line_lower_a : Addr
  Line_lower_d : FuncData
  Line_lower_F : Fun K "lower" "Line.lower" s_Line_lower Line_lower_a Line_lower_d
  Line_lower_b : Binds K Line_lower_d ["self", "other"] []
  Line_lower_M : Meth K Line_a "lower" Line_lower_a
  Line_upper_a : Addr
  Line_upper_d : FuncData
  Line_upper_F : Fun K "upper" "Line.upper" s_Line_upper Line_upper_a Line_upper_d
  Line_upper_b : Binds K Line_upper_d ["self", "other"] []
  Line_upper_M : Meth K Line_a "upper" Line_upper_a
  checked_points_a : Addr
  checked_points_d : FuncData
  checked_points_F : Fun K "checked_points" "checked_points" s_checked_points checked_points_a checked_points_d
  checked_points_b : Binds K checked_points_d ["things"] []
  checked_points_m : mg "checked_points" = some (.ref checked_points_a)
  is_point_a : Addr
  is_point_d : FuncData
  is_point_F : Fun K "is_point" "is_point" s_is_point is_point_a is_point_d
  is_point_b : Binds K is_point_d ["thing"] []
  is_point_m : mg "is_point" = some (.ref is_point_a)
  bent_a : Addr
  bent_d : FuncData
  bent_F : Fun K "bent" "bent" s_bent bent_a bent_d
  bent_b : Binds K bent_d ["spots"] []
  bent_m : mg "bent" = some (.ref bent_a)
  is_straight_a : Addr
  is_straight_d : FuncData
  is_straight_F : Fun K "is_straight" "is_straight" s_is_straight is_straight_a is_straight_d
  is_straight_b : Binds K is_straight_d ["one", "two", "three"] []
  is_straight_m : mg "is_straight" = some (.ref is_straight_a)
  heights_at_a : Addr
  heights_at_d : FuncData
  heights_at_F : Fun K "heights_at" "heights_at" s_heights_at heights_at_a heights_at_d
  heights_at_b : Binds K heights_at_d ["spots", "moments"] []
  heights_at_m : mg "heights_at" = some (.ref heights_at_a)
  height_between_a : Addr
  height_between_d : FuncData
  height_between_F : Fun K "height_between" "height_between" s_height_between height_between_a height_between_d
  height_between_b : Binds K height_between_d ["one", "other", "moment"] []
  height_between_m : mg "height_between" = some (.ref height_between_a)
  beside_a : Addr
  beside_d : FuncData
  beside_F : Fun K "beside" "beside" s_beside beside_a beside_d
  beside_b : Binds K beside_d ["line", "other"] []
  beside_m : mg "beside" = some (.ref beside_a)
  is_match_a : Addr
  is_match_d : FuncData
  is_match_F : Fun K "is_match" "is_match" s_is_match is_match_a is_match_d
  is_match_b : Binds K is_match_d ["line", "other"] []
  is_match_m : mg "is_match" = some (.ref is_match_a)
  spans_a : Addr
  spans_d : FuncData
  spans_F : Fun K "spans" "spans" s_spans spans_a spans_d
  spans_b : Binds K spans_d ["line", "start", "end"] []
  spans_m : mg "spans" = some (.ref spans_a)
  moments_of_a : Addr
  moments_of_d : FuncData
  moments_of_F : Fun K "moments_of" "moments_of" s_moments_of moments_of_a moments_of_d
  moments_of_b : Binds K moments_of_d ["spots"] []
  moments_of_m : mg "moments_of" = some (.ref moments_of_a)
  crossings_a : Addr
  crossings_d : FuncData
  crossings_F : Fun K "crossings" "crossings" s_crossings crossings_a crossings_d
  crossings_b : Binds K crossings_d ["row", "following"] []
  crossings_m : mg "crossings" = some (.ref crossings_a)
  law_fresh_a : Addr
  law_fresh_d : FuncData
  law_fresh_F : Fun K "_law_fresh" "_law_fresh" s_law_fresh law_fresh_a law_fresh_d
  law_fresh_b : Binds K law_fresh_d ["_law_script"] []
  law_fresh_m : mg "_law_fresh" = some (.ref law_fresh_a)
  law_fill_a : Addr
  law_fill_d : FuncData
  law_fill_F : Fun K "_law_fill" "_law_fill" s_law_fill law_fill_a law_fill_d
  law_fill_b : Binds K law_fill_d ["_law_state"] []
  law_fill_m : mg "_law_fill" = some (.ref law_fill_a)
  law_take_a : Addr
  law_take_d : FuncData
  law_take_F : Fun K "_law_take" "_law_take" s_law_take law_take_a law_take_d
  law_take_b : Binds K law_take_d ["_law_state", "_law_many"] []
  law_take_m : mg "_law_take" = some (.ref law_take_a)
  law_one_a : Addr
  law_one_d : FuncData
  law_one_F : Fun K "_law_one" "_law_one" s_law_one law_one_a law_one_d
  law_one_b : Binds K law_one_d ["_law_state", "_law_things"] []
  law_one_m : mg "_law_one" = some (.ref law_one_a)
  law_same_a : Addr
  law_same_d : FuncData
  law_same_F : Fun K "_law_same" "_law_same" s_law_same law_same_a law_same_d
  law_same_b : Binds K law_same_d ["_law_found", "_law_due"] []
  law_same_m : mg "_law_same" = some (.ref law_same_a)
  law_gcd_a : Addr
  law_gcd_d : FuncData
  law_gcd_F : Fun K "_law_gcd" "_law_gcd" s_law_gcd law_gcd_a law_gcd_d
  law_gcd_b : Binds K law_gcd_d ["_law_a", "_law_b"] []
  law_gcd_m : mg "_law_gcd" = some (.ref law_gcd_a)
  law_frac_a : Addr
  law_frac_d : FuncData
  law_frac_F : Fun K "_law_frac" "_law_frac" s_law_frac law_frac_a law_frac_d
  law_frac_b : Binds K law_frac_d ["_law_over_here", "_law_under_here"] []
  law_frac_m : mg "_law_frac" = some (.ref law_frac_a)
  law_add_a : Addr
  law_add_d : FuncData
  law_add_F : Fun K "_law_add" "_law_add" s_law_add law_add_a law_add_d
  law_add_b : Binds K law_add_d ["_law_a", "_law_b"] []
  law_add_m : mg "_law_add" = some (.ref law_add_a)
  law_mul_a : Addr
  law_mul_d : FuncData
  law_mul_F : Fun K "_law_mul" "_law_mul" s_law_mul law_mul_a law_mul_d
  law_mul_b : Binds K law_mul_d ["_law_a", "_law_b"] []
  law_mul_m : mg "_law_mul" = some (.ref law_mul_a)
  law_less_a : Addr
  law_less_d : FuncData
  law_less_F : Fun K "_law_less" "_law_less" s_law_less law_less_a law_less_d
  law_less_b : Binds K law_less_d ["_law_a", "_law_b"] []
  law_less_m : mg "_law_less" = some (.ref law_less_a)
  law_plain_a : Addr
  law_plain_d : FuncData
  law_plain_F : Fun K "_law_plain" "_law_plain" s_law_plain law_plain_a law_plain_d
  law_plain_b : Binds K law_plain_d ["_law_a"] []
  law_plain_m : mg "_law_plain" = some (.ref law_plain_a)
  law_on_a : Addr
  law_on_d : FuncData
  law_on_F : Fun K "_law_on" "_law_on" s_law_on law_on_a law_on_d
  law_on_b : Binds K law_on_d ["_law_course", "_law_t"] []
  law_on_m : mg "_law_on" = some (.ref law_on_a)
  law_over_a : Addr
  law_over_d : FuncData
  law_over_F : Fun K "_law_over" "_law_over" s_law_over law_over_a law_over_d
  law_over_b : Binds K law_over_d ["_law_a"] []
  law_over_m : mg "_law_over" = some (.ref law_over_a)
  law_moments_a : Addr
  law_moments_d : FuncData
  law_moments_F : Fun K "_law_moments" "_law_moments" s_law_moments law_moments_a law_moments_d
  law_moments_b : Binds K law_moments_d ["_law_rows"] []
  law_moments_m : mg "_law_moments" = some (.ref law_moments_a)
  law_drawn_course_a : Addr
  law_drawn_course_d : FuncData
  law_drawn_course_F : Fun K "_law_drawn_course" "_law_drawn_course" s_law_drawn_course law_drawn_course_a law_drawn_course_d
  law_drawn_course_b : Binds K law_drawn_course_d ["_law_state", "_law_a", "_law_b"] []
  law_drawn_course_m : mg "_law_drawn_course" = some (.ref law_drawn_course_a)
  law_as_line_a : Addr
  law_as_line_d : FuncData
  law_as_line_F : Fun K "_law_as_line" "_law_as_line" s_law_as_line law_as_line_a law_as_line_d
  law_as_line_b : Binds K law_as_line_d ["_law_course"] []
  law_as_line_m : mg "_law_as_line" = some (.ref law_as_line_a)
  law_lower_a : Addr
  law_lower_d : FuncData
  law_lower_F : Fun K "_law_lower" "_law_lower" s_law_lower law_lower_a law_lower_d
  law_lower_b : Binds K law_lower_d ["_law_one_here", "_law_other"] []
  law_lower_m : mg "_law_lower" = some (.ref law_lower_a)
  law_under_a : Addr
  law_under_d : FuncData
  law_under_F : Fun K "_law_under" "_law_under" s_law_under law_under_a law_under_d
  law_under_b : Binds K law_under_d ["_law_course"] []
  law_under_m : mg "_law_under" = some (.ref law_under_a)
  law_a : Addr
  law_d : FuncData
  law_F : Fun K "law" "law" s_law law_a law_d
  law_b : Binds K law_d ["_law_script"] []
  law_m : mg "law" = some (.ref law_a)
  z_abs : mg "abs" = none
  z_all : mg "all" = none
  z_bool : mg "bool" = none
  z_enumerate : mg "enumerate" = none
  z_int : mg "int" = none
  z_isinstance : mg "isinstance" = none
  z_len : mg "len" = none
  z_list : mg "list" = none
  z_range : mg "range" = none
  z_tuple : mg "tuple" = none
  z_zip : mg "zip" = none
  op_add : GyOp K Exact_a .Add Exact_add_a Exact_radd_a
  op_sub : GyOp K Exact_a .Sub Exact_sub_a Exact_rsub_a
  op_mul : GyOp K Exact_a .Mult Exact_mul_a Exact_rmul_a
  Line_ne_Exact : Line_a ≠ Exact_a


section
variable {P : Program} {w : World} {K : PySem.W.Frag} {mg : Str → Option Value} {base : Heap}
/-! ### numbers: is_whole, parts, divisor, Exact -/
/-- an Exact's attributes -/
def exF (p q : V) : List (Str × V) := [(("over" : Str), p), (("under" : Str), q)]
/-- an Exact stands at v -/
def ExAt (C : Addr) (H : Hp) (v : V) (p : Int × Int) : Prop := ∃ a dx, v = .ref a ∧ H a = some (.ins C dx (exF (.int p.1) (.int p.2)))
/-- a number as it is passed -/
def NumAt (C : Addr) (H : Hp) (v : V) (p : Int × Int) : Prop := (v = .int p.1 ∧ p.2 = 1) ∨ ExAt C H v p
theorem ExAt.same {C : Addr} {H H' : Hp} {v : V} {p : Int × Int} (h : ExAt C H v p) (e : Same H H') : ExAt C H' v p := let ⟨a, dx, r, z⟩ := h; ⟨a, dx, r, e _ _ z⟩
theorem NumAt.same {C : Addr} {H H' : Hp} {v : V} {p : Int × Int} (h : NumAt C H v p) (e : Same H H') : NumAt C H' v p := h.elim .inl fun z => .inr (z.same e)
theorem fl_ne : ¬ (("over" : Str) = "under") := by decide +kernel
theorem fl_eq (p q : V) : putF "under" q (putF "over" p []) = exF p q := by
  show (if ("over" : Str) = "under" then [(("over" : Str), q)] else (("over" : Str), p) :: putF "under" q []) = ([(("over" : Str), p), (("under" : Str), q)] : List (Str × V))
  rw [if_neg fl_ne]
  all_goals rfl
theorem fl_over {x y : V} : (exF x y).lookup ("over" : Str) = some x := by
  rw [← fl_eq, lookup_putF, if_neg fl_ne, lookup_putF, if_pos rfl]
theorem fl_under {x y : V} : (exF x y).lookup ("under" : Str) = some y := by
  rw [← fl_eq, lookup_putF, if_pos rfl]
theorem fl_no {x y : V} {m : Str} (h1 : ¬ m = "over") (h2 : ¬ m = "under") : (exF x y).lookup m = none := by
  rw [← fl_eq, lookup_putF, if_neg h2, lookup_putF, if_neg h1]
  all_goals rfl
/-- no number -/
def NoNum (K : PySem.W.Frag) (C : Addr) (H : Hp) (v : V) : Prop := ∃ t b, TyX K H v t ∧ PySem.W.kitOne K t (.type "int") = some b ∧ (b = true → PySem.W.kitOne K t (.type "bool") = some true) ∧ PySem.W.kitOne K t (.ref C) = some false
/-- an int, an Exact, no number: whether it is an int -/
def spWhole (K : PySem.W.Frag) (C : Addr) : Sp := fun vs H Q _ => ∃ v, vs = [v] ∧ ((∃ i, v = .int i) ∧ Q (.bl true) H ∨ (∃ p, ExAt C H v p) ∧ Q (.bl false) H ∨ NoNum K C H v ∧ Q (.bl false) H)
theorem ok_is_whole (T : Tx K mg) : FnOk P w K mg base CX0 1 T.is_whole_a T.is_whole_d ["thing"] (spWhole K T.Exact_a) := by
  refine T.is_whole_F.ok sc_is_whole (fun vs H Q E h => ?_) (fun cdv A outer s H vs Q E hr h => ?_)
  · obtain ⟨v, rfl, _⟩ := h
    rfl
  · obtain ⟨v, rfl, h⟩ := h
    refine ⟨_, (pss_one (ps_ret (pe_and (pe_callB call_isi (by rfl) T.z_isinstance (by decide +kernel) (pa_cons (pv 0) (pa_cons (pe_bltn (v := .ty "int") (by rfl) T.z_int (by decide +kernel) rfl) pa_nil))) (pe_one (pe_not (pe_callB call_isi (by rfl) T.z_isinstance (by decide +kernel) (pa_cons (pv 0) (pa_cons (pe_bltn (v := .ty "bool") (by rfl) T.z_bool (by decide +kernel) rfl) pa_nil)))))))), ?_⟩
    rcases h with ⟨⟨i, rfl⟩, k⟩ | ⟨⟨p, a, dx, rfl, ha⟩, k⟩ | ⟨⟨t, b, ty, ki, kb, _⟩, k⟩
    · refine ⟨_, rfl, _, _, _, _, true, rfl, .ty "int", .base (.int i), kit_ty (by decide +kernel), true, rfl, ?_⟩
      refine iteT ?_
      refine ⟨_, rfl, _, _, _, _, false, rfl, .ty "bool", .base (.int i), kit_ty (by decide +kernel), false, rfl, k⟩
    · refine ⟨_, rfl, _, _, _, _, false, rfl, .ty "int", .base (.ins ha T.Exact_cl T.Exact_i1 T.Exact_i2 T.Exact_i3 T.Exact_i4), T.Exact_ko_int, false, rfl, ?_⟩
      exact iteF k
    · refine ⟨_, rfl, _, _, _, _, b, rfl, .ty "int", ty, ki, b, rfl, ?_⟩
      cases b with
      | false => exact iteF k
      | true =>
        refine iteT ?_
        exact ⟨_, rfl, _, _, _, _, true, rfl, .ty "bool", ty, kb rfl, true, rfl, k⟩
/-- the greatest common part of two ints that are not below 0 -/
def spDivisor : Sp := fun vs H Q _ => ∃ a b : Int, vs = [.int a, .int b] ∧ 0 ≤ a ∧ 0 ≤ b ∧ Q (.int (Int.gcd a b)) H
theorem ok_divisor (T : Tx K mg) : FnOk P w K mg base CX0 1 T.divisor_a T.divisor_d ["one", "other"] spDivisor := by
  refine T.divisor_F.ok sc_divisor (fun vs H Q E h => ?_) (fun cdv A outer s H vs Q E hr h => ?_)
  · obtain ⟨a, b, rfl, _⟩ := h
    rfl
  · obtain ⟨a, b, rfl, ha, hb, k⟩ := h
    refine ⟨_, (pss_cons (ps_while PassesOwn.never (pt_cmpR op_ne (pv 1) pe_int (nomark _))
  (pss_one (ps_par (i := 0) (j := 1) (by rfl) sc_divisor.nd rfl rfl (by decide) rfl rfl (pa_cons (pv 1) (pa_cons (pe_op (op_modN) (pv 0) (pv 1)) pa_nil)) (by rfl))))
  (pss_one (ps_ret (pv 0)))), ?_⟩
    refine ⟨fun m σ H' => ∃ x y : Int, σ = [some (.int x), some (.int y)] ∧ 0 ≤ x ∧ 0 ≤ y ∧ Int.gcd x y = Int.gcd a b ∧ m = y.toNat ∧ H' = H, ⟨_, a, b, rfl, ha, hb, rfl, rfl, rfl⟩, ?_⟩
    rintro m σ H' ⟨x, y, rfl, hx, hy, hg, rfl, rfl⟩
    refine ⟨_, rfl, rfl, _, rfl, ?_⟩
    by_cases h0 : y = 0
    · subst h0
      refine iteF ?_
      refine ⟨_, rfl, ?_⟩
      have e : x = (Int.gcd a b : Int) := by rw [← hg, Int.gcd_zero_right]; omega
      rw [e]
      exact k
    · rw [show (!decide (V.int y = V.int 0)) = true by simp [h0]]
      refine iteT ?_
      refine ⟨_, fun σ' H' z => z, ?_⟩
      refine ⟨_, rfl, _, rfl, _, rfl, _, _, rfl, rfl, h0, _, _, rfl, ?_⟩
      have h1 := Int.fmod_nonneg_of_pos x (b := y) (by omega)
      have h2 := Int.fmod_lt_of_pos x (b := y) (by omega)
      exact ⟨_, by omega, y, x.fmod y, rfl, hy, h1, (gcd_step x y).trans hg, rfl, rfl⟩
/-- Exact(a, b), b not 0 -/
def spExInit (C : Addr) : Sp := fun vs H Q _ => ∃ (x dx : Addr) (a b : Int), vs = [.ref x, .int a, .int b] ∧ b ≠ 0 ∧ b.natAbs < 2 ^ 8000 ∧ H x = some (.ins C dx []) ∧
  ∀ H', H' x = some (.ins C dx (exF (.int (red a b).1) (.int (red a b).2))) → (∀ c o, H c = some o → c ≠ x → H' c = some o) → Q .non H'
theorem ok_Exact_init (T : Tx K mg) : FnOk P w K mg base CX0 3 T.Exact_init_a T.Exact_init_d ["self", "over", "under"] (spExInit T.Exact_a) := by
  refine T.Exact_init_F.ok0 sc_Exact_init (fun vs H Q E h => ?_) (fun cdv A outer s H vs Q E hr h => ?_)
  · obtain ⟨x, dx, a, b, rfl, _⟩ := h
    rfl
  · obtain ⟨x, dx, a, b, rfl, hb, hz, hx, k⟩ := h
    refine ⟨_, (pss_cons (ps_for PassesOwn.never rfl (pi_tup (pe_tup (pa_cons (pv 1) (pa_cons (pv 2) pa_nil)))) (pg_name (i := 3) sc_Exact_init.nd rfl (Or.inl rfl))
  (pss_one (ps_if (pt_not (pt_val (pe_call (ok_is_whole T) (hr.mono (by decide)) rfl T.is_whole_m T.is_whole_F.kp T.is_whole_b .nil pass0 (pa_cons (pv 3) pa_nil))))
  (pss_one ps_never)
  pss_nil)))
  (pss_cons (ps_if (pt_cmpR op_eq (pv 2) pe_int (nomark _))
  (pss_one ps_never)
  pss_nil)
  (pss_cons (ps_set (i := 4) sc_Exact_init.nd rfl (Or.inl rfl) (pe_call (ok_divisor T) (hr.mono (by decide)) rfl T.divisor_m T.divisor_F.kp T.divisor_b .nil pass0 (pa_cons (pe_callB (call_abs) (by rfl) T.z_abs (by decide +kernel) (pa_cons (pv 1) pa_nil)) (pa_cons (pe_callB (call_abs) (by rfl) T.z_abs (by decide +kernel) (pa_cons (pv 2) pa_nil)) pa_nil))))
  (pss_cons (ps_if (pt_cmpR op_lt (pv 2) pe_int (nomark _))
  (pss_one (ps_set (i := 4) sc_Exact_init.nd rfl (Or.inl rfl) (pe_un (un_neg) (pv 4))))
  pss_nil)
  (pss_cons (ps_fld (pv 0) (pe_op (op_fdivG) (pv 1) (pv 4)) rfl)
  (pss_one (ps_fld (pv 0) (pe_op (op_fdivG) (pv 2) (pv 4)) rfl))))))), ?_⟩
    refine ⟨_, rfl, _, rfl, (by show 2 ≤ sizeLine; decide), fun t nt => ?_⟩
    have s1 : Same H (upd H t (.tup [.int a, .int b])) := same_upd nt
    have ht : (upd H t (.tup [.int a, .int b])) t = some (.tup [.int a, .int b]) := upd_same
    generalize upd H t (.tup [.int a, .int b]) = H1 at s1 ht ⊢
    refine ⟨t, rfl, ⟨_, .inl (.inl ht)⟩, for_tup (K := K) (a := t) (xs := [.int a, .int b]) (fun i σ H2 => (∃ v, σ = [some (.ref x), some (.int a), some (.int b), v, none]) ∧ H2 = H1) ⟨⟨none, rfl⟩, rfl⟩ (fun i σ H2 _ e => by rw [e.2]; exact .inl (.inl ht)) ?_ ?_⟩
    · rintro i y σ H2 hi ⟨⟨v, rfl⟩, rfl⟩
      have hy : ∃ n, y = V.int n := by
        match i, hi with
        | 0, hi => exact ⟨a, (Option.some.inj hi).symm⟩
        | 1, hi => exact ⟨b, (Option.some.inj hi).symm⟩
      obtain ⟨n, rfl⟩ := hy
      refine ⟨_, rfl, _, rfl, .inl ⟨⟨n, rfl⟩, true, rfl, ?_⟩⟩
      exact iteF ⟨⟨_, rfl⟩, rfl⟩
    · rintro σ H2 ⟨⟨v, rfl⟩, rfl⟩
      refine ⟨_, rfl, rfl, _, rfl, ?_⟩
      rw [show decide (V.int b = V.int 0) = false by simp [hb]]
      refine iteF ?_
      refine ⟨_, rfl, _, rfl, _, rfl, _, rfl, a.natAbs, b.natAbs, ?_, by omega, by omega, ?_⟩
      · show ([V.int _, V.int _] : List V) = [V.int _, V.int _]
        have f : ∀ z : Int, (if z < 0 then -z else z) = (z.natAbs : Int) := fun z => by split <;> omega
        rw [f, f]
      rw [show Int.gcd (a.natAbs : Int) (b.natAbs : Int) = Int.gcd a b from rfl]
      have hx2 := s1 _ _ hx
      -- the sign, then the two fields: both ways end alike
      have fin : ∀ w : Int, w = red_w a b → tSeq (sFld K (tVar 0) (tOp (rI GDiv fun i j => .int (i.fdiv j)) (tVar 1) (tVar 4)) "over") (sFld K (tVar 0) (tOp (rI GDiv fun i j => .int (i.fdiv j)) (tVar 2) (tVar 4)) "under")
          { nx := fun _ H' => Q .non H', rt := Q } [some (.ref x), some (.int a), some (.int b), v, some (.int w)] H2 := by
        rintro w rfl
        have gd : ∀ i, GDiv i (red_w a b) := fun i => gDiv_lt (red_w_ne hb) (red_w_sz hb hz) (by decide) (by decide)
        refine ⟨_, rfl, _, rfl, _, _, rfl, rfl, gd _, _, rfl, x, T.Exact_a, dx, _, rfl, hx2, T.Exact_cl, T.Exact_n_over, (by show 0 < 1000; decide), ?_⟩
        refine ⟨_, rfl, _, rfl, _, _, rfl, rfl, gd _, _, rfl, x, T.Exact_a, dx, _, rfl, upd_same, T.Exact_cl, T.Exact_n_under, (by show 1 < 1000; decide), ?_⟩
        refine k _ ?_ fun c o e hc => ?_
        · rw [upd_same]
          exact congrArg (fun l => some (HO.ins T.Exact_a dx l)) (fl_eq _ _)
        · rw [upd_ne hc, upd_ne hc]
          exact s1 _ _ e
      refine ⟨_, rfl, _, _, rfl, rfl, _, rfl, ?_⟩
      refine ite2 (fun hneg => ?_) (fun hneg => ?_)
      · have hneg : b < 0 := of_decide_eq_true hneg
        exact ⟨_, rfl, _, rfl, fin _ (by unfold red_w; rw [if_pos hneg])⟩
      · have hneg : ¬ b < 0 := fun z => hneg (decide_eq_true z)
        exact fin _ (by unfold red_w; rw [if_neg hneg])
/-- Exact(A, B) as a value -/
theorem mk_ex {C : Addr} {H1 : Hp} {Q : VK} {E : XK} {A B : Int} (hB : B ≠ 0) (hz : B.natAbs < 2 ^ 8000) (k : ∀ v H2, Same H1 H2 → ExAt C H2 v (red A B) → Q v H2) :
    ∀ x dx, H1 x = none → H1 dx = none → dx ≠ x → spExInit C (.ref x :: ([.int A, .int B] ++ [])) (upd (upd H1 dx (.own x)) x (.ins C dx [])) (fun v H2 => v = .non ∧ Q (.ref x) H2) E := fun x dx nx nd ne =>
  ⟨x, dx, A, B, rfl, hB, hz, upd_same, fun H2 hx kp => ⟨rfl, k _ H2 (Same.made nx nd kp) ⟨x, dx, rfl, hx⟩⟩⟩
/-- the same, where what follows is no letter -/
theorem mk_ex1 {C : Addr} {H1 : Hp} {Q : Hp → Prop} {E : XK} {A B : Int} {x dx : Addr} (nx : H1 x = none) (nd : H1 dx = none) (hB : B ≠ 0) (hz : B.natAbs < 2 ^ 8000) (k : ∀ H2, Same H1 H2 → ExAt C H2 (.ref x) (red A B) → Q H2) :
    spExInit C (.ref x :: ([.int A, .int B] ++ [])) (upd (upd H1 dx (.own x)) x (.ins C dx [])) (fun v H2 => v = .non ∧ Q H2) E :=
  ⟨x, dx, A, B, rfl, hB, hz, upd_same, fun H2 hx kp => ⟨rfl, k H2 (Same.made nx nd kp) ⟨x, dx, rfl, hx⟩⟩⟩
/-- a number that may be reckoned with -/
def Nm (p : Int × Int) : Prop := 0 < p.2 ∧ p.1.natAbs < 2 ^ 1000 ∧ p.2.natAbs < 2 ^ 1000
theorem ok1000 {a b : Int} (ha : a.natAbs < 2 ^ 1000) (hb : b.natAbs < 2 ^ 1000) : IntMulOk a b := mulOk ha hb (by decide) (by decide) (by decide)
theorem un_ok {a b : Int × Int} (ha : Nm a) (hb : Nm b) : a.2 * b.2 ≠ 0 ∧ (a.2 * b.2).natAbs < 2 ^ 8000 :=
  ⟨Int.ne_of_gt (Int.mul_pos ha.1 hb.1), sz_up (sz_mul ha.2.2 hb.2.2) (by decide)⟩
theorem NumAt.cases {C : Addr} {H : Hp} {v : V} {p : Int × Int} (h : NumAt C H v p) : (v = .int p.1 ∧ p.2 = 1) ∨ ∃ a dx, v = .ref a ∧ H a = some (.ins C dx (exF (.int p.1) (.int p.2))) := h
def spParts (C : Addr) : Sp := fun vs H Q _ => ∃ v p, vs = [v] ∧ NumAt C H v p ∧ ∀ t H', Same H H' → H' t = some (.tup [.int p.1, .int p.2]) → Q (.ref t) H'
theorem ok_parts (T : Tx K mg) : FnOk P w K mg base CX0 3 T.parts_a T.parts_d ["number"] (spParts T.Exact_a) := by
  refine T.parts_F.ok sc_parts (fun vs H Q E h => ?_) (fun cdv A outer s H vs Q E hr h => ?_)
  · obtain ⟨v, p, rfl, _⟩ := h
    rfl
  · obtain ⟨v, p, rfl, hv, k⟩ := h
    refine ⟨_, (pss_cons (ps_if (pt_val (pe_callB call_isi (by rfl) T.z_isinstance (by decide +kernel) (pa_cons (pv 0) (pa_cons (pe_glob (v := .ref T.Exact_a) rfl T.Exact_m rfl) pa_nil))))
  (pss_one (ps_ret (pe_tup (pa_cons (pe_fld (pv 0) rfl) (pa_cons (pe_fld (pv 0) rfl) pa_nil)))))
  pss_nil)
  (pss_cons (ps_if (pt_val (pe_call (ok_is_whole T) (hr.mono (by decide)) rfl T.is_whole_m T.is_whole_F.kp T.is_whole_b .nil pass0 (pa_cons (pv 0) pa_nil)))
  (pss_one (ps_ret (pe_tup (pa_cons (pv 0) (pa_cons pe_int pa_nil)))))
  pss_nil)
  (pss_one ps_never))), ?_⟩
    rcases hv.cases with ⟨rfl, h1⟩ | ⟨x, dx, rfl, hx⟩
    · refine ⟨_, rfl, _, _, _, _, false, rfl, .own _, .base (.int _), T.Exact_kt_int, false, rfl, ?_⟩
      refine iteF ?_
      refine ⟨_, rfl, _, rfl, .inl ⟨⟨_, rfl⟩, true, rfl, ?_⟩⟩
      refine iteT ?_
      refine ⟨_, rfl, (by show 2 ≤ sizeLine; decide), fun t nt => ?_⟩
      rw [← h1]
      exact k t _ (same_upd nt) upd_same
    · refine ⟨_, rfl, _, _, _, _, true, rfl, .own _, .base (.ins hx T.Exact_cl T.Exact_i1 T.Exact_i2 T.Exact_i3 T.Exact_i4), T.Exact_k0, true, rfl, ?_⟩
      refine iteT ?_
      refine ⟨_, rfl, x, _, dx, _, _, rfl, hx, T.Exact_cl, T.Exact_n_over, fl_over, _, rfl, x, _, dx, _, _, rfl, hx, T.Exact_cl, T.Exact_n_under, fl_under, (by show 2 ≤ sizeLine; decide), fun t nt => ?_⟩
      exact k t _ (same_upd nt) upd_same
def fAdd (a b : Int × Int) : Int × Int := (a.1 * b.2 + b.1 * a.2, a.2 * b.2)
def fSub (a b : Int × Int) : Int × Int := (a.1 * b.2 - b.1 * a.2, a.2 * b.2)
def fRsub (a b : Int × Int) : Int × Int := (b.1 * a.2 - a.1 * b.2, a.2 * b.2)
def fMul (a b : Int × Int) : Int × Int := (a.1 * b.1, a.2 * b.2)
def fBy (a b : Int × Int) : Int × Int := (a.1 * b.2, a.2 * b.1)

/-- self and another number: an Exact of f -/
def spBin (C : Addr) (f : Int × Int → Int × Int → Int × Int) : Sp := fun vs H Q _ => ∃ v u a b, vs = [v, u] ∧ ExAt C H v a ∧ NumAt C H u b ∧ Nm a ∧ Nm b ∧ ∀ v' H', Same H H' → ExAt C H' v' (red (f a b).1 (f a b).2) → Q v' H'
theorem spBin_len {C : Addr} {f : Int × Int → Int × Int → Int × Int} {vs : List V} {H : Hp} {Q : VK} {E : XK} (h : spBin C f vs H Q E) : vs.length = 2 := by
  obtain ⟨v, u, a, b, rfl, _⟩ := h
  rfl
theorem ok_Exact_add (T : Tx K mg) : FnOk P w K mg base CX0 5 T.Exact_add_a T.Exact_add_d ["self", "other"] (spBin T.Exact_a fAdd) := by
  refine T.Exact_add_F.ok sc_Exact_add (fun vs H Q E h => spBin_len h) (fun cdv A outer s H vs Q E hr h => ?_)
  obtain ⟨v, u, a, b, rfl, hv, hu, na, nb, k⟩ := h
  refine ⟨_, (pss_cons (ps_asg (pe_call (ok_parts T) (hr.mono (by decide)) rfl T.parts_m T.parts_F.kp T.parts_b .nil pass0 (pa_cons (pv 1) pa_nil)) (pg_tup (by rfl) (pgs_cons (pg_name (i := 2) sc_Exact_add.nd rfl (Or.inl rfl)) (pgs_cons (pg_name (i := 3) sc_Exact_add.nd rfl (Or.inl rfl)) pgs_nil))))
  (pss_one (ps_ret (pe_make T.Exact_mk (ok_Exact_init T) (hr.mono (by decide)) rfl T.Exact_m T.Exact_init_b .nil pass0 (pa_cons (pe_op (op_add) (pe_op (op_mulG) (pe_fld (pv 0) rfl) (pv 3)) (pe_op (op_mulG) (pv 2) (pe_fld (pv 0) rfl))) (pa_cons (pe_op (op_mulG) (pe_fld (pv 0) rfl) (pv 3)) pa_nil)))))), ?_⟩
  refine ⟨_, rfl, u, b, rfl, hu, fun t H1 s1 ht => ⟨t, _, rfl, .inl (.inl ht), rfl, _, _, rfl, _, _, rfl, rfl, ?_⟩⟩
  obtain ⟨x, dx, rfl, hx⟩ := hv.same s1
  refine ⟨_, rfl, x, _, dx, _, _, rfl, hx, T.Exact_cl, T.Exact_n_over, fl_over, _, rfl, _, _, rfl, rfl, ok1000 na.2.1 nb.2.2, _, rfl, _, rfl, x, _, dx, _, _, rfl, hx, T.Exact_cl, T.Exact_n_under, fl_under, _, _, rfl, rfl, ok1000 nb.2.1 na.2.2, _, _, rfl, rfl, _, rfl, x, _, dx, _, _, rfl, hx, T.Exact_cl, T.Exact_n_under, fl_under, _, rfl, _, _, rfl, rfl, ok1000 na.2.2 nb.2.2, ?_⟩
  exact mk_ex (un_ok na nb).1 (un_ok na nb).2 fun v' H2 s2 h2 => k v' H2 (s1.trans s2) h2
theorem ok_Exact_sub (T : Tx K mg) : FnOk P w K mg base CX0 5 T.Exact_sub_a T.Exact_sub_d ["self", "other"] (spBin T.Exact_a fSub) := by
  refine T.Exact_sub_F.ok sc_Exact_sub (fun vs H Q E h => spBin_len h) (fun cdv A outer s H vs Q E hr h => ?_)
  obtain ⟨v, u, a, b, rfl, hv, hu, na, nb, k⟩ := h
  refine ⟨_, (pss_cons (ps_asg (pe_call (ok_parts T) (hr.mono (by decide)) rfl T.parts_m T.parts_F.kp T.parts_b .nil pass0 (pa_cons (pv 1) pa_nil)) (pg_tup (by rfl) (pgs_cons (pg_name (i := 2) sc_Exact_sub.nd rfl (Or.inl rfl)) (pgs_cons (pg_name (i := 3) sc_Exact_sub.nd rfl (Or.inl rfl)) pgs_nil))))
  (pss_one (ps_ret (pe_make T.Exact_mk (ok_Exact_init T) (hr.mono (by decide)) rfl T.Exact_m T.Exact_init_b .nil pass0 (pa_cons (pe_op (op_sub) (pe_op (op_mulG) (pe_fld (pv 0) rfl) (pv 3)) (pe_op (op_mulG) (pv 2) (pe_fld (pv 0) rfl))) (pa_cons (pe_op (op_mulG) (pe_fld (pv 0) rfl) (pv 3)) pa_nil)))))), ?_⟩
  refine ⟨_, rfl, u, b, rfl, hu, fun t H1 s1 ht => ⟨t, _, rfl, .inl (.inl ht), rfl, _, _, rfl, _, _, rfl, rfl, ?_⟩⟩
  obtain ⟨x, dx, rfl, hx⟩ := hv.same s1
  refine ⟨_, rfl, x, _, dx, _, _, rfl, hx, T.Exact_cl, T.Exact_n_over, fl_over, _, rfl, _, _, rfl, rfl, ok1000 na.2.1 nb.2.2, _, rfl, _, rfl, x, _, dx, _, _, rfl, hx, T.Exact_cl, T.Exact_n_under, fl_under, _, _, rfl, rfl, ok1000 nb.2.1 na.2.2, _, _, rfl, rfl, _, rfl, x, _, dx, _, _, rfl, hx, T.Exact_cl, T.Exact_n_under, fl_under, _, rfl, _, _, rfl, rfl, ok1000 na.2.2 nb.2.2, ?_⟩
  exact mk_ex (un_ok na nb).1 (un_ok na nb).2 fun v' H2 s2 h2 => k v' H2 (s1.trans s2) h2
theorem ok_Exact_rsub (T : Tx K mg) : FnOk P w K mg base CX0 5 T.Exact_rsub_a T.Exact_rsub_d ["self", "other"] (spBin T.Exact_a fRsub) := by
  refine T.Exact_rsub_F.ok sc_Exact_rsub (fun vs H Q E h => spBin_len h) (fun cdv A outer s H vs Q E hr h => ?_)
  obtain ⟨v, u, a, b, rfl, hv, hu, na, nb, k⟩ := h
  refine ⟨_, (pss_cons (ps_asg (pe_call (ok_parts T) (hr.mono (by decide)) rfl T.parts_m T.parts_F.kp T.parts_b .nil pass0 (pa_cons (pv 1) pa_nil)) (pg_tup (by rfl) (pgs_cons (pg_name (i := 2) sc_Exact_rsub.nd rfl (Or.inl rfl)) (pgs_cons (pg_name (i := 3) sc_Exact_rsub.nd rfl (Or.inl rfl)) pgs_nil))))
  (pss_one (ps_ret (pe_make T.Exact_mk (ok_Exact_init T) (hr.mono (by decide)) rfl T.Exact_m T.Exact_init_b .nil pass0 (pa_cons (pe_op (op_sub) (pe_op (op_mulG) (pv 2) (pe_fld (pv 0) rfl)) (pe_op (op_mulG) (pe_fld (pv 0) rfl) (pv 3))) (pa_cons (pe_op (op_mulG) (pe_fld (pv 0) rfl) (pv 3)) pa_nil)))))), ?_⟩
  refine ⟨_, rfl, u, b, rfl, hu, fun t H1 s1 ht => ⟨t, _, rfl, .inl (.inl ht), rfl, _, _, rfl, _, _, rfl, rfl, ?_⟩⟩
  obtain ⟨x, dx, rfl, hx⟩ := hv.same s1
  refine ⟨_, rfl, _, rfl, x, _, dx, _, _, rfl, hx, T.Exact_cl, T.Exact_n_under, fl_under, _, _, rfl, rfl, ok1000 nb.2.1 na.2.2, _, rfl, x, _, dx, _, _, rfl, hx, T.Exact_cl, T.Exact_n_over, fl_over, _, rfl, _, _, rfl, rfl, ok1000 na.2.1 nb.2.2, _, _, rfl, rfl, _, rfl, x, _, dx, _, _, rfl, hx, T.Exact_cl, T.Exact_n_under, fl_under, _, rfl, _, _, rfl, rfl, ok1000 na.2.2 nb.2.2, ?_⟩
  exact mk_ex (un_ok na nb).1 (un_ok na nb).2 fun v' H2 s2 h2 => k v' H2 (s1.trans s2) h2
theorem ok_Exact_mul (T : Tx K mg) : FnOk P w K mg base CX0 5 T.Exact_mul_a T.Exact_mul_d ["self", "other"] (spBin T.Exact_a fMul) := by
  refine T.Exact_mul_F.ok sc_Exact_mul (fun vs H Q E h => spBin_len h) (fun cdv A outer s H vs Q E hr h => ?_)
  obtain ⟨v, u, a, b, rfl, hv, hu, na, nb, k⟩ := h
  refine ⟨_, (pss_cons (ps_asg (pe_call (ok_parts T) (hr.mono (by decide)) rfl T.parts_m T.parts_F.kp T.parts_b .nil pass0 (pa_cons (pv 1) pa_nil)) (pg_tup (by rfl) (pgs_cons (pg_name (i := 2) sc_Exact_mul.nd rfl (Or.inl rfl)) (pgs_cons (pg_name (i := 3) sc_Exact_mul.nd rfl (Or.inl rfl)) pgs_nil))))
  (pss_one (ps_ret (pe_make T.Exact_mk (ok_Exact_init T) (hr.mono (by decide)) rfl T.Exact_m T.Exact_init_b .nil pass0 (pa_cons (pe_op (op_mulG) (pe_fld (pv 0) rfl) (pv 2)) (pa_cons (pe_op (op_mulG) (pe_fld (pv 0) rfl) (pv 3)) pa_nil)))))), ?_⟩
  refine ⟨_, rfl, u, b, rfl, hu, fun t H1 s1 ht => ⟨t, _, rfl, .inl (.inl ht), rfl, _, _, rfl, _, _, rfl, rfl, ?_⟩⟩
  obtain ⟨x, dx, rfl, hx⟩ := hv.same s1
  refine ⟨_, rfl, x, _, dx, _, _, rfl, hx, T.Exact_cl, T.Exact_n_over, fl_over, _, rfl, _, _, rfl, rfl, ok1000 na.2.1 nb.2.1, _, rfl, x, _, dx, _, _, rfl, hx, T.Exact_cl, T.Exact_n_under, fl_under, _, rfl, _, _, rfl, rfl, ok1000 na.2.2 nb.2.2, ?_⟩
  exact mk_ex (un_ok na nb).1 (un_ok na nb).2 fun v' H2 s2 h2 => k v' H2 (s1.trans s2) h2
theorem ok_Exact_radd (T : Tx K mg) : FnOk P w K mg base CX0 6 T.Exact_radd_a T.Exact_radd_d ["self", "other"] (spBin T.Exact_a fAdd) := by
  refine T.Exact_radd_F.ok sc_Exact_radd (fun vs H Q E h => spBin_len h) (fun cdv A outer s H vs Q E hr h => ?_)
  obtain ⟨v, u, a, b, rfl, hv, hu, na, nb, k⟩ := h
  refine ⟨_, (pss_one (ps_ret (pe_op (op_gyD T.op_add (ok_Exact_add T) (hr.mono (by decide)) T.Exact_add_b pass0) (pv 0) (pv 1)))), ?_⟩
  obtain ⟨x, dx, rfl, hx⟩ := id hv
  refine ⟨_, rfl, _, rfl, x, dx, _, rfl, hx, ?_, _, _, a, b, rfl, hv, hu, na, nb, k⟩
  rcases hu.cases with ⟨rfl, _⟩ | ⟨y, dy, rfl, hy⟩
  · exact .inr ⟨_, rfl⟩
  · exact .inl ⟨y, dy, _, rfl, hy⟩
theorem ok_Exact_rmul (T : Tx K mg) : FnOk P w K mg base CX0 6 T.Exact_rmul_a T.Exact_rmul_d ["self", "other"] (spBin T.Exact_a fMul) := by
  refine T.Exact_rmul_F.ok sc_Exact_rmul (fun vs H Q E h => spBin_len h) (fun cdv A outer s H vs Q E hr h => ?_)
  obtain ⟨v, u, a, b, rfl, hv, hu, na, nb, k⟩ := h
  refine ⟨_, (pss_one (ps_ret (pe_op (op_gyD T.op_mul (ok_Exact_mul T) (hr.mono (by decide)) T.Exact_mul_b pass0) (pv 0) (pv 1)))), ?_⟩
  obtain ⟨x, dx, rfl, hx⟩ := id hv
  refine ⟨_, rfl, _, rfl, x, dx, _, rfl, hx, ?_, _, _, a, b, rfl, hv, hu, na, nb, k⟩
  rcases hu.cases with ⟨rfl, _⟩ | ⟨y, dy, rfl, hy⟩
  · exact .inr ⟨_, rfl⟩
  · exact .inl ⟨y, dy, _, rfl, hy⟩
def spNeg (C : Addr) : Sp := fun vs H Q _ => ∃ v a, vs = [v] ∧ ExAt C H v a ∧ Nm a ∧ ∀ v' H', Same H H' → ExAt C H' v' (red (-a.1) a.2) → Q v' H'
theorem ok_Exact_neg (T : Tx K mg) : FnOk P w K mg base CX0 5 T.Exact_neg_a T.Exact_neg_d ["self"] (spNeg T.Exact_a) := by
  refine T.Exact_neg_F.ok sc_Exact_neg (fun vs H Q E h => ?_) (fun cdv A outer s H vs Q E hr h => ?_)
  · obtain ⟨v, a, rfl, _⟩ := h
    rfl
  · obtain ⟨v, a, rfl, hv, na, k⟩ := h
    refine ⟨_, (pss_one (ps_ret (pe_make T.Exact_mk (ok_Exact_init T) (hr.mono (by decide)) rfl T.Exact_m T.Exact_init_b .nil pass0 (pa_cons (pe_un (un_neg) (pe_fld (pv 0) rfl)) (pa_cons (pe_fld (pv 0) rfl) pa_nil))))), ?_⟩
    obtain ⟨x, dx, rfl, hx⟩ := hv
    refine ⟨_, rfl, x, _, dx, _, _, rfl, hx, T.Exact_cl, T.Exact_n_over, fl_over, _, rfl, _, rfl, x, _, dx, _, _, rfl, hx, T.Exact_cl, T.Exact_n_under, fl_under, ?_⟩
    exact mk_ex (Int.ne_of_gt na.1) (sz_up na.2.2 (by decide)) fun v' H2 s2 h2 => k v' H2 s2 h2
/-- the quotient, the divisor not 0 -/
def spBy (C : Addr) : Sp := fun vs H Q _ => ∃ v u a b, vs = [v, u] ∧ ExAt C H v a ∧ NumAt C H u b ∧ Nm a ∧ Nm b ∧ b.1 ≠ 0 ∧ ∀ v' H', Same H H' → ExAt C H' v' (red (fBy a b).1 (fBy a b).2) → Q v' H'
/-- a number as it is told: an int, or an Exact -/
def ToldAt (C : Addr) (H : Hp) (v : V) (p : Int × Int) : Prop := (p.2 = 1 ∧ v = .int p.1) ∨ (p.2 ≠ 1 ∧ ExAt C H v p)
theorem ToldAt.same {C : Addr} {H H' : Hp} {v : V} {p : Int × Int} (h : ToldAt C H v p) (e : Same H H') : ToldAt C H' v p := h.elim .inl fun z => .inr ⟨z.1, z.2.same e⟩
theorem ToldAt.num {C : Addr} {H : Hp} {v : V} {p : Int × Int} (h : ToldAt C H v p) : NumAt C H v p := h.elim (fun z => .inl ⟨z.2, z.1⟩) fun z => .inr z.2
def spPlain (C : Addr) : Sp := fun vs H Q _ => ∃ v p, vs = [v] ∧ NumAt C H v p ∧ Rd p ∧ p.2.natAbs < 2 ^ 8000 ∧ ∀ v' H', Same H H' → ToldAt C H' v' p → Q v' H'
theorem ok_plain (T : Tx K mg) : FnOk P w K mg base CX0 5 T.plain_a T.plain_d ["number"] (spPlain T.Exact_a) := by
  refine T.plain_F.ok sc_plain (fun vs H Q E h => ?_) (fun cdv A outer s H vs Q E hr h => ?_)
  · obtain ⟨v, p, rfl, _⟩ := h
    rfl
  · obtain ⟨v, p, rfl, hv, rd, sz, k⟩ := h
    refine ⟨_, (pss_cons (ps_asg (pe_call (ok_parts T) (hr.mono (by decide)) rfl T.parts_m T.parts_F.kp T.parts_b .nil pass0 (pa_cons (pv 0) pa_nil)) (pg_tup (by rfl) (pgs_cons (pg_name (i := 1) sc_plain.nd rfl (Or.inl rfl)) (pgs_cons (pg_name (i := 2) sc_plain.nd rfl (Or.inl rfl)) pgs_nil))))
  (pss_cons (ps_if (pt_cmpR op_eq (pv 2) pe_int (nomark _))
  (pss_one (ps_ret (pv 1)))
  pss_nil)
  (pss_one (ps_ret (pe_make T.Exact_mk (ok_Exact_init T) (hr.mono (by decide)) rfl T.Exact_m T.Exact_init_b .nil pass0 (pa_cons (pv 1) (pa_cons (pv 2) pa_nil))))))), ?_⟩
    refine ⟨_, rfl, v, p, rfl, hv, fun t H1 s1 ht => ⟨t, _, rfl, .inl (.inl ht), rfl, _, _, rfl, _, _, rfl, rfl, ?_⟩⟩
    refine ⟨_, rfl, rfl, _, rfl, ?_⟩
    by_cases h1 : p.2 = 1
    · rw [show decide (V.int p.2 = V.int 1) = true by simp [h1]]
      refine iteT ?_
      exact ⟨_, rfl, k _ H1 s1 (.inl ⟨h1, rfl⟩)⟩
    · rw [show decide (V.int p.2 = V.int 1) = false by simp [h1]]
      refine iteF ?_
      refine ⟨_, rfl, _, rfl, ?_⟩
      exact mk_ex (Int.ne_of_gt rd.1) sz fun v' H2 s2 h2 => k v' H2 (s1.trans s2) (.inr ⟨h1, by rw [red_self rd] at h2; exact h2⟩)


end


section
variable {P : Program} {w : World} {K : PySem.W.Frag} {mg : Str → Option Value} {base : Heap}
/-! ### the law's draws -/
theorem cut63 (ns : List Int) (h : ns.length ≤ 63) : cutV (ns.map V.int) none (some 63) = ns.map V.int := by
  have hl : (ns.map V.int).length = ns.length := List.length_map ..
  have e : HT.sIx (ns.map V.int).length (ns.map V.int).length (some (63 : Int)) = (ns.map V.int).length := by
    have := HT.sIx_nat (ns.map V.int).length (ns.map V.int).length 63
    rw [show (((63 : Nat) : Int)) = (63 : Int) from rfl] at this
    rw [this, hl]
    omega
  unfold cutV
  rw [e, HT.sIx_none, Nat.sub_zero, List.drop_zero, List.take_length]
def spFresh (K : PySem.W.Frag) : Sp := fun vs H Q _ => ∃ (a : Addr) (ns : List Int), vs = [.ref a] ∧ SqL K H a (ns.map V.int) ∧ ns.length ≤ 63 ∧ ∀ st c H', Same H H' → StAt H' st c ns → Q (.ref st) H'
theorem ok_law_fresh (T : Tx K mg) : FnOk P w K mg base CX0 1 T.law_fresh_a T.law_fresh_d ["_law_script"] (spFresh K) := by
  refine T.law_fresh_F.ok sc_law_fresh (fun vs H Q E h => ?_) (fun cdv A outer s H vs Q E hr h => ?_)
  · obtain ⟨a, ns, rfl, _⟩ := h
    rfl
  · obtain ⟨a, ns, rfl, hS, hl, k⟩ := h
    refine ⟨_, (pss_one (ps_ret (pe_lst (pa_cons (pe_slice sl_list (pv 0) po_none (po_some pe_int)) (pa_cons pe_int (pa_cons pe_int (pa_cons pe_bl pa_nil))))))), ?_⟩
    refine ⟨_, rfl, 63, rfl, a, _, rfl, hS, fun c nc => ?_⟩
    refine ⟨(by show 4 ≤ sizeLine; decide), fun st ns' => ?_⟩
    have hne : c ≠ st := ne_of_none upd_same ns'
    refine k st c _ (Same.trans (same_upd nc) (same_upd ns')) ⟨⟨0, 0, false, upd_same⟩, ?_, hne⟩
    rw [upd_ne hne, upd_same, cut63 ns hl]
theorem prime_at {i : Nat} {x : V} (h : ([.int 2147483647, .int 2147483629, .int 2147483587, .int 2147483579, .int 2147483563] : List V)[i]? = some x) : ∃ p : Int, x = .int p ∧ 0 < p ∧ p < 2 ^ 31 ∧ i < 5 := by
  match i, h with
  | 0, h => exact ⟨_, (Option.some.inj h).symm, by decide, by decide, by decide⟩
  | 1, h => exact ⟨_, (Option.some.inj h).symm, by decide, by decide, by decide⟩
  | 2, h => exact ⟨_, (Option.some.inj h).symm, by decide, by decide, by decide⟩
  | 3, h => exact ⟨_, (Option.some.inj h).symm, by decide, by decide, by decide⟩
  | 4, h => exact ⟨_, (Option.some.inj h).symm, by decide, by decide, by decide⟩
def spFill : Sp := fun vs H Q _ => ∃ (st c : Addr) (ns : List Int), vs = [.ref st] ∧ StAt H st c ns ∧ ns.length ≤ 63 ∧ ∀ H', StAt H' st c ns → Keep st H H' → Q .non H'
theorem ok_law_fill (T : Tx K mg) : FnOk P w K mg base CX0 1 T.law_fill_a T.law_fill_d ["_law_state"] spFill := by
  refine T.law_fill_F.ok sc_law_fill (fun vs H Q E h => ?_) (fun cdv A outer s H vs Q E hr h => ?_)
  · obtain ⟨st, c, ns, rfl, _⟩ := h
    rfl
  · obtain ⟨st, c, ns, rfl, ⟨⟨nth, left, mx, hL⟩, hc, hne⟩, hl, k⟩ := h
    refine ⟨_, (pss_cons (ps_par (i := 1) (j := 2) (by rfl) sc_law_fill.nd rfl rfl (by decide) rfl rfl (pa_cons (pe_ix ix_list (pv 0) pe_int (fun _ _ => rfl)) (pa_cons (pe_ix ix_list (pv 0) pe_int (fun _ _ => rfl)) pa_nil)) (by rfl))
  (pss_cons (ps_set (i := 3) sc_law_fill.nd rfl (Or.inl rfl) (pe_op (op_add) (pe_op (op_mulG) pe_int (pv 2)) pe_int))
  (pss_cons (ps_if (pt_cmpR op_gt (pe_callB (call_len_seq) (by rfl) T.z_len (by decide +kernel) (pa_cons (pv 1) pa_nil)) pe_int (nomark _))
  (pss_one (ps_set (i := 3) sc_law_fill.nd rfl (Or.inl rfl) (pe_op (op_add) (pe_op (op_mulG) pe_int (pe_op (op_fdivG) (pv 2) (pe_callB (call_len_seq) (by rfl) T.z_len (by decide +kernel) (pa_cons (pv 1) pa_nil)))) (pe_ix ix_list (pv 1) (pe_op (op_modN) (pe_callTy call_int1 (by rfl) T.z_int (by decide +kernel) (pa_cons (pv 2) pa_nil)) (pe_callB (call_len_seq) (by rfl) T.z_len (by decide +kernel) (pa_cons (pv 1) pa_nil))) (fun _ _ => rfl)))))
  pss_nil)
  (pss_cons (ps_asg (pe_op (op_add) (pv 2) pe_int) (pg_sub (pv 0) pe_int set_list))
  (pss_cons (ps_asg (pe_or (pe_cmpR op_ge (pv 2) (pe_callB (call_len_seq) (by rfl) T.z_len (by decide +kernel) (pa_cons (pv 1) pa_nil)) (nomark _)) (pe_one (pe_cmpR op_lt (pv 3) (pe_op (op_pow) pe_int pe_int) (nomark _)))) (pg_sub (pv 0) pe_int set_list))
  (pss_cons (ps_asg (pe_op (op_sub) (pv 3) (pe_op (op_pow) pe_int pe_int)) (pg_sub (pv 0) pe_int set_list))
  (pss_one (ps_if (pt_val (pe_ix ix_list (pv 0) pe_int (fun _ _ => rfl)))
  (pss_cons (ps_asg pe_int (pg_sub (pv 0) pe_int set_list))
  (pss_one (ps_for PassesOwn.never rfl (pi_enumT (by rfl) T.z_enumerate (pa_cons (pe_tup (pa_cons pe_int (pa_cons pe_int (pa_cons pe_int (pa_cons pe_int (pa_cons pe_int pa_nil)))))) pa_nil)) (pg_tup (by rfl) (pgs_cons (pg_name (i := 4) sc_law_fill.nd rfl (Or.inl rfl)) (pgs_cons (pg_name (i := 5) sc_law_fill.nd rfl (Or.inl rfl)) pgs_nil)))
  (pss_cons (ps_set (i := 6) sc_law_fill.nd rfl (Or.inl rfl) (pe_op (op_modN) (pe_callTy call_int1 (by rfl) T.z_int (by decide +kernel) (pa_cons (pe_op (op_mulG) (pe_op (op_add) (pe_op (op_add) (pv 3) (pe_op (op_mulG) (pe_op (op_mulG) pe_int (pv 4)) (pv 4))) (pe_op (op_mulG) pe_int (pv 4))) (pe_op (op_add) pe_int (pe_op (op_mulG) pe_int (pv 4)))) pa_nil)) (pv 5)))
  (pss_one (ps_asg (pe_op (op_add) (pe_op (op_mulG) (pe_ix ix_list (pv 0) pe_int (fun _ _ => rfl)) (pv 5)) (pe_op (op_modN) (pe_callTy call_int1 (by rfl) T.z_int (by decide +kernel) (pa_cons (pe_op (op_pow) (pv 6) pe_int) pa_nil)) (pv 5))) (pg_sub (pv 0) pe_int set_list)))))))
  pss_nil)))))))), ?_⟩
    refine ⟨_, rfl, st, _, _, _, rfl, rfl, .inl (.inl hL), rfl, _, rfl, st, _, _, _, rfl, rfl, .inl (.inl hL), rfl, _, _, rfl, ?_⟩
    refine ⟨_, rfl, _, _, rfl, rfl, mulOk_l ⟨by decide, by decide⟩, _, _, rfl, rfl, ?_⟩
    refine ⟨_, rfl, c, _, rfl, .inl (.inl (.inl hc)), _, _, rfl, rfl, _, rfl, ?_⟩
    have hcU : ∀ o, (upd H st o) c = some (.lst (ns.map V.int)) := fun o => by rw [upd_ne hne]; exact hc
    -- what comes behind the seed, whatever it is
    have tail : ∀ (mx' : Bool) (H1 : Hp), Keep st H H1 → (∃ left, H1 st = some (.lst [.ref c, .int (nth + 1), .int left, .bl mx'])) → Q .non H1 := fun mx' H1 kp ⟨l, hl⟩ =>
      k H1 ⟨⟨_, _, _, hl⟩, kp c _ hc hne, hne⟩ kp
    refine ite2 (fun h0 => ?_) (fun h0 => ?_)
    · have h0 : (0 : Int) < ((ns.map V.int).length : Int) := of_decide_eq_true h0
      have hlen : (ns.map V.int).length = ns.length := List.length_map ..
      have hn0 : ((ns.map V.int).length : Int) ≠ 0 := by omega
      have f1 := Int.fmod_nonneg_of_pos nth h0
      have f2 := Int.fmod_lt_of_pos nth h0
      obtain ⟨j, hj⟩ : ∃ j : Nat, nth.fmod ((ns.map V.int).length : Int) = (j : Int) := ⟨_, (Int.toNat_of_nonneg f1).symm⟩
      have hjl : j < ns.length := by omega
      have hat : atI (ns.map V.int) (nth.fmod ((ns.map V.int).length : Int)) = some (.int ns[j]) := by
        rw [hj]
        exact atI_nat (by rw [List.getElem?_map, List.getElem?_eq_getElem hjl]; rfl)
      refine ⟨_, rfl, _, rfl, c, _, rfl, .inl (.inl (.inl hc)), _, _, rfl, rfl, gDiv_lt (b := 6) hn0 (by rw [hlen]; show ns.length < 64; omega) (by decide) (by decide), _, _, rfl, rfl, mulOk_l ⟨by decide, by decide⟩,
        _, rfl, _, rfl, .inl ⟨_, rfl, _, rfl, c, _, rfl, .inl (.inl (.inl hc)), _, _, rfl, rfl, hn0, c, _, _, _, rfl, rfl, .inl (.inl hc), hat, _, _, rfl, rfl, ?_⟩⟩
      -- the place is counted on
      refine ⟨_, rfl, _, _, rfl, rfl, _, rfl, st, _, 1, 1, rfl, rfl, hL, rfl, ?_⟩
      -- is it mixed
      refine ⟨_, rfl, _, rfl, c, _, rfl, .inl (.inl (.inl (hcU _))), _, _, rfl, rfl, _, rfl, ?_⟩
      refine ite2 (fun h1 => ?_) (fun h1 => ?_)
      · refine ⟨_, rfl, st, _, 3, 3, rfl, rfl, upd_same, rfl, ?_⟩
        refine ⟨_, rfl, _, _, rfl, rfl, ⟨by decide, by decide, by decide⟩, _, _, rfl, rfl, _, rfl, st, _, 2, 2, rfl, rfl, upd_same, rfl, ?_⟩
        refine ⟨_, rfl, st, _, _, _, rfl, rfl, .inl (.inl upd_same), rfl, _, rfl, ?_⟩
        refine iteT ?_
        refine ⟨_, rfl, st, _, 2, 2, rfl, rfl, upd_same, rfl, ?_⟩
        refine ⟨(by show 5 ≤ sizeLine; decide), fun t nt => ?_⟩
        refine ⟨t, _, rfl, .inl (.inl upd_same), for_enumT (K := K) (a := t) (xs := [.int 2147483647, .int 2147483629, .int 2147483587, .int 2147483579, .int 2147483563]) (fun i σ H2 => ∃ kk pp ff l b seed, σ = [some (.ref st), some (.ref c), some (.int nth), some (.int seed), kk, pp, ff] ∧ H2 st = some (.lst [.ref c, .int (nth + 1), .int l, .bl b]) ∧
          H2 t = some (.tup [.int 2147483647, .int 2147483629, .int 2147483587, .int 2147483579, .int 2147483563]) ∧ Keep st H H2) ⟨_, _, _, _, _, _, rfl, (upd_ne (ne_of_none upd_same nt)).trans upd_same, upd_same, ?_⟩ (fun i σ H2 _ ⟨_, _, _, _, _, _, _, _, ht, _⟩ => .inl (.inl ht)) ?_ ?_⟩
        · exact fun b o e n => same_upd nt b o (by rw [upd_ne n, upd_ne n, upd_ne n, upd_ne n]; exact e)
        · rintro i x σ H2 T' hx ⟨kk, pp, ff, l, b, seed, rfl, hS, hT, kp⟩ nT
          obtain ⟨p, rfl, p0, p1, i5⟩ := prime_at hx
          refine ⟨T', _, rfl, .inl (.inl upd_same), rfl, _, _, rfl, _, _, rfl, rfl, ?_⟩
          have hS' : ∀ o, (upd H2 T' o) st = some (.lst [.ref c, .int (nth + 1), .int l, .bl b]) := fun o => by rw [upd_ne (ne_of_none hS nT)]; exact hS
          have f1 : ∀ z : Int, 0 ≤ z.fmod p := fun z => Int.fmod_nonneg_of_pos z p0
          have f2 : ∀ z : Int, z.fmod p < p := fun z => Int.fmod_lt_of_pos z p0
          refine ⟨_, rfl, _, rfl, _, _, rfl, rfl, mulOk_l ⟨by decide, by decide⟩, _, rfl, _, _, rfl, rfl, mulOk_r ⟨by omega, by omega⟩, _, _, rfl, rfl, _, rfl, _, _, rfl, rfl, mulOk_l ⟨by decide, by decide⟩, _, _, rfl, rfl,
            _, rfl, _, _, rfl, rfl, mulOk_l ⟨by decide, by decide⟩, _, _, rfl, rfl, _, _, rfl, rfl, mulOk_r ⟨by omega, by omega⟩, .inl ⟨_, rfl, _, rfl, _, _, rfl, rfl, by omega, ?_⟩⟩
          refine ⟨_, rfl, st, _, _, _, rfl, rfl, .inl (.inl (hS' _)), rfl, _, rfl, _, _, rfl, rfl, mulOk_r ⟨by omega, by omega⟩, _, rfl, _, _, rfl, rfl, ⟨by decide, by decide, ?_⟩, .inl ⟨_, rfl, _, rfl, _, _, rfl, rfl, by omega, _, _, rfl, rfl, _, rfl, st, _, 2, 2, rfl, rfl, hS' _, rfl, ?_⟩⟩
          · have g1 := f1 ((seed + 10007 * (i : Int) * (i : Int) + 101 * (i : Int)) * (48271 + 2 * (i : Int)))
            have g2 := f2 ((seed + 10007 * (i : Int) * (i : Int) + 101 * (i : Int)) * (48271 + 2 * (i : Int)))
            omega
          · refine ⟨_, _, _, _, _, _, rfl, upd_same, ?_, fun b' o e n => ?_⟩
            · rw [upd_ne (ne_of hT hS (by intro z; cases z)), upd_ne (ne_of_none hT nT)]
              exact hT
            · rw [upd_ne n]
              exact same_upd nT b' o (kp b' o e n)
        · rintro σ H2 ⟨kk, pp, ff, l, b, seed, rfl, hS, hT, kp⟩
          exact tail b H2 kp ⟨l, hS⟩
      · refine ⟨_, rfl, _, _, rfl, rfl, ⟨by decide, by decide, by decide⟩, _, _, rfl, rfl, _, rfl, st, _, 3, 3, rfl, rfl, upd_same, rfl, ?_⟩
        refine ⟨_, rfl, _, _, rfl, rfl, ⟨by decide, by decide, by decide⟩, _, _, rfl, rfl, _, rfl, st, _, 2, 2, rfl, rfl, upd_same, rfl, ?_⟩
        refine ⟨_, rfl, st, _, _, _, rfl, rfl, .inl (.inl upd_same), rfl, _, rfl, ?_⟩
        refine ite2 (fun h2 => ?_) (fun h2 => ?_)
        · skip
          refine ⟨_, rfl, st, _, 2, 2, rfl, rfl, upd_same, rfl, ?_⟩
          refine ⟨(by show 5 ≤ sizeLine; decide), fun t nt => ?_⟩
          refine ⟨t, _, rfl, .inl (.inl upd_same), for_enumT (K := K) (a := t) (xs := [.int 2147483647, .int 2147483629, .int 2147483587, .int 2147483579, .int 2147483563]) (fun i σ H2 => ∃ kk pp ff l b seed, σ = [some (.ref st), some (.ref c), some (.int nth), some (.int seed), kk, pp, ff] ∧ H2 st = some (.lst [.ref c, .int (nth + 1), .int l, .bl b]) ∧
            H2 t = some (.tup [.int 2147483647, .int 2147483629, .int 2147483587, .int 2147483579, .int 2147483563]) ∧ Keep st H H2) ⟨_, _, _, _, _, _, rfl, (upd_ne (ne_of_none upd_same nt)).trans upd_same, upd_same, ?_⟩ (fun i σ H2 _ ⟨_, _, _, _, _, _, _, _, ht, _⟩ => .inl (.inl ht)) ?_ ?_⟩
          · exact fun b o e n => same_upd nt b o (by rw [upd_ne n, upd_ne n, upd_ne n, upd_ne n]; exact e)
          · rintro i x σ H2 T' hx ⟨kk, pp, ff, l, b, seed, rfl, hS, hT, kp⟩ nT
            obtain ⟨p, rfl, p0, p1, i5⟩ := prime_at hx
            refine ⟨T', _, rfl, .inl (.inl upd_same), rfl, _, _, rfl, _, _, rfl, rfl, ?_⟩
            have hS' : ∀ o, (upd H2 T' o) st = some (.lst [.ref c, .int (nth + 1), .int l, .bl b]) := fun o => by rw [upd_ne (ne_of_none hS nT)]; exact hS
            have f1 : ∀ z : Int, 0 ≤ z.fmod p := fun z => Int.fmod_nonneg_of_pos z p0
            have f2 : ∀ z : Int, z.fmod p < p := fun z => Int.fmod_lt_of_pos z p0
            refine ⟨_, rfl, _, rfl, _, _, rfl, rfl, mulOk_l ⟨by decide, by decide⟩, _, rfl, _, _, rfl, rfl, mulOk_r ⟨by omega, by omega⟩, _, _, rfl, rfl, _, rfl, _, _, rfl, rfl, mulOk_l ⟨by decide, by decide⟩, _, _, rfl, rfl,
              _, rfl, _, _, rfl, rfl, mulOk_l ⟨by decide, by decide⟩, _, _, rfl, rfl, _, _, rfl, rfl, mulOk_r ⟨by omega, by omega⟩, .inl ⟨_, rfl, _, rfl, _, _, rfl, rfl, by omega, ?_⟩⟩
            refine ⟨_, rfl, st, _, _, _, rfl, rfl, .inl (.inl (hS' _)), rfl, _, rfl, _, _, rfl, rfl, mulOk_r ⟨by omega, by omega⟩, _, rfl, _, _, rfl, rfl, ⟨by decide, by decide, ?_⟩, .inl ⟨_, rfl, _, rfl, _, _, rfl, rfl, by omega, _, _, rfl, rfl, _, rfl, st, _, 2, 2, rfl, rfl, hS' _, rfl, ?_⟩⟩
            · have g1 := f1 ((seed + 10007 * (i : Int) * (i : Int) + 101 * (i : Int)) * (48271 + 2 * (i : Int)))
              have g2 := f2 ((seed + 10007 * (i : Int) * (i : Int) + 101 * (i : Int)) * (48271 + 2 * (i : Int)))
              omega
            · refine ⟨_, _, _, _, _, _, rfl, upd_same, ?_, fun b' o e n => ?_⟩
              · rw [upd_ne (ne_of hT hS (by intro z; cases z)), upd_ne (ne_of_none hT nT)]
                exact hT
              · rw [upd_ne n]
                exact same_upd nT b' o (kp b' o e n)
          · rintro σ H2 ⟨kk, pp, ff, l, b, seed, rfl, hS, hT, kp⟩
            exact tail b H2 kp ⟨l, hS⟩
        · exact tail _ _ (fun b o e n => by rw [upd_ne n, upd_ne n, upd_ne n]; exact e) ⟨_, upd_same⟩
    · skip
      -- the place is counted on
      refine ⟨_, rfl, _, _, rfl, rfl, _, rfl, st, _, 1, 1, rfl, rfl, hL, rfl, ?_⟩
      -- is it mixed
      refine ⟨_, rfl, _, rfl, c, _, rfl, .inl (.inl (.inl (hcU _))), _, _, rfl, rfl, _, rfl, ?_⟩
      refine ite2 (fun h1 => ?_) (fun h1 => ?_)
      · refine ⟨_, rfl, st, _, 3, 3, rfl, rfl, upd_same, rfl, ?_⟩
        refine ⟨_, rfl, _, _, rfl, rfl, ⟨by decide, by decide, by decide⟩, _, _, rfl, rfl, _, rfl, st, _, 2, 2, rfl, rfl, upd_same, rfl, ?_⟩
        refine ⟨_, rfl, st, _, _, _, rfl, rfl, .inl (.inl upd_same), rfl, _, rfl, ?_⟩
        refine iteT ?_
        refine ⟨_, rfl, st, _, 2, 2, rfl, rfl, upd_same, rfl, ?_⟩
        refine ⟨(by show 5 ≤ sizeLine; decide), fun t nt => ?_⟩
        refine ⟨t, _, rfl, .inl (.inl upd_same), for_enumT (K := K) (a := t) (xs := [.int 2147483647, .int 2147483629, .int 2147483587, .int 2147483579, .int 2147483563]) (fun i σ H2 => ∃ kk pp ff l b seed, σ = [some (.ref st), some (.ref c), some (.int nth), some (.int seed), kk, pp, ff] ∧ H2 st = some (.lst [.ref c, .int (nth + 1), .int l, .bl b]) ∧
          H2 t = some (.tup [.int 2147483647, .int 2147483629, .int 2147483587, .int 2147483579, .int 2147483563]) ∧ Keep st H H2) ⟨_, _, _, _, _, _, rfl, (upd_ne (ne_of_none upd_same nt)).trans upd_same, upd_same, ?_⟩ (fun i σ H2 _ ⟨_, _, _, _, _, _, _, _, ht, _⟩ => .inl (.inl ht)) ?_ ?_⟩
        · exact fun b o e n => same_upd nt b o (by rw [upd_ne n, upd_ne n, upd_ne n, upd_ne n]; exact e)
        · rintro i x σ H2 T' hx ⟨kk, pp, ff, l, b, seed, rfl, hS, hT, kp⟩ nT
          obtain ⟨p, rfl, p0, p1, i5⟩ := prime_at hx
          refine ⟨T', _, rfl, .inl (.inl upd_same), rfl, _, _, rfl, _, _, rfl, rfl, ?_⟩
          have hS' : ∀ o, (upd H2 T' o) st = some (.lst [.ref c, .int (nth + 1), .int l, .bl b]) := fun o => by rw [upd_ne (ne_of_none hS nT)]; exact hS
          have f1 : ∀ z : Int, 0 ≤ z.fmod p := fun z => Int.fmod_nonneg_of_pos z p0
          have f2 : ∀ z : Int, z.fmod p < p := fun z => Int.fmod_lt_of_pos z p0
          refine ⟨_, rfl, _, rfl, _, _, rfl, rfl, mulOk_l ⟨by decide, by decide⟩, _, rfl, _, _, rfl, rfl, mulOk_r ⟨by omega, by omega⟩, _, _, rfl, rfl, _, rfl, _, _, rfl, rfl, mulOk_l ⟨by decide, by decide⟩, _, _, rfl, rfl,
            _, rfl, _, _, rfl, rfl, mulOk_l ⟨by decide, by decide⟩, _, _, rfl, rfl, _, _, rfl, rfl, mulOk_r ⟨by omega, by omega⟩, .inl ⟨_, rfl, _, rfl, _, _, rfl, rfl, by omega, ?_⟩⟩
          refine ⟨_, rfl, st, _, _, _, rfl, rfl, .inl (.inl (hS' _)), rfl, _, rfl, _, _, rfl, rfl, mulOk_r ⟨by omega, by omega⟩, _, rfl, _, _, rfl, rfl, ⟨by decide, by decide, ?_⟩, .inl ⟨_, rfl, _, rfl, _, _, rfl, rfl, by omega, _, _, rfl, rfl, _, rfl, st, _, 2, 2, rfl, rfl, hS' _, rfl, ?_⟩⟩
          · have g1 := f1 ((seed + 10007 * (i : Int) * (i : Int) + 101 * (i : Int)) * (48271 + 2 * (i : Int)))
            have g2 := f2 ((seed + 10007 * (i : Int) * (i : Int) + 101 * (i : Int)) * (48271 + 2 * (i : Int)))
            omega
          · refine ⟨_, _, _, _, _, _, rfl, upd_same, ?_, fun b' o e n => ?_⟩
            · rw [upd_ne (ne_of hT hS (by intro z; cases z)), upd_ne (ne_of_none hT nT)]
              exact hT
            · rw [upd_ne n]
              exact same_upd nT b' o (kp b' o e n)
        · rintro σ H2 ⟨kk, pp, ff, l, b, seed, rfl, hS, hT, kp⟩
          exact tail b H2 kp ⟨l, hS⟩
      · refine ⟨_, rfl, _, _, rfl, rfl, ⟨by decide, by decide, by decide⟩, _, _, rfl, rfl, _, rfl, st, _, 3, 3, rfl, rfl, upd_same, rfl, ?_⟩
        refine ⟨_, rfl, _, _, rfl, rfl, ⟨by decide, by decide, by decide⟩, _, _, rfl, rfl, _, rfl, st, _, 2, 2, rfl, rfl, upd_same, rfl, ?_⟩
        refine ⟨_, rfl, st, _, _, _, rfl, rfl, .inl (.inl upd_same), rfl, _, rfl, ?_⟩
        refine ite2 (fun h2 => ?_) (fun h2 => ?_)
        · skip
          refine ⟨_, rfl, st, _, 2, 2, rfl, rfl, upd_same, rfl, ?_⟩
          refine ⟨(by show 5 ≤ sizeLine; decide), fun t nt => ?_⟩
          refine ⟨t, _, rfl, .inl (.inl upd_same), for_enumT (K := K) (a := t) (xs := [.int 2147483647, .int 2147483629, .int 2147483587, .int 2147483579, .int 2147483563]) (fun i σ H2 => ∃ kk pp ff l b seed, σ = [some (.ref st), some (.ref c), some (.int nth), some (.int seed), kk, pp, ff] ∧ H2 st = some (.lst [.ref c, .int (nth + 1), .int l, .bl b]) ∧
            H2 t = some (.tup [.int 2147483647, .int 2147483629, .int 2147483587, .int 2147483579, .int 2147483563]) ∧ Keep st H H2) ⟨_, _, _, _, _, _, rfl, (upd_ne (ne_of_none upd_same nt)).trans upd_same, upd_same, ?_⟩ (fun i σ H2 _ ⟨_, _, _, _, _, _, _, _, ht, _⟩ => .inl (.inl ht)) ?_ ?_⟩
          · exact fun b o e n => same_upd nt b o (by rw [upd_ne n, upd_ne n, upd_ne n, upd_ne n]; exact e)
          · rintro i x σ H2 T' hx ⟨kk, pp, ff, l, b, seed, rfl, hS, hT, kp⟩ nT
            obtain ⟨p, rfl, p0, p1, i5⟩ := prime_at hx
            refine ⟨T', _, rfl, .inl (.inl upd_same), rfl, _, _, rfl, _, _, rfl, rfl, ?_⟩
            have hS' : ∀ o, (upd H2 T' o) st = some (.lst [.ref c, .int (nth + 1), .int l, .bl b]) := fun o => by rw [upd_ne (ne_of_none hS nT)]; exact hS
            have f1 : ∀ z : Int, 0 ≤ z.fmod p := fun z => Int.fmod_nonneg_of_pos z p0
            have f2 : ∀ z : Int, z.fmod p < p := fun z => Int.fmod_lt_of_pos z p0
            refine ⟨_, rfl, _, rfl, _, _, rfl, rfl, mulOk_l ⟨by decide, by decide⟩, _, rfl, _, _, rfl, rfl, mulOk_r ⟨by omega, by omega⟩, _, _, rfl, rfl, _, rfl, _, _, rfl, rfl, mulOk_l ⟨by decide, by decide⟩, _, _, rfl, rfl,
              _, rfl, _, _, rfl, rfl, mulOk_l ⟨by decide, by decide⟩, _, _, rfl, rfl, _, _, rfl, rfl, mulOk_r ⟨by omega, by omega⟩, .inl ⟨_, rfl, _, rfl, _, _, rfl, rfl, by omega, ?_⟩⟩
            refine ⟨_, rfl, st, _, _, _, rfl, rfl, .inl (.inl (hS' _)), rfl, _, rfl, _, _, rfl, rfl, mulOk_r ⟨by omega, by omega⟩, _, rfl, _, _, rfl, rfl, ⟨by decide, by decide, ?_⟩, .inl ⟨_, rfl, _, rfl, _, _, rfl, rfl, by omega, _, _, rfl, rfl, _, rfl, st, _, 2, 2, rfl, rfl, hS' _, rfl, ?_⟩⟩
            · have g1 := f1 ((seed + 10007 * (i : Int) * (i : Int) + 101 * (i : Int)) * (48271 + 2 * (i : Int)))
              have g2 := f2 ((seed + 10007 * (i : Int) * (i : Int) + 101 * (i : Int)) * (48271 + 2 * (i : Int)))
              omega
            · refine ⟨_, _, _, _, _, _, rfl, upd_same, ?_, fun b' o e n => ?_⟩
              · rw [upd_ne (ne_of hT hS (by intro z; cases z)), upd_ne (ne_of_none hT nT)]
                exact hT
              · rw [upd_ne n]
                exact same_upd nT b' o (kp b' o e n)
          · rintro σ H2 ⟨kk, pp, ff, l, b, seed, rfl, hS, hT, kp⟩
            exact tail b H2 kp ⟨l, hS⟩
        · exact tail _ _ (fun b o e n => by rw [upd_ne n, upd_ne n, upd_ne n]; exact e) ⟨_, upd_same⟩
def spTake : Sp := fun vs H Q _ => ∃ (st c : Addr) (ns : List Int) (many : Int), vs = [.ref st, .int many] ∧ StAt H st c ns ∧ ns.length ≤ 63 ∧ 0 < many ∧ many.natAbs < 2 ^ 2000 ∧
  ∀ r H', 0 ≤ r → r < many → StAt H' st c ns → Keep st H H' → Q (.int r) H'
theorem ok_law_take (T : Tx K mg) : FnOk P w K mg base CX0 2 T.law_take_a T.law_take_d ["_law_state", "_law_many"] spTake := by
  refine T.law_take_F.ok sc_law_take (fun vs H Q E h => ?_) (fun cdv A outer s H vs Q E hr h => ?_)
  · obtain ⟨st, c, ns, many, rfl, _⟩ := h
    rfl
  · obtain ⟨st, c, ns, many, rfl, hSt, hl, h0, hz, k⟩ := h
    refine ⟨_, (pss_cons (ps_set (i := 2) sc_law_take.nd rfl (Or.inl rfl) pe_int)
  (pss_cons (ps_while PassesOwn.never (PW.pt (pw_and (pt_cmpR op_lt (pv 2) pe_int (nomark _)) (pw_and1 (PW.pt (pw_or (pt_cmpR op_eq (pe_ix ix_list (pv 0) pe_int (fun _ _ => rfl)) pe_int (nomark _)) (pw_or1 (PW.pt (pw_and (pt_val (pe_ix ix_list (pv 0) pe_int (fun _ _ => rfl))) (pw_and1 (pt_cmpR op_lt (pe_ix ix_list (pv 0) pe_int (fun _ _ => rfl)) (pe_op (op_mulG) (pv 1) pe_int) (nomark _)))))))))))
  (pss_cons (ps_expr (pe_call (ok_law_fill T) (hr.mono (by decide)) rfl T.law_fill_m T.law_fill_F.kp T.law_fill_b .nil pass0 (pa_cons (pv 0) pa_nil)))
  (pss_cons (ps_aug (i := 2) sc_law_take.nd rfl (Or.inl rfl) pe_int ip_add)
  (pss_one (ps_if (PW.pt (pw_and (pt_val (pe_ix ix_list (pv 0) pe_int (fun _ _ => rfl))) (pw_and1 (pt_cmpR op_lt (pe_ix ix_list (pv 0) pe_int (fun _ _ => rfl)) (pe_op (op_mulG) (pv 1) pe_int) (nomark _)))))
  (pss_one (ps_asg (pe_op (op_add) (pe_ix ix_list (pv 0) pe_int (fun _ _ => rfl)) (pe_op (op_mulG) (pe_op (op_mulG) (pv 1) pe_int) (pe_op (op_add) pe_int (pe_op (op_modN) (pe_callTy call_int1 (by rfl) T.z_int (by decide +kernel) (pa_cons (pe_ix ix_list (pv 0) pe_int (fun _ _ => rfl)) pa_nil)) pe_int)))) (pg_sub (pv 0) pe_int set_list)))
  pss_nil)))))
  (pss_cons (ps_set (i := 3) sc_law_take.nd rfl (Or.inl rfl) (pe_op (op_modN) (pe_callTy call_int1 (by rfl) T.z_int (by decide +kernel) (pa_cons (pe_ix ix_list (pv 0) pe_int (fun _ _ => rfl)) pa_nil)) (pv 1)))
  (pss_cons (ps_asg (pe_op (op_fdivG) (pe_ix ix_list (pv 0) pe_int (fun _ _ => rfl)) (pv 1)) (pg_sub (pv 0) pe_int set_list))
  (pss_one (ps_ret (pv 3))))))), ?_⟩
    refine while_any (fun m σ H2 => ∃ (l : Int) (d : Option V), σ = [some (.ref st), some (.int many), some (.int l), d] ∧ m = (64 - l).toNat ∧ StAt H2 st c ns ∧ Keep st H H2) ⟨_, 0, none, rfl, rfl, hSt, Keep.refl _ _⟩ ?_ ?_ ?_
    · rintro m σ H2 Q' ⟨l, d, rfl, rfl, ⟨⟨nth, left, mx, hL⟩, hc, hne⟩, kp⟩ hT hF
      refine ⟨_, rfl, _, _, rfl, rfl, _, rfl, ?_⟩
      refine ite2 (fun hlt => ?_) (fun _ => hF)
      have hlt : l < 64 := of_decide_eq_true hlt
      have all : ∀ b, Q' b H2 := fun b => by
        cases b with
        | true => exact hT (by omega)
        | false => exact hF
      refine ⟨_, rfl, st, _, _, _, rfl, rfl, .inl (.inl hL), rfl, rfl, _, rfl, ?_⟩
      refine ite2 (fun _ => all _) (fun _ => ?_)
      refine ⟨_, rfl, st, _, _, _, rfl, rfl, .inl (.inl hL), rfl, _, rfl, ?_⟩
      refine ite2 (fun _ => ?_) (fun _ => all _)
      exact ⟨_, rfl, st, _, _, _, rfl, rfl, .inl (.inl hL), rfl, _, rfl, _, _, rfl, rfl, mulOk_r ⟨by decide, by decide⟩, _, _, rfl, rfl, _, rfl, all _⟩
    · rintro m σ H2 hm ⟨l, d, rfl, rfl, hSt2, kp⟩
      refine ⟨_, rfl, st, c, ns, rfl, hSt2, hl, fun H3 hSt3 kp3 => ?_⟩
      refine ⟨_, rfl, _, _, rfl, rfl, ?_⟩
      obtain ⟨⟨nth, left, mx, hL⟩, hc, hne⟩ := id hSt3
      have fin : ∀ H4, StAt H4 st c ns → Keep st H H4 → ∃ m', m' < (64 - l).toNat ∧ ∃ (l' : Int) (d' : Option V), ([some (.ref st), some (.int many), some (.int (l + 1)), d] : L2.St) = [some (.ref st), some (.int many), some (.int l'), d'] ∧ m' = (64 - l').toNat ∧ StAt H4 st c ns ∧ Keep st H H4 :=
        fun H4 a b => ⟨_, by omega, l + 1, d, rfl, rfl, a, b⟩
      have kp13 := kp.trans kp3
      refine ⟨_, rfl, st, _, _, _, rfl, rfl, .inl (.inl hL), rfl, _, rfl, ?_⟩
      refine ite2 (fun _ => ?_) (fun _ => iteF (fin H3 hSt3 kp13))
      refine ⟨_, rfl, st, _, _, _, rfl, rfl, .inl (.inl hL), rfl, _, rfl, _, _, rfl, rfl, mulOk_r ⟨by decide, by decide⟩, _, _, rfl, rfl, _, rfl, ?_⟩
      refine ite2 (fun _ => ?_) (fun _ => fin H3 hSt3 kp13)
      have g1 := Int.fmod_nonneg_of_pos left (b := 4093) (by decide)
      have g2 := Int.fmod_lt_of_pos left (b := 4093) (by decide)
      refine ⟨_, rfl, st, _, _, _, rfl, rfl, .inl (.inl hL), rfl, _, rfl, _, _, rfl, rfl, mulOk_r ⟨by decide, by decide⟩, _, rfl, st, _, _, _, rfl, rfl, .inl (.inl hL), rfl, .inl ⟨_, rfl, _, _, rfl, rfl, (by show (4093 : Int) ≠ 0; decide), _, _, rfl, rfl, _, _, rfl, rfl, mulOk_r ⟨by omega, by omega⟩,
        _, _, rfl, rfl, _, rfl, st, _, 2, 2, rfl, rfl, hL, rfl, ?_⟩⟩
      exact fin _ hSt3.upd (kp13.trans keep_upd)
    · rintro m σ H2 ⟨l, d, rfl, rfl, hSt2, kp⟩
      obtain ⟨⟨nth, left, mx, hL⟩, hc, hne⟩ := id hSt2
      refine ⟨_, rfl, st, _, _, _, rfl, rfl, .inl (.inl hL), rfl, .inl ⟨_, rfl, _, rfl, _, _, rfl, rfl, by omega, ?_⟩⟩
      refine ⟨_, rfl, st, _, _, _, rfl, rfl, .inl (.inl hL), rfl, _, rfl, _, _, rfl, rfl, gDiv_lt (by omega) hz (by decide) (by decide), _, rfl, st, _, 2, 2, rfl, rfl, hL, rfl, ?_⟩
      exact ⟨_, rfl, k _ _ (Int.fmod_nonneg_of_pos _ h0) (Int.fmod_lt_of_pos _ h0) hSt2.upd (kp.trans keep_upd)⟩
def spOne : Sp := fun vs H Q _ => ∃ (st c t : Addr) (ns : List Int) (xs : List V), vs = [.ref st, .ref t] ∧ StAt H st c ns ∧ ns.length ≤ 63 ∧ H t = some (.lst xs) ∧ t ≠ st ∧ xs ≠ [] ∧ xs.length ≤ 1000 ∧
  ∀ v H', v ∈ xs → StAt H' st c ns → Keep st H H' → Q v H'
theorem ok_law_one (T : Tx K mg) : FnOk P w K mg base CX0 3 T.law_one_a T.law_one_d ["_law_state", "_law_things"] spOne := by
  refine T.law_one_F.ok sc_law_one (fun vs H Q E h => ?_) (fun cdv A outer s H vs Q E hr h => ?_)
  · obtain ⟨st, c, t, ns, xs, rfl, _⟩ := h
    rfl
  · obtain ⟨st, c, t, ns, xs, rfl, hSt, hl, ht, hne, hx, hz, k⟩ := h
    refine ⟨_, (pss_one (ps_ret (pe_ix ix_list (pv 1) (pe_call (ok_law_take T) (hr.mono (by decide)) rfl T.law_take_m T.law_take_F.kp T.law_take_b .nil pass0 (pa_cons (pv 0) (pa_cons (pe_callB (call_len_seq) (by rfl) T.z_len (by decide +kernel) (pa_cons (pv 1) pa_nil)) pa_nil))) (fun _ _ => rfl)))), ?_⟩
    have h0 : 0 < xs.length := List.length_pos_iff.mpr hx
    have p10 : (1000 : Nat) < 2 ^ 2000 := Nat.lt_of_lt_of_le (by decide : 1000 < 2 ^ 10) (Nat.pow_le_pow_right (by decide) (by decide))
    refine ⟨_, rfl, _, rfl, _, rfl, t, xs, rfl, .inl (.inl (.inl ht)), st, c, ns, (xs.length : Int), rfl, hSt, hl, by omega, by omega, fun r H1 r0 r1 s1 k1 => ?_⟩
    obtain ⟨j, rfl⟩ : ∃ j : Nat, r = (j : Int) := ⟨_, (Int.toNat_of_nonneg r0).symm⟩
    have hj : j < xs.length := by omega
    exact ⟨t, xs, j, xs[j], rfl, rfl, .inl (.inl (k1 t _ ht hne)), atI_nat (List.getElem?_eq_getElem hj), k _ H1 (List.getElem_mem hj) s1 k1⟩

end


section
variable {P : Program} {w : World} {K : PySem.W.Frag} {mg : Str → Option Value} {base : Heap}
/-! ### the law's own fractions -/
/-- a pair of ints stands at t -/
def PairAt (H : Hp) (t : Addr) (p : Int × Int) : Prop := H t = some (.tup [.int p.1, .int p.2])
theorem PairAt.same {H H' : Hp} {t : Addr} {p : Int × Int} (h : PairAt H t p) (e : Same H H') : PairAt H' t p := e _ _ h
theorem PairAt.keep {H H' : Hp} {t st c : Addr} {p : Int × Int} {ns : List Int} (h : PairAt H t p) (e : Keep st H H') (hs : StAt H st c ns) : PairAt H' t p :=
  e _ _ h (let ⟨_, _, _, z⟩ := hs.1; ne_of h z (by intro z; cases z))
theorem ExAt.keep {C : Addr} {H H' : Hp} {v : V} {st c : Addr} {p : Int × Int} {ns : List Int} (h : ExAt C H v p) (e : Keep st H H') (hs : StAt H st c ns) : ExAt C H' v p :=
  let ⟨a, dx, r, y⟩ := h; ⟨a, dx, r, e _ _ y (let ⟨_, _, _, z⟩ := hs.1; ne_of y z (by intro z; cases z))⟩
theorem NumAt.keep {C : Addr} {H H' : Hp} {v : V} {st c : Addr} {p : Int × Int} {ns : List Int} (h : NumAt C H v p) (e : Keep st H H') (hs : StAt H st c ns) : NumAt C H' v p := h.elim .inl fun z => .inr (z.keep e hs)
def spGcd : Sp := fun vs H Q _ => ∃ a b : Int, vs = [.int a, .int b] ∧ Q (.int (Int.gcd a b)) H
theorem ok_law_gcd (T : Tx K mg) : FnOk P w K mg base CX0 1 T.law_gcd_a T.law_gcd_d ["_law_a", "_law_b"] spGcd := by
  refine T.law_gcd_F.ok sc_law_gcd (fun vs H Q E h => ?_) (fun cdv A outer s H vs Q E hr h => ?_)
  · obtain ⟨a, b, rfl, _⟩ := h
    rfl
  · obtain ⟨a, b, rfl, k⟩ := h
    refine ⟨_, (pss_cons (ps_while PassesOwn.never (pt_cmpR op_ne (pv 1) pe_int (nomark _))
  (pss_one (ps_par (i := 0) (j := 1) (by rfl) sc_law_gcd.nd rfl rfl (by decide) rfl rfl (pa_cons (pv 1) (pa_cons (pe_op (op_modN) (pv 0) (pv 1)) pa_nil)) (by rfl))))
  (pss_one (ps_ret (pe_ifExp (pt_cmpR op_gt (pv 0) pe_int (nomark _)) (pv 0) (pe_un (un_neg) (pv 0)))))), ?_⟩
    refine ⟨fun m σ H' => ∃ x y : Int, σ = [some (.int x), some (.int y)] ∧ Int.gcd x y = Int.gcd a b ∧ m = y.natAbs ∧ H' = H, ⟨_, a, b, rfl, rfl, rfl, rfl⟩, ?_⟩
    rintro m σ H' ⟨x, y, rfl, hg, rfl, rfl⟩
    refine ⟨_, rfl, rfl, _, rfl, ?_⟩
    by_cases h0 : y = 0
    · subst h0
      refine iteF ?_
      have e : (Int.gcd a b : Int) = (x.natAbs : Int) := by rw [← hg, Int.gcd_zero_right]
      refine ⟨_, rfl, _, _, rfl, rfl, _, rfl, ?_⟩
      rw [e] at k
      refine ite2 (fun hp => ?_) (fun hp => ?_)
      · have hp : (0 : Int) < x := of_decide_eq_true hp
        refine ⟨_, rfl, ?_⟩
        rw [show (x.natAbs : Int) = x by omega] at k
        exact k
      · have hp : ¬ (0 : Int) < x := fun z => hp (decide_eq_true z)
        refine ⟨_, rfl, _, rfl, ?_⟩
        rw [show (x.natAbs : Int) = -x by omega] at k
        exact k
    · rw [show (!decide (V.int y = V.int 0)) = true by simp [h0]]
      refine iteT ?_
      refine ⟨_, fun σ' H' z => z, ?_⟩
      refine ⟨_, rfl, _, rfl, _, rfl, _, _, rfl, rfl, h0, _, _, rfl, ?_⟩
      exact ⟨_, fmod_lt h0, y, x.fmod y, rfl, (gcd_step x y).trans hg, rfl, rfl⟩
def spFrac : Sp := fun vs H Q _ => ∃ a b : Int, vs = [.int a, .int b] ∧ b ≠ 0 ∧ b.natAbs < 2 ^ 8000 ∧ ∀ t H', Same H H' → PairAt H' t (red a b) → Q (.ref t) H'
theorem ok_law_frac (T : Tx K mg) : FnOk P w K mg base CX0 2 T.law_frac_a T.law_frac_d ["_law_over_here", "_law_under_here"] spFrac := by
  refine T.law_frac_F.ok sc_law_frac (fun vs H Q E h => ?_) (fun cdv A outer s H vs Q E hr h => ?_)
  · obtain ⟨a, b, rfl, _⟩ := h
    rfl
  · obtain ⟨a, b, rfl, h0, hz, k⟩ := h
    refine ⟨_, (pss_cons (ps_set (i := 2) sc_law_frac.nd rfl (Or.inl rfl) (pe_call (ok_law_gcd T) (hr.mono (by decide)) rfl T.law_gcd_m T.law_gcd_F.kp T.law_gcd_b .nil pass0 (pa_cons (pv 0) (pa_cons (pv 1) pa_nil))))
  (pss_cons (ps_set (i := 2) sc_law_frac.nd rfl (Or.inl rfl) (pe_ifExp (pt_cmpR op_lt (pv 1) pe_int (nomark _)) (pe_un (un_neg) (pv 2)) (pv 2)))
  (pss_one (ps_ret (pe_tup (pa_cons (pe_op (op_fdivG) (pv 0) (pv 2)) (pa_cons (pe_op (op_fdivG) (pv 1) (pv 2)) pa_nil))))))), ?_⟩
    refine ⟨_, rfl, _, rfl, a, b, rfl, ?_⟩
    have gd : ∀ i, GDiv i (red_w a b) := fun i => gDiv_lt (red_w_ne h0) (red_w_sz h0 hz) (by decide) (by decide)
    refine ⟨_, rfl, _, _, rfl, rfl, _, rfl, ?_⟩
    refine ite2 (fun hn => ?_) (fun hn => ?_)
    · have hn : b < 0 := of_decide_eq_true hn
      have e : -(Int.gcd a b : Int) = red_w a b := by unfold red_w; rw [if_pos hn]
      refine ⟨_, rfl, _, rfl, ?_⟩
      refine ⟨_, rfl, _, rfl, _, _, rfl, rfl, e ▸ gd _, _, rfl, _, rfl, _, _, rfl, rfl, e ▸ gd _, (by show 2 ≤ sizeLine; decide), fun t nt => ?_⟩
      refine k t _ (same_upd nt) ?_
      show (upd _ _ _) _ = _
      rw [upd_same]
      show some (HO.tup [V.int (a.fdiv (-(Int.gcd a b : Int))), V.int (b.fdiv (-(Int.gcd a b : Int)))]) = _
      rw [e]
      rfl
    · have hn : ¬ b < 0 := fun z => hn (decide_eq_true z)
      have e : (Int.gcd a b : Int) = red_w a b := by unfold red_w; rw [if_neg hn]
      refine ⟨_, rfl, ?_⟩
      refine ⟨_, rfl, _, rfl, _, _, rfl, rfl, e ▸ gd _, _, rfl, _, rfl, _, _, rfl, rfl, e ▸ gd _, (by show 2 ≤ sizeLine; decide), fun t nt => ?_⟩
      refine k t _ (same_upd nt) ?_
      show (upd _ _ _) _ = _
      rw [upd_same]
      show some (HO.tup [V.int (a.fdiv (Int.gcd a b : Int)), V.int (b.fdiv (Int.gcd a b : Int))]) = _
      rw [e]
      rfl
/-- two pairs: the reduced one of f -/
def spPairs (f : Int × Int → Int × Int → Int × Int) : Sp := fun vs H Q _ => ∃ t1 t2 a b, vs = [.ref t1, .ref t2] ∧ PairAt H t1 a ∧ PairAt H t2 b ∧ a.1.natAbs < 2 ^ 1000 ∧ a.2.natAbs < 2 ^ 1000 ∧ b.1.natAbs < 2 ^ 1000 ∧ b.2.natAbs < 2 ^ 1000 ∧ (f a b).2 ≠ 0 ∧
  ∀ t H', Same H H' → PairAt H' t (red (f a b).1 (f a b).2) → Q (.ref t) H'
theorem spPairs_len {f : Int × Int → Int × Int → Int × Int} {vs : List V} {H : Hp} {Q : VK} {E : XK} (h : spPairs f vs H Q E) : vs.length = 2 := by
  obtain ⟨v, u, a, b, rfl, _⟩ := h
  rfl
theorem ok_law_add (T : Tx K mg) : FnOk P w K mg base CX0 3 T.law_add_a T.law_add_d ["_law_a", "_law_b"] (spPairs fAdd) := by
  refine T.law_add_F.ok sc_law_add (fun vs H Q E h => spPairs_len h) (fun cdv A outer s H vs Q E hr h => ?_)
  obtain ⟨t1, t2, a, b, rfl, h1, h2, z1, z2, z3, z4, h0, k⟩ := h
  refine ⟨_, (pss_one (ps_ret (pe_call (ok_law_frac T) (hr.mono (by decide)) rfl T.law_frac_m T.law_frac_F.kp T.law_frac_b .nil pass0 (pa_cons (pe_op (op_add) (pe_op (op_mulG) (pe_ix ix_tup (pv 0) pe_int (fun _ _ => rfl)) (pe_ix ix_tup (pv 1) pe_int (fun _ _ => rfl))) (pe_op (op_mulG) (pe_ix ix_tup (pv 1) pe_int (fun _ _ => rfl)) (pe_ix ix_tup (pv 0) pe_int (fun _ _ => rfl)))) (pa_cons (pe_op (op_mulG) (pe_ix ix_tup (pv 0) pe_int (fun _ _ => rfl)) (pe_ix ix_tup (pv 1) pe_int (fun _ _ => rfl))) pa_nil))))), ?_⟩
  refine ⟨_, rfl, t1, _, _, _, rfl, rfl, .inl (.inl h1), rfl, _, rfl, t2, _, _, _, rfl, rfl, .inl (.inl h2), rfl, _, _, rfl, rfl, ok1000 z1 z4, _, rfl, t2, _, _, _, rfl, rfl, .inl (.inl h2), rfl, _, rfl, t1, _, _, _, rfl, rfl, .inl (.inl h1), rfl, _, _, rfl, rfl, ok1000 z3 z2, _, _, rfl, rfl, _, rfl, t1, _, _, _, rfl, rfl, .inl (.inl h1), rfl, _, rfl, t2, _, _, _, rfl, rfl, .inl (.inl h2), rfl, _, _, rfl, rfl, ok1000 z2 z4, _, _, rfl, h0, sz_up (sz_mul z2 z4) (by decide), k⟩
theorem ok_law_mul (T : Tx K mg) : FnOk P w K mg base CX0 3 T.law_mul_a T.law_mul_d ["_law_a", "_law_b"] (spPairs fMul) := by
  refine T.law_mul_F.ok sc_law_mul (fun vs H Q E h => spPairs_len h) (fun cdv A outer s H vs Q E hr h => ?_)
  obtain ⟨t1, t2, a, b, rfl, h1, h2, z1, z2, z3, z4, h0, k⟩ := h
  refine ⟨_, (pss_one (ps_ret (pe_call (ok_law_frac T) (hr.mono (by decide)) rfl T.law_frac_m T.law_frac_F.kp T.law_frac_b .nil pass0 (pa_cons (pe_op (op_mulG) (pe_ix ix_tup (pv 0) pe_int (fun _ _ => rfl)) (pe_ix ix_tup (pv 1) pe_int (fun _ _ => rfl))) (pa_cons (pe_op (op_mulG) (pe_ix ix_tup (pv 0) pe_int (fun _ _ => rfl)) (pe_ix ix_tup (pv 1) pe_int (fun _ _ => rfl))) pa_nil))))), ?_⟩
  refine ⟨_, rfl, t1, _, _, _, rfl, rfl, .inl (.inl h1), rfl, _, rfl, t2, _, _, _, rfl, rfl, .inl (.inl h2), rfl, _, _, rfl, rfl, ok1000 z1 z3, _, rfl, t1, _, _, _, rfl, rfl, .inl (.inl h1), rfl, _, rfl, t2, _, _, _, rfl, rfl, .inl (.inl h2), rfl, _, _, rfl, rfl, ok1000 z2 z4, _, _, rfl, h0, sz_up (sz_mul z2 z4) (by decide), k⟩
/-- sizes that drawn fractions keep -/
def Dn (p : Int × Int) : Prop := 0 < p.2 ∧ p.1.natAbs < 2 ^ 130 ∧ p.2.natAbs < 2 ^ 50
theorem Dn.nm {p : Int × Int} (h : Dn p) : Nm p := ⟨h.1, sz_up h.2.1 (by decide), sz_up h.2.2 (by decide)⟩
def spAsNumber (C : Addr) : Sp := fun vs H Q _ => ∃ (st c t : Addr) (ns : List Int) (p : Int × Int), vs = [.ref st, .ref t] ∧ StAt H st c ns ∧ ns.length ≤ 63 ∧ PairAt H t p ∧ Rd p ∧ Nm p ∧ ∀ v H', StAt H' st c ns → Keep st H H' → NumAt C H' v p → Q v H'
theorem p_small : (3 : Int).natAbs < 2 ^ 2000 := Nat.lt_of_lt_of_le (by decide : 3 < 2 ^ 10) (Nat.pow_le_pow_right (by decide) (by decide))
def spLawPlain (C : Addr) : Sp := fun vs H Q _ => ∃ (t : Addr) (p : Int × Int), vs = [.ref t] ∧ PairAt H t p ∧ Rd p ∧ p.2.natAbs < 2 ^ 8000 ∧ ∀ v H', Same H H' → ToldAt C H' v p → Q v H'
theorem ok_law_plain (T : Tx K mg) : FnOk P w K mg base CX0 5 T.law_plain_a T.law_plain_d ["_law_a"] (spLawPlain T.Exact_a) := by
  refine T.law_plain_F.ok sc_law_plain (fun vs H Q E h => ?_) (fun cdv A outer s H vs Q E hr h => ?_)
  · obtain ⟨t, p, rfl, _⟩ := h
    rfl
  · obtain ⟨t1, p, rfl, h1, rd, sz, k⟩ := h
    refine ⟨_, (pss_one (ps_ret (pe_ifExp (pt_cmpR op_eq (pe_ix ix_tup (pv 0) pe_int (fun _ _ => rfl)) pe_int (nomark _)) (pe_ix ix_tup (pv 0) pe_int (fun _ _ => rfl)) (pe_make T.Exact_mk (ok_Exact_init T) (hr.mono (by decide)) rfl T.Exact_m T.Exact_init_b .nil pass0 (pa_cons (pe_ix ix_tup (pv 0) pe_int (fun _ _ => rfl)) (pa_cons (pe_ix ix_tup (pv 0) pe_int (fun _ _ => rfl)) pa_nil)))))), ?_⟩
    refine ⟨_, rfl, t1, _, _, _, rfl, rfl, .inl (.inl h1), rfl, rfl, _, rfl, ?_⟩
    by_cases e1 : p.2 = 1
    · rw [show decide (V.int p.2 = V.int 1) = true by simp [e1]]
      exact iteT ⟨_, rfl, t1, _, _, _, rfl, rfl, .inl (.inl h1), rfl, k _ H (Same.refl _) (.inl ⟨e1, rfl⟩)⟩
    · rw [show decide (V.int p.2 = V.int 1) = false by simp [e1]]
      refine iteF ?_
      refine ⟨_, rfl, t1, _, _, _, rfl, rfl, .inl (.inl h1), rfl, _, rfl, t1, _, _, _, rfl, rfl, .inl (.inl h1), rfl, ?_⟩
      exact mk_ex (Int.ne_of_gt rd.1) sz fun v H3 s3 h3 => k v H3 s3 (.inr ⟨e1, by rw [red_self rd] at h3; exact h3⟩)

end


/-! ### pairs as data; what the operators give, told by both kinds of operands -/
def dp (p : Int × Int) : PyData := .tuple [.int p.1, .int p.2]
theorem dpPair {K : PySem.W.Frag} {H : Hp} {t : Addr} {p : Int × Int} (h : PairAt H t p) : Dp K H (.ref t) (dp p) := .tup (.inl (.inl h)) (.cons (.int _) (.cons (.int _) .nil))
theorem dp_shaped (p : Int × Int) : SeqAt.shaped (dp p) = true := rfl
theorem eqv_self {d : PyData} (h : SeqAt.shaped d = true) : PyData.eqv d d = true := SeqAt.eqv_refl d (SeqAt.canLay_of_shaped h)
theorem sqT_same {K : PySem.W.Frag} {H H' : Hp} {a : Addr} {xs : List V} (e : Same H H') (h : SqT K H a xs) : SqT K H' a xs := by
  rcases h with (h | ⟨o, h⟩) | h
  · exact .inl (.inl (e _ _ h))
  · exact .inl (.inr ⟨o, e _ _ h⟩)
  · exact .inr h
mutual
theorem dp_same {K : PySem.W.Frag} {H H' : Hp} (e : Same H H') : ∀ {v : V} {d : PyData}, Dp K H v d → Dp K H' v d
  | _, _, .non => .non
  | _, _, .bl b => .bl b
  | _, _, .int i => .int i
  | _, _, .str s => .str s
  | _, _, .lst h d => .lst (e.seq h) (dpAll_same e d)
  | _, _, .tup h d => .tup (sqT_same e h) (dpAll_same e d)
theorem dpAll_same {K : PySem.W.Frag} {H H' : Hp} (e : Same H H') : ∀ {vs : List V} {ds : List PyData}, DpAll K H vs ds → DpAll K H' vs ds
  | _, _, .nil => .nil
  | _, _, .cons h t => .cons (dp_same e h) (dpAll_same e t)
end
theorem dpAll_snoc {K : PySem.W.Frag} {H : Hp} : ∀ {vs : List V} {ds : List PyData} {v : V} {d : PyData}, DpAll K H vs ds → Dp K H v d → DpAll K H (vs ++ [v]) (ds ++ [d])
  | _, _, _, _, .nil, h => .cons h .nil
  | _, _, _, _, .cons a t, h => .cons a (dpAll_snoc t h)
theorem dpAll_len {K : PySem.W.Frag} {H : Hp} : ∀ {vs : List V} {ds : List PyData}, DpAll K H vs ds → vs.length = ds.length
  | _, _, .nil => rfl
  | _, _, .cons _ t => congrArg (· + 1) (dpAll_len t)

/-! ### comparisons of Exacts -/
section
variable {P : Program} {w : World} {K : PySem.W.Frag} {mg : Str → Option Value} {base : Heap}
def spIsNumber (K : PySem.W.Frag) (C : Addr) : Sp := fun vs H Q _ => ∃ v, vs = [v] ∧ ((∃ p, NumAt C H v p) ∧ Q (.bl true) H ∨ NoNum K C H v ∧ Q (.bl false) H)
theorem ok_is_number (T : Tx K mg) : FnOk P w K mg base CX0 2 T.is_number_a T.is_number_d ["thing"] (spIsNumber K T.Exact_a) := by
  refine T.is_number_F.ok sc_is_number (fun vs H Q E h => ?_) (fun cdv A outer s H vs Q E hr h => ?_)
  · obtain ⟨v, rfl, _⟩ := h
    rfl
  · obtain ⟨v, rfl, h⟩ := h
    refine ⟨_, (pss_one (ps_ret (pe_or (pe_call (ok_is_whole T) (hr.mono (by decide)) rfl T.is_whole_m T.is_whole_F.kp T.is_whole_b .nil pass0 (pa_cons (pv 0) pa_nil)) (pe_one (pe_callB call_isi (by rfl) T.z_isinstance (by decide +kernel) (pa_cons (pv 0) (pa_cons (pe_glob (v := .ref T.Exact_a) rfl T.Exact_m rfl) pa_nil))))))), ?_⟩
    rcases h with ⟨⟨p, hp⟩, k⟩ | ⟨nn, k⟩
    · rcases hp.cases with ⟨rfl, _⟩ | ⟨x, dx, rfl, hx⟩
      · refine ⟨_, rfl, _, rfl, .inl ⟨⟨_, rfl⟩, true, rfl, ?_⟩⟩
        exact iteT k
      · refine ⟨_, rfl, _, rfl, .inr (.inl ⟨⟨p, x, dx, rfl, hx⟩, false, rfl, ?_⟩)⟩
        refine iteF ?_
        exact ⟨_, rfl, _, _, _, _, true, rfl, .own _, .base (.ins hx T.Exact_cl T.Exact_i1 T.Exact_i2 T.Exact_i3 T.Exact_i4), T.Exact_k0, k⟩
    · refine ⟨_, rfl, _, rfl, .inr (.inr ⟨nn, false, rfl, ?_⟩)⟩
      refine iteF ?_
      obtain ⟨t, b, ty, _, _, kC⟩ := nn
      exact ⟨_, rfl, _, _, _, _, false, rfl, .own _, ty, kC, k⟩
def spExEq (K : PySem.W.Frag) (C : Addr) : Sp := fun vs H Q _ => ∃ v u a, vs = [v, u] ∧ ExAt C H v a ∧ ((∃ b, NumAt C H u b ∧ ∀ H', Same H H' → Q (.bl (decide (a = b))) H') ∨ NoNum K C H u ∧ Q (.bl false) H)
theorem dp_eqv (a b : Int × Int) : PyData.eqv (dp a) (dp b) = decide (b = a) := by
  show (a.1 == b.1 && (a.2 == b.2 && true)) = decide (b = a)
  obtain ⟨a1, a2⟩ := a
  obtain ⟨b1, b2⟩ := b
  show (a1 == b1 && (a2 == b2 && true)) = decide ((b1, b2) = (a1, a2))
  rw [Bool.and_true]
  by_cases h1 : a1 = b1
  · by_cases h2 : a2 = b2
    · rw [decide_eq_true (Prod.ext h1.symm h2.symm), beq_iff_eq.mpr h1, beq_iff_eq.mpr h2]
      rfl
    · rw [decide_eq_false (fun q => h2 (Prod.mk.inj q).2.symm), beq_eq_false_iff_ne.mpr h2, Bool.and_false]
  · rw [decide_eq_false (fun q => h1 (Prod.mk.inj q).1.symm), beq_eq_false_iff_ne.mpr h1, Bool.false_and]
theorem ok_Exact_eq (T : Tx K mg) : FnOk P w K mg base CX0 6 T.Exact_eq_a T.Exact_eq_d ["self", "other"] (spExEq K T.Exact_a) := by
  refine T.Exact_eq_F.ok sc_Exact_eq (fun vs H Q E h => ?_) (fun cdv A outer s H vs Q E hr h => ?_)
  · obtain ⟨v, u, a, rfl, _⟩ := h
    rfl
  · obtain ⟨v, u, a, rfl, hv, h⟩ := h
    refine ⟨_, (pss_one (ps_ret (pe_and (pe_call (ok_is_number T) (hr.mono (by decide)) rfl T.is_number_m T.is_number_F.kp T.is_number_b .nil pass0 (pa_cons (pv 1) pa_nil)) (pe_one (pe_cmpR (op_eqD hr.units) (pe_call (ok_parts T) (hr.mono (by decide)) rfl T.parts_m T.parts_F.kp T.parts_b .nil pass0 (pa_cons (pv 1) pa_nil)) (pe_tup (pa_cons (pe_fld (pv 0) rfl) (pa_cons (pe_fld (pv 0) rfl) pa_nil))) (nomark _)))))), ?_⟩
    rcases h with ⟨b, hu, k⟩ | ⟨nn, k⟩
    · refine ⟨_, rfl, _, rfl, .inl ⟨⟨b, hu⟩, true, rfl, ?_⟩⟩
      refine iteT ?_
      refine ⟨_, rfl, u, b, rfl, hu, fun t H1 s1 ht => ?_⟩
      obtain ⟨x, dx, rfl, hx⟩ := hv.same s1
      refine ⟨_, rfl, x, _, dx, _, _, rfl, hx, T.Exact_cl, T.Exact_n_over, fl_over, _, rfl, x, _, dx, _, _, rfl, hx, T.Exact_cl, T.Exact_n_under, fl_under, (by show 2 ≤ sizeLine; decide), fun t2 nt2 => ?_⟩
      have s2 := same_upd (o := .tup [.int a.1, .int a.2]) nt2
      have h1 : PairAt H1 t b := ht
      refine ⟨dp b, dp a, dpPair (h1.same s2), dpPair (p := a) upd_same, rfl, rfl, ?_⟩
      rw [dp_eqv]
      exact k _ (s1.trans s2)
    · refine ⟨_, rfl, _, rfl, .inr ⟨nn, false, rfl, ?_⟩⟩
      exact iteF k
/-- an order of numbers -/
def spCmp (C : Addr) (f : Int × Int → Int × Int → Bool) : Sp := fun vs H Q _ => ∃ v u a b, vs = [v, u] ∧ ExAt C H v a ∧ NumAt C H u b ∧ Nm a ∧ Nm b ∧ ∀ H', Same H H' → Q (.bl (f a b)) H'
def bLt (a b : Int × Int) : Bool := decide (a.1 * b.2 < b.1 * a.2)
def bLe (a b : Int × Int) : Bool := decide (a.1 * b.2 ≤ b.1 * a.2)
def bGt (a b : Int × Int) : Bool := decide (b.1 * a.2 < a.1 * b.2)
def bGe (a b : Int × Int) : Bool := decide (b.1 * a.2 ≤ a.1 * b.2)
theorem ok_Exact_lt (T : Tx K mg) : FnOk P w K mg base CX0 6 T.Exact_lt_a T.Exact_lt_d ["self", "other"] (spCmp T.Exact_a bLt) := by
  refine T.Exact_lt_F.ok sc_Exact_lt (fun vs H Q E h => ?_) (fun cdv A outer s H vs Q E hr h => ?_)
  · obtain ⟨v, u, a, b, rfl, _⟩ := h
    rfl
  · obtain ⟨v, u, a, b, rfl, hv, hu, na, nb, k⟩ := h
    refine ⟨_, (pss_cons (ps_asg (pe_call (ok_parts T) (hr.mono (by decide)) rfl T.parts_m T.parts_F.kp T.parts_b .nil pass0 (pa_cons (pv 1) pa_nil)) (pg_tup (by rfl) (pgs_cons (pg_name (i := 2) sc_Exact_lt.nd rfl (Or.inl rfl)) (pgs_cons (pg_name (i := 3) sc_Exact_lt.nd rfl (Or.inl rfl)) pgs_nil))))
  (pss_one (ps_ret (pe_cmpR op_lt (pe_op (op_mulG) (pe_fld (pv 0) rfl) (pv 3)) (pe_op (op_mulG) (pv 2) (pe_fld (pv 0) rfl)) (nomark _))))), ?_⟩
    refine ⟨_, rfl, u, b, rfl, hu, fun t H1 s1 ht => ⟨t, _, rfl, .inl (.inl ht), rfl, _, _, rfl, _, _, rfl, rfl, ?_⟩⟩
    obtain ⟨x, dx, rfl, hx⟩ := hv.same s1
    refine ⟨_, rfl, x, _, dx, _, _, rfl, hx, T.Exact_cl, T.Exact_n_over, fl_over, _, rfl, _, _, rfl, rfl, ok1000 na.2.1 nb.2.2, _, rfl, _, rfl, x, _, dx, _, _, rfl, hx, T.Exact_cl, T.Exact_n_under, fl_under, _, _, rfl, rfl, ok1000 nb.2.1 na.2.2, _, _, rfl, rfl, k _ s1⟩
theorem ok_Exact_le (T : Tx K mg) : FnOk P w K mg base CX0 6 T.Exact_le_a T.Exact_le_d ["self", "other"] (spCmp T.Exact_a bLe) := by
  refine T.Exact_le_F.ok sc_Exact_le (fun vs H Q E h => ?_) (fun cdv A outer s H vs Q E hr h => ?_)
  · obtain ⟨v, u, a, b, rfl, _⟩ := h
    rfl
  · obtain ⟨v, u, a, b, rfl, hv, hu, na, nb, k⟩ := h
    refine ⟨_, (pss_cons (ps_asg (pe_call (ok_parts T) (hr.mono (by decide)) rfl T.parts_m T.parts_F.kp T.parts_b .nil pass0 (pa_cons (pv 1) pa_nil)) (pg_tup (by rfl) (pgs_cons (pg_name (i := 2) sc_Exact_le.nd rfl (Or.inl rfl)) (pgs_cons (pg_name (i := 3) sc_Exact_le.nd rfl (Or.inl rfl)) pgs_nil))))
  (pss_one (ps_ret (pe_cmpR op_le (pe_op (op_mulG) (pe_fld (pv 0) rfl) (pv 3)) (pe_op (op_mulG) (pv 2) (pe_fld (pv 0) rfl)) (nomark _))))), ?_⟩
    refine ⟨_, rfl, u, b, rfl, hu, fun t H1 s1 ht => ⟨t, _, rfl, .inl (.inl ht), rfl, _, _, rfl, _, _, rfl, rfl, ?_⟩⟩
    obtain ⟨x, dx, rfl, hx⟩ := hv.same s1
    refine ⟨_, rfl, x, _, dx, _, _, rfl, hx, T.Exact_cl, T.Exact_n_over, fl_over, _, rfl, _, _, rfl, rfl, ok1000 na.2.1 nb.2.2, _, rfl, _, rfl, x, _, dx, _, _, rfl, hx, T.Exact_cl, T.Exact_n_under, fl_under, _, _, rfl, rfl, ok1000 nb.2.1 na.2.2, _, _, rfl, rfl, k _ s1⟩
theorem ok_Exact_gt (T : Tx K mg) : FnOk P w K mg base CX0 6 T.Exact_gt_a T.Exact_gt_d ["self", "other"] (spCmp T.Exact_a bGt) := by
  refine T.Exact_gt_F.ok sc_Exact_gt (fun vs H Q E h => ?_) (fun cdv A outer s H vs Q E hr h => ?_)
  · obtain ⟨v, u, a, b, rfl, _⟩ := h
    rfl
  · obtain ⟨v, u, a, b, rfl, hv, hu, na, nb, k⟩ := h
    refine ⟨_, (pss_cons (ps_asg (pe_call (ok_parts T) (hr.mono (by decide)) rfl T.parts_m T.parts_F.kp T.parts_b .nil pass0 (pa_cons (pv 1) pa_nil)) (pg_tup (by rfl) (pgs_cons (pg_name (i := 2) sc_Exact_gt.nd rfl (Or.inl rfl)) (pgs_cons (pg_name (i := 3) sc_Exact_gt.nd rfl (Or.inl rfl)) pgs_nil))))
  (pss_one (ps_ret (pe_cmpR op_gt (pe_op (op_mulG) (pe_fld (pv 0) rfl) (pv 3)) (pe_op (op_mulG) (pv 2) (pe_fld (pv 0) rfl)) (nomark _))))), ?_⟩
    refine ⟨_, rfl, u, b, rfl, hu, fun t H1 s1 ht => ⟨t, _, rfl, .inl (.inl ht), rfl, _, _, rfl, _, _, rfl, rfl, ?_⟩⟩
    obtain ⟨x, dx, rfl, hx⟩ := hv.same s1
    refine ⟨_, rfl, x, _, dx, _, _, rfl, hx, T.Exact_cl, T.Exact_n_over, fl_over, _, rfl, _, _, rfl, rfl, ok1000 na.2.1 nb.2.2, _, rfl, _, rfl, x, _, dx, _, _, rfl, hx, T.Exact_cl, T.Exact_n_under, fl_under, _, _, rfl, rfl, ok1000 nb.2.1 na.2.2, _, _, rfl, rfl, k _ s1⟩
theorem ok_Exact_ge (T : Tx K mg) : FnOk P w K mg base CX0 6 T.Exact_ge_a T.Exact_ge_d ["self", "other"] (spCmp T.Exact_a bGe) := by
  refine T.Exact_ge_F.ok sc_Exact_ge (fun vs H Q E h => ?_) (fun cdv A outer s H vs Q E hr h => ?_)
  · obtain ⟨v, u, a, b, rfl, _⟩ := h
    rfl
  · obtain ⟨v, u, a, b, rfl, hv, hu, na, nb, k⟩ := h
    refine ⟨_, (pss_cons (ps_asg (pe_call (ok_parts T) (hr.mono (by decide)) rfl T.parts_m T.parts_F.kp T.parts_b .nil pass0 (pa_cons (pv 1) pa_nil)) (pg_tup (by rfl) (pgs_cons (pg_name (i := 2) sc_Exact_ge.nd rfl (Or.inl rfl)) (pgs_cons (pg_name (i := 3) sc_Exact_ge.nd rfl (Or.inl rfl)) pgs_nil))))
  (pss_one (ps_ret (pe_cmpR op_ge (pe_op (op_mulG) (pe_fld (pv 0) rfl) (pv 3)) (pe_op (op_mulG) (pv 2) (pe_fld (pv 0) rfl)) (nomark _))))), ?_⟩
    refine ⟨_, rfl, u, b, rfl, hu, fun t H1 s1 ht => ⟨t, _, rfl, .inl (.inl ht), rfl, _, _, rfl, _, _, rfl, rfl, ?_⟩⟩
    obtain ⟨x, dx, rfl, hx⟩ := hv.same s1
    refine ⟨_, rfl, x, _, dx, _, _, rfl, hx, T.Exact_cl, T.Exact_n_over, fl_over, _, rfl, _, _, rfl, rfl, ok1000 na.2.1 nb.2.2, _, rfl, _, rfl, x, _, dx, _, _, rfl, hx, T.Exact_cl, T.Exact_n_under, fl_under, _, _, rfl, rfl, ok1000 nb.2.1 na.2.2, _, _, rfl, rfl, k _ s1⟩
/-- the law's own order -/
def spLawLess : Sp := fun vs H Q _ => ∃ t1 t2 a b, vs = [.ref t1, .ref t2] ∧ PairAt H t1 a ∧ PairAt H t2 b ∧ a.1.natAbs < 2 ^ 1000 ∧ a.2.natAbs < 2 ^ 1000 ∧ b.1.natAbs < 2 ^ 1000 ∧ b.2.natAbs < 2 ^ 1000 ∧ Q (.bl (bLt a b)) H
theorem ok_law_less (T : Tx K mg) : FnOk P w K mg base CX0 1 T.law_less_a T.law_less_d ["_law_a", "_law_b"] spLawLess := by
  refine T.law_less_F.ok sc_law_less (fun vs H Q E h => ?_) (fun cdv A outer s H vs Q E hr h => ?_)
  · obtain ⟨t1, t2, a, b, rfl, _⟩ := h
    rfl
  · obtain ⟨t1, t2, a, b, rfl, h1, h2, z1, z2, z3, z4, k⟩ := h
    refine ⟨_, (pss_one (ps_ret (pe_cmpR op_lt (pe_op (op_mulG) (pe_ix ix_tup (pv 0) pe_int (fun _ _ => rfl)) (pe_ix ix_tup (pv 1) pe_int (fun _ _ => rfl))) (pe_op (op_mulG) (pe_ix ix_tup (pv 1) pe_int (fun _ _ => rfl)) (pe_ix ix_tup (pv 0) pe_int (fun _ _ => rfl))) (nomark _)))), ?_⟩
    refine ⟨_, rfl, t1, _, _, _, rfl, rfl, .inl (.inl h1), rfl, _, rfl, t2, _, _, _, rfl, rfl, .inl (.inl h2), rfl, _, _, rfl, rfl, ok1000 z1 z4, _, rfl, t2, _, _, _, rfl, rfl, .inl (.inl h2), rfl, _, rfl, t1, _, _, _, rfl, rfl, .inl (.inl h1), rfl, _, _, rfl, rfl, ok1000 z3 z2, _, _, rfl, rfl, k⟩
end



/-! ### numbers, ints and Exacts mixed: their operators and orders -/
theorem fAdd_c (a b : Int × Int) : fAdd b a = fAdd a b := by
  unfold fAdd
  rw [Int.add_comm, Int.mul_comm b.2 a.2]
theorem fMul_c (a b : Int × Int) : fMul b a = fMul a b := by
  unfold fMul
  rw [Int.mul_comm b.1 a.1, Int.mul_comm b.2 a.2]
theorem fRsub_c (a b : Int × Int) : fRsub a b = fSub b a := by
  unfold fRsub fSub
  rw [Int.mul_comm b.2 a.2]
theorem tyX_same {K : PySem.W.Frag} {H H' : Hp} (s : Same H H') {v : V} {t : Value} (h : TyX K H v t) : TyX K H' v t := by
  cases h with
  | base h =>
    refine .base ?_
    cases h with
    | non => exact .non
    | bl x => exact .bl x
    | int i => exact .int i
    | str x => exact .str x
    | flt x => exact .flt x
    | lst e => exact .lst (s _ _ e)
    | frz e => exact .frz (s _ _ e)
    | tup e => exact .tup (s _ _ e)
    | dK e => exact .dK (s _ _ e)
    | dT e => exact .dT (s _ _ e)
    | ins e c h1 h2 h3 h4 => exact .ins (s _ _ e) c h1 h2 h3 h4
  | byt b => exact .byt b
  | set e => exact .set (s _ _ e)
  | kList e c => exact .kList e c
  | kTuple e c => exact .kTuple e c
  | kDict e c => exact .kDict e c
  | fTuple e => exact .fTuple (s _ _ e)
  | fDict e => exact .fDict (s _ _ e)
theorem NoNum.same {K : PySem.W.Frag} {C : Addr} {H H' : Hp} {v : V} (h : NoNum K C H v) (s : Same H H') : NoNum K C H' v := by
  obtain ⟨t, b, ty, r⟩ := h
  exact ⟨t, b, tyX_same s ty, r⟩
theorem nf_ty {K : PySem.W.Frag} {C : Addr} {t : String} (h : PySem.W.subIn K (.type t) (.ref C) = some false) : PySem.W.notFirst K C (.type t) = true := by
  unfold PySem.W.notFirst
  rw [h]
  exact Bool.or_true _
theorem nf_own {K : PySem.W.Frag} {C : Addr} : PySem.W.notFirst K C (.ref C) = true := by
  unfold PySem.W.notFirst
  rw [beq_self_eq_true]
  exact Bool.true_or _
section
variable {K : PySem.W.Frag} {mg : Str → Option Value} {T : Tx K mg} {H : Hp} {x y : V} {a b : Int × Int} {Q : VK} {E : XK}
theorem num_ty (T : Tx K mg) (hy : NumAt T.Exact_a H y b) : ∃ t, TyX K H y t ∧ PySem.W.notFirst K T.Exact_a t = true := by
  rcases hy.cases with ⟨rfl, _⟩ | ⟨q, dy, rfl, hq⟩
  · exact ⟨_, .base (.int _), nf_ty T.Exact_up_int⟩
  · exact ⟨_, .base (.ins hq T.Exact_cl T.Exact_i1 T.Exact_i2 T.Exact_i3 T.Exact_i4), nf_own⟩
theorem n_bin {C : Addr} {f g h : Int × Int → Int × Int → Int × Int} {R : R2} (hx : NumAt C H x a) (hy : NumAt C H y b) (na : Nm a) (nb : Nm b) (e1 : f a b = h a b) (e2 : g b a = h a b)
    (ii : ∀ i j : Int, x = .int i → y = .int j → a = (i, 1) → b = (j, 1) → R x y H Q) (k : ∀ v' H', Same H H' → NumAt C H' v' (red (h a b).1 (h a b).2) → Q v' H') :
    R x y H Q ∨ rGyD C (spBin C f) E x y H Q ∨ rGyR C (spBin C g) E x y H Q := by
  rcases hx.cases with ⟨rfl, h1⟩ | ⟨p, dx, rfl, hp⟩
  · rcases hy.cases with ⟨rfl, h2⟩ | ⟨q, dy, rfl, hq⟩
    · exact .inl (ii _ _ rfl rfl (by rw [← h1]) (by rw [← h2]))
    · exact .inr (.inr ⟨_, q, dy, _, rfl, rfl, hq, _, _, b, a, rfl, ⟨q, dy, rfl, hq⟩, hx, nb, na, by rw [e2]; exact fun v' H' s z => k v' H' s (.inr z)⟩)
  · refine .inr (.inl ⟨p, dx, _, rfl, hp, ?_, _, _, a, b, rfl, ⟨p, dx, rfl, hp⟩, hy, na, nb, by rw [e1]; exact fun v' H' s z => k v' H' s (.inr z)⟩)
    rcases hy.cases with ⟨rfl, _⟩ | ⟨q, dy, rfl, hq⟩
    · exact .inr ⟨_, rfl⟩
    · exact .inl ⟨q, dy, _, rfl, hq⟩
theorem n_add {C : Addr} (hx : NumAt C H x a) (hy : NumAt C H y b) (na : Nm a) (nb : Nm b) (k : ∀ v' H', Same H H' → NumAt C H' v' (red (fAdd a b).1 (fAdd a b).2) → Q v' H') :
    (rI0 fun i j => .int (i + j)) x y H Q ∨ rGyD C (spBin C fAdd) E x y H Q ∨ rGyR C (spBin C fAdd) E x y H Q :=
  n_bin (h := fAdd) hx hy na nb rfl (fAdd_c a b) (fun i j ex ey ea eb => by
    subst ex ey ea eb
    refine ⟨_, _, rfl, rfl, k _ _ (Same.refl _) (.inl ?_)⟩
    have : red (fAdd (i, 1) (j, 1)).1 (fAdd (i, 1) (j, 1)).2 = (i + j, 1) := by
      show red (i * 1 + j * 1) (1 * 1) = _
      rw [Int.mul_one, Int.mul_one, Int.mul_one]
      exact red_self (rd_int _)
    rw [this]
    exact ⟨rfl, rfl⟩) k
theorem n_sub {C : Addr} (hx : NumAt C H x a) (hy : NumAt C H y b) (na : Nm a) (nb : Nm b) (k : ∀ v' H', Same H H' → NumAt C H' v' (red (fSub a b).1 (fSub a b).2) → Q v' H') :
    (rI0 fun i j => .int (i - j)) x y H Q ∨ rGyD C (spBin C fSub) E x y H Q ∨ rGyR C (spBin C fRsub) E x y H Q :=
  n_bin (h := fSub) hx hy na nb rfl (fRsub_c b a) (fun i j ex ey ea eb => by
    subst ex ey ea eb
    refine ⟨_, _, rfl, rfl, k _ _ (Same.refl _) (.inl ?_)⟩
    have : red (fSub (i, 1) (j, 1)).1 (fSub (i, 1) (j, 1)).2 = (i - j, 1) := by
      show red (i * 1 - j * 1) (1 * 1) = _
      rw [Int.mul_one, Int.mul_one, Int.mul_one]
      exact red_self (rd_int _)
    rw [this]
    exact ⟨rfl, rfl⟩) k
theorem n_mul {C : Addr} (hx : NumAt C H x a) (hy : NumAt C H y b) (na : Nm a) (nb : Nm b) (k : ∀ v' H', Same H H' → NumAt C H' v' (red (fMul a b).1 (fMul a b).2) → Q v' H') :
    (rI IntMulOk fun i j => .int (i * j)) x y H Q ∨ rGyD C (spBin C fMul) E x y H Q ∨ rGyR C (spBin C fMul) E x y H Q :=
  n_bin (h := fMul) hx hy na nb rfl (fMul_c a b) (fun i j ex ey ea eb => by
    subst ex ey ea eb
    refine ⟨_, _, rfl, rfl, ok1000 na.2.1 nb.2.1, k _ _ (Same.refl _) (.inl ?_)⟩
    have : red (fMul (i, 1) (j, 1)).1 (fMul (i, 1) (j, 1)).2 = (i * j, 1) := by
      show red (i * j) (1 * 1) = _
      rw [Int.mul_one]
      exact red_self (rd_int _)
    rw [this]
    exact ⟨rfl, rfl⟩) k
theorem n_cmp {X : Cx} {op : CmpOp} {f g : Int × Int → Int × Int → Bool} {R : R2} (tn : ∀ i, Turns X T.Exact_a op (.int i) H) (hx : NumAt T.Exact_a H x a) (hy : NumAt T.Exact_a H y b) (na : Nm a) (nb : Nm b) (e2 : g b a = f a b)
    (ii : ∀ i j : Int, x = .int i → y = .int j → a = (i, 1) → b = (j, 1) → R x y H Q) (k : ∀ H', Same H H' → Q (.bl (f a b)) H') :
    R x y H Q ∨ rGyC K T.Exact_a (spCmp T.Exact_a f) E x y H Q ∨ rGyCR X op T.Exact_a (spCmp T.Exact_a g) E x y H Q := by
  rcases hx.cases with ⟨rfl, h1⟩ | ⟨p, dx, rfl, hp⟩
  · rcases hy.cases with ⟨rfl, h2⟩ | ⟨q, dy, rfl, hq⟩
    · exact .inl (ii _ _ rfl rfl (by rw [← h1]) (by rw [← h2]))
    · exact .inr (.inr ⟨q, dy, _, rfl, hq, tn _, _, _, b, a, rfl, ⟨q, dy, rfl, hq⟩, hx, nb, na, by rw [e2]; exact k⟩)
  · obtain ⟨t, ty, nf⟩ := num_ty T hy
    exact .inr (.inl ⟨p, dx, _, t, rfl, hp, ty, nf, _, _, a, b, rfl, ⟨p, dx, rfl, hp⟩, hy, na, nb, k⟩)
theorem n_lt {X : Cx} (tn : ∀ i, Turns X T.Exact_a .Lt (.int i) H) (hx : NumAt T.Exact_a H x a) (hy : NumAt T.Exact_a H y b) (na : Nm a) (nb : Nm b) (k : ∀ H', Same H H' → Q (.bl (bLt a b)) H') :
    (rI0 fun i j => .bl (decide (i < j))) x y H Q ∨ rGyC K T.Exact_a (spCmp T.Exact_a bLt) E x y H Q ∨ rGyCR X .Lt T.Exact_a (spCmp T.Exact_a bGt) E x y H Q :=
  n_cmp tn hx hy na nb rfl (fun i j ex ey ea eb => by
    subst ex ey ea eb
    refine ⟨_, _, rfl, rfl, ?_⟩
    have := k _ (Same.refl _)
    unfold bLt at this
    rw [Int.mul_one, Int.mul_one] at this
    exact this) k
theorem n_le {X : Cx} (tn : ∀ i, Turns X T.Exact_a .LtE (.int i) H) (hx : NumAt T.Exact_a H x a) (hy : NumAt T.Exact_a H y b) (na : Nm a) (nb : Nm b) (k : ∀ H', Same H H' → Q (.bl (bLe a b)) H') :
    (rI0 fun i j => .bl (decide (i ≤ j))) x y H Q ∨ rGyC K T.Exact_a (spCmp T.Exact_a bLe) E x y H Q ∨ rGyCR X .LtE T.Exact_a (spCmp T.Exact_a bGe) E x y H Q :=
  n_cmp tn hx hy na nb rfl (fun i j ex ey ea eb => by
    subst ex ey ea eb
    refine ⟨_, _, rfl, rfl, ?_⟩
    have := k _ (Same.refl _)
    unfold bLe at this
    rw [Int.mul_one, Int.mul_one] at this
    exact this) k
theorem n_ge {X : Cx} (tn : ∀ i, Turns X T.Exact_a .GtE (.int i) H) (hx : NumAt T.Exact_a H x a) (hy : NumAt T.Exact_a H y b) (na : Nm a) (nb : Nm b) (k : ∀ H', Same H H' → Q (.bl (bGe a b)) H') :
    (rI0 fun i j => .bl (decide (j ≤ i))) x y H Q ∨ rGyC K T.Exact_a (spCmp T.Exact_a bGe) E x y H Q ∨ rGyCR X .GtE T.Exact_a (spCmp T.Exact_a bLe) E x y H Q :=
  n_cmp tn hx hy na nb rfl (fun i j ex ey ea eb => by
    subst ex ey ea eb
    refine ⟨_, _, rfl, rfl, ?_⟩
    have := k _ (Same.refl _)
    unfold bGe at this
    rw [Int.mul_one, Int.mul_one] at this
    exact this) k
theorem n_eq {X : Cx} (tn : ∀ i, Turns X T.Exact_a .Eq (.int i) H) (hx : NumAt T.Exact_a H x a) (hy : NumAt T.Exact_a H y b) (k : ∀ H', Same H H' → Q (.bl (decide (a = b))) H') :
    rEq x y H Q ∨ rGyC K T.Exact_a (spExEq K T.Exact_a) E x y H Q ∨ rGyCR X .Eq T.Exact_a (spExEq K T.Exact_a) E x y H Q := by
  rcases hx.cases with ⟨rfl, h1⟩ | ⟨p, dx, rfl, hp⟩
  · rcases hy.cases with ⟨rfl, h2⟩ | ⟨q, dy, rfl, hq⟩
    · refine .inl ⟨rfl, ?_⟩
      have e : decide (V.int a.1 = V.int b.1) = decide (a = b) := decide_eq_decide.mpr ⟨fun z => Prod.ext (V.int.inj z) (h1.trans h2.symm), fun z => by rw [z]⟩
      rw [e]
      exact k _ (Same.refl _)
    · exact .inr (.inr ⟨q, dy, _, rfl, hq, tn _, _, _, b, rfl, ⟨q, dy, rfl, hq⟩, .inl ⟨a, hx, by
        rw [show decide (b = a) = decide (a = b) from decide_eq_decide.mpr eq_comm]
        exact k⟩⟩)
  · obtain ⟨t, ty, nf⟩ := num_ty T hy
    exact .inr (.inl ⟨p, dx, _, t, rfl, hp, ty, nf, _, _, a, rfl, ⟨p, dx, rfl, hp⟩, .inl ⟨b, hy, k⟩⟩)
end



/-! ### an error of class B goes out, its field f holding v -/
def FOut (B : Addr) (f : Str) (H : Hp) (v : V) (E : XK) : Prop := ∀ d H', Same H H' → H' d = some (.xd [(f, v)]) → E (.ref B) (some d) H'
theorem FOut.same {B : Addr} {f : Str} {H H1 : Hp} {v : V} {E : XK} (h : FOut B f H v E) (s : Same H H1) : FOut B f H1 v E := fun d H' s' e => h d H' (s.trans s') e
theorem mk_fout {B : Addr} {f : Str} {H : Hp} {v : V} {W : XK} (h : FOut B f H v W) : ∀ a, H a = none → spErrF B f (.ref a :: ([v] ++ [])) (upd H a (exo a B none))
    (fun u H2 => u = .non ∧ ∃ (d : Addr) (fs : List (Str × V)), H2 a = some (exo a B (some d)) ∧ H2 d = some (exd d fs) ∧ H d = none ∧ W (.ref B) (some d) (upd (del H2 a) d (.xd fs))) (fun _ _ _ => False) := fun a na =>
  ⟨a, v, rfl, upd_same, fun dx nd ne => ⟨rfl, dx, [(f, v)], upd_same, (upd_ne ne).trans upd_same, by rw [upd_ne ne] at nd; exact nd, h dx _ (fun b o e => by
    have nb : b ≠ a := ne_of_none e na
    have nd' : H dx = none := by rw [upd_ne ne] at nd; exact nd
    rw [upd_ne (ne_of_none e nd'), del_ne nb, upd_ne nb, upd_ne (ne_of_none e nd'), upd_ne nb]
    exact e) upd_same⟩⟩

/-! ### points and spots -/
abbrev Pt := (Int × Int) × (Int × Int)
def Sm (p : Int × Int) : Prop := p.1.natAbs < 2 ^ 240 ∧ p.2.natAbs < 2 ^ 240
def Fine (p : Int × Int) : Prop := Rd p ∧ Sm p
theorem Fine.nm {p : Int × Int} (h : Fine p) : Nm p := ⟨h.1.1, sz_up h.2.1 (by decide), sz_up h.2.2 (by decide)⟩
/-- v is a list or a tuple of xs -/
def SeqQ (H : Hp) (v : V) (xs : List V) : Prop := ∃ a, v = .ref a ∧ (H a = some (.lst xs) ∨ H a = some (.tup xs))
theorem SeqQ.same {H H' : Hp} {v : V} {xs : List V} (h : SeqQ H v xs) (s : Same H H') : SeqQ H' v xs := by
  obtain ⟨a, e, h⟩ := h
  exact ⟨a, e, h.elim (fun z => .inl (s _ _ z)) fun z => .inr (s _ _ z)⟩
section
variable {K : PySem.W.Frag}
theorem lt_list : PySem.W.kitAny K (.type "list") [.type "list", .type "tuple"] = some true := kitAny_cons (b := true) (kit_ty (by decide +kernel)) (fun e => by cases e) fun _ => rfl
theorem lt_tuple : PySem.W.kitAny K (.type "tuple") [.type "list", .type "tuple"] = some true := kitAny_cons (b := false) (kit_ty (by decide +kernel)) (fun _ => kitAny_cons (b := true) (kit_ty (by decide +kernel)) (fun e => by cases e) fun _ => rfl) fun e => by cases e
theorem lt_no {t : Value} (h1 : PySem.W.kitOne K t (.type "list") = some false) (h2 : PySem.W.kitOne K t (.type "tuple") = some false) : PySem.W.kitAny K t [.type "list", .type "tuple"] = some false :=
  kitAny_cons h1 (fun _ => kitAny_cons h2 (fun _ => kitAny_nil) fun e => by cases e) fun e => by cases e
theorem SeqQ.ty {H : Hp} {v : V} {xs : List V} (h : SeqQ H v xs) : ∃ t, TyX K H v t ∧ PySem.W.kitAny K t [.type "list", .type "tuple"] = some true := by
  obtain ⟨a, rfl, h | h⟩ := h
  · exact ⟨_, .base (.lst h), lt_list⟩
  · exact ⟨_, .base (.tup h), lt_tuple⟩
theorem SeqQ.ix {H : Hp} {v : V} {xs : List V} {i : Int} {y : V} {Q : VK} (h : SeqQ H v xs) (e : atI xs i = some y) (q : Q y H) : rIx K v (.int i) H Q := by
  obtain ⟨a, rfl, h | h⟩ := h
  · exact .inl ⟨a, xs, i, y, rfl, rfl, .inl (.inl h), e, q⟩
  · exact .inr (.inl ⟨a, xs, i, y, rfl, rfl, .inl (.inl h), e, q⟩)
theorem SeqQ.L {H : Hp} {v : V} {xs : List V} (h : SeqQ H v xs) : ∃ a, v = .ref a ∧ (SqL K H a xs ∨ SqT K H a xs) := by
  obtain ⟨a, rfl, h | h⟩ := h
  · exact ⟨a, rfl, .inl (.inl (.inl h))⟩
  · exact ⟨a, rfl, .inr (.inl (.inl h))⟩
end
/-- x is a number, worth o, or none -/
def NumB (K : PySem.W.Frag) (C : Addr) (H : Hp) (x : V) : Option (Int × Int) → Prop
  | some p => NumAt C H x p ∧ Fine p
  | none => NoNum K C H x
theorem NumB.same {K : PySem.W.Frag} {C : Addr} {H H' : Hp} {x : V} (s : Same H H') : ∀ {o : Option (Int × Int)}, NumB K C H x o → NumB K C H' x o
  | some _, h => ⟨h.1.same s, h.2⟩
  | none, h => NoNum.same h s
theorem NumB.is {K : PySem.W.Frag} {C : Addr} {H : Hp} {x : V} {Q : VK} : ∀ {o : Option (Int × Int)}, NumB K C H x o → Q (.bl o.isSome) H → (∃ p, NumAt C H x p) ∧ Q (.bl true) H ∨ NoNum K C H x ∧ Q (.bl false) H
  | some p, h, q => .inl ⟨⟨p, h.1⟩, q⟩
  | none, h, q => .inr ⟨h, q⟩
/-- what a thing is, asked for as a point -/
inductive ItemAt (K : PySem.W.Frag) (C : Addr) (H : Hp) (v : V) : Option Pt → Prop
  | good {x y : V} {p q : Int × Int} (h : SeqQ H v [x, y]) (hx : NumAt C H x p) (hy : NumAt C H y q) (fx : Fine p) (fy : Fine q) : ItemAt K C H v (some (p, q))
  | nolist {t : Value} (ty : TyX K H v t) (k : PySem.W.kitAny K t [.type "list", .type "tuple"] = some false) : ItemAt K C H v none
  | len {xs : List V} (h : SeqQ H v xs) (l : xs.length ≠ 2) : ItemAt K C H v none
  | nonum {x y : V} {ox oy : Option (Int × Int)} (h : SeqQ H v [x, y]) (hx : NumB K C H x ox) (hy : NumB K C H y oy) (n : (ox.isSome && oy.isSome) = false) : ItemAt K C H v none
theorem ItemAt.same {K : PySem.W.Frag} {C : Addr} {H H' : Hp} {v : V} {o : Option Pt} (h : ItemAt K C H v o) (s : Same H H') : ItemAt K C H' v o := by
  cases h with
  | good h hx hy fx fy => exact .good (h.same s) (hx.same s) (hy.same s) fx fy
  | nolist ty k => exact .nolist (tyX_same s ty) k
  | len h l => exact .len (h.same s) l
  | nonum h hx hy n => exact .nonum (h.same s) (hx.same s) (hy.same s) n
/-- a spot: a tuple of two numbers as they are told -/
structure SpotAt (C : Addr) (H : Hp) (v : V) (s : Pt) : Prop where
  at_ : ∃ t x y, v = .ref t ∧ H t = some (.tup [x, y]) ∧ ToldAt C H x s.1 ∧ ToldAt C H y s.2
  f1 : Fine s.1
  f2 : Fine s.2
theorem SpotAt.same {C : Addr} {H H' : Hp} {v : V} {s : Pt} (h : SpotAt C H v s) (e : Same H H') : SpotAt C H' v s := by
  obtain ⟨⟨t, x, y, rfl, ht, hx, hy⟩, f1, f2⟩ := h
  exact ⟨⟨t, x, y, rfl, e _ _ ht, hx.same e, hy.same e⟩, f1, f2⟩
theorem ToldAt.keepL {C : Addr} {H H' : Hp} {v : V} {p : Int × Int} {L : Addr} {ys : List V} (h : ToldAt C H v p) (hL : H L = some (.lst ys)) (k : Keep L H H') : ToldAt C H' v p := by
  rcases h with h | ⟨n, a, dx, e, z⟩
  · exact .inl h
  · exact .inr ⟨n, a, dx, e, k _ _ z (ne_of z hL fun q => by cases q)⟩
theorem SpotAt.keepL {C : Addr} {H H' : Hp} {v : V} {s : Pt} {L : Addr} {ys : List V} (h : SpotAt C H v s) (hL : H L = some (.lst ys)) (k : Keep L H H') : SpotAt C H' v s := by
  obtain ⟨⟨t, x, y, rfl, ht, hx, hy⟩, f1, f2⟩ := h
  exact ⟨⟨t, x, y, rfl, k _ _ ht (ne_of ht hL fun q => by cases q), hx.keepL hL k, hy.keepL hL k⟩, f1, f2⟩
inductive SpAll (C : Addr) (H : Hp) : List V → List Pt → Prop
  | nil : SpAll C H [] []
  | cons {v : V} {s : Pt} {vs : List V} {ps : List Pt} (h : SpotAt C H v s) (r : SpAll C H vs ps) : SpAll C H (v :: vs) (s :: ps)
theorem SpAll.mono {C : Addr} {H H' : Hp} (f : ∀ v s, SpotAt C H v s → SpotAt C H' v s) : ∀ {vs : List V} {ps : List Pt}, SpAll C H vs ps → SpAll C H' vs ps
  | _, _, .nil => .nil
  | _, _, .cons h r => .cons (f _ _ h) (r.mono f)
theorem SpAll.same {C : Addr} {H H' : Hp} (e : Same H H') {vs : List V} {ps : List Pt} (h : SpAll C H vs ps) : SpAll C H' vs ps := h.mono fun _ _ z => z.same e
theorem SpAll.keepL {C : Addr} {H H' : Hp} {L : Addr} {ys : List V} (hL : H L = some (.lst ys)) (k : Keep L H H') {vs : List V} {ps : List Pt} (h : SpAll C H vs ps) : SpAll C H' vs ps := h.mono fun _ _ z => z.keepL hL k
theorem SpAll.snoc {C : Addr} {H : Hp} {v : V} {s : Pt} (h : SpotAt C H v s) : ∀ {vs : List V} {ps : List Pt}, SpAll C H vs ps → SpAll C H (vs ++ [v]) (ps ++ [s])
  | _, _, .nil => .cons h .nil
  | _, _, .cons a r => .cons a (r.snoc h)
theorem SpAll.len {C : Addr} {H : Hp} : ∀ {vs : List V} {ps : List Pt}, SpAll C H vs ps → vs.length = ps.length
  | _, _, .nil => rfl
  | _, _, .cons _ r => congrArg (· + 1) r.len
theorem SpAll.at {C : Addr} {H : Hp} : ∀ {vs : List V} {ps : List Pt} {i : Nat} {v : V}, SpAll C H vs ps → vs[i]? = some v → ∃ s, ps[i]? = some s ∧ SpotAt C H v s
  | _, _, 0, _, .cons h _, e => ⟨_, rfl, (Option.some.inj e) ▸ h⟩
  | _, _, i + 1, _, .cons _ r, e => r.at (i := i) e
  | _, _, _, _, .nil, e => by simp at e
theorem SpAll.get {C : Addr} {H : Hp} : ∀ {vs : List V} {ps : List Pt} {i : Nat} {s : Pt}, SpAll C H vs ps → ps[i]? = some s → ∃ v, vs[i]? = some v ∧ SpotAt C H v s
  | _, _, 0, _, .cons h _, e => ⟨_, rfl, (Option.some.inj e) ▸ h⟩
  | _, _, i + 1, _, .cons _ r, e => r.get (i := i) e
  | _, _, _, _, .nil, e => by simp at e
theorem SpAll.drop {C : Addr} {H : Hp} : ∀ (k : Nat) {vs : List V} {ps : List Pt}, SpAll C H vs ps → SpAll C H (vs.drop k) (ps.drop k)
  | 0, _, _, h => h
  | _ + 1, _, _, .nil => .nil
  | k + 1, _, _, .cons _ r => r.drop k
theorem atI_m1 {α : Type} {xs : List α} {v : α} (h : xs.getLast? = some v) : atI xs (-1) = some v := by
  obtain ⟨l, rfl⟩ := List.getLast?_eq_some_iff.mp h
  exact atI_last l v
theorem SpAll.last {C : Addr} {H : Hp} : ∀ {vs : List V} {ps : List Pt}, SpAll C H vs ps → ps ≠ [] → ∃ v s, atI vs (-1) = some v ∧ vs.getLast? = some v ∧ ps.getLast? = some s ∧ SpotAt C H v s := by
  intro vs ps h hn
  have hl := h.len
  have hp := List.length_pos_iff.mpr hn
  have e : ps.getLast? = some (ps.getLast hn) := List.getLast?_eq_some_getLast hn
  obtain ⟨v, hv, hs⟩ := h.get (i := ps.length - 1) (s := ps.getLast hn) (by rw [← List.getLast?_eq_getElem?, e])
  have ev : vs.getLast? = some v := by rw [List.getLast?_eq_getElem?, hl, hv]
  exact ⟨v, _, atI_m1 ev, ev, e, hs⟩
theorem SpAll.first {C : Addr} {H : Hp} {vs : List V} {ps : List Pt} (h : SpAll C H vs ps) (hn : ps ≠ []) : ∃ v s, atI vs 0 = some v ∧ ps.head? = some s ∧ SpotAt C H v s := by
  cases h with
  | nil => exact absurd rfl hn
  | cons a r => exact ⟨_, _, atI_nat (j := 0) rfl, rfl, a⟩



/-! ### lines: the code -/
section
variable {P : Program} {w : World} {K : PySem.W.Frag} {mg : Str → Option Value} {base : Heap}
def spIsList (K : PySem.W.Frag) : Sp := fun vs H Q _ => ∃ v t b, vs = [v] ∧ TyX K H v t ∧ PySem.W.kitAny K t [.type "list", .type "tuple"] = some b ∧ ∀ H', Same H H' → Q (.bl b) H'
theorem ok_is_list (T : Tx K mg) : FnOk P w K mg base CX0 1 T.is_list_a T.is_list_d ["thing"] (spIsList K) := by
  refine T.is_list_F.ok sc_is_list (fun vs H Q E h => ?_) (fun cdv A outer s H vs Q E hr h => ?_)
  · obtain ⟨v, t, b, rfl, _⟩ := h
    rfl
  · obtain ⟨v, t, b, rfl, ty, hk, k⟩ := h
    refine ⟨_, (pss_one (ps_ret (pe_callB call_isiT (by rfl) T.z_isinstance (by decide +kernel) (pa_cons (pv 0) (pa_cons (pe_tup (pa_cons (pe_bltn (v := .ty "list") (by rfl) T.z_list (by decide +kernel) rfl) (pa_cons (pe_bltn (v := .ty "tuple") (by rfl) T.z_tuple (by decide +kernel) rfl) pa_nil))) pa_nil))))), ?_⟩
    refine ⟨_, rfl, (by show 2 ≤ sizeLine; decide), fun t nt => ?_⟩
    have s1 := same_upd (o := .tup [.ty "list", .ty "tuple"]) nt
    exact ⟨_, _, _, _, _, _, rfl, upd_same, .cons (.ty "list") (.cons (.ty "tuple") .nil), tyX_same s1 ty, hk, k _ s1⟩
def spIsPoint (K : PySem.W.Frag) (C : Addr) : Sp := fun vs H Q _ => ∃ v o, vs = [v] ∧ ItemAt K C H v o ∧ ∀ H', Same H H' → Q (.bl o.isSome) H'
theorem ok_is_point (T : Tx K mg) : FnOk P w K mg base CX0 3 T.is_point_a T.is_point_d ["thing"] (spIsPoint K T.Exact_a) := by
  refine T.is_point_F.ok sc_is_point (fun vs H Q E h => ?_) (fun cdv A outer s H vs Q E hr h => ?_)
  · obtain ⟨v, o, rfl, _⟩ := h
    rfl
  · obtain ⟨v, o, rfl, hv, k⟩ := h
    refine ⟨_, (pss_one (ps_ret (pe_and (pe_call (ok_is_list T) (hr.mono (by decide)) rfl T.is_list_m T.is_list_F.kp T.is_list_b .nil pass0 (pa_cons (pv 0) pa_nil)) (pe_and (pe_cmpR op_eq (pe_callB (call_len_seq) (by rfl) T.z_len (by decide +kernel) (pa_cons (pv 0) pa_nil)) pe_int (nomark _)) (pe_and (pe_call (ok_is_number T) (hr.mono (by decide)) rfl T.is_number_m T.is_number_F.kp T.is_number_b .nil pass0 (pa_cons (pe_ix ix_seq (pv 0) pe_int (fun _ _ => rfl)) pa_nil)) (pe_one (pe_call (ok_is_number T) (hr.mono (by decide)) rfl T.is_number_m T.is_number_F.kp T.is_number_b .nil pass0 (pa_cons (pe_ix ix_seq (pv 0) pe_int (fun _ _ => rfl)) pa_nil)))))))), ?_⟩
    -- two numbers, or not
    have two : ∀ {x y : V} {ox oy : Option (Int × Int)}, SeqQ H v [x, y] → NumB K T.Exact_a H x ox → NumB K T.Exact_a H y oy → (ox.isSome && oy.isSome) = o.isSome →
        ∀ H', Same H H' → tAndV (tOp rEq (tCB (fun xs H Q => ∃ p ys, xs = [.ref p] ∧ (SqL K H p ys ∨ SqT K H p ys) ∧ Q (.int ys.length) H) (tCons (tVar 0) tNil)) (tC (.int 2)))
          (tAndV (tCall (spIsNumber K T.Exact_a) [] E0 (tCons (tOp (rIx K) (tVar 0) (tC (.int 0))) tNil)) (tCall (spIsNumber K T.Exact_a) [] E0 (tCons (tOp (rIx K) (tVar 0) (tC (.int 1))) tNil))) [some v] H' Q := by
      intro x y ox oy h hx hy e H' s
      obtain ⟨a, ea, hL⟩ := (h.same s).L (K := K)
      refine ⟨_, rfl, a, _, ea ▸ rfl, hL, rfl, _, rfl, ?_⟩
      rw [show decide (V.int (([x, y] : List V).length : Nat) = V.int 2) = true from rfl]
      refine iteT ?_
      have kq := k _ s
      rw [← e] at kq
      refine ⟨_, rfl, (h.same s).ix (atI_nat (j := 0) rfl) ⟨_, rfl, ?_⟩⟩
      cases ox with
      | none => exact .inr ⟨NoNum.same hx s, _, rfl, iteF kq⟩
      | some p =>
        refine .inl ⟨⟨p, NumAt.same hx.1 s⟩, _, rfl, iteT ?_⟩
        refine ⟨_, rfl, (h.same s).ix (atI_nat (j := 1) rfl) ⟨_, rfl, ?_⟩⟩
        cases oy with
        | none => exact .inr ⟨NoNum.same hy s, kq⟩
        | some q => exact .inl ⟨⟨q, NumAt.same hy.1 s⟩, kq⟩
    cases hv with
    | good h hx hy fx fy =>
      obtain ⟨t, ty, hk⟩ := h.ty (K := K)
      refine ⟨_, rfl, _, t, _, rfl, ty, hk, fun H1 s1 => ⟨_, rfl, iteT ?_⟩⟩
      exact two (ox := some _) (oy := some _) h ⟨hx, fx⟩ ⟨hy, fy⟩ rfl H1 s1
    | nolist ty hk => exact ⟨_, rfl, _, _, _, rfl, ty, hk, fun H1 s1 => ⟨_, rfl, iteF (k _ s1)⟩⟩
    | len h l =>
      obtain ⟨t, ty, hk⟩ := h.ty (K := K)
      refine ⟨_, rfl, _, t, _, rfl, ty, hk, fun H1 s1 => ⟨_, rfl, iteT ?_⟩⟩
      obtain ⟨a, rfl, hL⟩ := (h.same s1).L (K := K)
      refine ⟨_, rfl, a, _, rfl, hL, rfl, _, rfl, ?_⟩
      rw [decide_eq_false (fun z => l (by have := V.int.inj z; omega))]
      exact iteF (k _ s1)
    | nonum h hx hy n =>
      obtain ⟨t, ty, hk⟩ := h.ty (K := K)
      refine ⟨_, rfl, _, t, _, rfl, ty, hk, fun H1 s1 => ⟨_, rfl, iteT ?_⟩⟩
      exact two h hx hy n H1 s1
/-! a row of numbers copied -/
inductive TdAll (C : Addr) (H : Hp) : List V → List (Int × Int) → Prop
  | nil : TdAll C H [] []
  | cons {v : V} {p : Int × Int} {vs : List V} {ps : List (Int × Int)} (h : ToldAt C H v p) (r : TdAll C H vs ps) : TdAll C H (v :: vs) (p :: ps)
theorem TdAll.mono {C : Addr} {H H' : Hp} (f : ∀ v s, ToldAt C H v s → ToldAt C H' v s) : ∀ {vs : List V} {ps : List (Int × Int)}, TdAll C H vs ps → TdAll C H' vs ps
  | _, _, .nil => .nil
  | _, _, .cons h r => .cons (f _ _ h) (r.mono f)
theorem TdAll.snoc {C : Addr} {H : Hp} {v : V} {s : Int × Int} (h : ToldAt C H v s) : ∀ {vs : List V} {ps : List (Int × Int)}, TdAll C H vs ps → TdAll C H (vs ++ [v]) (ps ++ [s])
  | _, _, .nil => .cons h .nil
  | _, _, .cons a r => .cons a (r.snoc h)
theorem TdAll.len {C : Addr} {H : Hp} : ∀ {vs : List V} {ps : List (Int × Int)}, TdAll C H vs ps → vs.length = ps.length
  | _, _, .nil => rfl
  | _, _, .cons _ r => congrArg (· + 1) r.len
def spCopied (C : Addr) : Sp := fun vs H Q _ => ∃ v xs ps, vs = [v] ∧ SeqQ H v xs ∧ xs.length = ps.length ∧ xs.length ≤ 1000 ∧ (∀ (i : Nat) (x : V) (p : Int × Int), xs[i]? = some x → ps[i]? = some p → NumAt C H x p ∧ Fine p) ∧
  ∀ t H' ys, Same H H' → H' t = some (.tup ys) → TdAll C H' ys ps → Q (.ref t) H'
theorem ok_copied (T : Tx K mg) : FnOk P w K mg base CX0 6 T.copied_a T.copied_d ["row"] (spCopied T.Exact_a) := by
  refine T.copied_F.ok sc_copied (fun vs H Q E h => ?_) (fun cdv A outer s H vs Q E hr h => ?_)
  · obtain ⟨v, xs, ps, rfl, _⟩ := h
    rfl
  · obtain ⟨v, xs, ps, rfl, ⟨a, rfl, ha⟩, hn, hl, hps, k⟩ := h
    refine ⟨_, (pss_one (ps_ret (pe_callTy call_tuple_of (by rfl) T.z_tuple (by decide +kernel) (pa_cons (pe_lc (g := gName 1) (tt := tYes) (own := [("part", 1)]) rfl sc_copied.nd (pi_lt (pv 0)) (blkOk_by (own := [("part", 1)]) (N := ["row", "part"]) (sc := defScope s_copied) (by decide +kernel))
   (fun _ _ _ _ _ => pg_name (i := 1) sc_copied.nd rfl (Or.inl rfl)) (fun _ _ _ _ _ => pts_nil) (fun _ _ _ _ _ => (pe_ifExp (pt_val (pe_call (ok_is_number T) (hr.mono (by decide)) rfl T.is_number_m T.is_number_F.kp T.is_number_b .nil pass0 (pa_cons (pv 1) pa_nil))) (pe_call (ok_plain T) (hr.mono (by decide)) rfl T.plain_m T.plain_F.kp T.plain_b .nil pass0 (pa_cons (pv 1) pa_nil)) (pv 1)))) pa_nil)))), ?_⟩
    rcases ha with ha | ha
    · have cpyG : ∀ {H2 : Hp}, H2 a = some (.lst xs) → SqL K H2 a xs := fun z => .inl (.inl z)
      refine .inl ⟨_, rfl, a, rfl, ⟨xs, .inl (.inl ha)⟩, fun D nD => ?_⟩
      have w := walk_list (K := K) (a := a) (xs := xs)
      refine lc_it w (fun i H2 => Same H H2 ∧ ∃ ys, H2 D = some (.lst ys) ∧ TdAll T.Exact_a H2 ys (ps.take i)) ⟨same_upd nD, [], upd_same, by rw [List.take_zero]; exact .nil⟩ (fun i H2 _ e => cpyG (e.1 _ _ ha)) ?_ ?_
      · rintro i x H2 H3 hi ⟨e1, ys, eD, ht⟩ ⟨rfl, hx⟩
        obtain ⟨p, hp⟩ : ∃ p, ps[i]? = some p := ⟨ps[i]'(by rw [← hn]; exact hi), List.getElem?_eq_getElem _⟩
        obtain ⟨hx0, fp⟩ := hps i x p hx hp
        have hx1 := hx0.same e1
        refine ⟨rfl, yes_of ?_⟩
        refine ⟨_, rfl, x, rfl, .inl ⟨⟨p, hx1⟩, _, rfl, iteT ?_⟩⟩
        refine ⟨_, rfl, x, p, rfl, hx1, fp.1, sz_up fp.2.2 (by decide), fun v' H4 e4 hv' => ⟨ys, e4 _ _ eD, ?_, ?_⟩⟩
        · rw [ht.len, List.length_take]
          exact small1000 (by omega)
        · have nDH : H D = none := nD
          have eD4 := e4 _ _ eD
          have kp : Keep D H4 (upd H4 D (.lst (ys ++ [v']))) := fun b o e n => (upd_ne n).trans e
          refine ⟨fun c o e => by rw [upd_ne (ne_of_none e nDH)]; exact e4 _ _ (e1 _ _ e), ys ++ [v'], upd_same, ?_⟩
          rw [List.take_succ, hp]
          exact ((ht.mono fun v s z => z.same e4).mono fun v s z => z.keepL eD4 kp).snoc (hv'.keepL eD4 kp)
      · rintro H2 ⟨e1, ys, eD, ht⟩
        rw [hn, List.take_length] at ht
        refine ⟨D, ys, rfl, .inl ⟨.inl (.inl eD), fun l nl => ?_⟩⟩
        exact k l _ ys (e1.trans (same_upd nl)) upd_same (ht.mono fun v s z => z.same (same_upd nl))
    · have cpyG : ∀ {H2 : Hp}, H2 a = some (.tup xs) → SqT K H2 a xs := fun z => .inl (.inl z)
      refine .inr ⟨_, rfl, a, rfl, ⟨xs, .inl (.inl ha)⟩, fun D nD => ?_⟩
      have w := walk_tup (K := K) (a := a) (xs := xs)
      refine lc_it w (fun i H2 => Same H H2 ∧ ∃ ys, H2 D = some (.lst ys) ∧ TdAll T.Exact_a H2 ys (ps.take i)) ⟨same_upd nD, [], upd_same, by rw [List.take_zero]; exact .nil⟩ (fun i H2 _ e => cpyG (e.1 _ _ ha)) ?_ ?_
      · rintro i x H2 H3 hi ⟨e1, ys, eD, ht⟩ ⟨rfl, hx⟩
        obtain ⟨p, hp⟩ : ∃ p, ps[i]? = some p := ⟨ps[i]'(by rw [← hn]; exact hi), List.getElem?_eq_getElem _⟩
        obtain ⟨hx0, fp⟩ := hps i x p hx hp
        have hx1 := hx0.same e1
        refine ⟨rfl, yes_of ?_⟩
        refine ⟨_, rfl, x, rfl, .inl ⟨⟨p, hx1⟩, _, rfl, iteT ?_⟩⟩
        refine ⟨_, rfl, x, p, rfl, hx1, fp.1, sz_up fp.2.2 (by decide), fun v' H4 e4 hv' => ⟨ys, e4 _ _ eD, ?_, ?_⟩⟩
        · rw [ht.len, List.length_take]
          exact small1000 (by omega)
        · have nDH : H D = none := nD
          have eD4 := e4 _ _ eD
          have kp : Keep D H4 (upd H4 D (.lst (ys ++ [v']))) := fun b o e n => (upd_ne n).trans e
          refine ⟨fun c o e => by rw [upd_ne (ne_of_none e nDH)]; exact e4 _ _ (e1 _ _ e), ys ++ [v'], upd_same, ?_⟩
          rw [List.take_succ, hp]
          exact ((ht.mono fun v s z => z.same e4).mono fun v s z => z.keepL eD4 kp).snoc (hv'.keepL eD4 kp)
      · rintro H2 ⟨e1, ys, eD, ht⟩
        rw [hn, List.take_length] at ht
        refine ⟨D, ys, rfl, .inl ⟨.inl (.inl eD), fun l nl => ?_⟩⟩
        exact k l _ ys (e1.trans (same_upd nl)) upd_same (ht.mono fun v s z => z.same (same_upd nl))
end



/-! ### points checked -/
def wrongAt : Option (Int × Int) → Nat → List (Option Pt) → Option Nat
  | _, _, [] => none
  | _, i, none :: _ => some i
  | prev, i, some s :: r => if (match prev with | none => false | some t => bLe s.1 t) = true then some i else wrongAt (some s.1) (i + 1) r
def lineWrong (os : List (Option Pt)) : Option Nat :=
  if os.length = 0 then some 0 else match wrongAt none 0 os with
    | some k => some k
    | none => if os.length = 1 then some 1 else none
section
variable {P : Program} {w : World} {K : PySem.W.Frag} {mg : Str → Option Value} {base : Heap}
theorem ok_BadPoint_init (T : Tx K mg) : FnOk P w K mg base CX0 1 T.BadPoint_init_a T.BadPoint_init_d ["self", "index"] (spErrF T.BadPoint_a "index") := by
  refine T.BadPoint_init_F.ok sc_BadPoint_init (fun vs H Q E h => ?_) (fun cdv A outer s H vs Q E hr h => ?_)
  · obtain ⟨a, y, rfl, _⟩ := h
    rfl
  · obtain ⟨a, y, rfl, ha, k⟩ := h
    refine ⟨_, (pss_one (ps_ost (pv 0) (pv 1))), ?_⟩
    exact ⟨_, rfl, _, rfl, a, T.BadPoint_a, rfl, T.BadPoint_e.oex, T.BadPoint_n_index, .inl ⟨ha, k⟩⟩
theorem ok_BadMoment_init (T : Tx K mg) : FnOk P w K mg base CX0 1 T.BadMoment_init_a T.BadMoment_init_d ["self", "moment"] (spErrF T.BadMoment_a "moment") := by
  refine T.BadMoment_init_F.ok sc_BadMoment_init (fun vs H Q E h => ?_) (fun cdv A outer s H vs Q E hr h => ?_)
  · obtain ⟨a, y, rfl, _⟩ := h
    rfl
  · obtain ⟨a, y, rfl, ha, k⟩ := h
    refine ⟨_, (pss_one (ps_ost (pv 0) (pv 1))), ?_⟩
    exact ⟨_, rfl, _, rfl, a, T.BadMoment_a, rfl, T.BadMoment_e.oex, T.BadMoment_n_moment, .inl ⟨ha, k⟩⟩
theorem ok_BadLine_init (T : Tx K mg) : FnOk P w K mg base CX0 1 T.BadLine_init_a T.BadLine_init_d ["self", "line"] (spErrF T.BadLine_a "line") := by
  refine T.BadLine_init_F.ok sc_BadLine_init (fun vs H Q E h => ?_) (fun cdv A outer s H vs Q E hr h => ?_)
  · obtain ⟨a, y, rfl, _⟩ := h
    rfl
  · obtain ⟨a, y, rfl, ha, k⟩ := h
    refine ⟨_, (pss_one (ps_ost (pv 0) (pv 1))), ?_⟩
    exact ⟨_, rfl, _, rfl, a, T.BadLine_a, rfl, T.BadLine_e.oex, T.BadLine_n_line, .inl ⟨ha, k⟩⟩
def spChecked (K : PySem.W.Frag) (C B : Addr) : Sp := fun vs H Q E => ∃ v, vs = [v] ∧
  ((∃ t, TyX K H v t ∧ PySem.W.kitAny K t [.type "list", .type "tuple"] = some false) ∧ FOut B "index" H (.int 0) E ∨
   ∃ xs os, SeqQ H v xs ∧ xs.length = os.length ∧ xs.length ≤ 900 ∧ (∀ (i : Nat) (x : V) (o : Option Pt), xs[i]? = some x → os[i]? = some o → ItemAt K C H x o) ∧
     (∀ k, lineWrong os = some k → FOut B "index" H (.int (k : Nat)) E) ∧
     (lineWrong os = none → ∀ (ps : List Pt) (L : Addr) (H' : Hp) (ys : List V), os = ps.map some → Same H H' → H' L = some (.lst ys) → SpAll C H' ys ps → Q (.ref L) H'))
theorem wrong_step {os : List (Option Pt)} {ps : List Pt} {i : Nat} {o : Option Pt} (ht : os.take i = ps.map some) (hw : wrongAt none 0 os = wrongAt (ps.getLast?.map Prod.fst) i (os.drop i)) (ho : os[i]? = some o) :
    (o = none → wrongAt none 0 os = some i) ∧ (∀ s, o = some s → (match ps.getLast?.map Prod.fst with | none => false | some t => bLe s.1 t) = true → wrongAt none 0 os = some i) ∧
    (∀ s, o = some s → (match ps.getLast?.map Prod.fst with | none => false | some t => bLe s.1 t) = false → os.take (i + 1) = (ps ++ [s]).map some ∧ wrongAt none 0 os = wrongAt ((ps ++ [s]).getLast?.map Prod.fst) (i + 1) (os.drop (i + 1))) := by
  have hi : i < os.length := (List.getElem?_eq_some_iff.mp ho).1
  have hd : os.drop i = o :: os.drop (i + 1) := by
    rw [List.drop_eq_getElem_cons hi, (List.getElem?_eq_some_iff.mp ho).2]
  rw [hd] at hw
  refine ⟨fun e => ?_, fun s e c => ?_, fun s e c => ?_⟩
  · rw [hw, e]
    rfl
  · rw [hw, e]
    show (if _ then _ else _) = _
    rw [if_pos c]
  · constructor
    · rw [List.take_succ, ht, ho, e, List.map_append]
      rfl
    · rw [hw, e]
      show (if _ then _ else _) = _
      rw [if_neg (by rw [c]; exact Bool.false_ne_true), List.getLast?_append]
      rfl
theorem line_wrong_at {os : List (Option Pt)} {k : Nat} (h : os.length ≠ 0) (e : wrongAt none 0 os = some k) : lineWrong os = some k := by
  unfold lineWrong
  rw [if_neg h, e]
theorem line_wrong_one {os : List (Option Pt)} (h : os.length = 1) (e : wrongAt none 0 os = none) : lineWrong os = some 1 := by
  unfold lineWrong
  rw [if_neg (by omega), e]
  show (if os.length = 1 then _ else _) = _
  rw [if_pos h]
theorem line_right {os : List (Option Pt)} (h0 : os.length ≠ 0) (h1 : os.length ≠ 1) (e : wrongAt none 0 os = none) : lineWrong os = none := by
  unfold lineWrong
  rw [if_neg h0, e]
  show (if os.length = 1 then _ else _) = _
  rw [if_neg h1]
theorem ok_checked_points_x (T : Tx K mg) : FnOk P w K mg base (L2.CX P w) 12 T.checked_points_a T.checked_points_d ["things"] (spChecked K T.Exact_a T.BadPoint_a) := by
  refine T.checked_points_F.okX sc_checked_points (fun vs H Q E h => ?_) (fun cdv A outer s H vs Q E hr h => ?_)
  · obtain ⟨v, rfl, _⟩ := h
    rfl
  · obtain ⟨v, rfl, h⟩ := h
    refine ⟨_, (pss_cons (ps_if (PW.pt (pw_or (pt_not (pt_val (pe_call (ok_is_list T) (hr.mono (by decide)) rfl T.is_list_m T.is_list_F.kp T.is_list_b .nil pass0 (pa_cons (pv 0) pa_nil)))) (pw_or1 (pt_cmpR op_eq (pe_callB (call_len_seq) (by rfl) T.z_len (by decide +kernel) (pa_cons (pv 0) pa_nil)) pe_int (nomark _)))))
  (pss_one (ps_raise rfl (takes_of rfl rfl rfl rfl) (pmk_oex T.BadPoint_e.oex T.BadPoint_init_M.at_ (beq_iff_eq.mp T.BadPoint_init_M.fn) (ok_BadPoint_init T) (hr.mono (by decide)) T.BadPoint_init_b .nil pass0 rfl T.BadPoint_m (pa_cons pe_int pa_nil))))
  pss_nil)
  (pss_cons (ps_set (i := 1) sc_checked_points.nd rfl (Or.inl rfl) (pe_lst pa_nil))
  (pss_cons (ps_for (passes_of rfl) rfl (pi_enumE (by rfl) T.z_enumerate (pa_cons (pv 0) pa_nil)) (pg_tup (by rfl) (pgs_cons (pg_name (i := 2) sc_checked_points.nd rfl (Or.inl rfl)) (pgs_cons (pg_name (i := 3) sc_checked_points.nd rfl (Or.inl rfl)) pgs_nil)))
  (pss_cons (ps_if (PW.pt (pw_or (pt_not (pt_val (pe_call (ok_is_point T) (hr.mono (by decide)) rfl T.is_point_m T.is_point_F.kp T.is_point_b .nil pass0 (pa_cons (pv 3) pa_nil)))) (pw_or1 (PW.pt (pw_and (pt_cmpR op_gt (pv 2) pe_int (nomark _)) (pw_and1 (pt_cmpR (op_le.or ((op_gyC (op := .LtE) (fun _ _ => rfl) T.Exact_le_M.at_ T.Exact_le_M.fn (ok_Exact_le T) (hr.mono (by decide)) T.Exact_le_b pass0).or (op_gyCR (op := .LtE) (fun _ _ => rfl) T.Exact_ge_M.at_ T.Exact_ge_M.fn (ok_Exact_ge T) (hr.mono (by decide)) T.Exact_ge_b pass0))) (pe_ix ix_seq (pv 3) pe_int (fun _ _ => rfl)) (pe_ix ix_tup (pe_ix ix_list (pv 1) (pe_un (un_neg) pe_int) (fun _ _ => rfl)) pe_int (fun _ _ => rfl)) (nomark _))))))))
  (pss_one (ps_raise rfl (takes_of rfl rfl rfl rfl) (pmk_oex T.BadPoint_e.oex T.BadPoint_init_M.at_ (beq_iff_eq.mp T.BadPoint_init_M.fn) (ok_BadPoint_init T) (hr.mono (by decide)) T.BadPoint_init_b .nil pass0 rfl T.BadPoint_m (pa_cons (pv 2) pa_nil))))
  pss_nil)
  (pss_one (ps_expr (pe_bm PySem.F.plainAttrs_list PySem.F.slot_list_append PySem.F.type_list_append mt_append (pv 1) (pa_cons (pe_call (ok_copied T) (hr.mono (by decide)) rfl T.copied_m T.copied_F.kp T.copied_b .nil pass0 (pa_cons (pv 3) pa_nil)) pa_nil))))))
  (pss_cons (ps_if (pt_cmpR op_eq (pe_callB (call_len_seq) (by rfl) T.z_len (by decide +kernel) (pa_cons (pv 1) pa_nil)) pe_int (nomark _))
  (pss_one (ps_raise rfl (takes_of rfl rfl rfl rfl) (pmk_oex T.BadPoint_e.oex T.BadPoint_init_M.at_ (beq_iff_eq.mp T.BadPoint_init_M.fn) (ok_BadPoint_init T) (hr.mono (by decide)) T.BadPoint_init_b .nil pass0 rfl T.BadPoint_m (pa_cons pe_int pa_nil))))
  pss_nil)
  (pss_one (ps_ret (pv 1))))))), ?_⟩
    rcases h with ⟨⟨t, ty, hk⟩, k0⟩ | ⟨xs, os, hsq, hn, hl, hit, kx, kq⟩
    · refine ⟨_, rfl, v, t, _, rfl, ty, hk, fun H1 s1 => ⟨_, rfl, iteT (iteT ?_)⟩⟩
      exact ⟨(by show 1 ≤ 1000; decide), mk_fout (k0.same s1)⟩
    · obtain ⟨t, ty, hk⟩ := hsq.ty (K := K)
      refine ⟨_, rfl, v, t, _, rfl, ty, hk, fun H0 s0 => ⟨_, rfl, iteF ?_⟩⟩
      have hsq0 := hsq.same s0
      obtain ⟨a, rfl, hq⟩ := hsq0.L (K := K)
      refine ⟨_, rfl, a, xs, rfl, hq, rfl, _, rfl, ?_⟩
      by_cases h0 : xs.length = 0
      · rw [show decide (V.int ((xs.length : Nat) : Int) = V.int 0) = true by rw [h0]; rfl]
        refine iteT ?_
        refine ⟨(by show 1 ≤ 1000; decide), mk_fout ((kx 0 ?_).same s0)⟩
        unfold lineWrong
        rw [if_pos (by rw [← hn]; exact h0)]
      rw [decide_eq_false (fun z => h0 (by have := V.int.inj z; omega))]
      refine iteF ?_
      refine ⟨(by show 0 ≤ sizeLine; decide), fun L nL0 => ?_⟩
      have nL : H L = none := s0.free nL0
      have s01 : Same H0 (upd H0 L (.lst [])) := same_upd nL0
      have hL : (upd H0 L (.lst [])) L = some (.lst []) := upd_same
      generalize upd H0 L (.lst []) = H1 at s01 hL ⊢
      have s1 := s0.trans s01
      obtain ⟨a', e', ha⟩ := hsq
      cases e'
      rcases ha with ha | ha
      · have cpG : ∀ {H2 : Hp}, H2 a = some (.lst xs) → SqL K H2 a xs := fun z => .inl (.inl z)
        have hsq1 := cpG (s1 _ _ ha)
        have w := walk_enum (K := K) (a := a) (xs := xs)
        left
        refine ⟨_, rfl, a, xs, rfl, hsq1, for_it w (fun i σ H2 => (∃ v3 v4, σ = [some (.ref a), some (.ref L), v3, v4]) ∧ Same H H2 ∧ ∃ ys ps, H2 L = some (.lst ys) ∧ SpAll T.Exact_a H2 ys ps ∧ os.take i = ps.map some ∧ wrongAt none 0 os = wrongAt (ps.getLast?.map Prod.fst) i (os.drop i)) ?_ ?_ ?_ ?_⟩
        · exact ⟨⟨none, none, rfl⟩, s1, [], [], hL, .nil, rfl, rfl⟩
        · exact fun i σ H2 _ e => cpG (e.2.1 _ _ ha)
        · rintro i x σ H2 H3 hi ⟨⟨v3, v4, rfl⟩, e1, ys, ps, eL, hsp, htk, hw⟩ ⟨Tp, x1, x, rfl, nT, rfl, hx1, hx⟩
          cases hx1
          obtain ⟨o, ho⟩ : ∃ o, os[i]? = some o := ⟨os[i]'(by rw [← hn]; exact hi), List.getElem?_eq_getElem _⟩
          have item := (hit i x o hx ho).same e1
          obtain ⟨w1, w2, w3⟩ := wrong_step htk hw ho
          have e2 := same_upd (o := .tup [.int (i : Nat), x]) nT
          have hsz : ps.length = i := by
            have := congrArg List.length htk
            rw [List.length_take, List.length_map] at this
            have hio := (List.getElem?_eq_some_iff.mp ho).1
            omega
          have o0 : os.length ≠ 0 := by
            have hio := (List.getElem?_eq_some_iff.mp ho).1
            omega
          refine ⟨Tp, _, rfl, .inl (.inl upd_same), rfl, _, _, rfl, _, _, rfl, rfl, ?_⟩
          generalize upd H2 Tp (.tup [.int (i : Nat), x]) = H3 at e2 ⊢
          have item := item.same e2
          have eL := e2 _ _ eL
          have hsp := hsp.same e2
          have e13 := e1.trans e2
          refine ⟨_, rfl, x, o, rfl, item, fun H4 s4 => ⟨_, rfl, ?_⟩⟩
          have item := item.same s4
          have eL := s4 _ _ eL
          have hsp := hsp.same s4
          have e14 := e13.trans s4
          have rai : ∀ (σ : L2.St) (D : Ends) (H5 : Hp), Same H H5 → wrongAt none 0 os = some i → σ[2]? = some (some (.int (i : Nat))) → tMkO T.BadPoint_a (spErrF T.BadPoint_a "index") [] (tCons (tVar 2) tNil) σ H5 fun cls d H' => E cls d H' := fun σ D H5 s5 hwr h2 =>
            ⟨_, h2, (by show 1 ≤ 1000; decide), mk_fout ((kx _ (line_wrong_at o0 hwr)).same s5)⟩
          have add : ∀ (s : Pt) (H5 : Hp), o = some s → Same H4 H5 → (match ps.getLast?.map Prod.fst with | none => false | some t => bLe s.1 t) = false →
              tDrop (tBM K "list" rAppend (tVar 1) (tCons (tCall (spCopied T.Exact_a) [] E0 (tCons (tVar 3) tNil)) tNil))
                { nx := fun σ H2 => (∃ v3 v4, σ = [some (.ref a), some (.ref L), v3, v4]) ∧ Same H H2 ∧ ∃ ys ps, H2 L = some (.lst ys) ∧ SpAll T.Exact_a H2 ys ps ∧ os.take (i + 1) = ps.map some ∧ wrongAt none 0 os = wrongAt (ps.getLast?.map Prod.fst) (i + 1) (os.drop (i + 1)), rt := Q } [some (.ref a), some (.ref L), some (.int (i : Nat)), some x] H5 := by
            rintro s H5 rfl s5 hc
            have item := item.same s5
            have eL := s5 _ _ eL
            have hsp := hsp.same s5
            cases item with
            | @good x' y' p q h hx' hy' fx fy =>
              refine ⟨_, rfl, .inl ⟨rfl, ys, .inl (.inl eL)⟩, _, rfl, x, _, [p, q], rfl, h, rfl, (by show 2 ≤ 1000; decide), fun j z r hz hr => ?_, fun t H6 zs s6 ht hzs => ?_⟩
              · match j, hz, hr with
                | 0, hz, hr => cases hz; cases hr; exact ⟨hx', fx⟩
                | 1, hz, hr => cases hz; cases hr; exact ⟨hy', fy⟩
                | j + 2, hz, hr => exact absurd hz (by simp)
              · have eL := s6 _ _ eL
                have hsp := hsp.same s6
                refine ⟨L, ys, _, rfl, rfl, eL, small1000 (by rw [hsp.len]; omega), ?_⟩
                have kp : Keep L H6 (upd H6 L (.lst (ys ++ [.ref t]))) := fun b o e n => (upd_ne n).trans e
                cases hzs with
                | cons h1 r1 =>
                  cases r1 with
                  | cons h2 r2 =>
                    cases r2
                    have hspot : SpotAt T.Exact_a H6 (.ref t) (p, q) := ⟨⟨t, _, _, rfl, ht, h1, h2⟩, fx, fy⟩
                    obtain ⟨w4, w5⟩ := w3 _ rfl hc
                    refine ⟨⟨_, _, rfl⟩, fun b o' e => ?_, ys ++ [.ref t], ps ++ [(p, q)], upd_same, (SpAll.keepL eL kp hsp).snoc (hspot.keepL eL kp), w4, w5⟩
                    rw [upd_ne (ne_of_none e nL)]
                    exact s6 _ _ (s5 _ _ (e14 _ _ e))
          cases o with
          | none =>
            refine iteT ?_
            exact iteT (rai _ { nx := fun _ _ => True, rt := Q } _ e14 (w1 rfl) rfl)
          | some s =>
            refine iteF ?_
            refine ⟨_, rfl, _, _, rfl, rfl, _, rfl, ?_⟩
            by_cases h0 : i = 0
            · subst h0
              have hps : ps = [] := List.length_eq_zero_iff.mp hsz
              rw [decide_eq_false (by omega)]
              refine iteF ?_
              refine iteF ?_
              exact add s H4 rfl (Same.refl _) (by rw [hps]; rfl)
            · rw [decide_eq_true (by omega)]
              refine iteT ?_
              have hne : ps ≠ [] := fun z => h0 (by rw [← hsz, z]; rfl)
              obtain ⟨lv, ls, h1, _, h2, hls⟩ := hsp.last hne
              cases item with
              | @good x' y' p q h hx' hy' fx fy =>
                obtain ⟨⟨tl, lx, ly, rfl, htl, hlx, hly⟩, lf1, lf2⟩ := hls
                refine ⟨_, rfl, h.ix (atI_nat (j := 0) rfl) ⟨_, rfl, _, rfl, L, ys, -1, _, rfl, rfl, .inl (.inl eL), h1, tl, _, 0, lx, rfl, rfl, .inl (.inl htl), rfl, n_le (fun i => turns_le T.Exact_dn_int) hx' hlx.num fx.nm lf1.nm fun H5 s5 => ⟨_, rfl, ?_⟩⟩⟩
                cases hb : bLe p ls.1 with
                | true => exact iteT (rai _ { nx := fun _ _ => True, rt := Q } _ (e14.trans s5) (w2 _ rfl (by rw [h2]; exact hb)) rfl)
                | false => exact iteF (add _ H5 rfl s5 (by rw [h2]; exact hb))
        · rintro σ H2 ⟨⟨v3, v4, rfl⟩, e1, ys, ps, eL, hsp, htk, hw⟩
          rw [hn, List.take_length] at htk
          rw [hn, List.drop_length] at hw
          refine ⟨_, rfl, L, ys, rfl, .inl (.inl (.inl eL)), rfl, _, rfl, ?_⟩
          have hlen : ys.length = os.length := by
            rw [hsp.len, htk, List.length_map]
          by_cases h1 : os.length = 1
          · rw [show decide (V.int ((ys.length : Nat) : Int) = V.int 1) = true by rw [hlen, h1]; rfl]
            refine iteT ?_
            exact ⟨(by show 1 ≤ 1000; decide), mk_fout ((kx _ (line_wrong_one h1 hw)).same e1)⟩
          · rw [show decide (V.int ((ys.length : Nat) : Int) = V.int 1) = false by rw [hlen]; exact decide_eq_false fun z => h1 (by have := V.int.inj z; omega)]
            refine iteF ?_
            exact ⟨_, rfl, kq (line_right (by rw [← hn]; exact h0) h1 hw) ps L H2 ys htk e1 eL hsp⟩
      · have cpG : ∀ {H2 : Hp}, H2 a = some (.tup xs) → SqT K H2 a xs := fun z => .inl (.inl z)
        have hsq1 := cpG (s1 _ _ ha)
        have w := walk_enumT (K := K) (a := a) (xs := xs)
        right
        refine ⟨_, rfl, a, xs, rfl, hsq1, for_it w (fun i σ H2 => (∃ v3 v4, σ = [some (.ref a), some (.ref L), v3, v4]) ∧ Same H H2 ∧ ∃ ys ps, H2 L = some (.lst ys) ∧ SpAll T.Exact_a H2 ys ps ∧ os.take i = ps.map some ∧ wrongAt none 0 os = wrongAt (ps.getLast?.map Prod.fst) i (os.drop i)) ?_ ?_ ?_ ?_⟩
        · exact ⟨⟨none, none, rfl⟩, s1, [], [], hL, .nil, rfl, rfl⟩
        · exact fun i σ H2 _ e => cpG (e.2.1 _ _ ha)
        · rintro i x σ H2 H3 hi ⟨⟨v3, v4, rfl⟩, e1, ys, ps, eL, hsp, htk, hw⟩ ⟨Tp, x1, x, rfl, nT, rfl, hx1, hx⟩
          cases hx1
          obtain ⟨o, ho⟩ : ∃ o, os[i]? = some o := ⟨os[i]'(by rw [← hn]; exact hi), List.getElem?_eq_getElem _⟩
          have item := (hit i x o hx ho).same e1
          obtain ⟨w1, w2, w3⟩ := wrong_step htk hw ho
          have e2 := same_upd (o := .tup [.int (i : Nat), x]) nT
          have hsz : ps.length = i := by
            have := congrArg List.length htk
            rw [List.length_take, List.length_map] at this
            have hio := (List.getElem?_eq_some_iff.mp ho).1
            omega
          have o0 : os.length ≠ 0 := by
            have hio := (List.getElem?_eq_some_iff.mp ho).1
            omega
          refine ⟨Tp, _, rfl, .inl (.inl upd_same), rfl, _, _, rfl, _, _, rfl, rfl, ?_⟩
          generalize upd H2 Tp (.tup [.int (i : Nat), x]) = H3 at e2 ⊢
          have item := item.same e2
          have eL := e2 _ _ eL
          have hsp := hsp.same e2
          have e13 := e1.trans e2
          refine ⟨_, rfl, x, o, rfl, item, fun H4 s4 => ⟨_, rfl, ?_⟩⟩
          have item := item.same s4
          have eL := s4 _ _ eL
          have hsp := hsp.same s4
          have e14 := e13.trans s4
          have rai : ∀ (σ : L2.St) (D : Ends) (H5 : Hp), Same H H5 → wrongAt none 0 os = some i → σ[2]? = some (some (.int (i : Nat))) → tMkO T.BadPoint_a (spErrF T.BadPoint_a "index") [] (tCons (tVar 2) tNil) σ H5 fun cls d H' => E cls d H' := fun σ D H5 s5 hwr h2 =>
            ⟨_, h2, (by show 1 ≤ 1000; decide), mk_fout ((kx _ (line_wrong_at o0 hwr)).same s5)⟩
          have add : ∀ (s : Pt) (H5 : Hp), o = some s → Same H4 H5 → (match ps.getLast?.map Prod.fst with | none => false | some t => bLe s.1 t) = false →
              tDrop (tBM K "list" rAppend (tVar 1) (tCons (tCall (spCopied T.Exact_a) [] E0 (tCons (tVar 3) tNil)) tNil))
                { nx := fun σ H2 => (∃ v3 v4, σ = [some (.ref a), some (.ref L), v3, v4]) ∧ Same H H2 ∧ ∃ ys ps, H2 L = some (.lst ys) ∧ SpAll T.Exact_a H2 ys ps ∧ os.take (i + 1) = ps.map some ∧ wrongAt none 0 os = wrongAt (ps.getLast?.map Prod.fst) (i + 1) (os.drop (i + 1)), rt := Q } [some (.ref a), some (.ref L), some (.int (i : Nat)), some x] H5 := by
            rintro s H5 rfl s5 hc
            have item := item.same s5
            have eL := s5 _ _ eL
            have hsp := hsp.same s5
            cases item with
            | @good x' y' p q h hx' hy' fx fy =>
              refine ⟨_, rfl, .inl ⟨rfl, ys, .inl (.inl eL)⟩, _, rfl, x, _, [p, q], rfl, h, rfl, (by show 2 ≤ 1000; decide), fun j z r hz hr => ?_, fun t H6 zs s6 ht hzs => ?_⟩
              · match j, hz, hr with
                | 0, hz, hr => cases hz; cases hr; exact ⟨hx', fx⟩
                | 1, hz, hr => cases hz; cases hr; exact ⟨hy', fy⟩
                | j + 2, hz, hr => exact absurd hz (by simp)
              · have eL := s6 _ _ eL
                have hsp := hsp.same s6
                refine ⟨L, ys, _, rfl, rfl, eL, small1000 (by rw [hsp.len]; omega), ?_⟩
                have kp : Keep L H6 (upd H6 L (.lst (ys ++ [.ref t]))) := fun b o e n => (upd_ne n).trans e
                cases hzs with
                | cons h1 r1 =>
                  cases r1 with
                  | cons h2 r2 =>
                    cases r2
                    have hspot : SpotAt T.Exact_a H6 (.ref t) (p, q) := ⟨⟨t, _, _, rfl, ht, h1, h2⟩, fx, fy⟩
                    obtain ⟨w4, w5⟩ := w3 _ rfl hc
                    refine ⟨⟨_, _, rfl⟩, fun b o' e => ?_, ys ++ [.ref t], ps ++ [(p, q)], upd_same, (SpAll.keepL eL kp hsp).snoc (hspot.keepL eL kp), w4, w5⟩
                    rw [upd_ne (ne_of_none e nL)]
                    exact s6 _ _ (s5 _ _ (e14 _ _ e))
          cases o with
          | none =>
            refine iteT ?_
            exact iteT (rai _ { nx := fun _ _ => True, rt := Q } _ e14 (w1 rfl) rfl)
          | some s =>
            refine iteF ?_
            refine ⟨_, rfl, _, _, rfl, rfl, _, rfl, ?_⟩
            by_cases h0 : i = 0
            · subst h0
              have hps : ps = [] := List.length_eq_zero_iff.mp hsz
              rw [decide_eq_false (by omega)]
              refine iteF ?_
              refine iteF ?_
              exact add s H4 rfl (Same.refl _) (by rw [hps]; rfl)
            · rw [decide_eq_true (by omega)]
              refine iteT ?_
              have hne : ps ≠ [] := fun z => h0 (by rw [← hsz, z]; rfl)
              obtain ⟨lv, ls, h1, _, h2, hls⟩ := hsp.last hne
              cases item with
              | @good x' y' p q h hx' hy' fx fy =>
                obtain ⟨⟨tl, lx, ly, rfl, htl, hlx, hly⟩, lf1, lf2⟩ := hls
                refine ⟨_, rfl, h.ix (atI_nat (j := 0) rfl) ⟨_, rfl, _, rfl, L, ys, -1, _, rfl, rfl, .inl (.inl eL), h1, tl, _, 0, lx, rfl, rfl, .inl (.inl htl), rfl, n_le (fun i => turns_le T.Exact_dn_int) hx' hlx.num fx.nm lf1.nm fun H5 s5 => ⟨_, rfl, ?_⟩⟩⟩
                cases hb : bLe p ls.1 with
                | true => exact iteT (rai _ { nx := fun _ _ => True, rt := Q } _ (e14.trans s5) (w2 _ rfl (by rw [h2]; exact hb)) rfl)
                | false => exact iteF (add _ H5 rfl s5 (by rw [h2]; exact hb))
        · rintro σ H2 ⟨⟨v3, v4, rfl⟩, e1, ys, ps, eL, hsp, htk, hw⟩
          rw [hn, List.take_length] at htk
          rw [hn, List.drop_length] at hw
          refine ⟨_, rfl, L, ys, rfl, .inl (.inl (.inl eL)), rfl, _, rfl, ?_⟩
          have hlen : ys.length = os.length := by
            rw [hsp.len, htk, List.length_map]
          by_cases h1 : os.length = 1
          · rw [show decide (V.int ((ys.length : Nat) : Int) = V.int 1) = true by rw [hlen, h1]; rfl]
            refine iteT ?_
            exact ⟨(by show 1 ≤ 1000; decide), mk_fout ((kx _ (line_wrong_one h1 hw)).same e1)⟩
          · rw [show decide (V.int ((ys.length : Nat) : Int) = V.int 1) = false by rw [hlen]; exact decide_eq_false fun z => h1 (by have := V.int.inj z; omega)]
            refine iteF ?_
            exact ⟨_, rfl, kq (line_right (by rw [← hn]; exact h0) h1 hw) ps L H2 ys htk e1 eL hsp⟩
end



/-! ### straight, bent, a line made -/
theorem len_ok' {n : Nat} (h : n ≤ 1000) : n ≤ sizeLine := Nat.le_trans h (by decide)
def subR (a b : Int × Int) : Int × Int := red (fSub a b).1 (fSub a b).2
def mulR (a b : Int × Int) : Int × Int := red (fMul a b).1 (fMul a b).2
def addR (a b : Int × Int) : Int × Int := red (fAdd a b).1 (fAdd a b).2
def straight (a b c : Pt) : Bool := decide (mulR (subR b.2 a.2) (subR c.1 b.1) = mulR (subR c.2 b.2) (subR b.1 a.1))
theorem subR_fine {a b : Int × Int} (ha : Fine a) (hb : Fine b) : Rd (subR a b) ∧ (subR a b).1.natAbs < 2 ^ 481 ∧ (subR a b).2.natAbs < 2 ^ 480 := by
  have z1 := sz_mul ha.2.1 hb.2.2
  have z2 := sz_mul hb.2.1 ha.2.2
  have z3 := sz_mul ha.2.2 hb.2.2
  have e0 : a.2 * b.2 ≠ 0 := Int.ne_of_gt (Int.mul_pos ha.1.1 hb.1.1)
  have e1 : (a.1 * b.2 - b.1 * a.2).natAbs < 2 ^ 481 := by omega
  have := red_sz (a := a.1 * b.2 - b.1 * a.2) (b := a.2 * b.2) e0 e1 z3
  exact ⟨red_rd e0, this.1, this.2⟩
theorem subR_nm {a b : Int × Int} (ha : Fine a) (hb : Fine b) : Nm (subR a b) := by
  obtain ⟨r, z1, z2⟩ := subR_fine ha hb
  exact ⟨r.1, sz_up z1 (by decide), sz_up z2 (by decide)⟩
def bentStep (k : List Pt) (sf : Pt × Pt) : List Pt := match k.getLast? with
  | some o => if straight o sf.1 sf.2 = true then k else k ++ [sf.1]
  | none => k
/-- the points that are kept -/
def bentF : List Pt → List Pt
  | [] => []
  | p0 :: r => (List.zip r (r.drop 1)).foldl bentStep [p0] ++ [(p0 :: r).getLast (List.cons_ne_nil _ _)]
theorem head_app {α : Type} {k l : List α} (h : k ≠ []) : (k ++ l).head? = k.head? := by
  cases k with
  | nil => exact absurd rfl h
  | cons _ _ => rfl
theorem bentStep_ne {k : List Pt} {sf : Pt × Pt} (h : k ≠ []) : bentStep k sf ≠ [] ∧ (bentStep k sf).head? = k.head? := by
  unfold bentStep
  obtain ⟨o, ho⟩ : ∃ o, k.getLast? = some o := ⟨_, List.getLast?_eq_some_getLast h⟩
  rw [ho]
  dsimp only
  by_cases hs : straight o sf.1 sf.2 = true
  · rw [if_pos hs]
    exact ⟨h, rfl⟩
  · rw [if_neg hs]
    exact ⟨by simp, head_app h⟩
theorem bent_fold (l : List (Pt × Pt)) : ∀ {k : List Pt}, k ≠ [] → l.foldl bentStep k ≠ [] ∧ (l.foldl bentStep k).head? = k.head? := by
  induction l with
  | nil => exact fun h => ⟨h, rfl⟩
  | cons x r ih =>
    intro k h
    obtain ⟨h1, h2⟩ := bentStep_ne (sf := x) h
    obtain ⟨h3, h4⟩ := ih h1
    rw [List.foldl_cons]
    exact ⟨h3, h4.trans h2⟩
theorem bent_len (l : List (Pt × Pt)) : ∀ {k : List Pt}, (l.foldl bentStep k).length ≤ k.length + l.length := by
  induction l with
  | nil => exact fun {k} => Nat.le_refl _
  | cons x r ih =>
    intro k
    rw [List.foldl_cons, List.length_cons]
    refine Nat.le_trans ih ?_
    have : (bentStep k x).length ≤ k.length + 1 := by
      unfold bentStep
      split
      · split
        · omega
        · rw [List.length_append, List.length_singleton]
          omega
      · omega
    omega
theorem bent_ends {ps : List Pt} (h : ps ≠ []) : bentF ps ≠ [] ∧ (bentF ps).head? = ps.head? ∧ (bentF ps).getLast? = ps.getLast? := by
  cases ps with
  | nil => exact absurd rfl h
  | cons p0 r =>
    unfold bentF
    obtain ⟨h1, h2⟩ := bent_fold (List.zip r (r.drop 1)) (k := [p0]) (by simp)
    refine ⟨by simp, ?_, ?_⟩
    · rw [head_app h1, h2]
      rfl
    · rw [List.getLast?_append, List.getLast?_eq_some_getLast (List.cons_ne_nil p0 r)]
      rfl
/-- a line stands at v, with these spots -/
def LineAt (L C : Addr) (H : Hp) (v : V) (qs : List Pt) : Prop := ∃ a dx s ys, v = .ref a ∧ H a = some (.ins L dx [(("spots" : Str), .ref s)]) ∧ H s = some (.lst ys) ∧ SpAll C H ys qs
theorem LineAt.same {L C : Addr} {H H' : Hp} {v : V} {qs : List Pt} (h : LineAt L C H v qs) (e : Same H H') : LineAt L C H' v qs := by
  obtain ⟨a, dx, s, ys, r, h1, h2, h3⟩ := h
  exact ⟨a, dx, s, ys, r, e _ _ h1, e _ _ h2, h3.same e⟩
theorem sp_look {v : V} : ([(("spots" : Str), v)] : List (Str × V)).lookup ("spots" : Str) = some v := by
  simp [List.lookup]
theorem sp_no {v : V} {m : Str} (h : ¬ m = "spots") : ([(("spots" : Str), v)] : List (Str × V)).lookup m = none := by
  show (match m == ("spots" : Str) with | true => some v | false => none) = none
  rw [beq_eq_false_iff_ne.mpr h]
theorem cutV_from (xs : List V) (k : Nat) : cutV xs (some (k : Int)) none = xs.drop k := by
  unfold cutV
  rw [HT.sIx_none, HT.sIx_nat]
  rw [List.take_of_length_le (by rw [List.length_drop]; omega)]
  by_cases h : k ≤ xs.length
  · rw [Nat.min_eq_left h]
  · rw [Nat.min_eq_right (by omega), List.drop_length, List.drop_eq_nil_of_le (by omega)]
section
variable {P : Program} {w : World} {K : PySem.W.Frag} {mg : Str → Option Value} {base : Heap}
def spStraight (C : Addr) : Sp := fun vs H Q _ => ∃ v1 v2 v3 a b c, vs = [v1, v2, v3] ∧ SpotAt C H v1 a ∧ SpotAt C H v2 b ∧ SpotAt C H v3 c ∧ ∀ H', Same H H' → Q (.bl (straight a b c)) H'
theorem ok_is_straight (T : Tx K mg) : FnOk P w K mg base CX0 10 T.is_straight_a T.is_straight_d ["one", "two", "three"] (spStraight T.Exact_a) := by
  refine T.is_straight_F.ok sc_is_straight (fun vs H Q E h => ?_) (fun cdv A outer s H vs Q E hr h => ?_)
  · obtain ⟨v1, v2, v3, a, b, c, rfl, _⟩ := h
    rfl
  · obtain ⟨v1, v2, v3, a, b, c, rfl, ha, hb, hc, k⟩ := h
    refine ⟨_, (pss_cons (ps_set (i := 3) sc_is_straight.nd rfl (Or.inl rfl) (pe_op (op_mulG.or ((op_gyD T.op_mul (ok_Exact_mul T) (hr.mono (by decide)) T.Exact_mul_b pass0).or (op_gyRmul T.op_mul (ok_Exact_rmul T) (hr.mono (by decide)) T.Exact_rmul_b pass0))) (pe_op (op_sub.or ((op_gyD T.op_sub (ok_Exact_sub T) (hr.mono (by decide)) T.Exact_sub_b pass0).or (op_gyRsub T.op_sub (ok_Exact_rsub T) (hr.mono (by decide)) T.Exact_rsub_b pass0))) (pe_ix ix_tup (pv 1) pe_int (fun _ _ => rfl)) (pe_ix ix_tup (pv 0) pe_int (fun _ _ => rfl))) (pe_op (op_sub.or ((op_gyD T.op_sub (ok_Exact_sub T) (hr.mono (by decide)) T.Exact_sub_b pass0).or (op_gyRsub T.op_sub (ok_Exact_rsub T) (hr.mono (by decide)) T.Exact_rsub_b pass0))) (pe_ix ix_tup (pv 2) pe_int (fun _ _ => rfl)) (pe_ix ix_tup (pv 1) pe_int (fun _ _ => rfl)))))
  (pss_cons (ps_set (i := 4) sc_is_straight.nd rfl (Or.inl rfl) (pe_op (op_mulG.or ((op_gyD T.op_mul (ok_Exact_mul T) (hr.mono (by decide)) T.Exact_mul_b pass0).or (op_gyRmul T.op_mul (ok_Exact_rmul T) (hr.mono (by decide)) T.Exact_rmul_b pass0))) (pe_op (op_sub.or ((op_gyD T.op_sub (ok_Exact_sub T) (hr.mono (by decide)) T.Exact_sub_b pass0).or (op_gyRsub T.op_sub (ok_Exact_rsub T) (hr.mono (by decide)) T.Exact_rsub_b pass0))) (pe_ix ix_tup (pv 2) pe_int (fun _ _ => rfl)) (pe_ix ix_tup (pv 1) pe_int (fun _ _ => rfl))) (pe_op (op_sub.or ((op_gyD T.op_sub (ok_Exact_sub T) (hr.mono (by decide)) T.Exact_sub_b pass0).or (op_gyRsub T.op_sub (ok_Exact_rsub T) (hr.mono (by decide)) T.Exact_rsub_b pass0))) (pe_ix ix_tup (pv 1) pe_int (fun _ _ => rfl)) (pe_ix ix_tup (pv 0) pe_int (fun _ _ => rfl)))))
  (pss_one (ps_ret (pe_cmpR (op_eq.or ((op_gyC (op := .Eq) (fun _ _ => rfl) T.Exact_eq_M.at_ T.Exact_eq_M.fn (ok_Exact_eq T) (hr.mono (by decide)) T.Exact_eq_b pass0).or (op_gyCR (op := .Eq) (fun _ _ => rfl) T.Exact_eq_M.at_ T.Exact_eq_M.fn (ok_Exact_eq T) (hr.mono (by decide)) T.Exact_eq_b pass0))) (pv 3) (pv 4) (nomark _)))))), ?_⟩
    obtain ⟨⟨t1, x1, y1, rfl, h1, hx1, hy1⟩, fa1, fa2⟩ := ha
    obtain ⟨⟨t2, x2, y2, rfl, h2, hx2, hy2⟩, fb1, fb2⟩ := hb
    obtain ⟨⟨t3, x3, y3, rfl, h3, hx3, hy3⟩, fc1, fc2⟩ := hc
    have hx1 := hx1.num
    have hy1 := hy1.num
    have hx2 := hx2.num
    have hy2 := hy2.num
    have hx3 := hx3.num
    have hy3 := hy3.num
    refine ⟨_, rfl, t2, _, _, _, rfl, rfl, .inl (.inl h2), rfl, _, rfl, t1, _, _, _, rfl, rfl, .inl (.inl h1), rfl, n_sub hy2 hy1 fb2.nm fa2.nm fun u1 H1 e1 q1 => ?_⟩
    have h1 := e1 _ _ h1
    have h2 := e1 _ _ h2
    have h3 := e1 _ _ h3
    refine ⟨_, rfl, t3, _, _, _, rfl, rfl, .inl (.inl h3), rfl, _, rfl, t2, _, _, _, rfl, rfl, .inl (.inl h2), rfl, n_sub (hx3.same e1) (hx2.same e1) fc1.nm fb1.nm fun u2 H2 e2 q2 => ?_⟩
    refine n_mul (q1.same e2) q2 (subR_nm fb2 fa2) (subR_nm fc1 fb1) fun u3 H3 e3 q3 => ?_
    have e13 := e2.trans e3
    have h1 := e13 _ _ h1
    have h2 := e13 _ _ h2
    have h3 := e13 _ _ h3
    have e03 := e1.trans e13
    refine ⟨_, rfl, t3, _, _, _, rfl, rfl, .inl (.inl h3), rfl, _, rfl, t2, _, _, _, rfl, rfl, .inl (.inl h2), rfl, n_sub (hy3.same e03) (hy2.same e03) fc2.nm fb2.nm fun u4 H4 e4 q4 => ?_⟩
    have h1 := e4 _ _ h1
    have h2 := e4 _ _ h2
    have e04 := e03.trans e4
    refine ⟨_, rfl, t2, _, _, _, rfl, rfl, .inl (.inl h2), rfl, _, rfl, t1, _, _, _, rfl, rfl, .inl (.inl h1), rfl, n_sub (hx2.same e04) (hx1.same e04) fb1.nm fa1.nm fun u5 H5 e5 q5 => ?_⟩
    refine n_mul (q4.same e5) q5 (subR_nm fc2 fb2) (subR_nm fb1 fa1) fun u6 H6 e6 q6 => ?_
    refine ⟨_, rfl, _, rfl, n_eq (fun i => turns_eq T.Exact_dn_int) (((q3.same e4).same e5).same e6) q6 fun H7 e7 => ?_⟩
    exact k _ (((e04.trans e5).trans e6).trans e7)
def spBent (C : Addr) : Sp := fun vs H Q _ => ∃ (L : Addr) (xs : List V) (ps : List Pt), vs = [.ref L] ∧ H L = some (.lst xs) ∧ SpAll C H xs ps ∧ 2 ≤ ps.length ∧ ps.length ≤ 900 ∧ ∀ M H' ys, H M = none → Same H H' → H' M = some (.lst ys) → SpAll C H' ys (bentF ps) → Q (.ref M) H'
theorem ok_bent (T : Tx K mg) : FnOk P w K mg base CX0 12 T.bent_a T.bent_d ["spots"] (spBent T.Exact_a) := by
  refine T.bent_F.ok sc_bent (fun vs H Q E h => ?_) (fun cdv A outer s H vs Q E hr h => ?_)
  · obtain ⟨L, xs, ps, rfl, _⟩ := h
    rfl
  · obtain ⟨L, xs, ps, rfl, hL, hsp, h2, h9, k⟩ := h
    refine ⟨_, (pss_cons (ps_set (i := 1) sc_bent.nd rfl (Or.inl rfl) (pe_lst (pa_cons (pe_ix ix_list (pv 0) pe_int (fun _ _ => rfl)) pa_nil)))
  (pss_cons (ps_for PassesOwn.never rfl (RZ.pi_zipA (by rfl) T.z_zip (pa_cons (pe_slice sl_list (pv 0) (po_some pe_int) po_none) (pa_cons (pe_slice sl_list (pv 0) (po_some pe_int) po_none) pa_nil))) (pg_tup (by rfl) (pgs_cons (pg_name (i := 2) sc_bent.nd rfl (Or.inl rfl)) (pgs_cons (pg_name (i := 3) sc_bent.nd rfl (Or.inl rfl)) pgs_nil)))
  (pss_one (ps_if (pt_not (pt_val (pe_call (ok_is_straight T) (hr.mono (by decide)) rfl T.is_straight_m T.is_straight_F.kp T.is_straight_b .nil pass0 (pa_cons (pe_ix ix_list (pv 1) (pe_un (un_neg) pe_int) (fun _ _ => rfl)) (pa_cons (pv 2) (pa_cons (pv 3) pa_nil))))))
  (pss_one (ps_expr (pe_bm PySem.F.plainAttrs_list PySem.F.slot_list_append PySem.F.type_list_append mt_append (pv 1) (pa_cons (pv 2) pa_nil))))
  pss_nil)))
  (pss_one (ps_ret (pe_lst (StX.pa_star (pv 1) (pa_cons (pe_ix ix_list (pv 0) (pe_un (un_neg) pe_int) (fun _ _ => rfl)) pa_nil))))))), ?_⟩
    have hxl := hsp.len
    obtain ⟨v0, s0, a0, hd0, hs0⟩ := hsp.first (fun z => by rw [z] at h2; exact absurd h2 (by decide))
    refine ⟨_, rfl, L, xs, 0, v0, rfl, rfl, .inl (.inl hL), a0, (by show 1 ≤ sizeLine; decide), fun M nM => ?_⟩
    have e1 : Same H (upd H M (.lst [v0])) := same_upd nM
    have hM : (upd H M (.lst [v0])) M = some (.lst [v0]) := upd_same
    generalize upd H M (.lst [v0]) = H1 at e1 hM ⊢
    have hL1 := e1 _ _ hL
    refine ⟨_, rfl, _, rfl, L, xs, rfl, .inl (.inl hL1), fun A1 nA1 => ?_⟩
    rw [show cutV xs (some 1) none = xs.drop 1 from cutV_from xs 1]
    have e2 : Same H1 (upd H1 A1 (.lst (xs.drop 1))) := same_upd nA1
    have hA1 : (upd H1 A1 (.lst (xs.drop 1))) A1 = some (.lst (xs.drop 1)) := upd_same
    generalize upd H1 A1 (.lst (xs.drop 1)) = H2 at e2 hA1 ⊢
    refine ⟨_, rfl, _, rfl, L, xs, rfl, .inl (.inl (e2 _ _ hL1)), fun A2 nA2 => ?_⟩
    rw [show cutV xs (some 2) none = xs.drop 2 from cutV_from xs 2]
    have e3 : Same H2 (upd H2 A2 (.lst (xs.drop 2))) := same_upd nA2
    have hA2 : (upd H2 A2 (.lst (xs.drop 2))) A2 = some (.lst (xs.drop 2)) := upd_same
    generalize upd H2 A2 (.lst (xs.drop 2)) = H3 at e3 hA2 ⊢
    have e23 := e2.trans e3
    have e13 := e1.trans e23
    have hM3 := e23 _ _ hM
    have hA13 := e3 _ _ hA1
    have n1 : A1 ≠ M := Ne.symm (ne_of_none hM nA1)
    have n2 : A2 ≠ M := Ne.symm (ne_of_none (e2 _ _ hM) nA2)
    have hsp3 := hsp.same e13
    have nZ : List.length (List.zip (ps.drop 1) (ps.drop 2)) = min (xs.drop 1).length (xs.drop 2).length := by
      rw [List.length_zip, List.length_drop, List.length_drop, List.length_drop, List.length_drop, hxl]
    obtain ⟨p0, pr, eps⟩ := List.exists_cons_of_ne_nil (fun z => by rw [z] at h2; exact absurd h2 (by decide) : ps ≠ [])
    have es0 : s0 = p0 := by
      rw [eps] at hd0
      exact (Option.some.inj hd0).symm
    subst es0
    refine ⟨A1, A2, xs.drop 1, xs.drop 2, rfl, .inl ⟨.inl (.inl hA13), .inl (.inl hA2), for_it (walk_zip (K := K) (a := A1) (b := A2) nZ) (fun i σ H' => (∃ v2 v3, σ = [some (.ref L), some (.ref M), v2, v3]) ∧ Keep M H3 H' ∧ ∃ zs ks, H' M = some (.lst zs) ∧ SpAll T.Exact_a H' zs ks ∧ ks = ((List.zip (ps.drop 1) (ps.drop 2)).take i).foldl bentStep [s0])
      ⟨⟨none, none, rfl⟩, Keep.refl _ _, [v0], [s0], hM3, .cons (hs0.same e13) .nil, rfl⟩ (fun i σ H' _ e => ⟨.inl (.inl (e.2.1 _ _ hA13 n1)), .inl (.inl (e.2.1 _ _ hA2 n2))⟩) ?_ ?_⟩⟩
    · rintro i x σ H' H4 hi ⟨⟨v2, v3, rfl⟩, kp, zs, ks, eM, hks, ek⟩ ⟨Tp, x1, y1, rfl, nT, rfl, hx1, hy1⟩
      have e4 := same_upd (o := .tup [x1, y1]) nT
      refine ⟨Tp, _, rfl, .inl (.inl upd_same), rfl, _, _, rfl, _, _, rfl, rfl, ?_⟩
      generalize upd H' Tp (.tup [x1, y1]) = H4 at e4 ⊢
      obtain ⟨sa, hsa, hx⟩ := ((hsp3.drop 1).keepL hM3 kp).at hx1
      obtain ⟨sb, hsb, hy⟩ := ((hsp3.drop 2).keepL hM3 kp).at hy1
      have hz : (List.zip (ps.drop 1) (ps.drop 2))[i]? = some (sa, sb) := by
        rw [List.getElem?_zip_eq_some]
        exact ⟨hsa, hsb⟩
      have kne : ks ≠ [] := by
        rw [ek]
        exact (bent_fold _ (by simp)).1
      have eM4 := e4 _ _ eM
      have hks4 := hks.same e4
      obtain ⟨lv, ls, h1, _, h2', hls⟩ := hks4.last kne
      have step : ((List.zip (ps.drop 1) (ps.drop 2)).take (i + 1)).foldl bentStep [s0] = if straight ls sa sb = true then ks else ks ++ [sa] := by
        rw [List.take_succ, hz, List.foldl_append, ← ek]
        show bentStep ks (sa, sb) = _
        unfold bentStep
        rw [h2']
      refine ⟨_, rfl, _, rfl, M, zs, -1, _, rfl, rfl, .inl (.inl eM4), h1, _, rfl, _, rfl, lv, x1, y1, ls, sa, sb, rfl, hls, hx.same e4, hy.same e4, fun H5 e5 => ⟨_, rfl, ?_⟩⟩
      have eM5 := e5 _ _ eM4
      have hks5 := hks4.same e5
      have kp5 : Keep M H3 H5 := fun b o e n => e5 _ _ (e4 _ _ (kp b o e n))
      cases hb : straight ls sa sb with
      | true =>
        refine iteF ?_
        refine ⟨⟨_, _, rfl⟩, kp5, zs, ks, eM5, hks5, ?_⟩
        rw [step, hb, if_pos rfl]
      | false =>
        refine iteT ?_
        refine ⟨_, rfl, .inl ⟨rfl, zs, .inl (.inl eM5)⟩, _, rfl, M, zs, _, rfl, rfl, eM5, ?_, ?_⟩
        · rw [hks5.len, ek]
          have := bent_len ((List.zip (ps.drop 1) (ps.drop 2)).take i) (k := [s0])
          rw [List.length_take, List.length_singleton] at this
          rw [nZ, List.length_drop] at hi
          exact small1000 (by omega)
        · have kp6 : Keep M H5 (upd H5 M (.lst (zs ++ [x1]))) := fun b o e n => (upd_ne n).trans e
          refine ⟨⟨_, _, rfl⟩, fun b o e n => kp6 _ _ (kp5 _ _ e n) n, zs ++ [x1], ks ++ [sa], upd_same, (hks5.keepL eM5 kp6).snoc (((hx.same e4).same e5).keepL eM5 kp6), ?_⟩
          rw [step, hb, if_neg Bool.false_ne_true]
    · rintro σ H' ⟨⟨v2, v3, rfl⟩, kp, zs, ks, eM, hks, ek⟩
      rw [List.take_length] at ek
      have nL : L ≠ M := ne_of_none hL nM
      have hL' := kp _ _ (e13 _ _ hL) nL
      obtain ⟨lv, ls, h1, _, hl2, hls⟩ := (hsp3.keepL hM3 kp).last (fun z => by rw [z] at h2; exact absurd h2 (by decide))
      refine ⟨_, rfl, M, zs, rfl, .inr (.inl (.inl eM)), _, rfl, _, rfl, L, xs, -1, lv, rfl, rfl, .inl (.inl hL'), h1, ?_, fun N nN => ?_⟩
      · have := bent_len (List.zip (ps.drop 1) (ps.drop 2)) (k := [s0])
        rw [List.length_append, List.length_singleton, hks.len, ek]
        rw [nZ, List.length_drop, List.length_singleton] at this
        exact len_ok' (by omega)
      · have eN := same_upd (o := .lst (zs ++ [lv])) nN
        have hH : Same H H' := fun b o e => kp _ _ (e13 _ _ e) (ne_of_none e nM)
        refine k N _ (zs ++ [lv]) (hH.free nN) (hH.trans eN) upd_same ?_
        have : bentF ps = ks ++ [ls] := by
          rw [eps, List.getLast?_eq_some_getLast (List.cons_ne_nil s0 pr)] at hl2
          have el : (s0 :: pr).getLast (List.cons_ne_nil _ _) = ls := Option.some.inj hl2
          rw [ek, eps]
          show List.foldl bentStep [s0] (List.zip pr (pr.drop 1)) ++ [(s0 :: pr).getLast (List.cons_ne_nil _ _)] = _
          rw [el]
          rfl
        rw [this]
        exact (hks.same eN).snoc (hls.same eN)
end



/-! ### Line(..), and what it refuses -/
section
variable {P : Program} {w : World} {K : PySem.W.Frag} {mg : Str → Option Value} {base : Heap}
def spLineInit (K : PySem.W.Frag) (L C B : Addr) : Sp := fun vs H Q E => ∃ (x dx : Addr) (v : V), vs = [.ref x, v] ∧ H x = some (.ins L dx []) ∧
  ((∃ t, TyX K H v t ∧ PySem.W.kitAny K t [.type "list", .type "tuple"] = some false) ∧ FOut B "index" H (.int 0) E ∨
   ∃ xs os, SeqQ H v xs ∧ xs.length = os.length ∧ xs.length ≤ 900 ∧ (∀ (i : Nat) (x : V) (o : Option Pt), xs[i]? = some x → os[i]? = some o → ItemAt K C H x o) ∧
     (∀ k, lineWrong os = some k → FOut B "index" H (.int (k : Nat)) E) ∧
     (lineWrong os = none → ∀ (ps : List Pt) (s : Addr) (H' : Hp) (ys : List V), os = ps.map some → H s = none → H' x = some (.ins L dx [(("spots" : Str), .ref s)]) → H' s = some (.lst ys) → SpAll C H' ys (bentF ps) → (∀ c o, H c = some o → c ≠ x → H' c = some o) → Q .non H'))
theorem right_two {os : List (Option Pt)} (h : lineWrong os = none) : os.length ≠ 0 ∧ os.length ≠ 1 := by
  unfold lineWrong at h
  split at h
  · cases h
  · rename_i h0
    split at h
    · cases h
    · split at h
      · cases h
      · rename_i h1
        exact ⟨h0, h1⟩
theorem ToldAt.upd_ins {C L : Addr} {H : Hp} {v : V} {p : Int × Int} {x dx : Addr} {fs gs : List (Str × V)} (hL : L ≠ C) (h : ToldAt C H v p) (hx : H x = some (.ins L dx fs)) : ToldAt C (upd H x (.ins L dx gs)) v p := by
  rcases h with h | ⟨n, a, d, e, z⟩
  · exact .inl h
  · exact .inr ⟨n, a, d, e, (upd_ne (ne_of z hx fun q => hL (by cases q; rfl))).trans z⟩
theorem SpotAt.upd_ins {C L : Addr} {H : Hp} {v : V} {s : Pt} {x dx : Addr} {fs gs : List (Str × V)} (hL : L ≠ C) (h : SpotAt C H v s) (hx : H x = some (.ins L dx fs)) : SpotAt C (upd H x (.ins L dx gs)) v s := by
  obtain ⟨⟨t, a, b, rfl, ht, ha, hb⟩, f1, f2⟩ := h
  exact ⟨⟨t, a, b, rfl, (upd_ne (ne_of ht hx fun q => by cases q)).trans ht, ha.upd_ins hL hx, hb.upd_ins hL hx⟩, f1, f2⟩
theorem own_ne (T : Tx K mg) : T.Line_a ≠ T.Exact_a := T.Line_ne_Exact
theorem ok_Line_init_x (T : Tx K mg) : FnOk P w K mg base (L2.CX P w) 14 T.Line_init_a T.Line_init_d ["self", "points"] (spLineInit K T.Line_a T.Exact_a T.BadPoint_a) := by
  refine T.Line_init_F.okX sc_Line_init (fun vs H Q E h => ?_) (fun cdv A outer s H vs Q E hr h => ?_)
  · obtain ⟨x, dx, v, rfl, _⟩ := h
    rfl
  · obtain ⟨x, dx, v, rfl, hx, h⟩ := h
    refine ⟨_, (pss_one (ps_fld (pv 0) (pe_call (ok_bent T) (hr.mono (by decide)) rfl T.bent_m T.bent_F.kp T.bent_b .nil pass0 (pa_cons (pe_call (ok_checked_points_x T) (hr.mono (by decide)) rfl T.checked_points_m T.checked_points_F.kp T.checked_points_b .nil (passes_call (takes_of rfl rfl rfl rfl) fun _ _ _ _ h => h) (pa_cons (pv 1) pa_nil)) pa_nil)) rfl)), ?_⟩
    rcases h with h | ⟨xs, os, hsq, hn, hl, hit, kx, kq⟩
    · exact ⟨_, rfl, v, rfl, .inl h⟩
    · refine ⟨_, rfl, v, rfl, .inr ⟨xs, os, hsq, hn, hl, hit, kx, fun hw ps L1 H1 ys eo e1 hL1 hsp => ?_⟩⟩
      obtain ⟨n0, n1⟩ := right_two hw
      rw [eo, List.length_map] at n0 n1
      refine ⟨L1, ys, ps, rfl, hL1, hsp, by omega, by rw [hn, eo, List.length_map] at hl; exact hl, fun M H2 zs nM e2 hM hb => ?_⟩
      have hx2 := e2 _ _ (e1 _ _ hx)
      refine ⟨_, rfl, x, T.Line_a, dx, _, rfl, hx2, T.Line_cl, T.Line_n_spots, (by show 0 < 1000; decide), ?_⟩
      have hMx : M ≠ x := ne_of hM hx2 fun q => by cases q
      refine kq hw ps M _ zs eo (e1.free nM) upd_same ((upd_ne hMx).trans hM) (hb.mono fun v s z => z.upd_ins (own_ne T) hx2) fun c o e n => ?_
      rw [upd_ne n]
      exact e2 _ _ (e1 _ _ e)
/-- a line made out of right points -/
def spLineNew (L C : Addr) : Sp := fun vs H Q _ => ∃ (x dx : Addr) (v : V) (xs : List V) (ps : List Pt), vs = [.ref x, v] ∧ H x = some (.ins L dx []) ∧ SeqQ H v xs ∧ xs.length ≤ 900 ∧ lineWrong (ps.map some) = none ∧
  (xs.length = ps.length ∧ ∀ (i : Nat) (x : V) (s : Pt), xs[i]? = some x → ps[i]? = some s → ∃ a b, SeqQ H x [a, b] ∧ NumAt C H a s.1 ∧ NumAt C H b s.2 ∧ Fine s.1 ∧ Fine s.2) ∧
  ∀ (s : Addr) (H' : Hp) (ys : List V), H s = none → H' x = some (.ins L dx [(("spots" : Str), .ref s)]) → H' s = some (.lst ys) → SpAll C H' ys (bentF ps) → (∀ c o, H c = some o → c ≠ x → H' c = some o) → Q .non H'
theorem ok_Line_init (T : Tx K mg) : FnOk P w K mg base CX0 14 T.Line_init_a T.Line_init_d ["self", "points"] (spLineNew T.Line_a T.Exact_a) :=
  (ok_Line_init_x T).still.imp fun vs H Q E ⟨x, dx, v, xs, ps, ev, hx, hsq, hl, hw, ⟨hn, hit⟩, k⟩ =>
    ⟨x, dx, v, ev, hx, .inr ⟨xs, ps.map some, hsq, by rw [List.length_map]; exact hn, hl, fun i y o hy ho => by
      rw [List.getElem?_map] at ho
      obtain ⟨s, hs, rfl⟩ := Option.map_eq_some_iff.mp ho
      obtain ⟨a, b, h1, h2, h3, h4, h5⟩ := hit i y s hy hs
      exact .good h1 h2 h3 h4 h5, fun k e => (by rw [hw] at e; cases e), fun _ ps' s H' ys ep h0 h1 h2 h3 h4 => by
        have : ps' = ps := by
          have := congrArg (List.map fun o : Option Pt => o.getD ((0, 0), (0, 0))) ep
          rw [List.map_map, List.map_map, show ((fun o : Option Pt => o.getD ((0, 0), (0, 0))) ∘ some) = id from rfl, List.map_id, List.map_id] at this
          exact this.symm
        subst this
        exact k s H' ys h0 h1 h2 h3 h4⟩⟩
/-- Line(..) as a value -/
theorem mk_line {T : Tx K mg} {H1 : Hp} {Q : Hp → Prop} {E : XK} {x dx : Addr} {v : V} {xs : List V} {ps : List Pt} (nx : H1 x = none) (nd : H1 dx = none) (ne : dx ≠ x) (hsq : SeqQ H1 v xs) (hl : xs.length ≤ 900) (hw : lineWrong (ps.map some) = none) (hn : xs.length = ps.length)
    (hit : ∀ (i : Nat) (x : V) (s : Pt), xs[i]? = some x → ps[i]? = some s → ∃ a b, SeqQ H1 x [a, b] ∧ NumAt T.Exact_a H1 a s.1 ∧ NumAt T.Exact_a H1 b s.2 ∧ Fine s.1 ∧ Fine s.2) (k : ∀ H2, Same H1 H2 → LineAt T.Line_a T.Exact_a H2 (.ref x) (bentF ps) → Q H2) :
    spLineNew T.Line_a T.Exact_a (.ref x :: ([v] ++ [])) (upd (upd H1 dx (.own x)) x (.ins T.Line_a dx [])) (fun v H2 => v = .non ∧ Q H2) E := by
  have md : Same H1 (upd (upd H1 dx (.own x)) x (.ins T.Line_a dx [])) := fun b o e => by
    rw [upd_ne (ne_of_none e nx), upd_ne (ne_of_none e nd)]
    exact e
  refine ⟨x, dx, v, xs, ps, rfl, upd_same, hsq.same md, hl, hw, ⟨hn, fun i y s hy hs => ?_⟩, fun s H' ys _ h1 h2 h3 h4 => ⟨rfl, k H' (Same.made nx nd h4) ⟨x, dx, s, ys, rfl, h1, h2, h3⟩⟩⟩
  obtain ⟨a, b, h1, h2, h3, h4, h5⟩ := hit i y s hy hs
  exact ⟨a, b, h1.same md, h2.same md, h3.same md, h4, h5⟩
end



/-! ### moments in their order -/
theorem lt_trans2 {a b c : Int × Int} (ha : 0 < a.2) (hb : 0 < b.2) (hc : 0 < c.2) (h1 : bLt a b = true) (h2 : bLt b c = true) : bLt a c = true := by
  unfold bLt at *
  have h1 := of_decide_eq_true h1
  have h2 := of_decide_eq_true h2
  refine decide_eq_true ?_
  have e1 : a.1 * b.2 * c.2 < b.1 * a.2 * c.2 := Int.mul_lt_mul_of_pos_right h1 hc
  have e2 : b.1 * c.2 * a.2 < c.1 * b.2 * a.2 := Int.mul_lt_mul_of_pos_right h2 ha
  have f1 : b.1 * a.2 * c.2 = b.1 * c.2 * a.2 := by rw [Int.mul_assoc, Int.mul_comm a.2 c.2, ← Int.mul_assoc]
  have f2 : a.1 * b.2 * c.2 = a.1 * c.2 * b.2 := by rw [Int.mul_assoc, Int.mul_comm b.2 c.2, ← Int.mul_assoc]
  have f3 : c.1 * b.2 * a.2 = c.1 * a.2 * b.2 := by rw [Int.mul_assoc, Int.mul_comm b.2 a.2, ← Int.mul_assoc]
  rw [f1, f2] at e1
  rw [f3] at e2
  exact Int.lt_of_mul_lt_mul_right (Int.lt_trans e1 e2) (Int.le_of_lt hb)
theorem lt_irr (a : Int × Int) : bLt a a = false := decide_eq_false (Int.lt_irrefl _)
theorem rd_uniq {p q : Int × Int} (hp : Rd p) (hq : Rd q) (e : p.1 * q.2 = q.1 * p.2) : p = q := by
  have a := red_scale hp (Int.ne_of_gt hq.1)
  have b := red_scale hq (Int.ne_of_gt hp.1)
  rw [e, Int.mul_comm p.2 q.2] at a
  exact a.symm.trans b
theorem lt_or {a b : Int × Int} (ha : Rd a) (hb : Rd b) (h : bLt a b = false) (n : a ≠ b) : bLt b a = true := by
  unfold bLt at *
  have h := of_decide_eq_false h
  refine decide_eq_true ?_
  have : a.1 * b.2 ≠ b.1 * a.2 := fun e => n (rd_uniq ha hb e)
  omega
def Sorted (l : List (Int × Int)) : Prop := l.Pairwise fun a b => bLt a b = true
theorem sorted_split {t : Int × Int} (ht : 0 < t.2) : ∀ {l : List (Int × Int)}, Sorted l → (∀ x ∈ l, 0 < x.2) → ∃ l1 l2, l = l1 ++ l2 ∧ (∀ x ∈ l1, bLt x t = true) ∧ ∀ x ∈ l2, bLt x t = false := by
  intro l
  induction l with
  | nil => exact fun _ _ => ⟨[], [], rfl, nofun, nofun⟩
  | cons c r ih =>
    intro h hp
    obtain ⟨hc, hr⟩ := List.pairwise_cons.mp h
    cases e : bLt c t with
    | true =>
      obtain ⟨l1, l2, e1, h1, h2⟩ := ih hr fun x hx => hp x (List.mem_cons_of_mem _ hx)
      refine ⟨c :: l1, l2, by rw [e1]; rfl, fun x hx => ?_, h2⟩
      rcases List.mem_cons.mp hx with z | z
      · rw [z]; exact e
      · exact h1 x z
    | false =>
      refine ⟨[], c :: r, rfl, nofun, fun x hx => ?_⟩
      rcases List.mem_cons.mp hx with z | z
      · rw [z]; exact e
      · cases q : bLt x t with
        | false => rfl
        | true =>
          have := lt_trans2 (hp c List.mem_cons_self) (hp x hx) ht (hc x z) q
          rw [e] at this
          cases this
def insAt (t : Int × Int) (l : List (Int × Int)) : Nat := (l.filter fun x => bLt x t).length
def ins (t : Int × Int) (l : List (Int × Int)) : List (Int × Int) := if insAt t l = l.length ∨ l[insAt t l]? ≠ some t then l.take (insAt t l) ++ [t] ++ l.drop (insAt t l) else l
theorem ins_ok {t : Int × Int} {l : List (Int × Int)} (ht : Rd t) (hl : ∀ x ∈ l, Rd x) (hs : Sorted l) : Sorted (ins t l) ∧ ∀ x, x ∈ ins t l ↔ x = t ∨ x ∈ l := by
  obtain ⟨l1, l2, e, h1, h2⟩ := sorted_split ht.1 hs fun x hx => (hl x hx).1
  have ef : l.filter (fun x => bLt x t) = l1 := by
    rw [e, List.filter_append, List.filter_eq_self.mpr h1, List.filter_eq_nil_iff.mpr fun x hx => by rw [h2 x hx]; exact Bool.false_ne_true, List.append_nil]
  have ea : insAt t l = l1.length := by unfold insAt; rw [ef]
  unfold ins
  rw [ea]
  have et : l.take l1.length = l1 := by rw [e, List.take_left]
  have ed : l.drop l1.length = l2 := by rw [e, List.drop_left]
  have eg : l[l1.length]? = l2.head? := by
    rw [e, List.getElem?_append_right (Nat.le_refl _), Nat.sub_self]
    cases l2 <;> rfl
  rw [et, ed, eg]
  by_cases c : l1.length = l.length ∨ l2.head? ≠ some t
  · rw [if_pos c]
    have gt : ∀ x ∈ l2, bLt t x = true := by
      intro x hx
      have hxl : x ∈ l := by rw [e]; exact List.mem_append_right _ hx
      refine lt_or (hl x hxl) ht (h2 x hx) fun z => ?_
      subst z
      rcases c with c | c
      · rw [e, List.length_append] at c
        have := List.length_pos_iff.mpr (List.ne_nil_of_mem hx)
        omega
      · cases l2 with
        | nil => cases hx
        | cons h r =>
          rcases List.mem_cons.mp hx with z | z
          · exact c (by rw [z]; rfl)
          · have hsr : Sorted (h :: r) := by
              have := hs
              rw [e] at this
              exact (List.pairwise_append.mp this).2.1
            have := (List.pairwise_cons.mp hsr).1 x z
            rw [h2 h List.mem_cons_self] at this
            cases this
    have hs2 := hs
    rw [e] at hs2
    obtain ⟨p1, p2, p3⟩ := List.pairwise_append.mp hs2
    constructor
    · refine List.pairwise_append.mpr ⟨List.pairwise_append.mpr ⟨p1, List.pairwise_singleton _ _, fun x hx y hy => ?_⟩, p2, fun x hx y hy => ?_⟩
      · rw [List.mem_singleton.mp hy]
        exact h1 x hx
      · rcases List.mem_append.mp hx with hx | hx
        · exact p3 x hx y hy
        · rw [List.mem_singleton.mp hx]
          exact gt y hy
    · intro x
      rw [e]
      simp only [List.mem_append, List.mem_singleton]
      constructor
      · rintro ((z | z) | z)
        · exact .inr (.inl z)
        · exact .inl z
        · exact .inr (.inr z)
      · rintro (z | z | z)
        · exact .inl (.inr z)
        · exact .inl (.inl z)
        · exact .inr z
  · rw [if_neg c]
    refine ⟨hs, fun x => ⟨.inr, fun z => z.elim (fun z => ?_) id⟩⟩
    have c2 : l2.head? = some t := by
      cases q : decide (l2.head? = some t) with
      | true => exact of_decide_eq_true q
      | false => exact absurd (.inr (of_decide_eq_false q)) c
    rw [z, e]
    exact List.mem_append_right _ (List.mem_of_mem_head? c2)
theorem ins_len (t : Int × Int) (l : List (Int × Int)) : (ins t l).length ≤ l.length + 1 := by
  unfold ins
  split
  · rw [List.length_append, List.length_append, List.length_take, List.length_drop, List.length_singleton]
    have : insAt t l ≤ l.length := List.length_filter_le _ _
    omega
  · omega
theorem sorted_head {ms : List (Int × Int)} {a : Int × Int} (hs : Sorted ms) (ha : a ∈ ms) (h2 : ∀ x ∈ ms, 0 < x.2) (h : ∀ x ∈ ms, x = a ∨ bLt a x = true) : ms.head? = some a := by
  cases ms with
  | nil => cases ha
  | cons c r =>
    rcases h c List.mem_cons_self with z | z
    · rw [z]; rfl
    · rcases List.mem_cons.mp ha with q | q
      · rw [q]; rfl
      · have := (List.pairwise_cons.mp hs).1 a q
        have := lt_trans2 (h2 _ List.mem_cons_self) (h2 _ ha) (h2 _ List.mem_cons_self) this z
        rw [lt_irr] at this
        cases this
theorem sorted_last {ms : List (Int × Int)} {b : Int × Int} (hs : Sorted ms) (hb : b ∈ ms) (h2 : ∀ x ∈ ms, 0 < x.2) (h : ∀ x ∈ ms, x = b ∨ bLt x b = true) : ms.getLast? = some b := by
  have hne := List.ne_nil_of_mem hb
  obtain ⟨l, e⟩ : ∃ l, ms = l ++ [ms.getLast hne] := ⟨_, (List.dropLast_concat_getLast hne).symm⟩
  have el := List.getLast?_eq_some_getLast hne
  generalize ms.getLast hne = c at e el
  rw [el]
  have hc : c ∈ ms := by rw [e]; exact List.mem_append_right _ List.mem_cons_self
  rcases h c hc with z | z
  · rw [z]
  · have hb' := hb
    rw [e] at hb'
    rcases List.mem_append.mp hb' with q | q
    · have hs' := hs
      rw [e] at hs'
      have := (List.pairwise_append.mp hs').2.2 b q c List.mem_cons_self
      have := lt_trans2 (h2 _ hc) (h2 _ hb) (h2 _ hc) z this
      rw [lt_irr] at this
      cases this
    · rw [List.mem_singleton.mp q]
theorem red_between {n a b : Int} (h1 : a * 6 < n) (h2 : n < b * 6) : bLt (a, 1) (red n 6) = true ∧ bLt (red n 6) (b, 1) = true := by
  obtain ⟨e1, e2⟩ := red_mul (a := n) (b := 6)
  have r := red_rd (a := n) (b := 6) (by decide)
  have hp : 0 < (red n 6).2 := r.1
  generalize red n 6 = p at e1 e2 hp ⊢
  generalize red_w n 6 = w at e1 e2
  have hw : 0 < w := by
    rcases Int.lt_trichotomy w 0 with z | z | z
    · have := Int.mul_neg_of_pos_of_neg hp z
      omega
    · rw [z, Int.mul_zero] at e2
      omega
    · exact z
  constructor
  · refine decide_eq_true ?_
    show a * p.2 < p.1 * 1
    rw [Int.mul_one]
    refine Int.lt_of_mul_lt_mul_right (a := w) ?_ (Int.le_of_lt hw)
    rw [Int.mul_assoc, e2, e1]
    exact h1
  · refine decide_eq_true ?_
    show p.1 * 1 < b * p.2
    rw [Int.mul_one]
    refine Int.lt_of_mul_lt_mul_right (a := w) ?_ (Int.le_of_lt hw)
    rw [Int.mul_assoc, e2, e1]
    exact h2

/-! ### points as rationals: a bent line keeps its course -/
def toQ (p : Int × Int) : Rat := Rat.divInt p.1 p.2
theorem toQ_red {a b : Int} (h : b ≠ 0) : toQ (red a b) = Rat.divInt a b := by
  obtain ⟨e1, e2⟩ := red_mul (a := a) (b := b)
  have r := red_rd (a := a) h
  unfold toQ
  rw [Rat.divInt_eq_divInt_iff (Int.ne_of_gt r.1) h]
  generalize red a b = p at e1 e2
  generalize red_w a b = w at e1 e2
  rw [← e2, ← e1, Int.mul_assoc, Int.mul_comm w p.2]
theorem toQ_add {a b : Int × Int} (ha : Rd a) (hb : Rd b) : toQ (addR a b) = toQ a + toQ b := by
  show toQ (red (a.1 * b.2 + b.1 * a.2) (a.2 * b.2)) = _
  rw [toQ_red (Int.ne_of_gt (Int.mul_pos ha.1 hb.1))]
  unfold toQ
  rw [Rat.divInt_add_divInt _ _ (Int.ne_of_gt ha.1) (Int.ne_of_gt hb.1)]
theorem toQ_sub {a b : Int × Int} (ha : Rd a) (hb : Rd b) : toQ (subR a b) = toQ a - toQ b := by
  show toQ (red (a.1 * b.2 - b.1 * a.2) (a.2 * b.2)) = _
  rw [toQ_red (Int.ne_of_gt (Int.mul_pos ha.1 hb.1))]
  unfold toQ
  rw [Rat.divInt_sub_divInt _ _ (Int.ne_of_gt ha.1) (Int.ne_of_gt hb.1)]
theorem toQ_mul {a b : Int × Int} (ha : Rd a) (hb : Rd b) : toQ (mulR a b) = toQ a * toQ b := by
  show toQ (red (a.1 * b.1) (a.2 * b.2)) = _
  rw [toQ_red (Int.ne_of_gt (Int.mul_pos ha.1 hb.1))]
  unfold toQ
  rw [Rat.divInt_mul_divInt]
theorem toQ_inj {a b : Int × Int} (ha : Rd a) (hb : Rd b) (h : toQ a = toQ b) : a = b := by
  unfold toQ at h
  rw [Rat.divInt_eq_divInt_iff (Int.ne_of_gt ha.1) (Int.ne_of_gt hb.1)] at h
  exact rd_uniq ha hb h
theorem le_toQ {a b : Int × Int} (ha : Rd a) (hb : Rd b) : bLe a b = true ↔ toQ a ≤ toQ b := by
  have h1 : toQ a ≤ toQ b ↔ 0 ≤ toQ b - toQ a := by
    constructor
    · intro z; grind
    · intro z; grind
  have e : toQ b - toQ a = Rat.divInt (b.1 * a.2 - a.1 * b.2) (b.2 * a.2) := by
    unfold toQ
    rw [Rat.divInt_sub_divInt _ _ (Int.ne_of_gt hb.1) (Int.ne_of_gt ha.1)]
  rw [h1, e, Rat.divInt_nonneg_iff_of_pos_right (Int.mul_pos hb.1 ha.1)]
  unfold bLe
  rw [decide_eq_true_eq]
  omega
theorem lt_toQ {a b : Int × Int} (ha : Rd a) (hb : Rd b) : bLt a b = true ↔ toQ a < toQ b := by
  have := le_toQ hb ha
  have e : bLt a b = !bLe b a := by
    unfold bLe bLt
    rw [← decide_not]
    exact decide_eq_decide.mpr Int.not_le.symm
  rw [e]
  cases h : bLe b a with
  | true =>
    have := this.mp h
    constructor
    · intro z; cases z
    · intro z; grind
  | false =>
    constructor
    · intro _
      have : ¬ toQ b ≤ toQ a := fun z => by rw [this.mpr z] at h; cases h
      grind
    · intro _; rfl
/-- y lies on the line through p and q, at m -/
def OnL (p q : Pt) (m y : Rat) : Prop := (y - toQ p.2) * (toQ q.1 - toQ p.1) = (toQ q.2 - toQ p.2) * (m - toQ p.1)
inductive On : List Pt → Rat → Rat → Prop
  | here {p q : Pt} {r : List Pt} {m y : Rat} (h1 : toQ p.1 ≤ m) (h2 : m ≤ toQ q.1) (h : OnL p q m y) : On (p :: q :: r) m y
  | there {p : Pt} {l : List Pt} {m y : Rat} (h : On l m y) : On (p :: l) m y
def FineAll (l : List Pt) : Prop := ∀ s ∈ l, Rd s.1 ∧ Rd s.2
def Up (l : List Pt) : Prop := l.Pairwise fun a b => toQ a.1 < toQ b.1
theorem on_ge : ∀ {p : Pt} {l : List Pt} {m y : Rat}, Up (p :: l) → On (p :: l) m y → toQ p.1 ≤ m
  | _, _, _, _, _, .here h1 _ _ => h1
  | p, q :: r, m, y, hu, .there h => by
    obtain ⟨h1, h2⟩ := List.pairwise_cons.mp hu
    have := on_ge h2 h
    have := h1 q List.mem_cons_self
    grind
theorem on_first : ∀ {p : Pt} {l : List Pt} {y : Rat}, Up (p :: l) → On (p :: l) (toQ p.1) y → y = toQ p.2
  | p, q :: r, y, hu, .here _ _ h => by
    obtain ⟨h1, _⟩ := List.pairwise_cons.mp hu
    have := h1 q List.mem_cons_self
    unfold OnL at h
    grind
  | p, q :: r, y, hu, .there h => by
    obtain ⟨h1, h2⟩ := List.pairwise_cons.mp hu
    have := on_ge h2 h
    have := h1 q List.mem_cons_self
    grind
theorem on_uniq {l : List Pt} {m y z : Rat} (hu : Up l) (h1 : On l m y) (h2 : On l m z) : y = z := by
  induction l with
  | nil => cases h1
  | cons p l ih =>
    obtain ⟨u1, u2⟩ := List.pairwise_cons.mp hu
    cases l with
    | nil =>
      cases h1 with
      | there h => cases h
    | cons q r =>
      have hq := u1 q List.mem_cons_self
      have mix : ∀ {y z : Rat}, m ≤ toQ q.1 → OnL p q m y → On (q :: r) m z → y = z := fun {y z} a2 a3 b => by
        have hm := on_ge u2 b
        have e : m = toQ q.1 := by grind
        subst e
        have := on_first u2 b
        unfold OnL at a3
        grind
      cases h1 with
      | here a1 a2 a3 =>
        cases h2 with
        | here b1 b2 b3 =>
          unfold OnL at a3 b3
          grind
        | there b => exact mix a2 a3 b
      | there a =>
        cases h2 with
        | here b1 b2 b3 => exact (mix b2 b3 a).symm
        | there b => exact ih u2 a b
theorem straight_Q {k s f : Pt} (hk : Rd k.1 ∧ Rd k.2) (hs : Rd s.1 ∧ Rd s.2) (hf : Rd f.1 ∧ Rd f.2) : straight k s f = true ↔ (toQ s.2 - toQ k.2) * (toQ f.1 - toQ s.1) = (toQ f.2 - toQ s.2) * (toQ s.1 - toQ k.1) := by
  unfold straight
  have rs : ∀ {a b : Int × Int}, Rd a → Rd b → Rd (subR a b) := fun ha hb => red_rd (Int.ne_of_gt (Int.mul_pos ha.1 hb.1))
  have rm : ∀ {a b : Int × Int}, Rd a → Rd b → Rd (mulR a b) := fun ha hb => red_rd (Int.ne_of_gt (Int.mul_pos ha.1 hb.1))
  rw [decide_eq_true_eq, ← toQ_sub hs.2 hk.2, ← toQ_sub hf.1 hs.1, ← toQ_sub hf.2 hs.2, ← toQ_sub hs.1 hk.1, ← toQ_mul (rs hs.2 hk.2) (rs hf.1 hs.1), ← toQ_mul (rs hf.2 hs.2) (rs hs.1 hk.1)]
  exact ⟨fun e => by rw [e], toQ_inj (rm (rs hs.2 hk.2) (rs hf.1 hs.1)) (rm (rs hf.2 hs.2) (rs hs.1 hk.1))⟩
/-- the kept points, told by recursion -/
def bentL : Pt → List Pt → List Pt
  | k, [] => [k]
  | k, [s] => [k, s]
  | k, s :: f :: r => if straight k s f = true then bentL k (f :: r) else k :: bentL s (f :: r)
theorem bent_rec : ∀ (l acc : List Pt) (k : Pt), l ≠ [] → (List.zip l (l.drop 1)).foldl bentStep (acc ++ [k]) ++ [(k :: l).getLast (List.cons_ne_nil _ _)] = acc ++ bentL k l
  | [], _, _, h => absurd rfl h
  | [s], acc, k, _ => by
    show acc ++ [k] ++ [s] = acc ++ [k, s]
    rw [List.append_assoc]
    rfl
  | s :: f :: r, acc, k, _ => by
    have gl : (k :: s :: f :: r).getLast (List.cons_ne_nil _ _) = (f :: r).getLast (List.cons_ne_nil _ _) := rfl
    show ((s, f) :: List.zip (f :: r) r).foldl bentStep (acc ++ [k]) ++ _ = acc ++ bentL k (s :: f :: r)
    rw [List.foldl_cons]
    have st : bentStep (acc ++ [k]) (s, f) = if straight k s f = true then acc ++ [k] else acc ++ [k] ++ [s] := by
      unfold bentStep
      rw [List.getLast?_append]
      rfl
    rw [st]
    show _ = acc ++ (if straight k s f = true then bentL k (f :: r) else k :: bentL s (f :: r))
    by_cases c : straight k s f = true
    · rw [if_pos c, if_pos c]
      exact bent_rec (f :: r) acc k (List.cons_ne_nil _ _)
    · rw [if_neg c, if_neg c]
      have := bent_rec (f :: r) (acc ++ [k]) s (List.cons_ne_nil _ _)
      have e2 : acc ++ [k] ++ bentL s (f :: r) = acc ++ k :: bentL s (f :: r) := by
        rw [List.append_assoc]
        rfl
      exact this.trans e2
theorem bentF_rec {p : Pt} {r : List Pt} (h : r ≠ []) : bentF (p :: r) = bentL p r := bent_rec r [] p h
theorem bentL_head : ∀ (l : List Pt) (k : Pt), ∃ t, bentL k l = k :: t
  | [], _ => ⟨_, rfl⟩
  | [_], _ => ⟨_, rfl⟩
  | s :: f :: r, k => by
    by_cases c : straight k s f = true
    · obtain ⟨t, e⟩ := bentL_head (f :: r) k
      exact ⟨t, (if_pos c : bentL k (s :: f :: r) = _).trans e⟩
    · exact ⟨_, (if_neg c : bentL k (s :: f :: r) = _)⟩
/-- what lies on the bent line lies on the line -/
theorem bent_on : ∀ (l : List Pt) {k : Pt} {m y : Rat}, FineAll (k :: l) → Up (k :: l) → On (bentL k l) m y → On (k :: l) m y
  | [], k, m, y, _, _, h => h
  | [s], k, m, y, _, _, h => h
  | s :: f :: r, k, m, y, hf, hu, h => by
    have fk := hf k List.mem_cons_self
    have fs := hf s (List.mem_cons_of_mem _ List.mem_cons_self)
    have ff := hf f (List.mem_cons_of_mem _ (List.mem_cons_of_mem _ List.mem_cons_self))
    obtain ⟨u1, u2⟩ := List.pairwise_cons.mp hu
    obtain ⟨u3, u4⟩ := List.pairwise_cons.mp u2
    have hks := u1 s List.mem_cons_self
    have hkf := u1 f (List.mem_cons_of_mem _ List.mem_cons_self)
    have hsf := u3 f List.mem_cons_self
    by_cases c : straight k s f = true
    · have e : bentL k (s :: f :: r) = bentL k (f :: r) := if_pos c
      rw [e] at h
      have hf' : FineAll (k :: f :: r) := fun x hx => hf x (by
        rcases List.mem_cons.mp hx with z | z
        · rw [z]; exact List.mem_cons_self
        · exact List.mem_cons_of_mem _ (List.mem_cons_of_mem _ z))
      have hu' : Up (k :: f :: r) := List.pairwise_cons.mpr ⟨fun x hx => u1 x (List.mem_cons_of_mem _ hx), u4⟩
      have := bent_on (f :: r) hf' hu' h
      rw [straight_Q fk fs ff] at c
      cases this with
      | there h => exact .there (.there h)
      | here h1 h2 h3 =>
        unfold OnL at h3
        by_cases hm : m ≤ toQ s.1
        · refine .here h1 hm ?_
          unfold OnL
          have e : ((y - toQ k.2) * (toQ s.1 - toQ k.1)) * (toQ f.1 - toQ k.1) = ((toQ s.2 - toQ k.2) * (m - toQ k.1)) * (toQ f.1 - toQ k.1) := by grind
          have h0 : toQ f.1 - toQ k.1 ≠ 0 := by grind
          grind
        · refine .there (.here (by grind) h2 ?_)
          unfold OnL
          have e : ((y - toQ s.2) * (toQ f.1 - toQ s.1)) * (toQ f.1 - toQ k.1) = ((toQ f.2 - toQ s.2) * (m - toQ s.1)) * (toQ f.1 - toQ k.1) := by grind
          have h0 : toQ f.1 - toQ k.1 ≠ 0 := by grind
          grind
    · have e : bentL k (s :: f :: r) = k :: bentL s (f :: r) := if_neg c
      rw [e] at h
      have hf' : FineAll (s :: f :: r) := fun x hx => hf x (List.mem_cons_of_mem _ hx)
      obtain ⟨t, et⟩ := bentL_head (f :: r) s
      rw [et] at h
      cases h with
      | here h1 h2 h3 => exact .here h1 h2 h3
      | there h =>
        rw [← et] at h
        exact .there (bent_on (f :: r) hf' u2 h)

/-! ### bent once more: the same; right points -/
inductive NoS : List Pt → Prop
  | nil : NoS []
  | one {a : Pt} : NoS [a]
  | two {a b : Pt} : NoS [a, b]
  | more {a b c : Pt} {r : List Pt} (h : straight a b c = false) (t : NoS (b :: c :: r)) : NoS (a :: b :: c :: r)
theorem bentL_sub : ∀ (l : List Pt) (k : Pt), (bentL k l).Sublist (k :: l)
  | [], _ => List.Sublist.refl _
  | [_], _ => List.Sublist.refl _
  | s :: f :: r, k => by
    by_cases c : straight k s f = true
    · rw [show bentL k (s :: f :: r) = bentL k (f :: r) from if_pos c]
      exact (bentL_sub (f :: r) k).trans (List.Sublist.cons₂ k (List.Sublist.cons s (List.Sublist.refl _)))
    · rw [show bentL k (s :: f :: r) = k :: bentL s (f :: r) from if_neg c]
      exact List.Sublist.cons₂ k (bentL_sub (f :: r) s)
/-- the next kept point lies in the direction of the next one -/
theorem bentL_next : ∀ (r : List Pt) (s f : Pt), FineAll (s :: f :: r) → Up (s :: f :: r) → ∃ f' t, bentL s (f :: r) = s :: f' :: t ∧ f' ∈ f :: r ∧ (toQ f'.2 - toQ s.2) * (toQ f.1 - toQ s.1) = (toQ f.2 - toQ s.2) * (toQ f'.1 - toQ s.1)
  | [], s, f, _, _ => ⟨f, [], rfl, List.mem_cons_self, rfl⟩
  | g :: r, s, f, hf, hu => by
    have fs := hf s List.mem_cons_self
    have ff := hf f (List.mem_cons_of_mem _ List.mem_cons_self)
    have fg := hf g (List.mem_cons_of_mem _ (List.mem_cons_of_mem _ List.mem_cons_self))
    obtain ⟨u1, u2⟩ := List.pairwise_cons.mp hu
    obtain ⟨u3, u4⟩ := List.pairwise_cons.mp u2
    have hsf := u1 f List.mem_cons_self
    have hfg := u3 g List.mem_cons_self
    by_cases c : straight s f g = true
    · rw [show bentL s (f :: g :: r) = bentL s (g :: r) from if_pos c]
      obtain ⟨f', t, e, m, q⟩ := bentL_next r s g (fun x hx => hf x (by
        rcases List.mem_cons.mp hx with z | z
        · rw [z]; exact List.mem_cons_self
        · exact List.mem_cons_of_mem _ (List.mem_cons_of_mem _ z))) (List.pairwise_cons.mpr ⟨fun x hx => u1 x (List.mem_cons_of_mem _ hx), u4⟩)
      refine ⟨f', t, e, List.mem_cons_of_mem _ m, ?_⟩
      rw [straight_Q fs ff fg] at c
      have h0 : toQ g.1 - toQ s.1 ≠ 0 := by grind
      have e1 : ((toQ f'.2 - toQ s.2) * (toQ f.1 - toQ s.1) - (toQ f.2 - toQ s.2) * (toQ f'.1 - toQ s.1)) * (toQ g.1 - toQ s.1) = 0 := by grind
      rcases Rat.mul_eq_zero.mp e1 with z | z
      · grind
      · exact absurd z h0
    · rw [show bentL s (f :: g :: r) = s :: bentL f (g :: r) from if_neg c]
      obtain ⟨t, e⟩ := bentL_head (g :: r) f
      exact ⟨f, t, by rw [e], List.mem_cons_self, rfl⟩
theorem bentL_nos : ∀ (l : List Pt) (k : Pt), FineAll (k :: l) → Up (k :: l) → NoS (bentL k l)
  | [], _, _, _ => .one
  | [_], _, _, _ => .two
  | s :: f :: r, k, hf, hu => by
    have fk := hf k List.mem_cons_self
    have fs := hf s (List.mem_cons_of_mem _ List.mem_cons_self)
    have ff := hf f (List.mem_cons_of_mem _ (List.mem_cons_of_mem _ List.mem_cons_self))
    obtain ⟨u1, u2⟩ := List.pairwise_cons.mp hu
    obtain ⟨u3, u4⟩ := List.pairwise_cons.mp u2
    have hf2 : FineAll (s :: f :: r) := fun x hx => hf x (List.mem_cons_of_mem _ hx)
    by_cases c : straight k s f = true
    · rw [show bentL k (s :: f :: r) = bentL k (f :: r) from if_pos c]
      exact bentL_nos (f :: r) k (fun x hx => hf x (by
        rcases List.mem_cons.mp hx with z | z
        · rw [z]; exact List.mem_cons_self
        · exact List.mem_cons_of_mem _ (List.mem_cons_of_mem _ z))) (List.pairwise_cons.mpr ⟨fun x hx => u1 x (List.mem_cons_of_mem _ hx), u4⟩)
    · rw [show bentL k (s :: f :: r) = k :: bentL s (f :: r) from if_neg c]
      have ih := bentL_nos (f :: r) s hf2 u2
      obtain ⟨f', t, e, m, q⟩ := bentL_next r s f hf2 u2
      rw [e] at ih ⊢
      have ff' := hf2 f' (List.mem_cons_of_mem _ m)
      have hsf := u3 f List.mem_cons_self
      have hsf' := u3 f' m
      refine .more ?_ ih
      cases c' : straight k s f' with
      | false => rfl
      | true =>
        exfalso
        apply c
        rw [straight_Q fk fs ff'] at c'
        rw [straight_Q fk fs ff]
        have h0 : toQ f'.1 - toQ s.1 ≠ 0 := by grind
        have e1 : ((toQ s.2 - toQ k.2) * (toQ f.1 - toQ s.1) - (toQ f.2 - toQ s.2) * (toQ s.1 - toQ k.1)) * (toQ f'.1 - toQ s.1) = 0 := by grind
        rcases Rat.mul_eq_zero.mp e1 with z | z
        · grind
        · exact absurd z h0
theorem nos_fix : ∀ (l : List Pt) (k : Pt), NoS (k :: l) → bentL k l = k :: l
  | [], _, _ => rfl
  | [_], _, _ => rfl
  | s :: f :: r, k, .more h t => by
    rw [show bentL k (s :: f :: r) = k :: bentL s (f :: r) from if_neg (by rw [h]; exact Bool.false_ne_true), nos_fix (f :: r) s t]
theorem bentF_two {cs : List Pt} (h : 2 ≤ cs.length) (hf : FineAll cs) (hu : Up cs) : bentF (bentF cs) = bentF cs ∧ 2 ≤ (bentF cs).length ∧ (∀ x ∈ bentF cs, x ∈ cs) ∧ Up (bentF cs) ∧ (bentF cs).length ≤ cs.length := by
  match cs, h with
  | p :: q :: r, _ =>
    have e : bentF (p :: q :: r) = bentL p (q :: r) := bentF_rec (List.cons_ne_nil _ _)
    have n := bentL_nos (q :: r) p hf hu
    obtain ⟨f', t, e2, m, _⟩ := bentL_next r p q hf hu
    have hm : ∀ x ∈ bentF (p :: q :: r), x ∈ p :: q :: r := fun x hx => (bentL_sub (q :: r) p).subset (by rw [← e]; exact hx)
    refine ⟨?_, ?_, hm, ?_, ?_⟩
    · rw [e, e2, bentF_rec (List.cons_ne_nil _ _)]
      rw [e2] at n
      exact nos_fix _ _ n
    · rw [e, e2, List.length_cons, List.length_cons]
      omega
    · rw [e]
      exact hu.sublist (bentL_sub _ _)
    · rw [e]
      exact (bentL_sub _ _).length_le
theorem wrong_noneU : ∀ {cs : List Pt} {prev : Option (Int × Int)} {i : Nat}, FineAll cs → Up cs → (∀ t, prev = some t → Rd t ∧ ∀ s ∈ cs, toQ t < toQ s.1) → wrongAt prev i (cs.map some) = none
  | [], _, _, _, _, _ => rfl
  | s :: r, prev, i, hf, hu, hp => by
    obtain ⟨h1, h2⟩ := List.pairwise_cons.mp hu
    have fs := hf s List.mem_cons_self
    have rest : wrongAt (some s.1) (i + 1) (r.map some) = none := wrong_noneU (fun x hx => hf x (List.mem_cons_of_mem _ hx)) h2 fun t e => by
      cases e
      exact ⟨fs.1, h1⟩
    cases prev with
    | none =>
      show (if false = true then some i else wrongAt (some s.1) (i + 1) (r.map some)) = none
      rw [if_neg Bool.false_ne_true]
      exact rest
    | some t =>
      obtain ⟨rt, hl⟩ := hp t rfl
      have c : bLe s.1 t = false := by
        have lt := hl s List.mem_cons_self
        cases e : bLe s.1 t with
        | false => rfl
        | true =>
          have := (le_toQ fs.1 rt).mp e
          grind
      show (if bLe s.1 t = true then some i else wrongAt (some s.1) (i + 1) (r.map some)) = none
      rw [c, if_neg Bool.false_ne_true]
      exact rest
theorem line_fineU {cs : List Pt} (hf : FineAll cs) (hu : Up cs) (h2 : 2 ≤ cs.length) : lineWrong (cs.map some) = none :=
  line_right (by rw [List.length_map]; omega) (by rw [List.length_map]; omega) (wrong_noneU hf hu nofun)



/-! ### a line asked for its heights and its points -/
def divR (a b : Int × Int) : Int × Int := red (a.1 * b.2) (a.2 * b.1)
theorem toQ_div {a b : Int × Int} (ha : Rd a) (hb : Rd b) (h0 : b.1 ≠ 0) : toQ (divR a b) * toQ b = toQ a ∧ Rd (divR a b) := by
  have hn : a.2 * b.1 ≠ 0 := Int.mul_ne_zero (Int.ne_of_gt ha.1) h0
  refine ⟨?_, red_rd hn⟩
  show toQ (red (a.1 * b.2) (a.2 * b.1)) * toQ b = toQ a
  rw [toQ_red hn]
  unfold toQ
  rw [Rat.divInt_mul_divInt, Rat.divInt_eq_divInt_iff (Int.mul_ne_zero hn (Int.ne_of_gt hb.1)) (Int.ne_of_gt ha.1)]
  rw [Int.mul_assoc, Int.mul_assoc, Int.mul_assoc, Int.mul_comm b.2 (b.1 * a.2), Int.mul_comm b.1 a.2, Int.mul_assoc]
/-- sizes of what is reckoned on the way -/
def Sz (m n : Nat) (p : Int × Int) : Prop := Rd p ∧ p.1.natAbs < 2 ^ m ∧ p.2.natAbs < 2 ^ n
theorem Sz.nm {m n : Nat} {p : Int × Int} (h : Sz m n p) (hm : m ≤ 1000 := by decide) (hn : n ≤ 1000 := by decide) : Nm p := ⟨h.1.1, sz_up h.2.1 hm, sz_up h.2.2 hn⟩
theorem Sz.fine {m n : Nat} {p : Int × Int} (h : Sz m n p) (hm : m ≤ 240 := by decide) (hn : n ≤ 240 := by decide) : Fine p := ⟨h.1, sz_up h.2.1 hm, sz_up h.2.2 hn⟩
theorem Sz.up {m n m' n' : Nat} {p : Int × Int} (h : Sz m n p) (hm : m ≤ m' := by decide) (hn : n ≤ n' := by decide) : Sz m' n' p := ⟨h.1, sz_up h.2.1 hm, sz_up h.2.2 hn⟩
/-- numbers as they are drawn -/
abbrev Ty (p : Int × Int) : Prop := Sz 6 3 p
section
variable {a b c d : Nat} {p q : Int × Int}
theorem zz_sub (k : Nat) (hp : Sz a b p) (hq : Sz c d q) (h1 : a + d ≤ k := by decide) (h2 : c + b ≤ k := by decide) : Sz (k + 1) (b + d) (subR p q) := by
  have z1 := sz_up (sz_mul hp.2.1 hq.2.2) h1
  have z2 := sz_up (sz_mul hq.2.1 hp.2.2) h2
  have e0 : p.2 * q.2 ≠ 0 := Int.ne_of_gt (Int.mul_pos hp.1.1 hq.1.1)
  have e1 : (p.1 * q.2 - q.1 * p.2).natAbs < 2 ^ (k + 1) := by
    rw [Nat.pow_succ]
    omega
  have := red_sz (a := p.1 * q.2 - q.1 * p.2) (b := p.2 * q.2) e0 e1 (sz_mul hp.2.2 hq.2.2)
  exact ⟨red_rd e0, this.1, this.2⟩
theorem zz_add (k : Nat) (hp : Sz a b p) (hq : Sz c d q) (h1 : a + d ≤ k := by decide) (h2 : c + b ≤ k := by decide) : Sz (k + 1) (b + d) (addR p q) := by
  have z1 := sz_up (sz_mul hp.2.1 hq.2.2) h1
  have z2 := sz_up (sz_mul hq.2.1 hp.2.2) h2
  have e0 : p.2 * q.2 ≠ 0 := Int.ne_of_gt (Int.mul_pos hp.1.1 hq.1.1)
  have e1 : (p.1 * q.2 + q.1 * p.2).natAbs < 2 ^ (k + 1) := by
    rw [Nat.pow_succ]
    omega
  have := red_sz (a := p.1 * q.2 + q.1 * p.2) (b := p.2 * q.2) e0 e1 (sz_mul hp.2.2 hq.2.2)
  exact ⟨red_rd e0, this.1, this.2⟩
theorem zz_mul (hp : Sz a b p) (hq : Sz c d q) : Sz (a + c) (b + d) (mulR p q) := by
  have e0 : p.2 * q.2 ≠ 0 := Int.ne_of_gt (Int.mul_pos hp.1.1 hq.1.1)
  have := red_sz (a := p.1 * q.1) (b := p.2 * q.2) e0 (sz_mul hp.2.1 hq.2.1) (sz_mul hp.2.2 hq.2.2)
  exact ⟨red_rd e0, this.1, this.2⟩
theorem zz_div (hp : Sz a b p) (hq : Sz c d q) (h0 : q.1 ≠ 0) : Sz (a + d) (b + c) (divR p q) := by
  have e0 : p.2 * q.1 ≠ 0 := Int.mul_ne_zero (Int.ne_of_gt hp.1.1) h0
  have := red_sz (a := p.1 * q.2) (b := p.2 * q.1) e0 (sz_mul hp.2.1 hq.2.2) (sz_mul hp.2.2 hq.2.1)
  exact ⟨red_rd e0, this.1, this.2⟩
end
theorem on_at : ∀ {qs : List Pt} {i : Nat} {a b : Pt} {m y : Rat}, qs[i]? = some a → qs[i + 1]? = some b → toQ a.1 ≤ m → m ≤ toQ b.1 → OnL a b m y → On qs m y := by
  intro qs
  induction qs with
  | nil => intro i a b m y h; simp at h
  | cons p l ih =>
    intro i a b m y h1 h2 h3 h4 h5
    cases i with
    | zero =>
      cases h1
      cases l with
      | nil => simp at h2
      | cons q r =>
        cases h2
        exact .here h3 h4 h5
    | succ i => exact .there (ih h1 h2 h3 h4 h5)
theorem up_at {qs : List Pt} (hu : Up qs) {i j : Nat} {a b : Pt} (hij : i < j) (h1 : qs[i]? = some a) (h2 : qs[j]? = some b) : toQ a.1 < toQ b.1 := by
  obtain ⟨i1, e1⟩ := List.getElem?_eq_some_iff.mp h1
  obtain ⟨i2, e2⟩ := List.getElem?_eq_some_iff.mp h2
  have := List.pairwise_iff_getElem.mp hu i j i1 i2 hij
  rw [e1, e2] at this
  exact this
section
variable {P : Program} {w : World} {K : PySem.W.Frag} {mg : Str → Option Value} {base : Heap}
def spQuot (C : Addr) : Sp := fun vs H Q _ => ∃ x y a b, vs = [x, y] ∧ NumAt C H x a ∧ NumAt C H y b ∧ Rd a ∧ Nm a ∧ Nm b ∧ b.1 ≠ 0 ∧ ∀ v H', Same H H' → ToldAt C H' v (divR a b) → Q v H'
theorem ok_quotient (T : Tx K mg) : FnOk P w K mg base CX0 8 T.quotient_a T.quotient_d ["one", "other"] (spQuot T.Exact_a) := by
  refine T.quotient_F.ok sc_quotient (fun vs H Q E h => ?_) (fun cdv A outer s H vs Q E hr h => ?_)
  · obtain ⟨x, y, a, b, rfl, _⟩ := h
    rfl
  · obtain ⟨x, y, a, b, rfl, hx, hy, ra, na, nb, h0, k⟩ := h
    refine ⟨_, (pss_cons (ps_asg (pe_call (ok_parts T) (hr.mono (by decide)) rfl T.parts_m T.parts_F.kp T.parts_b .nil pass0 (pa_cons (pv 0) pa_nil)) (pg_tup (by rfl) (pgs_cons (pg_name (i := 2) sc_quotient.nd rfl (Or.inl rfl)) (pgs_cons (pg_name (i := 3) sc_quotient.nd rfl (Or.inl rfl)) pgs_nil))))
  (pss_cons (ps_asg (pe_call (ok_parts T) (hr.mono (by decide)) rfl T.parts_m T.parts_F.kp T.parts_b .nil pass0 (pa_cons (pv 1) pa_nil)) (pg_tup (by rfl) (pgs_cons (pg_name (i := 4) sc_quotient.nd rfl (Or.inl rfl)) (pgs_cons (pg_name (i := 5) sc_quotient.nd rfl (Or.inl rfl)) pgs_nil))))
  (pss_one (ps_ret (pe_call (ok_plain T) (hr.mono (by decide)) rfl T.plain_m T.plain_F.kp T.plain_b .nil pass0 (pa_cons (pe_make T.Exact_mk (ok_Exact_init T) (hr.mono (by decide)) rfl T.Exact_m T.Exact_init_b .nil pass0 (pa_cons (pe_op (op_mulG) (pv 2) (pv 5)) (pa_cons (pe_op (op_mulG) (pv 3) (pv 4)) pa_nil))) pa_nil)))))), ?_⟩
    refine ⟨_, rfl, x, a, rfl, hx, fun t1 H1 e1 h1 => ?_⟩
    refine ⟨t1, _, rfl, .inl (.inl h1), rfl, _, _, rfl, _, _, rfl, rfl, ?_⟩
    refine ⟨_, rfl, y, b, rfl, hy.same e1, fun t2 H2 e2 h2 => ?_⟩
    refine ⟨t2, _, rfl, .inl (.inl h2), rfl, _, _, rfl, _, _, rfl, rfl, ?_⟩
    refine ⟨_, rfl, _, rfl, _, _, rfl, rfl, ok1000 na.2.1 nb.2.2, _, rfl, _, rfl, _, _, rfl, rfl, ok1000 na.2.2 nb.2.1, ?_⟩
    have hn : a.2 * b.1 ≠ 0 := Int.mul_ne_zero (Int.ne_of_gt na.1) h0
    have sz := red_sz (a := a.1 * b.2) hn (sz_mul na.2.1 nb.2.2) (sz_mul na.2.2 nb.2.1)
    refine fun z dz nz ndz _ => mk_ex1 nz ndz hn (sz_up (sz_mul na.2.2 nb.2.1) (by decide)) fun H3 e3 hv => ?_
    exact ⟨_, _, rfl, .inr hv, red_rd hn, sz_up sz.2 (by decide), fun v' H4 e4 hv' => k v' H4 ((e1.trans e2).trans (e3.trans e4)) hv'⟩
theorem Fine.sz {p : Int × Int} (h : Fine p) : Sz 240 240 p := ⟨h.1, h.2.1, h.2.2⟩
/-- the height reckoned between two points is the one that is known -/
theorem between_eq {a b : Pt} {p y : Int × Int} (ra : Rd a.1 ∧ Rd a.2) (rb : Rd b.1 ∧ Rd b.2) (rp : Rd p) (ry : Rd y) (lt : toQ a.1 < toQ b.1) (o : OnL a b (toQ p) (toQ y)) (d4 : Rd (mulR (subR b.2 a.2) (subR p a.1))) (d3 : Rd (subR b.1 a.1)) (d1 : Rd (subR b.2 a.2)) (d2 : Rd (subR p a.1)) (h0 : (subR b.1 a.1).1 ≠ 0) (dy : Rd (subR y a.2)) :
    divR (mulR (subR b.2 a.2) (subR p a.1)) (subR b.1 a.1) = subR y a.2 := by
  obtain ⟨r2, rD⟩ := toQ_div d4 d3 h0
  refine toQ_inj rD dy ?_
  rw [toQ_mul d1 d2, toQ_sub rb.2 ra.2, toQ_sub rp ra.1, toQ_sub rb.1 ra.1] at r2
  rw [toQ_sub ry ra.2]
  unfold OnL at o
  have e : (toQ (divR (mulR (subR b.2 a.2) (subR p a.1)) (subR b.1 a.1)) - (toQ y - toQ a.2)) * (toQ b.1 - toQ a.1) = 0 := by grind
  rcases Rat.mul_eq_zero.mp e with z | z
  · grind
  · grind
def spBetween (C : Addr) : Sp := fun vs H Q _ => ∃ v1 v2 m a b p y, vs = [v1, v2, m] ∧ SpotAt C H v1 a ∧ SpotAt C H v2 b ∧ NumAt C H m p ∧ Fine p ∧ Fine y ∧ toQ a.1 < toQ b.1 ∧ OnL a b (toQ p) (toQ y) ∧ ∀ v H', Same H H' → NumAt C H' v y → Q v H'
theorem ok_height_between (T : Tx K mg) : FnOk P w K mg base CX0 12 T.height_between_a T.height_between_d ["one", "other", "moment"] (spBetween T.Exact_a) := by
  refine T.height_between_F.ok sc_height_between (fun vs H Q E h => ?_) (fun cdv A outer s H vs Q E hr h => ?_)
  · obtain ⟨v1, v2, m, a, b, p, y, rfl, _⟩ := h
    rfl
  · obtain ⟨v1, v2, m, a, b, p, y, rfl, ha, hb, hm, fp, fy, hlt, ol, k⟩ := h
    refine ⟨_, (pss_cons (ps_asg (pv 0) (pg_tup (by rfl) (pgs_cons (pg_name (i := 3) sc_height_between.nd rfl (Or.inl rfl)) (pgs_cons (pg_name (i := 4) sc_height_between.nd rfl (Or.inl rfl)) pgs_nil))))
  (pss_cons (ps_asg (pv 1) (pg_tup (by rfl) (pgs_cons (pg_name (i := 5) sc_height_between.nd rfl (Or.inl rfl)) (pgs_cons (pg_name (i := 6) sc_height_between.nd rfl (Or.inl rfl)) pgs_nil))))
  (pss_cons (ps_if (PW.pt (pw_or (pt_cmpR (op_eq.or ((op_gyC (op := .Eq) (fun _ _ => rfl) T.Exact_eq_M.at_ T.Exact_eq_M.fn (ok_Exact_eq T) (hr.mono (by decide)) T.Exact_eq_b pass0).or (op_gyCR (op := .Eq) (fun _ _ => rfl) T.Exact_eq_M.at_ T.Exact_eq_M.fn (ok_Exact_eq T) (hr.mono (by decide)) T.Exact_eq_b pass0))) (pv 4) (pv 6) (nomark _)) (pw_or1 (pt_cmpR (op_eq.or ((op_gyC (op := .Eq) (fun _ _ => rfl) T.Exact_eq_M.at_ T.Exact_eq_M.fn (ok_Exact_eq T) (hr.mono (by decide)) T.Exact_eq_b pass0).or (op_gyCR (op := .Eq) (fun _ _ => rfl) T.Exact_eq_M.at_ T.Exact_eq_M.fn (ok_Exact_eq T) (hr.mono (by decide)) T.Exact_eq_b pass0))) (pv 2) (pv 3) (nomark _)))))
  (pss_one (ps_ret (pv 4)))
  pss_nil)
  (pss_cons (ps_if (pt_cmpR (op_eq.or ((op_gyC (op := .Eq) (fun _ _ => rfl) T.Exact_eq_M.at_ T.Exact_eq_M.fn (ok_Exact_eq T) (hr.mono (by decide)) T.Exact_eq_b pass0).or (op_gyCR (op := .Eq) (fun _ _ => rfl) T.Exact_eq_M.at_ T.Exact_eq_M.fn (ok_Exact_eq T) (hr.mono (by decide)) T.Exact_eq_b pass0))) (pv 2) (pv 5) (nomark _))
  (pss_one (ps_ret (pv 6)))
  pss_nil)
  (pss_one (ps_ret (pe_op (op_add.or ((op_gyD T.op_add (ok_Exact_add T) (hr.mono (by decide)) T.Exact_add_b pass0).or (op_gyRadd T.op_add (ok_Exact_radd T) (hr.mono (by decide)) T.Exact_radd_b pass0))) (pv 4) (pe_call (ok_quotient T) (hr.mono (by decide)) rfl T.quotient_m T.quotient_F.kp T.quotient_b .nil pass0 (pa_cons (pe_op (op_mulG.or ((op_gyD T.op_mul (ok_Exact_mul T) (hr.mono (by decide)) T.Exact_mul_b pass0).or (op_gyRmul T.op_mul (ok_Exact_rmul T) (hr.mono (by decide)) T.Exact_rmul_b pass0))) (pe_op (op_sub.or ((op_gyD T.op_sub (ok_Exact_sub T) (hr.mono (by decide)) T.Exact_sub_b pass0).or (op_gyRsub T.op_sub (ok_Exact_rsub T) (hr.mono (by decide)) T.Exact_rsub_b pass0))) (pv 6) (pv 4)) (pe_op (op_sub.or ((op_gyD T.op_sub (ok_Exact_sub T) (hr.mono (by decide)) T.Exact_sub_b pass0).or (op_gyRsub T.op_sub (ok_Exact_rsub T) (hr.mono (by decide)) T.Exact_rsub_b pass0))) (pv 2) (pv 3))) (pa_cons (pe_op (op_sub.or ((op_gyD T.op_sub (ok_Exact_sub T) (hr.mono (by decide)) T.Exact_sub_b pass0).or (op_gyRsub T.op_sub (ok_Exact_rsub T) (hr.mono (by decide)) T.Exact_rsub_b pass0))) (pv 5) (pv 3)) pa_nil)))))))))), ?_⟩
    obtain ⟨⟨t1, x1, y1, rfl, h1, hx1, hy1⟩, fa1, fa2⟩ := ha
    obtain ⟨⟨t2, x2, y2, rfl, h2, hx2, hy2⟩, fb1, fb2⟩ := hb
    have hx1 := hx1.num
    have hy1 := hy1.num
    have hx2 := hx2.num
    have hy2 := hy2.num
    have dd : toQ b.1 - toQ a.1 ≠ 0 := by grind
    have ol' := ol
    unfold OnL at ol'
    refine ⟨_, rfl, t1, _, rfl, .inl (.inl h1), rfl, _, _, rfl, _, _, rfl, rfl, ?_⟩
    refine ⟨_, rfl, t2, _, rfl, .inl (.inl h2), rfl, _, _, rfl, _, _, rfl, rfl, ?_⟩
    refine ⟨_, rfl, _, rfl, n_eq (fun i => turns_eq T.Exact_dn_int) hy1 hy2 fun H1 e1 => ⟨_, rfl, ?_⟩⟩
    by_cases c1 : a.2 = b.2
    · rw [decide_eq_true c1]
      have ey : y = a.2 := toQ_inj fy.1 fa2.1 (by
        rw [c1] at ol' ⊢
        have e : (toQ y - toQ b.2) * (toQ b.1 - toQ a.1) = 0 := by grind
        rcases Rat.mul_eq_zero.mp e with z | z
        · grind
        · exact absurd z dd)
      exact iteT (iteT ⟨_, rfl, k _ H1 e1 (by rw [ey]; exact hy1.same e1)⟩)
    rw [decide_eq_false c1]
    refine iteF ?_
    refine ⟨_, rfl, _, rfl, n_eq (fun i => turns_eq T.Exact_dn_int) (hm.same e1) (hx1.same e1) fun H2 e2 => ⟨_, rfl, ?_⟩⟩
    have e12 := e1.trans e2
    by_cases c2 : p = a.1
    · rw [decide_eq_true c2]
      have ey : y = a.2 := toQ_inj fy.1 fa2.1 (by
        rw [c2] at ol'
        have e : (toQ y - toQ a.2) * (toQ b.1 - toQ a.1) = 0 := by grind
        rcases Rat.mul_eq_zero.mp e with z | z
        · grind
        · exact absurd z dd)
      exact iteT ⟨_, rfl, k _ H2 e12 (by rw [ey]; exact hy1.same e12)⟩
    rw [decide_eq_false c2]
    refine iteF ?_
    refine ⟨_, rfl, _, rfl, n_eq (fun i => turns_eq T.Exact_dn_int) (hm.same e12) (hx2.same e12) fun H3 e3 => ⟨_, rfl, ?_⟩⟩
    have e13 := e12.trans e3
    by_cases c3 : p = b.1
    · rw [decide_eq_true c3]
      have ey : y = b.2 := toQ_inj fy.1 fb2.1 (by
        rw [c3] at ol'
        have e : (toQ y - toQ b.2) * (toQ b.1 - toQ a.1) = 0 := by grind
        rcases Rat.mul_eq_zero.mp e with z | z
        · grind
        · exact absurd z dd)
      exact iteT ⟨_, rfl, k _ H3 e13 (by rw [ey]; exact hy2.same e13)⟩
    rw [decide_eq_false c3]
    refine iteF ?_
    have d1 := zz_sub 480 fb2.sz fa2.sz
    have d2 := zz_sub 480 fp.sz fa1.sz
    have d3 := zz_sub 480 fb1.sz fa1.sz
    have d4 := zz_mul d1 d2
    have d5 := zz_sub 480 fy.sz fa2.sz
    have h0 : (subR b.1 a.1).1 ≠ 0 := by
      intro z
      have q := toQ_sub fb1.1 fa1.1
      have : toQ (subR b.1 a.1) = 0 := by
        unfold toQ
        rw [z]
        exact Rat.zero_divInt _
      rw [this] at q
      grind
    have eD := between_eq ⟨fa1.1, fa2.1⟩ ⟨fb1.1, fb2.1⟩ fp.1 fy.1 hlt ol d4.1 d3.1 d1.1 d2.1 h0 d5.1
    have eY : addR a.2 (subR y a.2) = y := toQ_inj (red_rd (Int.ne_of_gt (Int.mul_pos fa2.1.1 d5.1.1))) fy.1 (by
      rw [toQ_add fa2.1 d5.1, toQ_sub fy.1 fa2.1]
      grind)
    refine ⟨_, rfl, _, rfl, _, rfl, n_sub (hy2.same e13) (hy1.same e13) fb2.nm fa2.nm fun u1 H4 e4 q1 => ?_⟩
    have e14 := e13.trans e4
    refine ⟨_, rfl, _, rfl, n_sub (hm.same e14) (hx1.same e14) fp.nm fa1.nm fun u2 H5 e5 q2 => ?_⟩
    refine n_mul (q1.same e5) q2 d1.nm d2.nm fun u3 H6 e6 q3 => ?_
    have e16 := (e14.trans e5).trans e6
    refine ⟨_, rfl, _, rfl, n_sub (hx2.same e16) (hx1.same e16) fb1.nm fa1.nm fun u4 H7 e7 q4 => ?_⟩
    refine ⟨_, _, _, _, rfl, q3.same e7, q4, d4.1, d4.nm, d3.nm, h0, fun u5 H8 e8 q5 => ?_⟩
    replace q5 : ToldAt T.Exact_a H8 u5 (divR (mulR (subR b.2 a.2) (subR p a.1)) (subR b.1 a.1)) := q5
    rw [eD] at q5
    have e18 := (e16.trans e7).trans e8
    refine n_add (hy1.same e18) q5.num fa2.nm d5.nm fun u6 H9 e9 q6 => ?_
    replace q6 : NumAt T.Exact_a H9 u6 (addR a.2 (subR y a.2)) := q6
    rw [eY] at q6
    exact k _ H9 (e18.trans e9) q6
/-- between two drawn points the height is small -/
theorem between_ty {a b : Pt} {p : Int × Int} (ta : Ty a.1 ∧ Ty a.2) (tb : Ty b.1 ∧ Ty b.2) (tp : Ty p) (hlt : toQ a.1 < toQ b.1) : ∃ y, Sz 30 25 y ∧ OnL a b (toQ p) (toQ y) := by
  have d1 := zz_sub 9 tb.2 ta.2
  have d2 := zz_sub 9 tp ta.1
  have d3 := zz_sub 9 tb.1 ta.1
  have d4 := zz_mul d1 d2
  have h0 : (subR b.1 a.1).1 ≠ 0 := by
    intro z
    have q := toQ_sub tb.1.1 ta.1.1
    have : toQ (subR b.1 a.1) = 0 := by
      unfold toQ
      rw [z]
      exact Rat.zero_divInt _
    rw [this] at q
    grind
  have d5 := zz_div d4 d3 h0
  have d6 := zz_add 29 ta.2 d5
  refine ⟨_, d6, ?_⟩
  have r1 := toQ_add ta.2.1 d5.1
  have r2 := (toQ_div d4.1 d3.1 h0).1
  have r3 := toQ_mul d1.1 d2.1
  have r4 := toQ_sub tb.2.1 ta.2.1
  have r5 := toQ_sub tp.1 ta.1.1
  have r6 := toQ_sub tb.1.1 ta.1.1
  unfold OnL
  show (toQ (addR a.2 (divR (mulR (subR b.2 a.2) (subR p a.1)) (subR b.1 a.1))) - toQ a.2) * (toQ b.1 - toQ a.1) = _
  rw [r1]
  rw [r6] at r2
  rw [r3, r4, r5] at r2
  grind
end



/-! ### heights along moments; a line called; its points -/
/-- numbers of xs are worth ps -/
inductive NmAll (C : Addr) (H : Hp) : List V → List (Int × Int) → Prop
  | nil : NmAll C H [] []
  | cons {v : V} {p : Int × Int} {vs : List V} {ps : List (Int × Int)} (h : NumAt C H v p) (r : NmAll C H vs ps) : NmAll C H (v :: vs) (p :: ps)
theorem NmAll.mono {C : Addr} {H H' : Hp} (f : ∀ v p, NumAt C H v p → NumAt C H' v p) : ∀ {vs : List V} {ps : List (Int × Int)}, NmAll C H vs ps → NmAll C H' vs ps
  | _, _, .nil => .nil
  | _, _, .cons h r => .cons (f _ _ h) (r.mono f)
theorem NmAll.snoc {C : Addr} {H : Hp} {v : V} {p : Int × Int} (h : NumAt C H v p) : ∀ {vs : List V} {ps : List (Int × Int)}, NmAll C H vs ps → NmAll C H (vs ++ [v]) (ps ++ [p])
  | _, _, .nil => .cons h .nil
  | _, _, .cons a r => .cons a (r.snoc h)
theorem NmAll.len {C : Addr} {H : Hp} : ∀ {vs : List V} {ps : List (Int × Int)}, NmAll C H vs ps → vs.length = ps.length
  | _, _, .nil => rfl
  | _, _, .cons _ r => congrArg (· + 1) r.len
theorem NmAll.at {C : Addr} {H : Hp} : ∀ {vs : List V} {ps : List (Int × Int)} {i : Nat} {v : V}, NmAll C H vs ps → vs[i]? = some v → ∃ p, ps[i]? = some p ∧ NumAt C H v p
  | _, _, 0, _, .cons h _, e => ⟨_, rfl, (Option.some.inj e) ▸ h⟩
  | _, _, i + 1, _, .cons _ r, e => r.at (i := i) e
  | _, _, _, _, .nil, e => by simp at e
theorem NumAt.keepL {C : Addr} {H H' : Hp} {v : V} {p : Int × Int} {L : Addr} {ys : List V} (h : NumAt C H v p) (hL : H L = some (.lst ys)) (k : Keep L H H') : NumAt C H' v p := by
  rcases h with h | ⟨a, dx, e, z⟩
  · exact .inl h
  · exact .inr ⟨a, dx, e, k _ _ z (ne_of z hL fun q => by cases q)⟩
/-- heights hs at moments ps, along qs -/
def OnAll (qs : List Pt) (ps hs : List (Int × Int)) : Prop := ps.length = hs.length ∧ ∀ (i : Nat) (p h : Int × Int), ps[i]? = some p → hs[i]? = some h → Fine p ∧ Fine h ∧ On qs (toQ p) (toQ h)
theorem on_low {qs : List Pt} {q0 : Pt} {m y : Rat} (hu : Up qs) (h : qs[0]? = some q0) (o : On qs m y) : toQ q0.1 ≤ m := by
  cases qs with
  | nil => cases o
  | cons p l =>
    cases h
    exact on_ge hu o
theorem on_high {l : List Pt} {m y : Rat} (hu : Up l) (h : On l m y) : ∀ b, l.getLast? = some b → m ≤ toQ b.1 := by
  induction h with
  | @here p q l m y h1 h2 h =>
    intro b hb
    rw [List.getLast?_cons_cons] at hb
    have hu' := (List.pairwise_cons.mp hu).2
    cases l with
    | nil => cases hb; exact h2
    | cons w r =>
      have := (List.pairwise_cons.mp hu').1 b (by rw [List.getLast?_cons_cons] at hb; exact List.mem_of_getLast? hb)
      grind
  | @there p l m y h ih =>
    intro b hb
    cases l with
    | nil => cases h
    | cons w r =>
      rw [List.getLast?_cons_cons] at hb
      exact ih (List.pairwise_cons.mp hu).2 b hb
theorem onl_at {qs : List Pt} {i : Nat} {a b : Pt} {m y : Rat} (hu : Up qs) (h1 : qs[i]? = some a) (h2 : qs[i + 1]? = some b) (m1 : toQ a.1 ≤ m) (m2 : m ≤ toQ b.1) (o : On qs m y) : OnL a b m y := by
  have lt := up_at hu (Nat.lt_succ_self i) h1 h2
  have d : toQ b.1 - toQ a.1 ≠ 0 := by grind
  have e : OnL a b m (toQ a.2 + (toQ b.2 - toQ a.2) * (m - toQ a.1) / (toQ b.1 - toQ a.1)) := by
    unfold OnL
    rw [show toQ a.2 + (toQ b.2 - toQ a.2) * (m - toQ a.1) / (toQ b.1 - toQ a.1) - toQ a.2 = (toQ b.2 - toQ a.2) * (m - toQ a.1) / (toQ b.1 - toQ a.1) by grind]
    exact Rat.div_mul_cancel d
  rw [on_uniq hu o (on_at h1 h2 m1 m2 e)]
  exact e
section
variable {P : Program} {w : World} {K : PySem.W.Frag} {mg : Str → Option Value} {base : Heap}
def spHeights (C : Addr) : Sp := fun vs H Q _ => ∃ (S M : Addr) (xs ms : List V) (qs : List Pt) (ps hs : List (Int × Int)), vs = [.ref S, .ref M] ∧ H S = some (.lst xs) ∧ SpAll C H xs qs ∧ Up qs ∧ H M = some (.lst ms) ∧ NmAll C H ms ps ∧ qs.length ≤ 900 ∧ ps.length ≤ 900 ∧
  OnAll qs ps hs ∧ ps.Pairwise (fun p q => toQ p ≤ toQ q) ∧ 2 ≤ qs.length ∧
  ∀ L H' ys, H L = none → Same H H' → H' L = some (.lst ys) → NmAll C H' ys hs → Q (.ref L) H'
theorem ok_heights_at (T : Tx K mg) : FnOk P w K mg base CX0 14 T.heights_at_a T.heights_at_d ["spots", "moments"] (spHeights T.Exact_a) := by
  refine T.heights_at_F.ok sc_heights_at (fun vs H Q E h => ?_) (fun cdv A outer s H vs Q E hr h => ?_)
  · obtain ⟨S, M, xs, ms, qs, ps, hs, rfl, _⟩ := h
    rfl
  · obtain ⟨S, M, xs, ms, qs, ps, hs, rfl, hS, hqs, hu, hM, hps, h9, h9', hon, hso, h2, k⟩ := h
    refine ⟨_, (pss_cons (ps_set (i := 2) sc_heights_at.nd rfl (Or.inl rfl) (pe_lst pa_nil))
  (pss_cons (ps_set (i := 3) sc_heights_at.nd rfl (Or.inl rfl) pe_int)
  (pss_cons (ps_for PassesOwn.never rfl (pi_list (pv 1)) (pg_name (i := 4) sc_heights_at.nd rfl (Or.inl rfl))
  (pss_cons (ps_while PassesOwn.never (pt_cmpR (op_lt.or ((op_gyC (op := .Lt) (fun _ _ => rfl) T.Exact_lt_M.at_ T.Exact_lt_M.fn (ok_Exact_lt T) (hr.mono (by decide)) T.Exact_lt_b pass0).or (op_gyCR (op := .Lt) (fun _ _ => rfl) T.Exact_gt_M.at_ T.Exact_gt_M.fn (ok_Exact_gt T) (hr.mono (by decide)) T.Exact_gt_b pass0))) (pe_ix ix_tup (pe_ix ix_list (pv 0) (pv 3) (fun _ _ => rfl)) pe_int (fun _ _ => rfl)) (pv 4) (nomark _))
  (pss_one (ps_aug (i := 3) sc_heights_at.nd rfl (Or.inl rfl) pe_int ip_add)))
  (pss_one (ps_expr (pe_bm PySem.F.plainAttrs_list PySem.F.slot_list_append PySem.F.type_list_append mt_append (pv 2) (pa_cons (pe_call (ok_height_between T) (hr.mono (by decide)) rfl T.height_between_m T.height_between_F.kp T.height_between_b .nil pass0 (pa_cons (pe_ix ix_list (pv 0) (pe_op (op_sub) (pv 3) pe_int) (fun _ _ => rfl)) (pa_cons (pe_ix ix_list (pv 0) (pv 3) (fun _ _ => rfl)) (pa_cons (pv 4) pa_nil)))) pa_nil))))))
  (pss_one (ps_ret (pv 2)))))), ?_⟩
    refine ⟨(by show 0 ≤ sizeLine; decide), fun L nL => ?_⟩
    have e1 : Same H (upd H L (.lst [])) := same_upd nL
    have hL : (upd H L (.lst [])) L = some (.lst []) := upd_same
    generalize upd H L (.lst []) = H1 at e1 hL ⊢
    have hxl := hqs.len
    obtain ⟨q0, hq0⟩ : ∃ q0, qs[0]? = some q0 := ⟨_, List.getElem?_eq_getElem (by omega)⟩
    have hhd : qs.head? = some q0 := by rw [List.head?_eq_getElem?]; exact hq0
    refine ⟨_, rfl, M, rfl, ⟨ms, .inl (.inl (e1 _ _ hM))⟩, for_list (K := K) (a := M) (xs := ms) (fun i σ H' => (∃ (at_ : Nat) (v : Option V), σ = [some (.ref S), some (.ref M), some (.ref L), some (.int (at_ : Nat)), v] ∧ 1 ≤ at_ ∧ at_ < qs.length ∧ ∃ a, qs[at_ - 1]? = some a ∧ ∀ j p, i ≤ j → ps[j]? = some p → toQ a.1 ≤ toQ p) ∧
        Same H H' ∧ ∃ ys, H' L = some (.lst ys) ∧ NmAll T.Exact_a H' ys (hs.take i))
      ⟨⟨1, none, rfl, Nat.le_refl _, by omega, q0, hq0, fun j p _ hp => ?_⟩, e1, [], hL, by rw [List.take_zero]; exact .nil⟩ (fun i σ H' _ e => .inl (.inl (e.2.1 _ _ hM))) ?_ ?_⟩
    · obtain ⟨h, hh⟩ : ∃ h, hs[j]? = some h := ⟨_, List.getElem?_eq_getElem (by rw [← hon.1]; exact (List.getElem?_eq_some_iff.mp hp).1)⟩
      exact on_low hu hq0 (hon.2 j p h hp hh).2.2
    · rintro i m σ H2 hi ⟨⟨at0, v, rfl, a1, a2, qa, hqa, hrest⟩, e2, ys, eL, hys⟩
      obtain ⟨p, hp, hm0⟩ := hps.at hi
      obtain ⟨ht_, hht⟩ : ∃ h, hs[i]? = some h := ⟨_, List.getElem?_eq_getElem (by rw [← hon.1]; exact (List.getElem?_eq_some_iff.mp hp).1)⟩
      obtain ⟨fp, fh, oh⟩ := hon.2 i p ht_ hp hht
      obtain ⟨ql, hql⟩ : ∃ ql, qs.getLast? = some ql := ⟨_, List.getLast?_eq_some_getLast (fun z => by rw [z] at h2; exact absurd h2 (by decide))⟩
      have hle := on_high hu oh ql hql
      have hm2 := hm0.same e2
      have hql' : qs[qs.length - 1]? = some ql := by rw [← List.getLast?_eq_getElem?]; exact hql
      -- on to the next spot that is not ahead of the moment
      refine ⟨fun n σ H' => ∃ at_ : Nat, σ = [some (.ref S), some (.ref M), some (.ref L), some (.int (at_ : Nat)), some m] ∧ n = qs.length - at_ ∧ 1 ≤ at_ ∧ at_ < qs.length ∧ (∃ a, qs[at_ - 1]? = some a ∧ toQ a.1 ≤ toQ p) ∧ Same H2 H', ⟨_, at0, rfl, rfl, a1, a2, ⟨qa, hqa, hrest i p (Nat.le_refl _) hp⟩, Same.refl _⟩, ?_⟩
      rintro n σ H3 ⟨at_, rfl, rfl, b1, b2, ⟨qb, hqb, hb⟩, e3⟩
      obtain ⟨vq, hvq⟩ : ∃ vq, xs[at_]? = some vq := ⟨_, List.getElem?_eq_getElem (by rw [hxl]; exact b2)⟩
      obtain ⟨qc, hqc, hspc⟩ := hqs.at hvq
      have e23 := e2.trans e3
      have hspc3 := hspc.same e23
      obtain ⟨⟨t, x, y, rfl, ht, hx, hy⟩, fc1, fc2⟩ := id hspc3
      have hm3 := hm2.same e3
      refine ⟨_, rfl, _, rfl, S, xs, _, _, rfl, rfl, .inl (.inl (e23 _ _ hS)), atI_nat hvq, t, _, 0, x, rfl, rfl, .inl (.inl ht), rfl, _, rfl, n_lt (fun i => turns_lt T.Exact_dn_int) hx.num hm3 fc1.nm fp.nm fun H4 e4 => ⟨_, rfl, ?_⟩⟩
      have e24 := e23.trans e4
      cases hlt : bLt qc.1 p with
      | true =>
        refine iteT ?_
        have hlt' := (lt_toQ fc1.1 fp.1).mp hlt
        have b3 : at_ + 1 < qs.length := by
          rcases Nat.lt_or_ge (at_ + 1) qs.length with z | z
          · exact z
          · have : at_ = qs.length - 1 := by omega
            rw [this, hql'] at hqc
            cases hqc
            grind
        refine ⟨_, fun σ' H' z => z, ?_⟩
        refine ⟨_, rfl, _, _, rfl, rfl, ?_⟩
        exact ⟨qs.length - (at_ + 1), by omega, at_ + 1, rfl, rfl, by omega, b3, ⟨qc, by rw [Nat.add_sub_cancel]; exact hqc, by grind⟩, e3.trans e4⟩
      | false =>
        refine iteF ?_
        have hge : toQ p ≤ toQ qc.1 := by
          have : ¬ toQ qc.1 < toQ p := fun z => by rw [(lt_toQ fc1.1 fp.1).mpr z] at hlt; cases hlt
          grind
        obtain ⟨vb, hvb⟩ : ∃ vb, xs[at_ - 1]? = some vb := ⟨_, List.getElem?_eq_getElem (by rw [hxl]; omega)⟩
        obtain ⟨qb', hqb', hspb⟩ := hqs.at hvb
        rw [hqb] at hqb'
        cases hqb'
        have e34 := e3.trans e4
        have eL4 := e34 _ _ eL
        have e1' : ((at_ : Nat) : Int) - 1 = ((at_ - 1 : Nat) : Int) := by omega
        refine ⟨_, rfl, .inl ⟨rfl, ys, .inl (.inl eL4)⟩, _, rfl, _, rfl, _, _, rfl, rfl, S, xs, _, _, rfl, rfl, .inl (.inl (e24 _ _ hS)), (by rw [e1']; exact atI_nat hvb), _, rfl, _, rfl, S, xs, _, _, rfl, rfl, .inl (.inl (e24 _ _ hS)), atI_nat hvq, _, rfl, _, _, m, qb, qc, p, ht_, rfl, hspb.same e24, hspc3.same e4, hm3.same e4, fp, fh, ?_, ?_, fun u H5 e5 hu5 => ?_⟩
        · exact up_at hu (by omega : at_ - 1 < at_) hqb hqc
        · exact onl_at hu hqb (by rw [Nat.sub_add_cancel b1]; exact hqc) hb hge oh
        have eL5 := e5 _ _ eL4
        have e25 := e34.trans e5
        have kp : ∀ o, Keep L H5 (upd H5 L o) := fun o b o' e n => (upd_ne n).trans e
        refine ⟨L, ys, _, rfl, rfl, eL5, ?_, ?_⟩
        · rw [hys.len]
          exact small1000 (Nat.le_trans (List.length_take_le _ _) (by have := (List.getElem?_eq_some_iff.mp hp).1; omega))
        refine ⟨⟨at_, some m, rfl, b1, b2, qb, hqb, fun j q hj hq => ?_⟩, fun b o e => ?_, ys ++ [u], upd_same, ?_⟩
        · have := List.pairwise_iff_getElem.mp hso i j (List.getElem?_eq_some_iff.mp hp).1 (List.getElem?_eq_some_iff.mp hq).1 (by omega)
          rw [(List.getElem?_eq_some_iff.mp hp).2, (List.getElem?_eq_some_iff.mp hq).2] at this
          grind
        · rw [upd_ne (ne_of_none e nL)]
          exact e25 _ _ (e2 _ _ e)
        · rw [List.take_succ, hht]
          exact ((hys.mono fun v p z => z.same e25).mono fun v p z => z.keepL eL5 (kp _)).snoc (hu5.keepL eL5 (kp _))
    · rintro σ H2 ⟨⟨at_, v, rfl, _⟩, e2, ys, eL, hys⟩
      rw [hps.len, hon.1, List.take_length] at hys
      exact ⟨_, rfl, k L H2 ys nL e2 eL hys⟩
end



inductive PrAll (H : Hp) : List V → List (Int × Int) → Prop
  | nil : PrAll H [] []
  | cons {t : Addr} {p : Int × Int} {vs : List V} {ps : List (Int × Int)} (h : PairAt H t p) (r : PrAll H vs ps) : PrAll H (.ref t :: vs) (p :: ps)
theorem PrAll.mono {H H' : Hp} (f : ∀ t p, PairAt H t p → PairAt H' t p) : ∀ {vs : List V} {ps : List (Int × Int)}, PrAll H vs ps → PrAll H' vs ps
  | _, _, .nil => .nil
  | _, _, .cons h r => .cons (f _ _ h) (r.mono f)
theorem PrAll.len {H : Hp} : ∀ {vs : List V} {ps : List (Int × Int)}, PrAll H vs ps → vs.length = ps.length
  | _, _, .nil => rfl
  | _, _, .cons _ r => congrArg (· + 1) r.len
theorem PrAll.at {H : Hp} : ∀ {vs : List V} {ps : List (Int × Int)} {i : Nat} {v : V}, PrAll H vs ps → vs[i]? = some v → ∃ t p, v = .ref t ∧ ps[i]? = some p ∧ PairAt H t p
  | _, _, 0, _, .cons h _, e => ⟨_, _, (Option.some.inj e).symm, rfl, h⟩
  | _, _, i + 1, _, .cons _ r, e => r.at (i := i) e
  | _, _, _, _, .nil, e => by simp at e
theorem PrAll.app {H : Hp} : ∀ {vs us : List V} {ps qs : List (Int × Int)}, PrAll H vs ps → PrAll H us qs → PrAll H (vs ++ us) (ps ++ qs)
  | _, _, _, _, .nil, h => h
  | _, _, _, _, .cons a r, h => .cons a (r.app h)
theorem PrAll.take {H : Hp} : ∀ (k : Nat) {vs : List V} {ps : List (Int × Int)}, PrAll H vs ps → PrAll H (vs.take k) (ps.take k)
  | 0, _, _, _ => .nil
  | _ + 1, _, _, .nil => .nil
  | k + 1, _, _, .cons a r => .cons a (r.take k)
theorem PrAll.drop {H : Hp} : ∀ (k : Nat) {vs : List V} {ps : List (Int × Int)}, PrAll H vs ps → PrAll H (vs.drop k) (ps.drop k)
  | 0, _, _, h => h
  | _ + 1, _, _, .nil => .nil
  | k + 1, _, _, .cons _ r => r.drop k
theorem PairAt.keepL {H H' : Hp} {t : Addr} {p : Int × Int} {L : Addr} {ys : List V} (h : PairAt H t p) (hL : H L = some (.lst ys)) (k : Keep L H H') : PairAt H' t p := k _ _ h (ne_of h hL fun q => by cases q)

/-- a course: its moments and heights -/
inductive CrAll (H : Hp) : List V → List Pt → Prop
  | nil : CrAll H [] []
  | cons {u t h : Addr} {s : Pt} {vs : List V} {cs : List Pt} (e : H u = some (.tup [.ref t, .ref h])) (ht : PairAt H t s.1) (hh : PairAt H h s.2) (r : CrAll H vs cs) : CrAll H (.ref u :: vs) (s :: cs)
theorem CrAll.mono {H H' : Hp} (f : ∀ u t h p q, H u = some (.tup [.ref t, .ref h]) → PairAt H t p → PairAt H h q → H' u = some (.tup [.ref t, .ref h]) ∧ PairAt H' t p ∧ PairAt H' h q) : ∀ {vs : List V} {cs : List Pt}, CrAll H vs cs → CrAll H' vs cs
  | _, _, .nil => .nil
  | _, _, .cons e ht hh r => .cons (f _ _ _ _ _ e ht hh).1 (f _ _ _ _ _ e ht hh).2.1 (f _ _ _ _ _ e ht hh).2.2 (r.mono f)
theorem CrAll.same {H H' : Hp} (s : Same H H') {vs : List V} {cs : List Pt} (h : CrAll H vs cs) : CrAll H' vs cs := h.mono fun u t g p q e a b => ⟨s _ _ e, a.same s, b.same s⟩
theorem CrAll.keepL {H H' : Hp} {L : Addr} {ys : List V} (hL : H L = some (.lst ys)) (k : Keep L H H') {vs : List V} {cs : List Pt} (h : CrAll H vs cs) : CrAll H' vs cs := CrAll.mono (H := H) (H' := H') (fun u t g p q e a b => ⟨k u _ e (ne_of e hL fun z => by cases z), PairAt.keepL a hL k, PairAt.keepL b hL k⟩) h
theorem CrAll.app {H : Hp} : ∀ {vs us : List V} {ps qs : List Pt}, CrAll H vs ps → CrAll H us qs → CrAll H (vs ++ us) (ps ++ qs)
  | _, _, _, _, .nil, h => h
  | _, _, _, _, .cons e a b r, h => .cons e a b (r.app h)
theorem CrAll.len {H : Hp} : ∀ {vs : List V} {ps : List Pt}, CrAll H vs ps → vs.length = ps.length
  | _, _, .nil => rfl
  | _, _, .cons _ _ _ r => congrArg (· + 1) r.len
theorem CrAll.at {H : Hp} : ∀ {vs : List V} {ps : List Pt} {i : Nat} {v : V}, CrAll H vs ps → vs[i]? = some v → ∃ u t h s, v = .ref u ∧ ps[i]? = some s ∧ H u = some (.tup [.ref t, .ref h]) ∧ PairAt H t s.1 ∧ PairAt H h s.2
  | _, _, 0, _, .cons e a b _, z => ⟨_, _, _, _, (Option.some.inj z).symm, rfl, e, a, b⟩
  | _, _, i + 1, _, .cons _ _ _ r, z => r.at (i := i) z
  | _, _, _, _, .nil, z => by simp at z

theorem st_updL {H : Hp} {st c L : Addr} {ns : List Int} {o : HO} (h : StAt H st c ns) (n1 : st ≠ L) (n2 : c ≠ L) : StAt (upd H L o) st c ns := by
  obtain ⟨⟨x1, x2, x3, z⟩, wc, nc⟩ := h
  exact ⟨⟨x1, x2, x3, (upd_ne n1).trans z⟩, (upd_ne n2).trans wc, nc⟩
theorem st_lst {H : Hp} {st c : Addr} {ns : List Int} (h : StAt H st c ns) : ∃ xs, H st = some (.lst xs) := let ⟨_, _, _, z⟩ := h.1; ⟨_, z⟩

theorem fine_red {n d : Int} (hd : d ≠ 0) (h1 : n.natAbs < 2 ^ 240) (h2 : d.natAbs < 2 ^ 240) : Fine (red n d) := ⟨red_rd hd, red_sz hd h1 h2⟩



/-! ### the height of points at a moment; bends -/
theorem cut_pre {α : Type} {f : α → Bool} : ∀ (l : List α), l.Pairwise (fun a b => f b = true → f a = true) → ∀ (j : Nat) (x : α), l[j]? = some x → (f x = true ↔ j < (l.filter f).length)
  | [], _, j, x, h => by simp at h
  | a :: r, hp, j, x, h => by
    obtain ⟨h1, h2⟩ := List.pairwise_cons.mp hp
    cases hfa : f a with
    | true =>
      rw [List.filter_cons_of_pos hfa, List.length_cons]
      cases j with
      | zero =>
        cases h
        exact ⟨fun _ => Nat.succ_pos _, fun _ => hfa⟩
      | succ j =>
        have := cut_pre r h2 j x h
        rw [this]
        omega
    | false =>
      have hr : ∀ y ∈ r, f y = false := fun y hy => by
        cases e : f y with
        | false => rfl
        | true => rw [h1 y hy e] at hfa; cases hfa
      rw [List.filter_cons_of_neg (by rw [hfa]; exact Bool.false_ne_true), List.filter_eq_nil_iff.mpr fun y hy => by rw [hr y hy]; exact Bool.false_ne_true]
      have hx : f x = false := by
        cases j with
        | zero => cases h; exact hfa
        | succ j => exact hr x (List.mem_of_getElem? h)
      rw [hx]
      exact ⟨nofun, fun z => absurd z (Nat.not_lt_zero _)⟩
theorem fAdd_ng (a b : Int × Int) : fAdd a (-b.1, b.2) = fSub a b := by
  show (a.1 * b.2 + -b.1 * a.2, a.2 * b.2) = (a.1 * b.2 - b.1 * a.2, a.2 * b.2)
  rw [Int.neg_mul, Int.sub_eq_add_neg]
theorem sub_ne {a b : Int × Int} (ha : Rd a) (hb : Rd b) (h : toQ a ≠ toQ b) : (subR a b).1 ≠ 0 := fun z => h (by
  have := toQ_sub ha hb
  unfold toQ at this ⊢
  rw [z, Rat.zero_divInt] at this
  grind)
theorem cutV_mid (xs : List V) (h : 2 ≤ xs.length) : cutV xs (some 1) (some (-1)) = (xs.drop 1).take (xs.length - 2) := by
  unfold cutV
  have e1 : HT.sIx xs.length 0 (some (1 : Int)) = 1 := by
    have := HT.sIx_nat xs.length 0 1
    rw [show (((1 : Nat) : Int)) = (1 : Int) from rfl] at this
    omega
  have e2 : HT.sIx xs.length xs.length (some (-1 : Int)) = xs.length - 1 := by
    show (if (-1 : Int) < 0 then ((-1 : Int) + (xs.length : Int)).toNat else min (-1 : Int).toNat xs.length) = _
    rw [if_pos (by decide)]
    omega
  rw [e1, e2]
  congr 1
theorem CrAll.get {H : Hp} : ∀ {vs : List V} {ps : List Pt} {i : Nat} {s : Pt}, CrAll H vs ps → ps[i]? = some s → ∃ v, vs[i]? = some v ∧ ∃ u t h, v = .ref u ∧ H u = some (.tup [.ref t, .ref h]) ∧ PairAt H t s.1 ∧ PairAt H h s.2
  | _, _, 0, _, .cons e a b _, z => ⟨_, rfl, _, _, _, rfl, e, (Option.some.inj z) ▸ a, (Option.some.inj z) ▸ b⟩
  | _, _, i + 1, _, .cons _ _ _ r, z => r.get (i := i) z
  | _, _, _, _, .nil, z => by simp at z
/-- where a moment stands among the points: as many as are counted, no more than all but the ends -/
theorem on_place {cs : List Pt} {p : Int × Int} {a b : Pt} (hu : Up cs) (hf : ∀ s ∈ cs, Rd s.1) (hp : Rd p) (h2 : 2 ≤ cs.length) (ha : cs.head? = some a) (hle1 : toQ a.1 ≤ toQ p) (hb : cs.getLast? = some b) (hle2 : toQ p ≤ toQ b.1) :
    ∃ (_ : (List.filter (fun s => !bLt p s.1) ((cs.drop 1).take (cs.length - 2))).length ≤ cs.length - 2) (q1 q2 : Pt), cs[(List.filter (fun s => !bLt p s.1) ((cs.drop 1).take (cs.length - 2))).length]? = some q1 ∧
      cs[(List.filter (fun s => !bLt p s.1) ((cs.drop 1).take (cs.length - 2))).length + 1]? = some q2 ∧ toQ q1.1 ≤ toQ p ∧ toQ p ≤ toQ q2.1 := by
  have hl : (List.filter (fun s => !bLt p s.1) ((cs.drop 1).take (cs.length - 2))).length ≤ cs.length - 2 := by
    refine Nat.le_trans (List.length_filter_le _ _) ?_
    rw [List.length_take]
    omega
  have hui : Up ((cs.drop 1).take (cs.length - 2)) := (hu.sublist (List.drop_sublist _ _)).sublist (List.take_sublist _ _)
  have lt_iff : ∀ s ∈ cs, (!bLt p s.1) = true ↔ toQ s.1 ≤ toQ p := fun s hs => by
    have := lt_toQ hp (hf s hs)
    cases c : bLt p s.1 with
    | true =>
      have := this.mp c
      constructor
      · intro z; cases z
      · intro z; grind
    | false =>
      constructor
      · intro _
        have : ¬ toQ p < toQ s.1 := fun z => by rw [this.mpr z] at c; cases c
        grind
      · intro _; rfl
  have mem : ∀ s ∈ (cs.drop 1).take (cs.length - 2), s ∈ cs := fun s hs => List.mem_of_mem_drop (List.mem_of_mem_take hs)
  have pw : ((cs.drop 1).take (cs.length - 2)).Pairwise fun a b => (!bLt p b.1) = true → (!bLt p a.1) = true := by
    refine List.Pairwise.imp_of_mem ?_ hui
    intro x y hx hy h z
    rw [lt_iff y (mem y hy)] at z
    rw [lt_iff x (mem x hx)]
    grind
  have key := cut_pre ((cs.drop 1).take (cs.length - 2)) pw
  generalize (List.filter (fun s => !bLt p s.1) ((cs.drop 1).take (cs.length - 2))).length = kk at hl key ⊢
  have at_in : ∀ j, j < cs.length - 2 → ((cs.drop 1).take (cs.length - 2))[j]? = cs[j + 1]? := fun j hj => by
    rw [List.getElem?_take, if_pos hj, List.getElem?_drop, Nat.add_comm]
  obtain ⟨q1, hq1⟩ : ∃ q, cs[kk]? = some q := ⟨_, List.getElem?_eq_getElem (by omega)⟩
  obtain ⟨q2, hq2⟩ : ∃ q, cs[kk + 1]? = some q := ⟨_, List.getElem?_eq_getElem (by omega)⟩
  refine ⟨hl, q1, q2, hq1, hq2, ?_, ?_⟩
  · cases kk with
    | zero =>
      rw [List.head?_eq_getElem?, hq1] at ha
      cases ha
      exact hle1
    | succ j =>
      have := (key j q1 (by rw [at_in j (by omega)]; exact hq1)).mpr (Nat.lt_succ_self j)
      exact (lt_iff q1 (List.mem_of_getElem? hq1)).mp this
  · by_cases hk : kk = cs.length - 2
    · have : kk + 1 = cs.length - 1 := by omega
      rw [List.getLast?_eq_getElem?, ← this, hq2] at hb
      cases hb
      exact hle2
    · have : ¬ (!bLt p q2.1) = true := fun z => by
        have := (key kk q2 (by rw [at_in kk (by omega)]; exact hq2)).mp z
        omega
      rw [lt_iff q2 (List.mem_of_getElem? hq2)] at this
      grind
section
variable {P : Program} {w : World} {K : PySem.W.Frag} {mg : Str → Option Value} {base : Heap}
def spOn : Sp := fun vs H Q _ => ∃ (C t : Addr) (xs : List V) (cs : List Pt) (p : Int × Int), vs = [.ref C, .ref t] ∧ H C = some (.lst xs) ∧ CrAll H xs cs ∧ Up cs ∧ (∀ s ∈ cs, Ty s.1 ∧ Ty s.2) ∧ 2 ≤ cs.length ∧ cs.length ≤ 900 ∧ PairAt H t p ∧ Sz 180 170 p ∧
  (∃ a, cs.head? = some a ∧ toQ a.1 ≤ toQ p) ∧ (∃ b, cs.getLast? = some b ∧ toQ p ≤ toQ b.1) ∧ ∀ u H' y, Same H H' → PairAt H' u y → Sz 204 192 y → (Ty p → Sz 30 25 y) → On cs (toQ p) (toQ y) → Q (.ref u) H'
theorem ok_law_on (T : Tx K mg) : FnOk P w K mg base CX0 10 T.law_on_a T.law_on_d ["_law_course", "_law_t"] spOn := by
  refine T.law_on_F.ok sc_law_on (fun vs H Q E h => ?_) (fun cdv A outer s H vs Q E hr h => ?_)
  · obtain ⟨C, t, xs, cs, p, rfl, _⟩ := h
    rfl
  · obtain ⟨C, t, xs, cs, p, rfl, hC, hcs, hu, hf, h2, h9, ht, fp, ⟨a, ha, hle1⟩, ⟨b, hb, hle2⟩, k⟩ := h
    refine ⟨_, (pss_cons (ps_set (i := 2) sc_law_on.nd rfl (Or.inl rfl) (pe_callB (call_len_seq) (by rfl) T.z_len (by decide +kernel) (pa_cons (pe_lc (g := gName 4) (tt := (tNot (tB (tCall spLawLess [] E0 (tCons (tVar 1) (tCons (tOp (rIxT K) (tVar 4) (tC (.int 0))) tNil)))))) (own := [("_law_x", 4)]) rfl sc_law_on.nd (pi_list (pe_slice sl_list (pv 0) (po_some pe_int) (po_some (pe_un (un_neg) pe_int)))) (blkOk_by (own := [("_law_x", 4)]) (N := ["_law_course", "_law_t", "_law_k", "_law_a", "_law_x", "_law_b", "_law_y", "_law_one_here", "_law_whole", "_law_share"]) (sc := defScope s_law_on) (by decide +kernel))
   (fun _ _ _ _ _ => pg_name (i := 4) sc_law_on.nd rfl (Or.inl rfl)) (fun _ _ _ _ _ => (pts_one (pt_not (pt_val (pe_call (ok_law_less T) (hr.mono (by decide)) rfl T.law_less_m T.law_less_F.kp T.law_less_b .nil pass0 (pa_cons (pv 1) (pa_cons (pe_ix ix_tup (pv 4) pe_int (fun _ _ => rfl)) pa_nil))))))) (fun _ _ _ _ _ => (pv 4))) pa_nil)))
  (pss_cons (ps_asg (pe_tup (pa_cons (pe_ix ix_list (pv 0) (pv 2) (fun _ _ => rfl)) (pa_cons (pe_ix ix_list (pv 0) (pe_op (op_add) (pv 2) pe_int) (fun _ _ => rfl)) pa_nil))) (pg_tup (by rfl) (pgs_cons (pg_tup (by rfl) (pgs_cons (pg_name (i := 3) sc_law_on.nd rfl (Or.inl rfl)) (pgs_cons (pg_name (i := 4) sc_law_on.nd rfl (Or.inl rfl)) pgs_nil))) (pgs_cons (pg_tup (by rfl) (pgs_cons (pg_name (i := 5) sc_law_on.nd rfl (Or.inl rfl)) (pgs_cons (pg_name (i := 6) sc_law_on.nd rfl (Or.inl rfl)) pgs_nil))) pgs_nil))))
  (pss_cons (ps_par (i := 7) (j := 8) (by rfl) sc_law_on.nd rfl rfl (by decide) rfl rfl (pa_cons (pe_call (ok_law_add T) (hr.mono (by decide)) rfl T.law_add_m T.law_add_F.kp T.law_add_b .nil pass0 (pa_cons (pv 1) (pa_cons (pe_tup (pa_cons (pe_un (un_neg) (pe_ix ix_tup (pv 3) pe_int (fun _ _ => rfl))) (pa_cons (pe_ix ix_tup (pv 3) pe_int (fun _ _ => rfl)) pa_nil))) pa_nil))) (pa_cons (pe_call (ok_law_add T) (hr.mono (by decide)) rfl T.law_add_m T.law_add_F.kp T.law_add_b .nil pass0 (pa_cons (pv 5) (pa_cons (pe_tup (pa_cons (pe_un (un_neg) (pe_ix ix_tup (pv 3) pe_int (fun _ _ => rfl))) (pa_cons (pe_ix ix_tup (pv 3) pe_int (fun _ _ => rfl)) pa_nil))) pa_nil))) pa_nil)) (by rfl))
  (pss_cons (ps_set (i := 9) sc_law_on.nd rfl (Or.inl rfl) (pe_call (ok_law_frac T) (hr.mono (by decide)) rfl T.law_frac_m T.law_frac_F.kp T.law_frac_b .nil pass0 (pa_cons (pe_op (op_mulG) (pe_ix ix_tup (pv 7) pe_int (fun _ _ => rfl)) (pe_ix ix_tup (pv 8) pe_int (fun _ _ => rfl))) (pa_cons (pe_op (op_mulG) (pe_ix ix_tup (pv 7) pe_int (fun _ _ => rfl)) (pe_ix ix_tup (pv 8) pe_int (fun _ _ => rfl))) pa_nil))))
  (pss_one (ps_ret (pe_call (ok_law_add T) (hr.mono (by decide)) rfl T.law_add_m T.law_add_F.kp T.law_add_b .nil pass0 (pa_cons (pv 4) (pa_cons (pe_call (ok_law_mul T) (hr.mono (by decide)) rfl T.law_mul_m T.law_mul_F.kp T.law_mul_b .nil pass0 (pa_cons (pv 9) (pa_cons (pe_call (ok_law_add T) (hr.mono (by decide)) rfl T.law_add_m T.law_add_F.kp T.law_add_b .nil pass0 (pa_cons (pv 6) (pa_cons (pe_tup (pa_cons (pe_un (un_neg) (pe_ix ix_tup (pv 4) pe_int (fun _ _ => rfl))) (pa_cons (pe_ix ix_tup (pv 4) pe_int (fun _ _ => rfl)) pa_nil))) pa_nil))) pa_nil))) pa_nil))))))))), ?_⟩
    have hxl := hcs.len
    refine ⟨_, rfl, _, rfl, _, rfl, _, rfl, C, xs, rfl, .inl (.inl hC), fun A1 nA1 => ?_⟩
    rw [cutV_mid xs (by omega)]
    have e1 : Same H (upd H A1 (.lst ((xs.drop 1).take (xs.length - 2)))) := same_upd nA1
    have hA1 : (upd H A1 (.lst ((xs.drop 1).take (xs.length - 2)))) A1 = some (.lst ((xs.drop 1).take (xs.length - 2))) := upd_same
    generalize upd H A1 (.lst ((xs.drop 1).take (xs.length - 2))) = H1 at e1 hA1 ⊢
    refine ⟨A1, rfl, ⟨_, .inl (.inl hA1)⟩, fun D nD => ?_⟩
    have inn : ∀ {j : Nat} {v : V}, ((xs.drop 1).take (xs.length - 2))[j]? = some v → j < cs.length - 2 ∧ xs[j + 1]? = some v := fun {j v} h => by
      rw [List.getElem?_take] at h
      split at h
      · rw [List.getElem?_drop, Nat.add_comm] at h
        exact ⟨by omega, h⟩
      · cases h
    refine lc_it (walk_list (K := K) (a := A1) (xs := (xs.drop 1).take (xs.length - 2))) (fun j H3 => Same H1 H3 ∧ ∃ zs, H3 D = some (.lst zs) ∧ zs.length = ((((cs.drop 1).take (cs.length - 2)).take j).filter fun s => !bLt p s.1).length) ⟨same_upd nD, [], upd_same, by rw [List.take_zero]; rfl⟩ (fun j H3 _ e => .inl (.inl (e.1 _ _ hA1))) ?_ ?_
    · rintro j z H3 H4 hj ⟨e3, zs, eD, hz⟩ ⟨rfl, hzj⟩
      obtain ⟨jl, hx1⟩ := inn hzj
      obtain ⟨u, tu, hu', s, rfl, hs, eu, hut, _⟩ := hcs.at hx1
      have e03 := e1.trans e3
      obtain ⟨fs, _⟩ := hf s (List.mem_of_getElem? hs)
      refine ⟨rfl, _, rfl, _, rfl, u, _, 0, _, rfl, rfl, .inl (.inl (e03 _ _ eu)), rfl, t, tu, p, s.1, rfl, ht.same e03, hut.same e03, fp.nm.2.1, fp.nm.2.2, fs.nm.2.1, fs.nm.2.2, _, rfl, ?_⟩
      have hsj : ((cs.drop 1).take (cs.length - 2))[j]? = some s := by
        rw [List.getElem?_take, if_pos jl, List.getElem?_drop, Nat.add_comm]
        exact hs
      have et : ((cs.drop 1).take (cs.length - 2)).take (j + 1) = ((cs.drop 1).take (cs.length - 2)).take j ++ [s] := by rw [List.take_succ, hsj]; rfl
      cases hb' : bLt p s.1 with
      | false =>
        refine iteT ?_
        refine ⟨_, rfl, zs, eD, ?_, fun c o e => ?_, zs ++ [.ref u], upd_same, ?_⟩
        · rw [hz]
          refine small1000 (Nat.le_trans (List.length_filter_le _ _) ?_)
          rw [List.length_take]
          omega
        · rw [upd_ne (ne_of_none e nD)]
          exact e3 _ _ e
        · rw [et, List.filter_append, List.length_append, List.length_append, hz]
          simp [hb']
      | true =>
        refine iteF ?_
        refine ⟨e3, zs, eD, ?_⟩
        rw [et, List.filter_append, List.length_append, hz]
        simp [hb']
    · rintro H3 ⟨e3, zs, eD, hz⟩
      have hlx : ((xs.drop 1).take (xs.length - 2)).length = ((cs.drop 1).take (cs.length - 2)).length := by
        rw [List.length_take, List.length_take, List.length_drop, List.length_drop, hxl]
      rw [hlx, List.take_length] at hz
      have e03 := e1.trans e3
      refine ⟨D, zs, rfl, .inl (.inl (.inl eD)), ?_⟩
      rw [hz]
      obtain ⟨l1, q1, q2, g1, g2, g3, g4⟩ := on_place hu (fun s hs => (hf s hs).1.1) fp.1 h2 ha hle1 hb hle2
      generalize (List.filter (fun s => !bLt p s.1) ((cs.drop 1).take (cs.length - 2))).length = kk at l1 g1 g2 ⊢
      obtain ⟨v1, hv1, u1, t1, y1, rfl, eu1, ht1, hy1⟩ := hcs.get g1
      obtain ⟨v2, hv2, u2, t2, y2, rfl, eu2, ht2, hy2⟩ := hcs.get g2
      have hC3 := e03 _ _ hC
      refine ⟨_, rfl, _, rfl, C, xs, _, _, rfl, rfl, .inl (.inl hC3), atI_nat hv1, _, rfl, _, rfl, _, _, rfl, rfl, C, xs, _, _, rfl, rfl, .inl (.inl hC3), atI_nat (j := kk + 1) hv2, (by show 2 ≤ sizeLine; decide), fun tt nt => ?_⟩
      have e4 : Same H3 (upd H3 tt (.tup [.ref u1, .ref u2])) := same_upd nt
      have htt : (upd H3 tt (.tup [.ref u1, .ref u2])) tt = some (.tup [.ref u1, .ref u2]) := upd_same
      generalize upd H3 tt (.tup [.ref u1, .ref u2]) = H4 at e4 htt ⊢
      refine ⟨tt, _, rfl, .inl (.inl htt), rfl, _, _, rfl, ?_⟩
      have eu1 := e4 _ _ (e03 _ _ eu1)
      have eu2 := e4 _ _ (e03 _ _ eu2)
      refine ⟨u1, _, rfl, .inl (.inl eu1), rfl, _, _, rfl, _, _, rfl, rfl, _, _, rfl, ⟨u2, _, rfl, .inl (.inl eu2), rfl, _, _, rfl, _, _, rfl, rfl, rfl, ?_⟩⟩
      have e04 := e03.trans e4
      have ht4 := ht.same e04
      have hta := ht1.same e04
      have hxa := hy1.same e04
      have htb := ht2.same e04
      have hyb := hy2.same e04
      clear ht1 hy1 ht2 hy2
      obtain ⟨f1, f2⟩ := hf q1 (List.mem_of_getElem? g1)
      obtain ⟨f3, f4⟩ := hf q2 (List.mem_of_getElem? g2)
      have pos : ∀ {x y : Int × Int}, Rd x → Rd y → x.2 * y.2 ≠ 0 := fun hx hy => Int.ne_of_gt (Int.mul_pos hx.1 hy.1)
      -- since the first point
      refine ⟨_, rfl, _, rfl, t1, _, _, _, rfl, rfl, .inl (.inl hta), rfl, _, rfl, _, rfl, t1, _, _, _, rfl, rfl, .inl (.inl hta), rfl, (by show 2 ≤ sizeLine; decide), fun n1 nn1 => ?_⟩
      have e5 : Same H4 (upd H4 n1 (.tup [.int (-q1.1.1), .int q1.1.2])) := same_upd nn1
      have hn1 : (upd H4 n1 (.tup [.int (-q1.1.1), .int q1.1.2])) n1 = some (.tup [.int (-q1.1.1), .int q1.1.2]) := upd_same
      generalize upd H4 n1 (.tup [.int (-q1.1.1), .int q1.1.2]) = H5 at e5 hn1 ⊢
      refine ⟨t, n1, p, (-q1.1.1, q1.1.2), rfl, ht4.same e5, hn1, fp.nm.2.1, fp.nm.2.2, by rw [Int.natAbs_neg]; exact f1.nm.2.1, f1.nm.2.2, (by show p.2 * q1.1.2 ≠ 0; exact pos fp.1 f1.1), fun o1 H6 e6 ho1 => ?_⟩
      rw [fAdd_ng] at ho1
      have e46 := e5.trans e6
      have hta6 := hta.same e46
      refine ⟨_, rfl, _, rfl, t1, _, _, _, rfl, rfl, .inl (.inl hta6), rfl, _, rfl, _, rfl, t1, _, _, _, rfl, rfl, .inl (.inl hta6), rfl, (by show 2 ≤ sizeLine; decide), fun n2 nn2 => ?_⟩
      have e7 : Same H6 (upd H6 n2 (.tup [.int (-q1.1.1), .int q1.1.2])) := same_upd nn2
      have hn2 : (upd H6 n2 (.tup [.int (-q1.1.1), .int q1.1.2])) n2 = some (.tup [.int (-q1.1.1), .int q1.1.2]) := upd_same
      generalize upd H6 n2 (.tup [.int (-q1.1.1), .int q1.1.2]) = H7 at e7 hn2 ⊢
      refine ⟨t2, n2, q2.1, (-q1.1.1, q1.1.2), rfl, (htb.same e46).same e7, hn2, f3.nm.2.1, f3.nm.2.2, by rw [Int.natAbs_neg]; exact f1.nm.2.1, f1.nm.2.2, (by show q2.1.2 * q1.1.2 ≠ 0; exact pos f3.1 f1.1), fun o2 H8 e8 ho2 => ?_⟩
      rw [fAdd_ng] at ho2
      have e68 := e7.trans e8
      have ho1 := ho1.same e68
      have z1 : Sz 184 173 (subR p q1.1) := zz_sub 183 fp f1
      have z2 : Sz 10 6 (subR q2.1 q1.1) := zz_sub 9 f3 f1
      have hlt : toQ q1.1 < toQ q2.1 := up_at hu (Nat.lt_succ_self kk) g1 g2
      have w0 : (subR q2.1 q1.1).1 ≠ 0 := sub_ne f3.1 f1.1 (by grind)
      have m1 := z1.nm
      have m2 := z2.nm
      refine ⟨_, _, rfl, _, rfl, o1, _, _, _, rfl, rfl, .inl (.inl ho1), rfl, _, rfl, o2, _, _, _, rfl, rfl, .inl (.inl ho2), rfl, _, _, rfl, rfl, ok1000 m1.2.1 m2.2.2, _, rfl, o1, _, _, _, rfl, rfl, .inl (.inl ho1), rfl, _, rfl, o2, _, _, _, rfl, rfl, .inl (.inl ho2), rfl, _, _, rfl, rfl, ok1000 m1.2.2 m2.2.1, ?_⟩
      refine ⟨_, _, rfl, Int.mul_ne_zero (Int.ne_of_gt m1.1) w0, sz_up (sz_mul m1.2.2 m2.2.1) (by decide), fun o3 H9 e9 ho3 => ?_⟩
      have z3 : Sz 190 183 (divR (subR p q1.1) (subR q2.1 q1.1)) := zz_div z1 z2 w0
      have m3 := z3.nm
      have e49 := (e46.trans e68).trans e9
      have hxa9 := hxa.same e49
      -- how far up
      refine ⟨_, rfl, _, rfl, _, rfl, _, rfl, y1, _, _, _, rfl, rfl, .inl (.inl hxa9), rfl, _, rfl, _, rfl, y1, _, _, _, rfl, rfl, .inl (.inl hxa9), rfl, (by show 2 ≤ sizeLine; decide), fun n3 nn3 => ?_⟩
      have e10 : Same H9 (upd H9 n3 (.tup [.int (-q1.2.1), .int q1.2.2])) := same_upd nn3
      have hn3 : (upd H9 n3 (.tup [.int (-q1.2.1), .int q1.2.2])) n3 = some (.tup [.int (-q1.2.1), .int q1.2.2]) := upd_same
      generalize upd H9 n3 (.tup [.int (-q1.2.1), .int q1.2.2]) = H10 at e10 hn3 ⊢
      refine ⟨y2, n3, q2.2, (-q1.2.1, q1.2.2), rfl, (hyb.same e49).same e10, hn3, f4.nm.2.1, f4.nm.2.2, by rw [Int.natAbs_neg]; exact f2.nm.2.1, f2.nm.2.2, (by show q2.2.2 * q1.2.2 ≠ 0; exact pos f4.1 f2.1), fun o4 H11 e11 ho4 => ?_⟩
      rw [fAdd_ng] at ho4
      have z4 : Sz 10 6 (subR q2.2 q1.2) := zz_sub 9 f4 f2
      have m4 := z4.nm
      have e911 := e10.trans e11
      refine ⟨o3, o4, _, _, rfl, ho3.same e911, ho4, m3.2.1, m3.2.2, m4.2.1, m4.2.2, pos z3.1 z4.1, fun o5 H12 e12 ho5 => ?_⟩
      have z5 : Sz 200 189 (mulR (divR (subR p q1.1) (subR q2.1 q1.1)) (subR q2.2 q1.2)) := zz_mul z3 z4
      have m5 := z5.nm
      have e912 := e911.trans e12
      refine ⟨y1, o5, _, _, rfl, hxa9.same e912, ho5, f2.nm.2.1, f2.nm.2.2, m5.2.1, m5.2.2, pos f2.1 z5.1, fun o6 H13 e13 ho6 => ?_⟩
      have z6 : Sz 204 192 (addR q1.2 (mulR (divR (subR p q1.1) (subR q2.1 q1.1)) (subR q2.2 q1.2))) := zz_add 203 f2 z5
      refine k o6 H13 (addR q1.2 (mulR (divR (subR p q1.1) (subR q2.1 q1.1)) (subR q2.2 q1.2))) (((e04.trans e49).trans e912).trans e13) ho6 z6 (fun tp => zz_add 29 f2 (zz_mul (zz_div (zz_sub 9 tp f1) z2 w0) z4)) (on_at (i := kk) g1 g2 g3 g4 ?_)
      show (toQ (addR q1.2 (mulR (divR (subR p q1.1) (subR q2.1 q1.1)) (subR q2.2 q1.2))) - toQ q1.2) * (toQ q2.1 - toQ q1.1) = (toQ q2.2 - toQ q1.2) * (toQ p - toQ q1.1)
      have d1 := toQ_div z1.1 z2.1 w0
      rw [toQ_add f2.1 z5.1, toQ_mul z3.1 z4.1, toQ_sub f4.1 f2.1]
      have d2 := d1.1
      rw [toQ_sub fp.1 f1.1, toQ_sub f3.1 f1.1] at d2
      generalize toQ (divR (subR p q1.1) (subR q2.1 q1.1)) = sh at d2 ⊢
      grind
end



theorem on_bentF {cs : List Pt} {m y : Rat} (h2 : 2 ≤ cs.length) (hf : FineAll cs) (hu : Up cs) (h : On (bentF cs) m y) : On cs m y := by
  match cs, h2 with
  | p :: q :: r, _ =>
    rw [bentF_rec (List.cons_ne_nil _ _)] at h
    exact bent_on (q :: r) hf hu h
/-! ### lists with the same course: bent, they are the same -/
theorem on_up {l : List Pt} {m y : Rat} (hu : Up l) (h : On l m y) : ∀ b, l.getLast? = some b → m ≤ toQ b.1 := by
  induction l with
  | nil => cases h
  | cons p l ih =>
    intro b hb
    obtain ⟨u1, u2⟩ := List.pairwise_cons.mp hu
    cases l with
    | nil => cases h with | there h => cases h
    | cons q r =>
      rw [List.getLast?_cons_cons] at hb
      have hqb : toQ q.1 ≤ toQ b.1 := by
        have hm : b ∈ q :: r := List.mem_of_getLast? hb
        rcases List.mem_cons.mp hm with z | z
        · rw [z]; exact Rat.le_refl
        · have := (List.pairwise_cons.mp u2).1 b z
          grind
      cases h with
      | here h1 h2 h3 => grind
      | there h => exact ih u2 h b hb
theorem on_ex : ∀ {l : List Pt} {p : Pt} {m : Rat}, Up (p :: l) → l ≠ [] → toQ p.1 ≤ m → (∀ b, (p :: l).getLast? = some b → m ≤ toQ b.1) → ∃ y, On (p :: l) m y
  | [], _, _, _, h, _, _ => absurd rfl h
  | q :: r, p, m, hu, _, h1, h2 => by
    obtain ⟨u1, u2⟩ := List.pairwise_cons.mp hu
    have hpq := u1 q List.mem_cons_self
    by_cases c : m ≤ toQ q.1
    · refine ⟨toQ p.2 + (toQ q.2 - toQ p.2) * (m - toQ p.1) / (toQ q.1 - toQ p.1), .here h1 c ?_⟩
      unfold OnL
      have h0 : toQ q.1 - toQ p.1 ≠ 0 := by grind
      rw [show toQ p.2 + (toQ q.2 - toQ p.2) * (m - toQ p.1) / (toQ q.1 - toQ p.1) - toQ p.2 = (toQ q.2 - toQ p.2) * (m - toQ p.1) / (toQ q.1 - toQ p.1) by grind]
      exact Rat.div_mul_cancel h0
    · cases r with
      | nil =>
        have := h2 q rfl
        exact absurd this c
      | cons s r =>
        obtain ⟨y, hy⟩ := on_ex (p := q) (l := s :: r) u2 (List.cons_ne_nil _ _) (by grind) (fun b hb => h2 b (by rw [List.getLast?_cons_cons]; exact hb))
        exact ⟨y, .there hy⟩
/-- l is the graph of f, from a to b -/
def Gr (l : List Pt) (f : Rat → Rat) (a b : Rat) : Prop := ∀ m, a ≤ m → m ≤ b → On l m (f m)
/-- ends of a list of points -/
structure Ends (l : List Pt) (a b : Rat) : Prop where
  up : Up l
  fa : FineAll l
  two : 2 ≤ l.length
  hd : ∃ p, l.head? = some p ∧ toQ p.1 = a
  ls : ∃ p, l.getLast? = some p ∧ toQ p.1 = b
theorem Ends.lt {l : List Pt} {a b : Rat} (h : Ends l a b) : a < b := by
  obtain ⟨p, h1, rfl⟩ := h.hd
  obtain ⟨q, h2, rfl⟩ := h.ls
  match l, h.two, h1, h2, h.up with
  | x :: y :: r, _, h1, h2, hu =>
    cases h1
    rw [List.getLast?_cons_cons] at h2
    exact (List.pairwise_cons.mp hu).1 q (List.mem_of_getLast? h2)
theorem Ends.ex {l : List Pt} {a b m : Rat} (h : Ends l a b) (h1 : a ≤ m) (h2 : m ≤ b) : ∃ y, On l m y := by
  obtain ⟨p, hp, rfl⟩ := h.hd
  obtain ⟨q, hq, rfl⟩ := h.ls
  match l, h.two, hp, hq, h.up with
  | x :: y :: r, _, hp, hq, hu =>
    cases hp
    exact on_ex hu (List.cons_ne_nil _ _) h1 fun b hb => by rw [hq] at hb; cases hb; exact h2
theorem Ends.gr {l : List Pt} {a b : Rat} (h : Ends l a b) : ∃ f, Gr l f a b := by
  refine ⟨fun m => open Classical in if c : a ≤ m ∧ m ≤ b then (h.ex c.1 c.2).choose else 0, fun m h1 h2 => ?_⟩
  dsimp only
  rw [dif_pos ⟨h1, h2⟩]
  exact (h.ex h1 h2).choose_spec
theorem Ends.uniq {l : List Pt} {a b : Rat} (h : Ends l a b) {f : Rat → Rat} (g : Gr l f a b) {m y : Rat} (o : On l m y) : a ≤ m ∧ m ≤ b ∧ y = f m := by
  obtain ⟨p, hp, rfl⟩ := h.hd
  obtain ⟨q, hq, rfl⟩ := h.ls
  have h2 := on_up h.up o q hq
  have h1 : toQ p.1 ≤ m := by
    match l, h.two, hp, o, h.up with
    | x :: y :: r, _, hp, o, hu =>
      cases hp
      exact on_ge hu o
  exact ⟨h1, h2, on_uniq h.up o (g m h1 h2)⟩
theorem Ends.bent {l : List Pt} {a b : Rat} (h : Ends l a b) : Ends (bentF l) a b := by
  obtain ⟨_, b2, bm, bu, _⟩ := bentF_two h.two h.fa h.up
  obtain ⟨_, bh, bl⟩ := bent_ends (ps := l) (fun z => by have := h.two; rw [z] at this; exact absurd this (by decide))
  exact ⟨bu, fun s hs => h.fa s (bm s hs), b2, by rw [bh]; exact h.hd, by rw [bl]; exact h.ls⟩
theorem Ends.gr_bent {l : List Pt} {a b : Rat} (h : Ends l a b) {f : Rat → Rat} (g : Gr l f a b) : Gr (bentF l) f a b := fun m h1 h2 => by
  obtain ⟨y, hy⟩ := h.bent.ex h1 h2
  have := (h.uniq g (on_bentF h.two h.fa h.up hy)).2.2
  rw [← this]
  exact hy
theorem nos_uniq : ∀ (l1 l2 : List Pt) (p : Pt), FineAll (p :: l1) → FineAll (p :: l2) → Up (p :: l1) → Up (p :: l2) → NoS (p :: l1) → NoS (p :: l2) →
    (∀ x y, (p :: l1).getLast? = some x → (p :: l2).getLast? = some y → toQ x.1 = toQ y.1) → (∀ m y1 y2, On (p :: l1) m y1 → On (p :: l2) m y2 → y1 = y2) → l1 = l2
  | [], [], _, _, _, _, _, _, _, _, _ => rfl
  | [], q :: r, p, _, _, _, hu, _, _, he, _ => by
    exfalso
    have hm : (q :: r).getLast (List.cons_ne_nil _ _) ∈ q :: r := List.getLast_mem _
    have := he p ((q :: r).getLast (List.cons_ne_nil _ _)) rfl (by rw [List.getLast?_cons_cons, List.getLast?_eq_some_getLast (List.cons_ne_nil _ _)])
    have := (List.pairwise_cons.mp hu).1 _ hm
    grind
  | q :: r, [], p, _, _, hu, _, _, _, he, _ => by
    exfalso
    have hm : (q :: r).getLast (List.cons_ne_nil _ _) ∈ q :: r := List.getLast_mem _
    have := he ((q :: r).getLast (List.cons_ne_nil _ _)) p (by rw [List.getLast?_cons_cons, List.getLast?_eq_some_getLast (List.cons_ne_nil _ _)]) rfl
    have := (List.pairwise_cons.mp hu).1 _ hm
    grind
  | q1 :: r1, q2 :: r2, p, f1, f2, u1, u2, n1, n2, he, ho => by
    have fp := f1 p List.mem_cons_self
    -- the next points stand at one moment
    have step : ∀ {q1 q2 : Pt} {r1 r2 : List Pt}, FineAll (p :: q1 :: r1) → Up (p :: q1 :: r1) → Up (p :: q2 :: r2) → NoS (p :: q1 :: r1) → (∀ x y, (p :: q1 :: r1).getLast? = some x → (p :: q2 :: r2).getLast? = some y → toQ x.1 = toQ y.1) → (∀ m y1 y2, On (p :: q1 :: r1) m y1 → On (p :: q2 :: r2) m y2 → y1 = y2) → ¬ toQ q1.1 < toQ q2.1 := by
      intro q1 q2 r1 r2 f1 u1 u2 n1 he ho hlt
      have hp1 := (List.pairwise_cons.mp u1).1 q1 List.mem_cons_self
      have hp2 := (List.pairwise_cons.mp u2).1 q2 List.mem_cons_self
      cases r1 with
      | nil =>
        obtain ⟨y, hy⟩ : ∃ y, (q2 :: r2).getLast? = some y := ⟨_, List.getLast?_eq_some_getLast (List.cons_ne_nil _ _)⟩
        have e := he q1 y rfl (by rw [List.getLast?_cons_cons]; exact hy)
        have hm : y ∈ q2 :: r2 := List.mem_of_getLast? hy
        rcases List.mem_cons.mp hm with z | z
        · rw [z] at e; grind
        · have := (List.pairwise_cons.mp (List.pairwise_cons.mp u2).2).1 y z
          grind
      | cons s r1 =>
        have hqs := (List.pairwise_cons.mp (List.pairwise_cons.mp u1).2).1 s List.mem_cons_self
        have fq := f1 q1 (List.mem_cons_of_mem _ List.mem_cons_self)
        have fs := f1 s (List.mem_cons_of_mem _ (List.mem_cons_of_mem _ List.mem_cons_self))
        have fp := f1 p List.mem_cons_self
        have ns : straight p q1 s = false := by cases n1; assumption
        -- at q1
        have d2 : toQ q2.1 - toQ p.1 ≠ 0 := by grind
        have at2 : ∀ m, toQ p.1 ≤ m → m ≤ toQ q2.1 → On (p :: q2 :: r2) m (toQ p.2 + (toQ q2.2 - toQ p.2) * (m - toQ p.1) / (toQ q2.1 - toQ p.1)) := fun m h1 h2 => .here h1 h2 (by
          unfold OnL
          rw [show toQ p.2 + (toQ q2.2 - toQ p.2) * (m - toQ p.1) / (toQ q2.1 - toQ p.1) - toQ p.2 = (toQ q2.2 - toQ p.2) * (m - toQ p.1) / (toQ q2.1 - toQ p.1) by grind]
          exact Rat.div_mul_cancel d2)
        have k1 := ho (toQ q1.1) (toQ q1.2) _ (.here (by grind) (by grind) (by unfold OnL; rfl)) (at2 _ (by grind) (by grind))
        have dq : toQ s.1 - toQ q1.1 ≠ 0 := by grind
        have at1 : ∀ m, toQ q1.1 ≤ m → m ≤ toQ s.1 → On (p :: q1 :: s :: r1) m (toQ q1.2 + (toQ s.2 - toQ q1.2) * (m - toQ q1.1) / (toQ s.1 - toQ q1.1)) := fun m h1 h2 => .there (.here h1 h2 (by
          unfold OnL
          rw [show toQ q1.2 + (toQ s.2 - toQ q1.2) * (m - toQ q1.1) / (toQ s.1 - toQ q1.1) - toQ q1.2 = (toQ s.2 - toQ q1.2) * (m - toQ q1.1) / (toQ s.1 - toQ q1.1) by grind]
          exact Rat.div_mul_cancel dq))
        obtain ⟨m, m1, m2, m3⟩ : ∃ m, toQ q1.1 < m ∧ m ≤ toQ s.1 ∧ m ≤ toQ q2.1 := by
          by_cases c : toQ s.1 ≤ toQ q2.1
          · exact ⟨toQ s.1, hqs, by grind, c⟩
          · exact ⟨toQ q2.1, hlt, by grind, by grind⟩
        have k2 := ho m _ _ (at1 m (by grind) m2) (at2 m (by grind) m3)
        have : straight p q1 s = true := by
          rw [straight_Q fp fq fs]
          -- A = slope of p..q2, B = slope of q1..s
          have eA : (toQ q2.2 - toQ p.2) * (m - toQ p.1) / (toQ q2.1 - toQ p.1) = (toQ q2.2 - toQ p.2) / (toQ q2.1 - toQ p.1) * (m - toQ p.1) := by rw [Rat.div_def, Rat.div_def]; grind
          have eA1 : (toQ q2.2 - toQ p.2) * (toQ q1.1 - toQ p.1) / (toQ q2.1 - toQ p.1) = (toQ q2.2 - toQ p.2) / (toQ q2.1 - toQ p.1) * (toQ q1.1 - toQ p.1) := by rw [Rat.div_def, Rat.div_def]; grind
          have eB : (toQ s.2 - toQ q1.2) * (m - toQ q1.1) / (toQ s.1 - toQ q1.1) = (toQ s.2 - toQ q1.2) / (toQ s.1 - toQ q1.1) * (m - toQ q1.1) := by rw [Rat.div_def, Rat.div_def]; grind
          have eS : (toQ s.2 - toQ q1.2) / (toQ s.1 - toQ q1.1) * (toQ s.1 - toQ q1.1) = toQ s.2 - toQ q1.2 := Rat.div_mul_cancel dq
          rw [eA1] at k1
          rw [eA, eB] at k2
          generalize (toQ q2.2 - toQ p.2) / (toQ q2.1 - toQ p.1) = A at k1 k2
          generalize (toQ s.2 - toQ q1.2) / (toQ s.1 - toQ q1.1) = B at k2 eS
          have dm : m - toQ q1.1 ≠ 0 := by grind
          have e0 : (B - A) * (m - toQ q1.1) = 0 := by grind
          rcases Rat.mul_eq_zero.mp e0 with z | z
          · have : B = A := by grind
            subst this
            grind
          · exact absurd z dm
        rw [ns] at this
        cases this
    have s1 := step f1 u1 u2 n1 he ho
    have s2 := step f2 u2 u1 n2 (fun x y a b => (he y x b a).symm) (fun m y1 y2 a b => (ho m y2 y1 b a).symm)
    have et : toQ q1.1 = toQ q2.1 := by grind
    have hp1 := (List.pairwise_cons.mp u1).1 q1 List.mem_cons_self
    have hp2 := (List.pairwise_cons.mp u2).1 q2 List.mem_cons_self
    have ey := ho (toQ q1.1) (toQ q1.2) (toQ q2.2) (.here (by grind) (by grind) (by unfold OnL; rfl)) (by rw [et]; exact .here (by grind) (by grind) (by unfold OnL; rfl))
    have g1 := f1 q1 (List.mem_cons_of_mem _ List.mem_cons_self)
    have g2 := f2 q2 (List.mem_cons_of_mem _ List.mem_cons_self)
    have eq : q1 = q2 := Prod.ext (toQ_inj g1.1 g2.1 et) (toQ_inj g1.2 g2.2 ey)
    subst eq
    have n1' : NoS (q1 :: r1) := by cases n1 <;> first | exact .one | assumption
    have n2' : NoS (q1 :: r2) := by cases n2 <;> first | exact .one | assumption
    rw [nos_uniq r1 r2 q1 (fun x hx => f1 x (List.mem_cons_of_mem _ hx)) (fun x hx => f2 x (List.mem_cons_of_mem _ hx)) (List.pairwise_cons.mp u1).2 (List.pairwise_cons.mp u2).2 n1' n2'
      (fun x y a b => he x y (by rw [List.getLast?_cons_cons]; exact a) (by rw [List.getLast?_cons_cons]; exact b)) (fun m y1 y2 a b => ho m y1 y2 (.there a) (.there b))]
theorem bent_uniq {l1 l2 : List Pt} {a b : Rat} {f : Rat → Rat} (h1 : Ends l1 a b) (h2 : Ends l2 a b) (g1 : Gr l1 f a b) (g2 : Gr l2 f a b) : bentF l1 = bentF l2 := by
  have e1 := h1.bent
  have e2 := h2.bent
  have b1 := h1.gr_bent g1
  have b2 := h2.gr_bent g2
  have nos : ∀ {l : List Pt}, Ends l a b → NoS (bentF l) := fun {l} h => by
    match l, h.two, h.fa, h.up with
    | p :: q :: r, _, hf, hu =>
      rw [bentF_rec (List.cons_ne_nil _ _)]
      exact bentL_nos (q :: r) p hf hu
  have n1 := nos h1
  have n2 := nos h2
  generalize bentF l1 = B1 at *
  generalize bentF l2 = B2 at *
  match B1, B2, e1, e2, b1, b2, n1, n2 with
  | [], _, e1, _, _, _, _, _ => exact absurd e1.two (by decide)
  | _ :: _, [], _, e2, _, _, _, _ => exact absurd e2.two (by decide)
  | p1 :: t1, p2 :: t2, e1, e2, b1, b2, n1, n2 =>
    have ab := e1.lt
    have first : ∀ {p : Pt} {t : List Pt}, Ends (p :: t) a b → Gr (p :: t) f a b → toQ p.1 = a ∧ toQ p.2 = f a := fun {p t} e g => by
      obtain ⟨x, hx, ex⟩ := e.hd
      cases hx
      refine ⟨ex, ?_⟩
      have := g a (by grind) (by grind)
      rw [← ex] at this ⊢
      exact (on_first e.up this).symm
    obtain ⟨x1, x2⟩ := first e1 b1
    obtain ⟨y1, y2⟩ := first e2 b2
    have r1 := e1.fa p1 List.mem_cons_self
    have r2 := e2.fa p2 List.mem_cons_self
    have ep : p1 = p2 := Prod.ext (toQ_inj r1.1 r2.1 (x1.trans y1.symm)) (toQ_inj r1.2 r2.2 (x2.trans y2.symm))
    subst ep
    rw [nos_uniq t1 t2 p1 e1.fa e2.fa e1.up e2.up n1 n2 (fun x y hx hy => by
      obtain ⟨q1, k1, k2⟩ := e1.ls
      obtain ⟨q2, k3, k4⟩ := e2.ls
      rw [k1] at hx
      rw [k3] at hy
      cases hx
      cases hy
      rw [k2, k4]) (fun m z1 z2 o1 o2 => (e1.uniq b1 o1).2.2.trans (e2.uniq b2 o2).2.2.symm)]

/-! ### two courses side by side, their lower and their greater heights -/
def Lin (f : Rat → Rat) (s t : Rat) : Prop := ∀ m, s ≤ m → m ≤ t → (f m - f s) * (t - s) = (f t - f s) * (m - s)
theorem Lin.sub {f : Rat → Rat} {s t u v : Rat} (h : Lin f s t) (h1 : s ≤ u) (h2 : u < v) (h3 : v ≤ t) : Lin f u v := fun m m1 m2 => by
  have a := h m (by grind) (by grind)
  have b := h u (by grind) (by grind)
  have c := h v (by grind) (by grind)
  have h0 : t - s ≠ 0 := by grind
  have e : ((f m - f u) * (v - u) - (f v - f u) * (m - u)) * (t - s) = 0 := by grind
  rcases Rat.mul_eq_zero.mp e with z | z
  · grind
  · exact absurd z h0
theorem seg : ∀ {l : List Pt} {p : Pt} {s t : Rat}, Up (p :: l) → l ≠ [] → toQ p.1 ≤ s → s < t → (∀ b, (p :: l).getLast? = some b → t ≤ toQ b.1) → (∀ x ∈ p :: l, ¬ (s < toQ x.1 ∧ toQ x.1 < t)) →
    ∃ x y : Pt, toQ x.1 < toQ y.1 ∧ toQ x.1 ≤ s ∧ t ≤ toQ y.1 ∧ ∀ m z, toQ x.1 ≤ m → m ≤ toQ y.1 → OnL x y m z → On (p :: l) m z
  | [], _, _, _, _, h, _, _, _, _ => absurd rfl h
  | q :: r, p, s, t, hu, _, h1, h2, h3, h4 => by
    obtain ⟨u1, u2⟩ := List.pairwise_cons.mp hu
    have hpq := u1 q List.mem_cons_self
    by_cases c : t ≤ toQ q.1
    · exact ⟨p, q, hpq, h1, c, fun m z m1 m2 o => .here m1 m2 o⟩
    · have hq := h4 q (List.mem_cons_of_mem _ List.mem_cons_self)
      have hs : toQ q.1 ≤ s := by grind
      cases r with
      | nil => exact absurd (h3 q rfl) c
      | cons w r =>
        obtain ⟨x, y, a1, a2, a3, a4⟩ := seg (p := q) (l := w :: r) u2 (List.cons_ne_nil _ _) hs h2 (fun b hb => h3 b (by rw [List.getLast?_cons_cons]; exact hb)) fun x hx => h4 x (List.mem_cons_of_mem _ hx)
        exact ⟨x, y, a1, a2, a3, fun m z m1 m2 o => .there (a4 m z m1 m2 o)⟩
theorem lin_gr {l : List Pt} {f : Rat → Rat} {a b s t : Rat} (h : Ends l a b) (g : Gr l f a b) (h1 : a ≤ s) (h2 : s < t) (h3 : t ≤ b) (hn : ∀ p ∈ l, ¬ (s < toQ p.1 ∧ toQ p.1 < t)) : Lin f s t := by
  obtain ⟨p0, hp, ea⟩ := h.hd
  obtain ⟨q0, hq, eb⟩ := h.ls
  match l, h, g, hp, hq, hn with
  | p :: q :: r, h, g, hp, hq, hn =>
    cases hp
    obtain ⟨x, y, xy, xs, ty, o⟩ := seg (s := s) (t := t) h.up (List.cons_ne_nil _ _) (by grind) h2 (fun b' hb' => by rw [hq] at hb'; cases hb'; grind) hn
    have d : toQ y.1 - toQ x.1 ≠ 0 := by grind
    have at' : ∀ m, s ≤ m → m ≤ t → OnL x y m (f m) := fun m m1 m2 => by
      have e : OnL x y m (toQ x.2 + (toQ y.2 - toQ x.2) * (m - toQ x.1) / (toQ y.1 - toQ x.1)) := by
        unfold OnL
        rw [show toQ x.2 + (toQ y.2 - toQ x.2) * (m - toQ x.1) / (toQ y.1 - toQ x.1) - toQ x.2 = (toQ y.2 - toQ x.2) * (m - toQ x.1) / (toQ y.1 - toQ x.1) by grind]
        exact Rat.div_mul_cancel d
      rw [← (h.uniq g (o m _ (by grind) (by grind) e)).2.2]
      exact e
    intro m m1 m2
    have e1 := at' m m1 m2
    have e2 := at' s (by grind) (by grind)
    have e3 := at' t (by grind) (by grind)
    unfold OnL at e1 e2 e3
    have e : ((f m - f s) * (t - s) - (f t - f s) * (m - s)) * (toQ y.1 - toQ x.1) = 0 := by grind
    rcases Rat.mul_eq_zero.mp e with z | z
    · grind
    · exact absurd z d
  | [_], h, _, _, _, _ => exact absurd h.two (Nat.not_succ_le_self 1)
  | [], h, _, _, _, _ => exact absurd h.two (Nat.not_succ_le_zero 1)
def mn (x y : Rat) : Rat := if x ≤ y then x else y
def mx (x y : Rat) : Rat := if x ≤ y then y else x
theorem mn_le {x y : Rat} (h : x ≤ y) : mn x y = x := if_pos h
theorem mn_ge {x y : Rat} (h : y ≤ x) : mn x y = y := by unfold mn; split <;> grind
theorem mx_le {x y : Rat} (h : x ≤ y) : mx x y = y := if_pos h
theorem mx_ge {x y : Rat} (h : y ≤ x) : mx x y = x := by unfold mx; split <;> grind
theorem mn_comm (x y : Rat) : mn x y = mn y x := by unfold mn; split <;> split <;> grind
theorem mx_comm (x y : Rat) : mx x y = mx y x := by unfold mx; split <;> split <;> grind
theorem mx_neg (x y : Rat) : -(mn (-x) (-y)) = mx x y := by unfold mn mx; split <;> split <;> grind
theorem same_sign {a b : Rat} (h : 0 ≤ a * b) : (a ≤ 0 ∧ b ≤ 0) ∨ (0 ≤ a ∧ 0 ≤ b) := by
  by_cases ha : a ≤ 0
  · by_cases hb : b ≤ 0
    · exact .inl ⟨ha, hb⟩
    · by_cases h0 : a = 0
      · exact .inr ⟨by grind, by grind⟩
      · have := Rat.mul_pos (a := -a) (b := b) (by grind) (by grind)
        grind
  · by_cases hb : 0 ≤ b
    · exact .inr ⟨by grind, hb⟩
    · have := Rat.mul_pos (a := a) (b := -b) (by grind) (by grind)
      grind
theorem lin_sel {f g : Rat → Rat} {s t : Rat} (hf : Lin f s t) (hg : Lin g s t) (hst : s < t) (h : 0 ≤ (f s - g s) * (f t - g t)) :
    Lin (fun m => mn (f m) (g m)) s t ∧ Lin (fun m => mx (f m) (g m)) s t := by
  have mid : ∀ m, s ≤ m → m ≤ t → (f m - g m) * (t - s) = (f s - g s) * (t - m) + (f t - g t) * (m - s) := fun m m1 m2 => by
    have := hf m m1 m2
    have := hg m m1 m2
    grind
  rcases same_sign h with ⟨a, b⟩ | ⟨a, b⟩
  · have le : ∀ m, s ≤ m → m ≤ t → f m ≤ g m := fun m m1 m2 => by
      have e := mid m m1 m2
      have p1 := Rat.mul_nonneg (a := -(f s - g s)) (b := t - m) (by grind) (by grind)
      have p2 := Rat.mul_nonneg (a := -(f t - g t)) (b := m - s) (by grind) (by grind)
      by_cases c : f m ≤ g m
      · exact c
      · have := Rat.mul_pos (a := f m - g m) (b := t - s) (by grind) (by grind)
        grind
    exact ⟨fun m m1 m2 => by
      dsimp only
      rw [mn_le (le m m1 m2), mn_le (le s (by grind) (by grind)), mn_le (le t (by grind) (by grind))]
      exact hf m m1 m2, fun m m1 m2 => by
      dsimp only
      rw [mx_le (le m m1 m2), mx_le (le s (by grind) (by grind)), mx_le (le t (by grind) (by grind))]
      exact hg m m1 m2⟩
  · have ge : ∀ m, s ≤ m → m ≤ t → g m ≤ f m := fun m m1 m2 => by
      have e := mid m m1 m2
      have p1 := Rat.mul_nonneg (a := (f s - g s)) (b := t - m) (by grind) (by grind)
      have p2 := Rat.mul_nonneg (a := (f t - g t)) (b := m - s) (by grind) (by grind)
      by_cases c : g m ≤ f m
      · exact c
      · have := Rat.mul_pos (a := -(f m - g m)) (b := t - s) (by grind) (by grind)
        grind
    exact ⟨fun m m1 m2 => by
      dsimp only
      rw [mn_ge (ge m m1 m2), mn_ge (ge s (by grind) (by grind)), mn_ge (ge t (by grind) (by grind))]
      exact hg m m1 m2, fun m m1 m2 => by
      dsimp only
      rw [mx_ge (ge m m1 m2), mx_ge (ge s (by grind) (by grind)), mx_ge (ge t (by grind) (by grind))]
      exact hf m m1 m2⟩
/-- a row: a moment and the heights of two courses -/
abbrev Row := (Int × Int) × (Int × Int) × (Int × Int)
structure RowOk (f g : Rat → Rat) (r : Row) : Prop where
  rd : Rd r.1 ∧ Rd r.2.1 ∧ Rd r.2.2
  e1 : toQ r.2.1 = f (toQ r.1)
  e2 : toQ r.2.2 = g (toQ r.1)
/-- rows one after the other, both courses straight between them -/
structure Adj0 (f g : Rat → Rat) (r r' : Row) : Prop where
  lt : toQ r.1 < toQ r'.1
  lf : Lin f (toQ r.1) (toQ r'.1)
  lg : Lin g (toQ r.1) (toQ r'.1)
structure Adj (f g : Rat → Rat) (r r' : Row) : Prop extends Adj0 f g r r' where
  sg : 0 ≤ (toQ r.2.1 - toQ r.2.2) * (toQ r'.2.1 - toQ r'.2.2)
inductive Good (f g : Rat → Rat) : List Row → Row → Prop
  | one {r : Row} (h : RowOk f g r) : Good f g [r] r
  | more {F : List Row} {r r' : Row} (h : Good f g F r) (a : Adj f g r r') (h' : RowOk f g r') : Good f g (F ++ [r']) r'
theorem Good.ok {f g : Rat → Rat} {F : List Row} {r : Row} (h : Good f g F r) : ∀ x ∈ F, RowOk f g x := by
  induction h with
  | one h => intro x hx; rw [List.mem_singleton.mp hx]; exact h
  | more h a h' ih =>
    intro x hx
    rcases List.mem_append.mp hx with z | z
    · exact ih x z
    · rw [List.mem_singleton.mp z]; exact h'
theorem Good.last {f g : Rat → Rat} {F : List Row} {r : Row} (h : Good f g F r) : ∃ F0, F = F0 ++ [r] := by
  cases h with
  | one h => exact ⟨[], rfl⟩
  | more h a h' => exact ⟨_, rfl⟩
theorem Good.up {f g : Rat → Rat} {F : List Row} {r : Row} (h : Good f g F r) : F.Pairwise (fun x y => toQ x.1 < toQ y.1) ∧ ∀ x ∈ F, toQ x.1 ≤ toQ r.1 := by
  induction h with
  | one h => exact ⟨List.pairwise_singleton _ _, fun x hx => by rw [List.mem_singleton.mp hx]; exact Rat.le_refl⟩
  | more h a h' ih =>
    have := a.lt
    refine ⟨List.pairwise_append.mpr ⟨ih.1, List.pairwise_singleton _ _, fun x hx y hy => ?_⟩, fun x hx => ?_⟩
    · rw [List.mem_singleton.mp hy]
      have := ih.2 x hx
      grind
    · rcases List.mem_append.mp hx with z | z
      · have := ih.2 x z
        grind
      · rw [List.mem_singleton.mp z]; exact Rat.le_refl
theorem on_left {l k : List Pt} {m y : Rat} (h : On l m y) : On (l ++ k) m y := by
  induction h with
  | here h1 h2 h => exact .here h1 h2 h
  | there h ih => exact .there ih
theorem on_right {l : List Pt} : ∀ {k : List Pt} {m y : Rat}, On l m y → On (k ++ l) m y
  | [], _, _, h => h
  | _ :: k, _, _, h => .there (on_right (k := k) h)
theorem Good.on {f g h : Rat → Rat} {sel : Row → Int × Int} (hs : ∀ r, RowOk f g r → toQ (sel r) = h (toQ r.1)) (hl : ∀ r r', RowOk f g r → RowOk f g r' → Adj f g r r' → Lin h (toQ r.1) (toQ r'.1))
    {F : List Row} {r : Row} (G : Good f g F r) : ∀ (r0 : Row), F.head? = some r0 → ∀ m, toQ r0.1 ≤ m → m ≤ toQ r.1 → toQ r0.1 < toQ r.1 → On (F.map fun r => (r.1, sel r)) m (h m) := by
  induction G with
  | one _ =>
    intro r0 e m m1 m2 m3
    cases e
    grind
  | @more F r r' G a h' ih =>
    intro r0 e m m1 m2 m3
    obtain ⟨F0, eF⟩ := G.last
    have hr : RowOk f g r := G.ok r (by rw [eF]; exact List.mem_append_right _ List.mem_cons_self)
    have hh : F.head? = some r0 := by
      rw [eF] at e ⊢
      cases F0 <;> exact e
    rw [List.map_append]
    by_cases c : m ≤ toQ r.1 ∧ toQ r0.1 < toQ r.1
    · exact on_left (ih r0 hh m m1 c.1 c.2)
    · have lr : toQ r.1 ≤ m := by
        have := (G.up).2 r0 (List.mem_of_head? hh)
        grind
      rw [eF, List.map_append, List.append_assoc]
      refine on_right ?_
      refine .here lr m2 ?_
      show (h m - toQ (sel r)) * (toQ r'.1 - toQ r.1) = (toQ (sel r') - toQ (sel r)) * (m - toQ r.1)
      rw [hs r hr, hs r' h']
      exact hl r r' hr h' a m lr m2
def lowR (r : Row) : Int × Int := if bLe r.2.1 r.2.2 = true then r.2.1 else r.2.2
def highR (r : Row) : Int × Int := if bLe r.2.1 r.2.2 = true then r.2.2 else r.2.1
def lowP (r : Row) : Pt := (r.1, lowR r)
def highP (r : Row) : Pt := (r.1, highR r)
theorem lowR_q {f g : Rat → Rat} {r : Row} (h : RowOk f g r) : Rd (lowR r) ∧ toQ (lowR r) = mn (f (toQ r.1)) (g (toQ r.1)) := by
  have := le_toQ h.rd.2.1 h.rd.2.2
  unfold lowR
  rw [← h.e1, ← h.e2]
  by_cases c : bLe r.2.1 r.2.2 = true
  · rw [if_pos c, mn_le (this.mp c)]
    exact ⟨h.rd.2.1, rfl⟩
  · rw [if_neg c, mn_ge (by have := fun z => c (this.mpr z); grind)]
    exact ⟨h.rd.2.2, rfl⟩
theorem highR_q {f g : Rat → Rat} {r : Row} (h : RowOk f g r) : Rd (highR r) ∧ toQ (highR r) = mx (f (toQ r.1)) (g (toQ r.1)) := by
  have := le_toQ h.rd.2.1 h.rd.2.2
  unfold highR
  rw [← h.e1, ← h.e2]
  by_cases c : bLe r.2.1 r.2.2 = true
  · rw [if_pos c, mx_le (this.mp c)]
    exact ⟨h.rd.2.2, rfl⟩
  · rw [if_neg c, mx_ge (by have := fun z => c (this.mpr z); grind)]
    exact ⟨h.rd.2.1, rfl⟩
theorem Good.ends {f g : Rat → Rat} {F : List Row} {r r0 : Row} (G : Good f g F r) (h0 : F.head? = some r0) (hlt : toQ r0.1 < toQ r.1) {sel : Row → Int × Int} (hs : ∀ r, RowOk f g r → Rd (sel r)) : Ends (F.map fun r => (r.1, sel r)) (toQ r0.1) (toQ r.1) := by
  obtain ⟨F0, eF⟩ := G.last
  refine ⟨?_, fun s hs' => ?_, ?_, ⟨(r0.1, sel r0), ?_, rfl⟩, (r.1, sel r), ?_, rfl⟩
  · exact List.pairwise_map.mpr G.up.1
  · obtain ⟨x, hx, rfl⟩ := List.mem_map.mp hs'
    exact ⟨(G.ok x hx).rd.1, hs x (G.ok x hx)⟩
  · rw [List.length_map]
    cases F0 with
    | nil =>
      rw [eF] at h0
      cases h0
      grind
    | cons a t => rw [eF, List.length_append]; show 2 ≤ t.length + 1 + 1; omega
  · rw [List.head?_map, h0]; rfl
  · rw [List.getLast?_map, eF, List.getLast?_concat]; rfl
theorem Good.low {f g : Rat → Rat} {F : List Row} {r r0 : Row} (G : Good f g F r) (h0 : F.head? = some r0) (hlt : toQ r0.1 < toQ r.1) : Ends (F.map lowP) (toQ r0.1) (toQ r.1) ∧ Gr (F.map lowP) (fun m => mn (f m) (g m)) (toQ r0.1) (toQ r.1) :=
  ⟨G.ends h0 hlt (sel := lowR) fun _ h => (lowR_q h).1, fun m m1 m2 => G.on (h := fun m => mn (f m) (g m)) (sel := lowR) (fun _ h => (lowR_q h).2) (fun x y hx hy a => (lin_sel a.lf a.lg a.lt (by rw [← hx.e1, ← hx.e2, ← hy.e1, ← hy.e2]; exact a.sg)).1) r0 h0 m m1 m2 hlt⟩
theorem Good.high {f g : Rat → Rat} {F : List Row} {r r0 : Row} (G : Good f g F r) (h0 : F.head? = some r0) (hlt : toQ r0.1 < toQ r.1) : Ends (F.map highP) (toQ r0.1) (toQ r.1) ∧ Gr (F.map highP) (fun m => mx (f m) (g m)) (toQ r0.1) (toQ r.1) :=
  ⟨G.ends h0 hlt (sel := highR) fun _ h => (highR_q h).1, fun m m1 m2 => G.on (h := fun m => mx (f m) (g m)) (sel := highR) (fun _ h => (highR_q h).2) (fun x y hx hy a => (lin_sel a.lf a.lg a.lt (by rw [← hx.e1, ← hx.e2, ← hy.e1, ← hy.e2]; exact a.sg)).2) r0 h0 m m1 m2 hlt⟩
/-- the row where two courses cross -/
def midR (r r' : Row) : Row :=
  let sh := divR (subR r.2.1 r.2.2) (subR (subR r.2.1 r.2.2) (subR r'.2.1 r'.2.2))
  let h := addR r.2.1 (mulR sh (subR r'.2.1 r.2.1))
  (addR r.1 (mulR sh (subR r'.1 r.1)), h, h)
theorem rd_sub {a b : Int × Int} (ha : Rd a) (hb : Rd b) : Rd (subR a b) := red_rd (Int.ne_of_gt (Int.mul_pos ha.1 hb.1))
theorem rd_mul {a b : Int × Int} (ha : Rd a) (hb : Rd b) : Rd (mulR a b) := red_rd (Int.ne_of_gt (Int.mul_pos ha.1 hb.1))
theorem rd_add {a b : Int × Int} (ha : Rd a) (hb : Rd b) : Rd (addR a b) := red_rd (Int.ne_of_gt (Int.mul_pos ha.1 hb.1))
theorem cross_ok {f g : Rat → Rat} {r r' : Row} (h : RowOk f g r) (h' : RowOk f g r') (a : Adj0 f g r r') (c : ¬ 0 ≤ (toQ r.2.1 - toQ r.2.2) * (toQ r'.2.1 - toQ r'.2.2)) :
    (subR (subR r.2.1 r.2.2) (subR r'.2.1 r'.2.2)).1 ≠ 0 ∧ RowOk f g (midR r r') ∧ Adj f g r (midR r r') ∧ Adj f g (midR r r') r' := by
  obtain ⟨r1, r2, r3⟩ := h.rd
  obtain ⟨s1, s2, s3⟩ := h'.rd
  have rG := rd_sub r2 r3
  have rR := rd_sub s2 s3
  have rD := rd_sub rG rR
  have qG := toQ_sub r2 r3
  have qR := toQ_sub s2 s3
  have qD := toQ_sub rG rR
  rw [qG, qR] at qD
  generalize eG : toQ r.2.1 - toQ r.2.2 = G at *
  generalize eR : toQ r'.2.1 - toQ r'.2.2 = R at *
  have nz : G - R ≠ 0 := fun z => by
    have e : G = R := by grind
    rw [e] at c
    apply c
    rcases Rat.le_total (a := 0) (b := R) with z | z
    · exact Rat.mul_nonneg z z
    · have := Rat.mul_nonneg (a := -R) (b := -R) (by grind) (by grind)
      grind
  have n0 : (subR (subR r.2.1 r.2.2) (subR r'.2.1 r'.2.2)).1 ≠ 0 := sub_ne rG rR (by rw [qG, qR]; grind)
  obtain ⟨d1, rS⟩ := toQ_div rG rD n0
  rw [qD, qG] at d1
  have hmid : midR r r' = (addR r.1 (mulR (divR (subR r.2.1 r.2.2) (subR (subR r.2.1 r.2.2) (subR r'.2.1 r'.2.2))) (subR r'.1 r.1)), addR r.2.1 (mulR (divR (subR r.2.1 r.2.2) (subR (subR r.2.1 r.2.2) (subR r'.2.1 r'.2.2))) (subR r'.2.1 r.2.1)), addR r.2.1 (mulR (divR (subR r.2.1 r.2.2) (subR (subR r.2.1 r.2.2) (subR r'.2.1 r'.2.2))) (subR r'.2.1 r.2.1))) := rfl
  rw [hmid]
  generalize divR (subR r.2.1 r.2.2) (subR (subR r.2.1 r.2.2) (subR r'.2.1 r'.2.2)) = S at d1 rS ⊢
  have qm : toQ (addR r.1 (mulR S (subR r'.1 r.1))) = toQ r.1 + toQ S * (toQ r'.1 - toQ r.1) := by rw [toQ_add r1 (rd_mul rS (rd_sub s1 r1)), toQ_mul rS (rd_sub s1 r1), toQ_sub s1 r1]
  have qh : toQ (addR r.2.1 (mulR S (subR r'.2.1 r.2.1))) = toQ r.2.1 + toQ S * (toQ r'.2.1 - toQ r.2.1) := by rw [toQ_add r2 (rd_mul rS (rd_sub s2 r2)), toQ_mul rS (rd_sub s2 r2), toQ_sub s2 r2]
  have rm := rd_add r1 (rd_mul rS (rd_sub s1 r1))
  have rh := rd_add r2 (rd_mul rS (rd_sub s2 r2))
  generalize addR r.1 (mulR S (subR r'.1 r.1)) = M at qm rm ⊢
  generalize addR r.2.1 (mulR S (subR r'.2.1 r.2.1)) = Hh at qh rh ⊢
  generalize toQ S = sh at d1 qm qh
  have lt := a.lt
  -- the share lies between
  have s01 : 0 < sh ∧ sh < 1 := by
    have gr : (G < 0 ∧ 0 < R) ∨ (0 < G ∧ R < 0) := by
      by_cases g0 : 0 ≤ G
      · by_cases r0 : 0 ≤ R
        · exact absurd (Rat.mul_nonneg g0 r0) c
        · by_cases z : G = 0
          · rw [z] at c; exact absurd (by grind) c
          · exact .inr ⟨by grind, by grind⟩
      · by_cases r0 : R ≤ 0
        · have := Rat.mul_nonneg (a := -G) (b := -R) (by grind) (by grind)
          exact absurd (by grind) c
        · exact .inl ⟨by grind, by grind⟩
    rcases gr with ⟨g0, r0⟩ | ⟨g0, r0⟩
    · constructor
      · by_cases z : 0 < sh
        · exact z
        · have := Rat.mul_nonneg (a := -sh) (b := R - G) (by grind) (by grind)
          grind
      · by_cases z : sh < 1
        · exact z
        · have := Rat.mul_nonneg (a := sh - 1) (b := R - G) (by grind) (by grind)
          grind
    · constructor
      · by_cases z : 0 < sh
        · exact z
        · have := Rat.mul_nonneg (a := -sh) (b := G - R) (by grind) (by grind)
          grind
      · by_cases z : sh < 1
        · exact z
        · have := Rat.mul_nonneg (a := sh - 1) (b := G - R) (by grind) (by grind)
          grind
  have dt : 0 < toQ r'.1 - toQ r.1 := by grind
  have m1 : toQ r.1 < toQ M := by
    have := Rat.mul_pos s01.1 dt
    grind
  have m2 : toQ M < toQ r'.1 := by
    have := Rat.mul_pos (a := 1 - sh) (b := toQ r'.1 - toQ r.1) (by grind) dt
    grind
  have val : ∀ {k : Rat → Rat}, Lin k (toQ r.1) (toQ r'.1) → k (toQ M) = k (toQ r.1) + sh * (k (toQ r'.1) - k (toQ r.1)) := fun {k} hk => by
    have e := hk (toQ M) (by grind) (by grind)
    rw [show toQ M - toQ r.1 = sh * (toQ r'.1 - toQ r.1) by grind] at e
    have e2 : (k (toQ M) - k (toQ r.1) - sh * (k (toQ r'.1) - k (toQ r.1))) * (toQ r'.1 - toQ r.1) = 0 := by grind
    rcases Rat.mul_eq_zero.mp e2 with z | z
    · grind
    · grind
  have vf := val a.lf
  have vg := val a.lg
  have hf : toQ Hh = f (toQ M) := by rw [qh, vf, h.e1, h'.e1]
  have hg : toQ Hh = g (toQ M) := by
    rw [qh, vg, ← h.e2, ← h'.e2]
    grind
  refine ⟨n0, ⟨⟨rm, rh, rh⟩, hf, hg⟩, ⟨⟨m1, a.lf.sub (by grind) m1 (by grind), a.lg.sub (by grind) m1 (by grind)⟩, ?_⟩, ⟨⟨m2, a.lf.sub (by grind) m2 (by grind), a.lg.sub (by grind) m2 (by grind)⟩, ?_⟩⟩
  · show 0 ≤ _ * (toQ Hh - toQ Hh)
    grind
  · show 0 ≤ (toQ Hh - toQ Hh) * _
    grind



/-! ### moments put together -/
def Asc (l : List (Int × Int)) : Prop := l.Pairwise fun a b => toQ a < toQ b
structure Mg (ps qs : List (Int × Int)) (i j : Nat) (rs : List (Int × Int)) : Prop where
  so : Asc rs
  mem : ∀ x, x ∈ rs ↔ x ∈ ps.take i ∨ x ∈ qs.take j
  lp : ∀ x ∈ rs, ∀ y ∈ ps.drop i, toQ x < toQ y
  lq : ∀ x ∈ rs, ∀ y ∈ qs.drop j, toQ x < toQ y
  len : rs.length ≤ i + j
theorem Mg.swap {ps qs rs : List (Int × Int)} {i j : Nat} (h : Mg ps qs i j rs) : Mg qs ps j i rs := ⟨h.so, fun x => (h.mem x).trans Or.comm, h.lq, h.lp, by have := h.len; omega⟩
theorem drop_at {α : Type} {l : List α} {i : Nat} {x : α} (h : l[i]? = some x) : l.drop i = x :: l.drop (i + 1) := by
  obtain ⟨hi, e⟩ := List.getElem?_eq_some_iff.mp h
  rw [List.drop_eq_getElem_cons hi, e]
theorem take_at {α : Type} {l : List α} {i : Nat} {x : α} (h : l[i]? = some x) : l.take (i + 1) = l.take i ++ [x] := by rw [List.take_succ, h]; rfl
theorem Asc.from {l : List (Int × Int)} {i : Nat} {x : Int × Int} (h : Asc l) (e : l[i]? = some x) : ∀ y ∈ l.drop (i + 1), toQ x < toQ y := by
  have : Asc (l.drop i) := h.sublist (List.drop_sublist _ _)
  rw [drop_at e] at this
  exact (List.pairwise_cons.mp this).1
theorem Mg.one {ps qs rs : List (Int × Int)} {i j : Nat} {p q : Int × Int} (h : Mg ps qs i j rs) (hp : Asc ps) (hq : Asc qs) (ep : ps[i]? = some p) (eq : qs[j]? = some q) (lt : toQ q < toQ p) : Mg ps qs i (j + 1) (rs ++ [q]) := by
  have dq := drop_at eq
  have dp := drop_at ep
  have q1 := hq.from eq
  have p1 := hp.from ep
  refine ⟨List.pairwise_append.mpr ⟨h.so, List.pairwise_singleton _ _, fun x hx y hy => ?_⟩, fun x => ?_, fun x hx y hy => ?_, fun x hx y hy => ?_, ?_⟩
  · rw [List.mem_singleton.mp hy]
    exact h.lq x hx q (by rw [dq]; exact List.mem_cons_self)
  · rw [take_at eq, List.mem_append, List.mem_append, h.mem, List.mem_singleton]
    constructor
    · rintro ((z | z) | z)
      · exact .inl z
      · exact .inr (.inl z)
      · exact .inr (.inr z)
    · rintro (z | z | z)
      · exact .inl (.inl z)
      · exact .inl (.inr z)
      · exact .inr z
  · rcases List.mem_append.mp hx with z | z
    · exact h.lp x z y hy
    · rw [List.mem_singleton.mp z]
      rw [dp] at hy
      rcases List.mem_cons.mp hy with w | w
      · rw [w]; exact lt
      · have := p1 y w
        grind
  · rcases List.mem_append.mp hx with z | z
    · exact h.lq x z y (by rw [dq]; exact List.mem_cons_of_mem _ hy)
    · rw [List.mem_singleton.mp z]
      exact q1 y hy
  · rw [List.length_append, List.length_singleton]
    have := h.len
    omega
theorem Mg.both {ps qs rs : List (Int × Int)} {i j : Nat} {p : Int × Int} (h : Mg ps qs i j rs) (hp : Asc ps) (hq : Asc qs) (ep : ps[i]? = some p) (eq : qs[j]? = some p) : Mg ps qs (i + 1) (j + 1) (rs ++ [p]) := by
  have dq := drop_at eq
  have dp := drop_at ep
  have q1 := hq.from eq
  have p1 := hp.from ep
  refine ⟨List.pairwise_append.mpr ⟨h.so, List.pairwise_singleton _ _, fun x hx y hy => ?_⟩, fun x => ?_, fun x hx y hy => ?_, fun x hx y hy => ?_, ?_⟩
  · rw [List.mem_singleton.mp hy]
    exact h.lq x hx p (by rw [dq]; exact List.mem_cons_self)
  · rw [take_at eq, take_at ep, List.mem_append, List.mem_append, List.mem_append, h.mem, List.mem_singleton]
    constructor
    · rintro ((z | z) | z)
      · exact .inl (.inl z)
      · exact .inr (.inl z)
      · exact .inr (.inr z)
    · rintro ((z | z) | (z | z))
      · exact .inl (.inl z)
      · exact .inr z
      · exact .inl (.inr z)
      · exact .inr z
  · rcases List.mem_append.mp hx with z | z
    · exact h.lp x z y (by rw [dp]; exact List.mem_cons_of_mem _ hy)
    · rw [List.mem_singleton.mp z]
      exact p1 y hy
  · rcases List.mem_append.mp hx with z | z
    · exact h.lq x z y (by rw [dq]; exact List.mem_cons_of_mem _ hy)
    · rw [List.mem_singleton.mp z]
      exact q1 y hy
  · rw [List.length_append, List.length_singleton]
    have := h.len
    omega
theorem Mg.done {ps qs rs : List (Int × Int)} {i j : Nat} (h : Mg ps qs i j rs) (hp : Asc ps) (hq : Asc qs) (e : ps.length ≤ i ∨ qs.length ≤ j) : Asc (rs ++ ps.drop i ++ qs.drop j) ∧ ∀ x, x ∈ rs ++ ps.drop i ++ qs.drop j ↔ x ∈ ps ∨ x ∈ qs := by
  have dp : Asc (ps.drop i) := hp.sublist (List.drop_sublist _ _)
  have dq : Asc (qs.drop j) := hq.sublist (List.drop_sublist _ _)
  refine ⟨List.pairwise_append.mpr ⟨List.pairwise_append.mpr ⟨h.so, dp, h.lp⟩, dq, fun x hx y hy => ?_⟩, fun x => ?_⟩
  · rcases List.mem_append.mp hx with z | z
    · exact h.lq x z y hy
    · rcases e with e | e
      · rw [List.drop_eq_nil_of_le e] at z
        cases z
      · rw [List.drop_eq_nil_of_le e] at hy
        cases hy
  · rw [List.mem_append, List.mem_append, h.mem]
    have s1 : x ∈ ps ↔ x ∈ ps.take i ∨ x ∈ ps.drop i := by rw [← List.mem_append, List.take_append_drop]
    have s2 : x ∈ qs ↔ x ∈ qs.take j ∨ x ∈ qs.drop j := by rw [← List.mem_append, List.take_append_drop]
    rw [s1, s2]
    constructor
    · rintro (((z | z) | z) | z)
      · exact .inl (.inl z)
      · exact .inr (.inl z)
      · exact .inl (.inr z)
      · exact .inr (.inr z)
    · rintro ((z | z) | (z | z))
      · exact .inl (.inl (.inl z))
      · exact .inl (.inr z)
      · exact .inl (.inl (.inr z))
      · exact .inr z
/-- nothing stands between a moment and the next -/
theorem asc_next {l : List (Int × Int)} {i : Nat} {x y : Int × Int} (h : Asc l) (e1 : l[i]? = some x) (e2 : l[i + 1]? = some y) : toQ x < toQ y ∧ ∀ z ∈ l, ¬ (toQ x < toQ z ∧ toQ z < toQ y) := by
  have g : ∀ {j k : Nat} {a b : Int × Int}, j < k → l[j]? = some a → l[k]? = some b → toQ a < toQ b := fun {j k a b} hjk h1 h2 => by
    obtain ⟨i1, e1⟩ := List.getElem?_eq_some_iff.mp h1
    obtain ⟨i2, e2⟩ := List.getElem?_eq_some_iff.mp h2
    have := List.pairwise_iff_getElem.mp h j k i1 i2 hjk
    rw [e1, e2] at this
    exact this
  refine ⟨g (Nat.lt_succ_self i) e1 e2, fun z hz ⟨z1, z2⟩ => ?_⟩
  obtain ⟨k, hk⟩ := List.mem_iff_getElem?.mp hz
  rcases Nat.lt_trichotomy k i with c | c | c
  · have := g c hk e1
    grind
  · rw [c, e1] at hk
    cases hk
    grind
  · rcases Nat.lt_or_ge (i + 1) k with d | d
    · have := g d e2 hk
      grind
    · have : k = i + 1 := by omega
      rw [this, e2] at hk
      cases hk
      grind
/-- when one course is nowhere above the other -/
theorem below_iff {f g : Rat → Rat} {F : List Row} {r r0 : Row} {l : List Pt} (G : Good f g F r) (h0 : F.head? = some r0) (hlt : toQ r0.1 < toQ r.1) (hl : Ends l (toQ r0.1) (toQ r.1)) (gl : Gr l f (toQ r0.1) (toQ r.1)) :
    (F.all fun x => bLe x.2.1 x.2.2) = decide (bentF (F.map lowP) = bentF l) := by
  obtain ⟨e1, g1⟩ := G.low h0 hlt
  rw [Bool.eq_iff_iff, List.all_eq_true, decide_eq_true_iff]
  constructor
  · intro z
    have eq : F.map lowP = F.map fun r => (r.1, r.2.1) := List.map_congr_left fun x hx => by
      unfold lowP lowR
      rw [if_pos (z x hx)]
    rw [eq]
    refine bent_uniq (f := f) (G.ends h0 hlt (sel := fun r => r.2.1) fun _ h => h.rd.2.1) hl (fun m m1 m2 => ?_) gl
    exact G.on (h := f) (sel := fun r => r.2.1) (fun _ h => h.e1) (fun x y _ _ a => a.lf) r0 h0 m m1 m2 hlt
  · intro z x hx
    have hx' := G.ok x hx
    have m2 := (G.up).2 x hx
    have m1 : toQ r0.1 ≤ toQ x.1 := by
      obtain ⟨t, ht⟩ : ∃ t, F = r0 :: t := by
        cases F with
        | nil => cases h0
        | cons a t => cases h0; exact ⟨t, rfl⟩
      rw [ht] at hx
      rcases List.mem_cons.mp hx with w | w
      · rw [w]; exact Rat.le_refl
      · have := G.up.1
        rw [ht] at this
        have := (List.pairwise_cons.mp this).1 x w
        grind
    have a1 := e1.gr_bent g1 (toQ x.1) m1 m2
    have a2 := hl.gr_bent gl (toQ x.1) m1 m2
    rw [z] at a1
    have := on_uniq hl.bent.up a1 a2
    refine (le_toQ hx'.rd.2.1 hx'.rd.2.2).mpr ?_
    rw [hx'.e1, hx'.e2]
    unfold mn at this
    split at this <;> grind



/-! ### moments of spots, and merged -/
section
variable {P : Program} {w : World} {K : PySem.W.Frag} {mg : Str → Option Value} {base : Heap}
theorem NmAll.same {C : Addr} {H H' : Hp} (s : Same H H') {vs : List V} {ps : List (Int × Int)} (h : NmAll C H vs ps) : NmAll C H' vs ps := h.mono fun _ _ z => z.same s
theorem NmAll.keepL {C : Addr} {H H' : Hp} {L : Addr} {ys : List V} (hL : H L = some (.lst ys)) (k : Keep L H H') {vs : List V} {ps : List (Int × Int)} (h : NmAll C H vs ps) : NmAll C H' vs ps := h.mono fun _ _ z => z.keepL hL k
theorem NmAll.app {C : Addr} {H : Hp} : ∀ {vs us : List V} {ps qs : List (Int × Int)}, NmAll C H vs ps → NmAll C H us qs → NmAll C H (vs ++ us) (ps ++ qs)
  | _, _, _, _, .nil, h => h
  | _, _, _, _, .cons a r, h => .cons a (r.app h)
theorem NmAll.drop {C : Addr} {H : Hp} : ∀ (k : Nat) {vs : List V} {ps : List (Int × Int)}, NmAll C H vs ps → NmAll C H (vs.drop k) (ps.drop k)
  | 0, _, _, h => h
  | _ + 1, _, _, .nil => .nil
  | k + 1, _, _, .cons _ r => r.drop k
theorem NmAll.get {C : Addr} {H : Hp} : ∀ {vs : List V} {ps : List (Int × Int)} {i : Nat} {p : Int × Int}, NmAll C H vs ps → ps[i]? = some p → ∃ v, vs[i]? = some v ∧ NumAt C H v p
  | _, _, 0, _, .cons h _, e => ⟨_, rfl, (Option.some.inj e) ▸ h⟩
  | _, _, i + 1, _, .cons _ r, e => r.get (i := i) e
  | _, _, _, _, .nil, e => by simp at e
def spMomentsOf (C : Addr) : Sp := fun vs H Q _ => ∃ (S : Addr) (xs : List V) (qs : List Pt), vs = [.ref S] ∧ H S = some (.lst xs) ∧ SpAll C H xs qs ∧ qs.length ≤ 900 ∧ ∀ M H' ms, H M = none → Same H H' → H' M = some (.lst ms) → NmAll C H' ms (qs.map Prod.fst) → Q (.ref M) H'
theorem ok_moments_of (T : Tx K mg) : FnOk P w K mg base CX0 4 T.moments_of_a T.moments_of_d ["spots"] (spMomentsOf T.Exact_a) := by
  refine T.moments_of_F.ok sc_moments_of (fun vs H Q E h => ?_) (fun cdv A outer s H vs Q E hr h => ?_)
  · obtain ⟨S, xs, qs, rfl, _⟩ := h
    rfl
  · obtain ⟨S, xs, qs, rfl, hS, hqs, h9, k⟩ := h
    refine ⟨_, (pss_one (ps_ret (pe_lc (g := gName 1) (tt := tYes) (te := tOp (rIxT K) (tVar 1) (tC (.int 0))) (own := [("spot", 1)]) rfl sc_moments_of.nd (pi_list (pv 0)) (blkOk_by (own := [("spot", 1)]) (N := ["spots", "spot"]) (sc := defScope s_moments_of) (by decide +kernel))
   (fun _ _ _ _ _ => pg_name (i := 1) sc_moments_of.nd rfl (Or.inl rfl)) (fun _ _ _ _ _ => pts_nil) (fun _ _ _ _ _ => (pe_ix ix_tup (pv 1) pe_int (fun _ _ => rfl)))))), ?_⟩
    refine ⟨_, rfl, S, rfl, ⟨xs, .inl (.inl hS)⟩, fun D nD => ?_⟩
    refine lc_it (walk_list (K := K) (a := S) (xs := xs)) (fun j H2 => Same H H2 ∧ ∃ ys, H2 D = some (.lst ys) ∧ NmAll T.Exact_a H2 ys ((qs.map Prod.fst).take j)) ⟨same_upd nD, [], upd_same, by rw [List.take_zero]; exact .nil⟩ (fun j H2 _ e => .inl (.inl (e.1 _ _ hS))) ?_ ?_
    · rintro j v H20 H2 hj ⟨e2, ys, eD, hys⟩ ⟨rfl, hv⟩
      obtain ⟨s, hsj, hspot⟩ := hqs.at hv
      obtain ⟨⟨t, x1, y1, rfl, ht, hx1, hy1⟩, f1, f2⟩ := hspot.same e2
      refine ⟨rfl, yes_of ?_⟩
      refine ⟨_, rfl, t, _, 0, _, rfl, rfl, .inl (.inl ht), rfl, ?_⟩
      have kp : ∀ o, Keep D H2 (upd H2 D o) := fun o b o' e n => (upd_ne n).trans e
      have hm : (qs.map Prod.fst)[j]? = some s.1 := by rw [List.getElem?_map, hsj]; rfl
      refine ⟨ys, eD, ?_, fun b o e => ?_, ys ++ [x1], upd_same, ?_⟩
      · rw [hys.len]
        exact small1000 (Nat.le_trans (List.length_take_le _ _) (by have := (List.getElem?_eq_some_iff.mp hsj).1; omega))
      · rw [upd_ne (ne_of_none e nD)]
        exact e2 _ _ e
      · rw [take_at hm]
        exact (hys.keepL eD (kp _)).snoc (hx1.num.keepL eD (kp _))
    · rintro H2 ⟨e2, ys, eD, hys⟩
      rw [show xs.length = (qs.map Prod.fst).length by rw [List.length_map, hqs.len], List.take_length] at hys
      exact k D H2 ys nD e2 eD hys
def spMerged (C : Addr) : Sp := fun vs H Q _ => ∃ (A B : Addr) (xs ys : List V) (ps qs : List (Int × Int)), vs = [.ref A, .ref B] ∧ H A = some (.lst xs) ∧ H B = some (.lst ys) ∧ NmAll C H xs ps ∧ NmAll C H ys qs ∧ Asc ps ∧ Asc qs ∧ (∀ p ∈ ps, Fine p) ∧ (∀ p ∈ qs, Fine p) ∧ ps.length ≤ 300 ∧ qs.length ≤ 300 ∧
  ∀ M H' zs ms, H M = none → Same H H' → H' M = some (.lst zs) → NmAll C H' zs ms → Asc ms → (∀ x, x ∈ ms ↔ x ∈ ps ∨ x ∈ qs) → ms.length ≤ ps.length + qs.length → Q (.ref M) H'
theorem ok_merged (T : Tx K mg) : FnOk P w K mg base CX0 10 T.merged_a T.merged_d ["ones", "others"] (spMerged T.Exact_a) := by
  refine T.merged_F.ok sc_merged (fun vs H Q E h => ?_) (fun cdv A outer s H vs Q E hr h => ?_)
  · obtain ⟨A, B, xs, ys, ps, qs, rfl, _⟩ := h
    rfl
  · obtain ⟨A', B, xs, ys, ps, qs, rfl, hA, hB, hps, hqs, ap, aq, fp, fq, l3, l3', k⟩ := h
    refine ⟨_, (pss_cons (ps_set (i := 2) sc_merged.nd rfl (Or.inl rfl) (pe_lst pa_nil))
  (pss_cons (ps_set (i := 3) sc_merged.nd rfl (Or.inl rfl) pe_int)
  (pss_cons (ps_set (i := 4) sc_merged.nd rfl (Or.inl rfl) pe_int)
  (pss_cons (ps_while PassesOwn.never (PW.pt (pw_and (pt_cmpR op_lt (pv 3) (pe_callB (call_len_seq) (by rfl) T.z_len (by decide +kernel) (pa_cons (pv 0) pa_nil)) (nomark _)) (pw_and1 (pt_cmpR op_lt (pv 4) (pe_callB (call_len_seq) (by rfl) T.z_len (by decide +kernel) (pa_cons (pv 1) pa_nil)) (nomark _)))))
  (pss_one (ps_if (pt_cmpR (op_lt.or ((op_gyC (op := .Lt) (fun _ _ => rfl) T.Exact_lt_M.at_ T.Exact_lt_M.fn (ok_Exact_lt T) (hr.mono (by decide)) T.Exact_lt_b pass0).or (op_gyCR (op := .Lt) (fun _ _ => rfl) T.Exact_gt_M.at_ T.Exact_gt_M.fn (ok_Exact_gt T) (hr.mono (by decide)) T.Exact_gt_b pass0))) (pe_ix ix_list (pv 1) (pv 4) (fun _ _ => rfl)) (pe_ix ix_list (pv 0) (pv 3) (fun _ _ => rfl)) (nomark _))
  (pss_cons (ps_expr (pe_bm PySem.F.plainAttrs_list PySem.F.slot_list_append PySem.F.type_list_append mt_append (pv 2) (pa_cons (pe_ix ix_list (pv 1) (pv 4) (fun _ _ => rfl)) pa_nil)))
  (pss_one (ps_aug (i := 4) sc_merged.nd rfl (Or.inl rfl) pe_int ip_add)))
  (pss_cons (ps_if (pt_cmpR (op_eq.or ((op_gyC (op := .Eq) (fun _ _ => rfl) T.Exact_eq_M.at_ T.Exact_eq_M.fn (ok_Exact_eq T) (hr.mono (by decide)) T.Exact_eq_b pass0).or (op_gyCR (op := .Eq) (fun _ _ => rfl) T.Exact_eq_M.at_ T.Exact_eq_M.fn (ok_Exact_eq T) (hr.mono (by decide)) T.Exact_eq_b pass0))) (pe_ix ix_list (pv 0) (pv 3) (fun _ _ => rfl)) (pe_ix ix_list (pv 1) (pv 4) (fun _ _ => rfl)) (nomark _))
  (pss_one (ps_aug (i := 4) sc_merged.nd rfl (Or.inl rfl) pe_int ip_add))
  pss_nil)
  (pss_cons (ps_expr (pe_bm PySem.F.plainAttrs_list PySem.F.slot_list_append PySem.F.type_list_append mt_append (pv 2) (pa_cons (pe_ix ix_list (pv 0) (pv 3) (fun _ _ => rfl)) pa_nil)))
  (pss_one (ps_aug (i := 3) sc_merged.nd rfl (Or.inl rfl) pe_int ip_add)))))))
  (pss_one (ps_ret (pe_op (op_cat) (pe_op (op_cat) (pv 2) (pe_slice sl_list (pv 0) (po_some (pv 3)) po_none)) (pe_slice sl_list (pv 1) (po_some (pv 4)) po_none)))))))), ?_⟩
    refine ⟨(by show 0 ≤ sizeLine; decide), fun L nL => ?_⟩
    have e1 : Same H (upd H L (.lst [])) := same_upd nL
    have hL : (upd H L (.lst [])) L = some (.lst []) := upd_same
    generalize upd H L (.lst []) = H1 at e1 hL ⊢
    refine ⟨fun n σ H' => ∃ i j : Nat, σ = [some (.ref A'), some (.ref B), some (.ref L), some (.int (i : Nat)), some (.int (j : Nat))] ∧ n = (ps.length - i) + (qs.length - j) ∧ i ≤ ps.length ∧ j ≤ qs.length ∧ Same H H' ∧ ∃ zs rs, H' L = some (.lst zs) ∧ NmAll T.Exact_a H' zs rs ∧ Mg ps qs i j rs,
      ⟨_, 0, 0, rfl, rfl, Nat.zero_le _, Nat.zero_le _, e1, [], [], hL, .nil, List.Pairwise.nil, fun x => by simp, nofun, nofun, Nat.le_refl _⟩, ?_⟩
    rintro n σ H3 ⟨i, j, rfl, rfl, hi, hj, e3, zs, rs, eL, hrs, mg'⟩
    have hA3 := e3 _ _ hA
    have hB3 := e3 _ _ hB
    have hps3 := hps.same e3
    have hqs3 := hqs.same e3
    have lx := hps.len
    have ly := hqs.len
    have kp : ∀ {G : Hp} (o : HO), Keep L G (upd G L o) := fun o b o' e n => (upd_ne n).trans e
    -- the rest put behind
    have fin : ps.length ≤ i ∨ qs.length ≤ j → tRet (tOp rCat (tOp rCat (tVar 2) (tSl (rSlL K) (tVar 0) (tPart (tVar 3)) tNoPart)) (tSl (rSlL K) (tVar 1) (tPart (tVar 4)) tNoPart)) { nx := fun x H' => Q V.non H', rt := Q } [some (.ref A'), some (.ref B), some (.ref L), some (.int (i : Nat)), some (.int (j : Nat))] H3 := fun hd => by
      have ml := mg'.len
      obtain ⟨d1, d2⟩ := mg'.done ap aq hd
      refine ⟨_, rfl, _, rfl, _, rfl, _, rfl, A', xs, rfl, .inl (.inl hA3), fun S1 n1 => ?_⟩
      rw [show cutV xs (some ((i : Nat) : Int)) none = xs.drop i from cutV_from xs i]
      have q4 : Same H3 (upd H3 S1 (.lst (xs.drop i))) := same_upd n1
      have h1 : (upd H3 S1 (.lst (xs.drop i))) S1 = some (.lst (xs.drop i)) := upd_same
      generalize upd H3 S1 (.lst (xs.drop i)) = H4 at q4 h1 ⊢
      refine ⟨L, S1, _, _, rfl, rfl, q4 _ _ eL, h1, len_ok' (by rw [hrs.len, List.length_drop]; omega), fun S2 n2 => ?_⟩
      have q5 : Same H4 (upd H4 S2 (.lst (zs ++ xs.drop i))) := same_upd n2
      have h2 : (upd H4 S2 (.lst (zs ++ xs.drop i))) S2 = some (.lst (zs ++ xs.drop i)) := upd_same
      generalize upd H4 S2 (.lst (zs ++ xs.drop i)) = H5 at q5 h2 ⊢
      refine ⟨_, rfl, _, rfl, _, rfl, B, ys, rfl, .inl (.inl ((q4.trans q5) _ _ hB3)), fun S3 n3 => ?_⟩
      rw [show cutV ys (some ((j : Nat) : Int)) none = ys.drop j from cutV_from ys j]
      have q6 : Same H5 (upd H5 S3 (.lst (ys.drop j))) := same_upd n3
      have h3 : (upd H5 S3 (.lst (ys.drop j))) S3 = some (.lst (ys.drop j)) := upd_same
      generalize upd H5 S3 (.lst (ys.drop j)) = H6 at q6 h3 ⊢
      refine ⟨S2, S3, _, _, rfl, rfl, q6 _ _ h2, h3, len_ok' (by rw [List.length_append, hrs.len, List.length_drop, List.length_drop]; omega), fun S4 n4 => ?_⟩
      have q7 : Same H6 (upd H6 S4 (.lst (zs ++ xs.drop i ++ ys.drop j))) := same_upd n4
      have h4 : (upd H6 S4 (.lst (zs ++ xs.drop i ++ ys.drop j))) S4 = some (.lst (zs ++ xs.drop i ++ ys.drop j)) := upd_same
      generalize upd H6 S4 (.lst (zs ++ xs.drop i ++ ys.drop j)) = H7 at q7 h4 ⊢
      have q37 := ((q4.trans q5).trans q6).trans q7
      refine k S4 H7 _ (rs ++ ps.drop i ++ qs.drop j) ((((e3.trans q4).trans q5).trans q6).free n4) (e3.trans q37) h4 (((hrs.same q37).app ((hps3.same q37).drop i)).app ((hqs3.same q37).drop j)) d1 d2 ?_
      rw [List.length_append, List.length_append, List.length_drop, List.length_drop]
      omega
    refine ⟨_, rfl, _, rfl, A', xs, rfl, .inl (.inl (.inl hA3)), _, _, rfl, rfl, _, rfl, ?_⟩
    by_cases ci : i < ps.length
    · rw [show decide (((i : Nat) : Int) < ((xs.length : Nat) : Int)) = true from decide_eq_true (by omega)]
      refine iteT ?_
      refine ⟨_, rfl, _, rfl, B, ys, rfl, .inl (.inl (.inl hB3)), _, _, rfl, rfl, _, rfl, ?_⟩
      by_cases cj : j < qs.length
      · rw [show decide (((j : Nat) : Int) < ((ys.length : Nat) : Int)) = true from decide_eq_true (by omega)]
        refine iteT ?_
        refine ⟨_, fun σ' H' z => z, ?_⟩
        obtain ⟨p, hp⟩ : ∃ p, ps[i]? = some p := ⟨_, List.getElem?_eq_getElem ci⟩
        obtain ⟨q, hq⟩ : ∃ q, qs[j]? = some q := ⟨_, List.getElem?_eq_getElem cj⟩
        obtain ⟨vp, hvp, np⟩ := hps3.get hp
        obtain ⟨vq, hvq, nq⟩ := hqs3.get hq
        have gp := fp p (List.mem_of_getElem? hp)
        have gq := fq q (List.mem_of_getElem? hq)
        refine ⟨_, rfl, _, rfl, B, ys, _, _, rfl, rfl, .inl (.inl hB3), atI_nat hvq, _, rfl, _, rfl, A', xs, _, _, rfl, rfl, .inl (.inl hA3), atI_nat hvp, n_lt (fun i => turns_lt T.Exact_dn_int) nq np gq.nm gp.nm fun H4 e4 => ⟨_, rfl, ?_⟩⟩
        have e04 := e3.trans e4
        have eL4 := e4 _ _ eL
        have zl : zs.length < sizeLine := small1000 (by rw [hrs.len]; have := mg'.len; omega)
        have sm : ∀ {G : Hp} (o : HO), Same H G → Same H (upd G L o) := fun o g b o' e => by
          rw [upd_ne (ne_of_none e nL)]
          exact g _ _ e
        cases hlt : bLt q p with
        | true =>
          refine iteT ?_
          refine ⟨_, rfl, .inl ⟨rfl, zs, .inl (.inl eL4)⟩, _, rfl, _, rfl, B, ys, _, _, rfl, rfl, .inl (.inl (e4 _ _ hB3)), atI_nat hvq, L, zs, _, rfl, rfl, eL4, zl, ?_⟩
          refine ⟨_, rfl, _, _, rfl, rfl, ?_⟩
          refine ⟨(ps.length - i) + (qs.length - (j + 1)), by omega, i, j + 1, rfl, rfl, hi, by omega, sm _ e04, zs ++ [vq], rs ++ [q], upd_same, ((hrs.same e4).keepL eL4 (kp _)).snoc ((nq.same e4).keepL eL4 (kp _)), mg'.one ap aq hp hq ((lt_toQ gq.1 gp.1).mp hlt)⟩
        | false =>
          refine iteF ?_
          have nlt : ¬ toQ q < toQ p := fun z => by rw [(lt_toQ gq.1 gp.1).mpr z] at hlt; cases hlt
          refine ⟨_, rfl, _, rfl, A', xs, _, _, rfl, rfl, .inl (.inl (e4 _ _ hA3)), atI_nat hvp, _, rfl, _, rfl, B, ys, _, _, rfl, rfl, .inl (.inl (e4 _ _ hB3)), atI_nat hvq, n_eq (fun i => turns_eq T.Exact_dn_int) (np.same e4) (nq.same e4) fun H5 e5 => ⟨_, rfl, ?_⟩⟩
          have e35 := e4.trans e5
          have e05 := e3.trans e35
          have eL5 := e35 _ _ eL
          by_cases c : p = q
          · rw [decide_eq_true c]
            subst c
            refine iteT ?_
            refine ⟨_, rfl, _, _, rfl, rfl, ?_⟩
            refine ⟨_, rfl, .inl ⟨rfl, zs, .inl (.inl eL5)⟩, _, rfl, _, rfl, A', xs, _, _, rfl, rfl, .inl (.inl (e35 _ _ hA3)), atI_nat hvp, L, zs, _, rfl, rfl, eL5, zl, ?_⟩
            refine ⟨_, rfl, _, _, rfl, rfl, ?_⟩
            exact ⟨(ps.length - (i + 1)) + (qs.length - (j + 1)), by omega, i + 1, j + 1, rfl, rfl, by omega, by omega, sm _ e05, zs ++ [vp], rs ++ [p], upd_same, ((hrs.same e35).keepL eL5 (kp _)).snoc ((np.same e35).keepL eL5 (kp _)), mg'.both ap aq hp hq⟩
          · rw [decide_eq_false c]
            refine iteF ?_
            have lt : toQ p < toQ q := by
              have : toQ p ≠ toQ q := fun z => c (toQ_inj gp.1 gq.1 z)
              grind
            refine ⟨_, rfl, .inl ⟨rfl, zs, .inl (.inl eL5)⟩, _, rfl, _, rfl, A', xs, _, _, rfl, rfl, .inl (.inl (e35 _ _ hA3)), atI_nat hvp, L, zs, _, rfl, rfl, eL5, zl, ?_⟩
            refine ⟨_, rfl, _, _, rfl, rfl, ?_⟩
            exact ⟨(ps.length - (i + 1)) + (qs.length - j), by omega, i + 1, j, rfl, rfl, by omega, hj, sm _ e05, zs ++ [vp], rs ++ [p], upd_same, ((hrs.same e35).keepL eL5 (kp _)).snoc ((np.same e35).keepL eL5 (kp _)), ((mg'.swap).one aq ap hq hp lt).swap⟩
      · rw [show decide (((j : Nat) : Int) < ((ys.length : Nat) : Int)) = false from decide_eq_false (by omega)]
        exact iteF (fin (.inr (by omega)))
    · rw [show decide (((i : Nat) : Int) < ((xs.length : Nat) : Int)) = false from decide_eq_false (by omega)]
      exact iteF (fin (.inl (by omega)))
end



/-! ### rows, and where two courses cross -/
/-- a row in the heap -/
def RwAt (C : Addr) (H : Hp) (v : V) (r : Row) : Prop := ∃ t x y z, v = .ref t ∧ H t = some (.tup [x, y, z]) ∧ NumAt C H x r.1 ∧ NumAt C H y r.2.1 ∧ NumAt C H z r.2.2
theorem RwAt.same {C : Addr} {H H' : Hp} (s : Same H H') {v : V} {r : Row} (h : RwAt C H v r) : RwAt C H' v r := by
  obtain ⟨t, x, y, z, rfl, ht, h1, h2, h3⟩ := h
  exact ⟨t, x, y, z, rfl, s _ _ ht, h1.same s, h2.same s, h3.same s⟩
theorem RwAt.keepL {C : Addr} {H H' : Hp} {L : Addr} {ys : List V} (hL : H L = some (.lst ys)) (k : Keep L H H') {v : V} {r : Row} (h : RwAt C H v r) : RwAt C H' v r := by
  obtain ⟨t, x, y, z, rfl, ht, h1, h2, h3⟩ := h
  exact ⟨t, x, y, z, rfl, k _ _ ht (ne_of ht hL fun q => by cases q), h1.keepL hL k, h2.keepL hL k, h3.keepL hL k⟩
inductive RwAll (C : Addr) (H : Hp) : List V → List Row → Prop
  | nil : RwAll C H [] []
  | cons {v : V} {r : Row} {vs : List V} {rs : List Row} (h : RwAt C H v r) (t : RwAll C H vs rs) : RwAll C H (v :: vs) (r :: rs)
theorem RwAll.mono {C : Addr} {H H' : Hp} (f : ∀ v r, RwAt C H v r → RwAt C H' v r) : ∀ {vs : List V} {rs : List Row}, RwAll C H vs rs → RwAll C H' vs rs
  | _, _, .nil => .nil
  | _, _, .cons h t => .cons (f _ _ h) (t.mono f)
theorem RwAll.same {C : Addr} {H H' : Hp} (s : Same H H') {vs : List V} {rs : List Row} (h : RwAll C H vs rs) : RwAll C H' vs rs := h.mono fun _ _ z => z.same s
theorem RwAll.keepL {C : Addr} {H H' : Hp} {L : Addr} {ys : List V} (hL : H L = some (.lst ys)) (k : Keep L H H') {vs : List V} {rs : List Row} (h : RwAll C H vs rs) : RwAll C H' vs rs := h.mono fun _ _ z => z.keepL hL k
theorem RwAll.app {C : Addr} {H : Hp} : ∀ {vs us : List V} {ps qs : List Row}, RwAll C H vs ps → RwAll C H us qs → RwAll C H (vs ++ us) (ps ++ qs)
  | _, _, _, _, .nil, h => h
  | _, _, _, _, .cons a r, h => .cons a (r.app h)
theorem RwAll.len {C : Addr} {H : Hp} : ∀ {vs : List V} {rs : List Row}, RwAll C H vs rs → vs.length = rs.length
  | _, _, .nil => rfl
  | _, _, .cons _ r => congrArg (· + 1) r.len
theorem RwAll.at {C : Addr} {H : Hp} : ∀ {vs : List V} {rs : List Row} {i : Nat} {v : V}, RwAll C H vs rs → vs[i]? = some v → ∃ r, rs[i]? = some r ∧ RwAt C H v r
  | _, _, 0, _, .cons h _, e => ⟨_, rfl, (Option.some.inj e) ▸ h⟩
  | _, _, i + 1, _, .cons _ r, e => r.at (i := i) e
  | _, _, _, _, .nil, e => by simp at e
theorem RwAll.of {C : Addr} {H : Hp} : ∀ {vs : List V} {rs : List Row}, vs.length = rs.length → (∀ (j : Nat) (v : V) (r : Row), vs[j]? = some v → rs[j]? = some r → RwAt C H v r) → RwAll C H vs rs
  | [], [], _, _ => .nil
  | _ :: _, _ :: _, hl, h => .cons (h 0 _ _ rfl rfl) (RwAll.of (Nat.succ.inj hl) fun j v r a b => h (j + 1) v r a b)
  | [], _ :: _, hl, _ => by cases hl
  | _ :: _, [], hl, _ => by cases hl
theorem RwAll.drop {C : Addr} {H : Hp} : ∀ (k : Nat) {vs : List V} {ps : List Row}, RwAll C H vs ps → RwAll C H (vs.drop k) (ps.drop k)
  | 0, _, _, h => h
  | _ + 1, _, _, .nil => .nil
  | k + 1, _, _, .cons _ r => r.drop k
def FineRow (r : Row) : Prop := Fine r.1 ∧ Fine r.2.1 ∧ Fine r.2.2
def TyRow (r : Row) : Prop := Ty r.1 ∧ Sz 30 25 r.2.1 ∧ Sz 30 25 r.2.2
/-- whether two courses do not cross between two rows -/
def NoX (r r' : Row) : Prop := 0 ≤ (toQ r.2.1 - toQ r.2.2) * (toQ r'.2.1 - toQ r'.2.2)
theorem ge_zero {p : Int × Int} (h : Rd p) : bGe p (0, 1) = true ↔ 0 ≤ toQ p := by
  have := le_toQ (rd_int 0) h
  rw [show bGe p (0, 1) = bLe (0, 1) p from rfl, this, show toQ ((0 : Int), (1 : Int)) = 0 from Rat.zero_divInt _]
theorem nm_zero : Nm (0, 1) := ⟨by decide, sz_up (m := 1) (by decide) (by decide), sz_up (m := 1) (by decide) (by decide)⟩
section
variable {P : Program} {w : World} {K : PySem.W.Frag} {mg : Str → Option Value} {base : Heap}
def spCross (C : Addr) : Sp := fun vs H Q _ => ∃ v1 v2 r r', vs = [v1, v2] ∧ RwAt C H v1 r ∧ RwAt C H v2 r' ∧ FineRow r ∧ FineRow r' ∧
  (NoX r r' → ∀ M H', H M = none → Same H H' → H' M = some (.lst []) → Q (.ref M) H') ∧
  (¬ NoX r r' → TyRow r ∧ TyRow r' ∧ (subR (subR r.2.1 r.2.2) (subR r'.2.1 r'.2.2)).1 ≠ 0 ∧ ∀ M H' v, H M = none → Same H H' → H' M = some (.lst [v]) → RwAt C H' v (midR r r') → FineRow (midR r r') → Q (.ref M) H')
theorem ok_crossings (T : Tx K mg) : FnOk P w K mg base CX0 12 T.crossings_a T.crossings_d ["row", "following"] (spCross T.Exact_a) := by
  refine T.crossings_F.ok sc_crossings (fun vs H Q E h => ?_) (fun cdv A outer s H vs Q E hr h => ?_)
  · obtain ⟨v1, v2, r, r', rfl, _⟩ := h
    rfl
  · obtain ⟨v1, v2, r, r', rfl, h1, h2, ⟨f0, f1, f2⟩, ⟨g0, g1, g2⟩, kN, kX⟩ := h
    refine ⟨_, (pss_cons (ps_set (i := 2) sc_crossings.nd rfl (Or.inl rfl) (pe_op (op_sub.or ((op_gyD T.op_sub (ok_Exact_sub T) (hr.mono (by decide)) T.Exact_sub_b pass0).or (op_gyRsub T.op_sub (ok_Exact_rsub T) (hr.mono (by decide)) T.Exact_rsub_b pass0))) (pe_ix ix_tup (pv 0) pe_int (fun _ _ => rfl)) (pe_ix ix_tup (pv 0) pe_int (fun _ _ => rfl))))
  (pss_cons (ps_set (i := 3) sc_crossings.nd rfl (Or.inl rfl) (pe_op (op_sub.or ((op_gyD T.op_sub (ok_Exact_sub T) (hr.mono (by decide)) T.Exact_sub_b pass0).or (op_gyRsub T.op_sub (ok_Exact_rsub T) (hr.mono (by decide)) T.Exact_rsub_b pass0))) (pe_ix ix_tup (pv 1) pe_int (fun _ _ => rfl)) (pe_ix ix_tup (pv 1) pe_int (fun _ _ => rfl))))
  (pss_cons (ps_if (pt_cmpR (op_ge.or ((op_gyC (op := .GtE) (fun _ _ => rfl) T.Exact_ge_M.at_ T.Exact_ge_M.fn (ok_Exact_ge T) (hr.mono (by decide)) T.Exact_ge_b pass0).or (op_gyCR (op := .GtE) (fun _ _ => rfl) T.Exact_le_M.at_ T.Exact_le_M.fn (ok_Exact_le T) (hr.mono (by decide)) T.Exact_le_b pass0))) (pe_op (op_mulG.or ((op_gyD T.op_mul (ok_Exact_mul T) (hr.mono (by decide)) T.Exact_mul_b pass0).or (op_gyRmul T.op_mul (ok_Exact_rmul T) (hr.mono (by decide)) T.Exact_rmul_b pass0))) (pv 2) (pv 3)) pe_int (nomark _))
  (pss_one (ps_ret (pe_lst pa_nil)))
  pss_nil)
  (pss_cons (ps_set (i := 4) sc_crossings.nd rfl (Or.inl rfl) (pe_call (ok_quotient T) (hr.mono (by decide)) rfl T.quotient_m T.quotient_F.kp T.quotient_b .nil pass0 (pa_cons (pv 2) (pa_cons (pe_op (op_sub.or ((op_gyD T.op_sub (ok_Exact_sub T) (hr.mono (by decide)) T.Exact_sub_b pass0).or (op_gyRsub T.op_sub (ok_Exact_rsub T) (hr.mono (by decide)) T.Exact_rsub_b pass0))) (pv 2) (pv 3)) pa_nil))))
  (pss_cons (ps_set (i := 5) sc_crossings.nd rfl (Or.inl rfl) (pe_op (op_add.or ((op_gyD T.op_add (ok_Exact_add T) (hr.mono (by decide)) T.Exact_add_b pass0).or (op_gyRadd T.op_add (ok_Exact_radd T) (hr.mono (by decide)) T.Exact_radd_b pass0))) (pe_ix ix_tup (pv 0) pe_int (fun _ _ => rfl)) (pe_op (op_mulG.or ((op_gyD T.op_mul (ok_Exact_mul T) (hr.mono (by decide)) T.Exact_mul_b pass0).or (op_gyRmul T.op_mul (ok_Exact_rmul T) (hr.mono (by decide)) T.Exact_rmul_b pass0))) (pv 4) (pe_op (op_sub.or ((op_gyD T.op_sub (ok_Exact_sub T) (hr.mono (by decide)) T.Exact_sub_b pass0).or (op_gyRsub T.op_sub (ok_Exact_rsub T) (hr.mono (by decide)) T.Exact_rsub_b pass0))) (pe_ix ix_tup (pv 1) pe_int (fun _ _ => rfl)) (pe_ix ix_tup (pv 0) pe_int (fun _ _ => rfl))))))
  (pss_one (ps_ret (pe_lst (pa_cons (pe_tup (pa_cons (pe_op (op_add.or ((op_gyD T.op_add (ok_Exact_add T) (hr.mono (by decide)) T.Exact_add_b pass0).or (op_gyRadd T.op_add (ok_Exact_radd T) (hr.mono (by decide)) T.Exact_radd_b pass0))) (pe_ix ix_tup (pv 0) pe_int (fun _ _ => rfl)) (pe_op (op_mulG.or ((op_gyD T.op_mul (ok_Exact_mul T) (hr.mono (by decide)) T.Exact_mul_b pass0).or (op_gyRmul T.op_mul (ok_Exact_rmul T) (hr.mono (by decide)) T.Exact_rmul_b pass0))) (pv 4) (pe_op (op_sub.or ((op_gyD T.op_sub (ok_Exact_sub T) (hr.mono (by decide)) T.Exact_sub_b pass0).or (op_gyRsub T.op_sub (ok_Exact_rsub T) (hr.mono (by decide)) T.Exact_rsub_b pass0))) (pe_ix ix_tup (pv 1) pe_int (fun _ _ => rfl)) (pe_ix ix_tup (pv 0) pe_int (fun _ _ => rfl))))) (pa_cons (pv 5) (pa_cons (pv 5) pa_nil)))) pa_nil))))))))), ?_⟩
    obtain ⟨t1, x1, y1, z1, rfl, ht1, hx1, hy1, hz1⟩ := h1
    obtain ⟨t2, x2, y2, z2, rfl, ht2, hx2, hy2, hz2⟩ := h2
    have d1 := zz_sub 480 f1.sz f2.sz
    have d2 := zz_sub 480 g1.sz g2.sz
    have d3 := zz_mul d1 d2
    have q3 : toQ (mulR (subR r.2.1 r.2.2) (subR r'.2.1 r'.2.2)) = (toQ r.2.1 - toQ r.2.2) * (toQ r'.2.1 - toQ r'.2.2) := by
      rw [toQ_mul d1.1 d2.1, toQ_sub f1.1 f2.1, toQ_sub g1.1 g2.1]
    have ix : ∀ {G : Hp} {t : Addr} {a b c : V}, G t = some (.tup [a, b, c]) → SqT K G t [a, b, c] := fun h => .inl (.inl h)
    refine ⟨_, rfl, t1, _, 1, _, rfl, rfl, ix ht1, rfl, _, rfl, t1, _, 2, _, rfl, rfl, ix ht1, rfl, n_sub hy1 hz1 f1.nm f2.nm fun u1 H1 e1 w1 => ?_⟩
    refine ⟨_, rfl, t2, _, 1, _, rfl, rfl, ix (e1 _ _ ht2), rfl, _, rfl, t2, _, 2, _, rfl, rfl, ix (e1 _ _ ht2), rfl, n_sub (hy2.same e1) (hz2.same e1) g1.nm g2.nm fun u2 H2 e2 w2 => ?_⟩
    have e12 := e1.trans e2
    refine ⟨_, rfl, _, rfl, n_mul (w1.same e2) w2 d1.nm d2.nm fun u3 H3 e3 w3 => ?_⟩
    replace w1 : NumAt T.Exact_a H1 u1 (subR r.2.1 r.2.2) := w1
    replace w2 : NumAt T.Exact_a H2 u2 (subR r'.2.1 r'.2.2) := w2
    replace w3 : NumAt T.Exact_a H3 u3 (mulR (subR r.2.1 r.2.2) (subR r'.2.1 r'.2.2)) := w3
    refine n_ge (fun i => turns_ge T.Exact_dn_int) w3 (.inl ⟨rfl, rfl⟩) d3.nm nm_zero fun H4 e4 => ⟨_, rfl, ?_⟩
    have e34 := e3.trans e4
    have e14 := e12.trans e34
    have sm : ∀ {G G' : Hp} {p : Addr} {o : HO}, Same G G' → G' p = none → Same G (upd G' p o) := fun g n => g.trans (same_upd n)
    by_cases c : NoX r r'
    · rw [show bGe (mulR (subR r.2.1 r.2.2) (subR r'.2.1 r'.2.2)) (0, 1) = true from (ge_zero d3.1).mpr (by rw [q3]; exact c)]
      exact iteT ⟨(by show 0 ≤ sizeLine; decide), fun M nM => kN c M _ (e14.free nM) (sm e14 nM) upd_same⟩
    rw [show bGe (mulR (subR r.2.1 r.2.2) (subR r'.2.1 r'.2.2)) (0, 1) = false from by
      cases z : bGe (mulR (subR r.2.1 r.2.2) (subR r'.2.1 r'.2.2)) (0, 1) with
      | false => rfl
      | true => exact absurd (show NoX r r' by unfold NoX; rw [← q3]; exact (ge_zero d3.1).mp z) c]
    refine iteF ?_
    obtain ⟨⟨y0, y1', y2⟩, ⟨z0, z1', z2⟩, h0, k⟩ := kX c
    have b1 := zz_sub 55 y1' y2
    have b2 := zz_sub 55 z1' z2
    have b3 := zz_sub 106 b1 b2
    have b4 := zz_div b1 b3 h0
    have b5 := zz_sub 55 z1' y1'
    have b6 := zz_mul b4 b5
    have b7 := zz_add 237 y1' b6
    have b8 := zz_sub 9 z0 y0
    have b9 := zz_mul b4 b8
    have b10 := zz_add 169 y0 b9
    refine ⟨_, rfl, _, rfl, _, rfl, n_sub (w1.same (e2.trans e34)) (w2.same e34) b1.nm b2.nm fun u4 H5 e5 w4 => ?_⟩
    have e25 := (e2.trans e34).trans e5
    have e15 := e14.trans e5
    refine ⟨_, _, _, _, rfl, w1.same e25, w4, b1.1, b1.nm, b3.nm, h0, fun u5 H6 e6 w5 => ?_⟩
    have e16 := e15.trans e6
    replace w5 : ToldAt T.Exact_a H6 u5 (divR (subR r.2.1 r.2.2) (subR (subR r.2.1 r.2.2) (subR r'.2.1 r'.2.2))) := w5
    refine ⟨_, rfl, t1, _, 1, _, rfl, rfl, ix (e16 _ _ ht1), rfl, _, rfl, _, rfl, t2, _, 1, _, rfl, rfl, ix (e16 _ _ ht2), rfl, _, rfl, t1, _, 1, _, rfl, rfl, ix (e16 _ _ ht1), rfl,
      n_sub (hy2.same e16) (hy1.same e16) g1.nm f1.nm fun u6 H7 e7 w6 => n_mul (w5.num.same e7) w6 b4.nm b5.nm fun u7 H8 e8 w7 => n_add (hy1.same (e16.trans (e7.trans e8))) w7 f1.nm b6.nm fun u8 H9 e9 w8 => ?_⟩
    have e69 := (e7.trans e8).trans e9
    have e19 := e16.trans e69
    refine ⟨_, rfl, t1, _, 0, _, rfl, rfl, ix (e19 _ _ ht1), rfl, _, rfl, _, rfl, t2, _, 0, _, rfl, rfl, ix (e19 _ _ ht2), rfl, _, rfl, t1, _, 0, _, rfl, rfl, ix (e19 _ _ ht1), rfl,
      n_sub (hx2.same e19) (hx1.same e19) g0.nm f0.nm fun u9 H10 e10 w9 => n_mul (w5.num.same (e69.trans e10)) w9 b4.nm b8.nm fun ua H11 e11 wa => n_add (hx1.same (e19.trans (e10.trans e11))) wa f0.nm b9.nm fun ub H12 e12' wb => ?_⟩
    have e912 := (e10.trans e11).trans e12'
    have e112 := e19.trans e912
    refine ⟨_, rfl, _, rfl, (by show 3 ≤ sizeLine; decide), fun Tp nT => ?_⟩
    have e13 : Same H12 (upd H12 Tp (.tup [ub, u8, u8])) := same_upd nT
    have hTp : (upd H12 Tp (.tup [ub, u8, u8])) Tp = some (.tup [ub, u8, u8]) := upd_same
    generalize upd H12 Tp (.tup [ub, u8, u8]) = H13 at e13 hTp ⊢
    refine ⟨(by show 1 ≤ sizeLine; decide), fun M nM => ?_⟩
    have eM : Same H13 (upd H13 M (.lst [.ref Tp])) := same_upd nM
    have hM : (upd H13 M (.lst [.ref Tp])) M = some (.lst [.ref Tp]) := upd_same
    generalize upd H13 M (.lst [.ref Tp]) = H14 at eM hM ⊢
    have e1214 := e13.trans eM
    refine k M H14 (.ref Tp) ((e112.trans e13).free nM) (e112.trans e1214) hM ⟨Tp, ub, u8, u8, rfl, eM _ _ hTp, wb.same e1214, w8.same (e912.trans e1214), w8.same (e912.trans e1214)⟩ ⟨b10.fine, b7.fine, b7.fine⟩
end

/-! ### the ends of lines, two lines of the same ends -/
section
variable {P : Program} {w : World} {K : PySem.W.Frag} {mg : Str → Option Value} {base : Heap}
/-- the ends of a line's moments -/
def endsOf (qs : List Pt) : Option ((Int × Int) × (Int × Int)) := match qs.head?, qs.getLast? with
  | some a, some b => some (a.1, b.1)
  | _, _ => none
def spSpans (L C : Addr) : Sp := fun vs H Q _ => ∃ l a b qs p q s e, vs = [l, a, b] ∧ LineAt L C H l qs ∧ endsOf qs = some (s, e) ∧ NumAt C H a p ∧ NumAt C H b q ∧ ∀ H', Same H H' → Q (.bl (decide (s = p) && decide (e = q))) H'
theorem ends_at {qs : List Pt} {s e : Int × Int} (h : endsOf qs = some (s, e)) : qs ≠ [] ∧ (∃ a, qs.head? = some a ∧ a.1 = s) ∧ ∃ b, qs.getLast? = some b ∧ b.1 = e := by
  unfold endsOf at h
  split at h
  · rename_i a b h1 h2
    cases h
    exact ⟨fun z => (by rw [z] at h1; cases h1), ⟨a, h1, rfl⟩, b, h2, rfl⟩
  · cases h
theorem ok_spans (T : Tx K mg) : FnOk P w K mg base CX0 8 T.spans_a T.spans_d ["line", "start", "end"] (spSpans T.Line_a T.Exact_a) := by
  refine T.spans_F.ok sc_spans (fun vs H Q E h => ?_) (fun cdv A outer s H vs Q E hr h => ?_)
  · obtain ⟨l, a, b, qs, p, q, s, e, rfl, _⟩ := h
    rfl
  · obtain ⟨l, a, b, qs, p, q, st, en, rfl, hl, he, ha, hb, k⟩ := h
    refine ⟨_, (pss_one (ps_ret (pe_and (pe_cmpR (op_eq.or ((op_gyC (op := .Eq) (fun _ _ => rfl) T.Exact_eq_M.at_ T.Exact_eq_M.fn (ok_Exact_eq T) (hr.mono (by decide)) T.Exact_eq_b pass0).or (op_gyCR (op := .Eq) (fun _ _ => rfl) T.Exact_eq_M.at_ T.Exact_eq_M.fn (ok_Exact_eq T) (hr.mono (by decide)) T.Exact_eq_b pass0))) (pe_ix ix_tup (pe_ix ix_list (pe_fld (pv 0) rfl) pe_int (fun _ _ => rfl)) pe_int (fun _ _ => rfl)) (pv 1) (nomark _)) (pe_one (pe_cmpR (op_eq.or ((op_gyC (op := .Eq) (fun _ _ => rfl) T.Exact_eq_M.at_ T.Exact_eq_M.fn (ok_Exact_eq T) (hr.mono (by decide)) T.Exact_eq_b pass0).or (op_gyCR (op := .Eq) (fun _ _ => rfl) T.Exact_eq_M.at_ T.Exact_eq_M.fn (ok_Exact_eq T) (hr.mono (by decide)) T.Exact_eq_b pass0))) (pe_ix ix_tup (pe_ix ix_list (pe_fld (pv 0) rfl) (pe_un (un_neg) pe_int) (fun _ _ => rfl)) pe_int (fun _ _ => rfl)) (pv 2) (nomark _)))))), ?_⟩
    obtain ⟨hne, ⟨pa, h1, rfl⟩, pb, h2, rfl⟩ := ends_at he
    obtain ⟨x, dx, sa, ys, rfl, hx, hs, hsp⟩ := hl
    obtain ⟨v1, s1, i1, d1, hs1⟩ := hsp.first hne
    obtain ⟨v2, s2, i2, _, d2, hs2⟩ := hsp.last hne
    rw [d1] at h1
    have eq1 := Option.some.inj h1
    subst eq1
    rw [d2] at h2
    have eq2 := Option.some.inj h2
    subst eq2
    obtain ⟨⟨t1, a1, b1, rfl, e1, f1, _⟩, _, _⟩ := id hs1
    obtain ⟨⟨t2, a2, b2, rfl, e2, f2, _⟩, _, _⟩ := id hs2
    refine ⟨_, rfl, x, T.Line_a, dx, _, _, rfl, hx, T.Line_cl, T.Line_n_spots, sp_look, sa, ys, 0, _, rfl, rfl, .inl (.inl hs), i1, t1, _, 0, _, rfl, rfl, .inl (.inl e1), rfl, _, rfl, n_eq (fun i => turns_eq T.Exact_dn_int) f1.num ha fun H1 g1 => ⟨_, rfl, ?_⟩⟩
    cases c1 : decide (s1.1 = p) with
    | false =>
      have := k _ g1
      rw [c1, Bool.false_and] at this
      exact iteF this
    | true =>
      refine iteT ?_
      refine ⟨_, rfl, x, T.Line_a, dx, _, _, rfl, g1 _ _ hx, T.Line_cl, T.Line_n_spots, sp_look, _, rfl, sa, ys, -1, _, rfl, rfl, .inl (.inl (g1 _ _ hs)), i2, t2, _, 0, _, rfl, rfl, .inl (.inl (g1 _ _ e2)), rfl, _, rfl, n_eq (fun i => turns_eq T.Exact_dn_int) (f2.num.same g1) (hb.same g1) fun H2 g2 => ?_⟩
      have := k _ (g1.trans g2)
      rw [c1, Bool.true_and] at this
      exact this
/-- a line of the same ends -/
def spMatch (L C : Addr) : Sp := fun vs H Q _ => ∃ l v qs rs s e, vs = [l, v] ∧ LineAt L C H l qs ∧ endsOf qs = some (s, e) ∧ LineAt L C H v rs ∧ endsOf rs = some (s, e) ∧ ∀ H', Same H H' → Q (.bl true) H'
theorem ok_is_match (T : Tx K mg) : FnOk P w K mg base CX0 10 T.is_match_a T.is_match_d ["line", "other"] (spMatch T.Line_a T.Exact_a) := by
  refine T.is_match_F.ok sc_is_match (fun vs H Q E h => ?_) (fun cdv A outer s H vs Q E hr h => ?_)
  · obtain ⟨l, v, qs, rs, s, e, rfl, _⟩ := h
    rfl
  · obtain ⟨l, v, qs, rs, st, en, rfl, hl, he, hm, he', k⟩ := h
    refine ⟨_, (pss_one (ps_ret (pe_and (pe_callB call_isi (by rfl) T.z_isinstance (by decide +kernel) (pa_cons (pv 1) (pa_cons (pe_glob (v := .ref T.Line_a) rfl T.Line_m rfl) pa_nil))) (pe_one (pe_call (ok_spans T) (hr.mono (by decide)) rfl T.spans_m T.spans_F.kp T.spans_b .nil pass0 (pa_cons (pv 1) (pa_cons (pe_ix ix_tup (pe_ix ix_list (pe_fld (pv 0) rfl) pe_int (fun _ _ => rfl)) pe_int (fun _ _ => rfl)) (pa_cons (pe_ix ix_tup (pe_ix ix_list (pe_fld (pv 0) rfl) (pe_un (un_neg) pe_int) (fun _ _ => rfl)) pe_int (fun _ _ => rfl)) pa_nil)))))))), ?_⟩
    obtain ⟨y, dy, sb, zs, rfl, hy, hsb, hsq⟩ := id hm
    refine ⟨_, rfl, _, _, _, _, true, rfl, .own _, .base (.ins hy T.Line_cl T.Line_i1 T.Line_i2 T.Line_i3 T.Line_i4), T.Line_k0, true, rfl, iteT ?_⟩
    obtain ⟨hne0, ⟨pa, h1, rfl⟩, pb, h2, rfl⟩ := ends_at he
    obtain ⟨x, dx, sa, ys, rfl, hx, hs, hsp⟩ := hl
    obtain ⟨v1, s1, i1, d1, hs1⟩ := hsp.first hne0
    obtain ⟨v2, s2, i2, _, d2, hs2⟩ := hsp.last hne0
    rw [d1] at h1
    have eq1 := Option.some.inj h1
    subst eq1
    rw [d2] at h2
    have eq2 := Option.some.inj h2
    subst eq2
    obtain ⟨⟨t1, a1, b1, rfl, e1, f1, _⟩, _, _⟩ := id hs1
    obtain ⟨⟨t2, a2, b2, rfl, e2, f2, _⟩, _, _⟩ := id hs2
    refine ⟨_, rfl, _, rfl, x, T.Line_a, dx, _, _, rfl, hx, T.Line_cl, T.Line_n_spots, sp_look, sa, ys, 0, _, rfl, rfl, .inl (.inl hs), i1, t1, _, 0, _, rfl, rfl, .inl (.inl e1), rfl,
      _, rfl, x, T.Line_a, dx, _, _, rfl, hx, T.Line_cl, T.Line_n_spots, sp_look, _, rfl, sa, ys, -1, _, rfl, rfl, .inl (.inl hs), i2, t2, _, 0, _, rfl, rfl, .inl (.inl e2), rfl, ?_⟩
    refine ⟨_, _, _, rs, s1.1, s2.1, s1.1, s2.1, rfl, hm, he', f1.num, f2.num, fun H' g => ?_⟩
    rw [decide_eq_true (p := s1.1 = s1.1) rfl, decide_eq_true (p := s2.1 = s2.1) rfl]
    exact k _ g
end
theorem ends_of {qs rs : List Pt} {a b : Rat} (h : Ends qs a b) (g : Ends rs a b) : ∃ s e, endsOf qs = some (s, e) ∧ endsOf rs = some (s, e) := by
  obtain ⟨p, hp, e1⟩ := h.hd
  obtain ⟨q, hq, e2⟩ := h.ls
  obtain ⟨p', hp', e1'⟩ := g.hd
  obtain ⟨q', hq', e2'⟩ := g.ls
  have i1 : p'.1 = p.1 := toQ_inj (g.fa _ (List.mem_of_head? hp')).1 (h.fa _ (List.mem_of_head? hp)).1 (by rw [e1, e1'])
  have i2 : q'.1 = q.1 := toQ_inj (g.fa _ (List.mem_of_getLast? hq')).1 (h.fa _ (List.mem_of_getLast? hq)).1 (by rw [e2, e2'])
  refine ⟨p.1, q.1, ?_, ?_⟩
  · unfold endsOf
    rw [hp, hq]
  · unfold endsOf
    rw [hp', hq']
    show some (p'.1, q'.1) = _
    rw [i1, i2]
theorem Ends.bnd {l : List Pt} {a b : Rat} (h : Ends l a b) : ∀ x ∈ l, a ≤ toQ x.1 ∧ toQ x.1 ≤ b := fun x hx => by
  obtain ⟨p, hp, rfl⟩ := h.hd
  obtain ⟨q, hq, rfl⟩ := h.ls
  obtain ⟨i, hi⟩ := List.mem_iff_getElem?.mp hx
  have hil := (List.getElem?_eq_some_iff.mp hi).1
  refine ⟨?_, ?_⟩
  · rw [List.head?_eq_getElem?] at hp
    rcases Nat.eq_zero_or_pos i with z | z
    · rw [z, hp] at hi
      cases hi
      exact Rat.le_refl
    · have := up_at h.up z hp hi
      grind
  · rw [List.getLast?_eq_getElem?] at hq
    rcases Nat.lt_or_ge i (l.length - 1) with z | z
    · have := up_at h.up z hi hq
      grind
    · have : i = l.length - 1 := by omega
      rw [this, hq] at hi
      cases hi
      exact Rat.le_refl
/-- two lines to be put together -/
structure Two (L C : Addr) (H : Hp) (l o : V) (qs rs : List Pt) (f g : Rat → Rat) (a b : Rat) : Prop where
  l1 : LineAt L C H l qs
  l2 : LineAt L C H o rs
  e1 : Ends qs a b
  e2 : Ends rs a b
  g1 : Gr qs f a b
  g2 : Gr rs g a b
  n1 : qs.length ≤ 100
  n2 : rs.length ≤ 100
  kn : ∀ x, x ∈ qs.map Prod.fst ∨ x ∈ rs.map Prod.fst → (∃ y, Fine y ∧ toQ y = f (toQ x)) ∧ ∃ y, Fine y ∧ toQ y = g (toQ x)
  cr : (∀ m, f m ≤ g m) ∨ ∀ x, x ∈ qs.map Prod.fst ∨ x ∈ rs.map Prod.fst → Ty x ∧ (∀ y, Rd y → toQ y = f (toQ x) → Sz 30 25 y) ∧ ∀ y, Rd y → toQ y = g (toQ x) → Sz 30 25 y
theorem Two.same {L C : Addr} {H H' : Hp} {l o : V} {qs rs : List Pt} {f g : Rat → Rat} {a b : Rat} (s : Same H H') (h : Two L C H l o qs rs f g a b) : Two L C H' l o qs rs f g a b :=
  ⟨h.l1.same s, h.l2.same s, h.e1, h.e2, h.g1, h.g2, h.n1, h.n2, h.kn, h.cr⟩
/-- the rows of two lines -/
structure Rows (f g : Rat → Rat) (a b : Rat) (F : List Row) : Prop where
  ok : ∃ r r0, Good f g F r ∧ F.head? = some r0 ∧ toQ r0.1 = a ∧ toQ r.1 = b
  fine : ∀ x ∈ F, FineRow x
theorem pick {P : Int × Int → Int × Int → Prop} : ∀ {ms : List (Int × Int)}, (∀ x ∈ ms, ∃ y, P x y) → ∃ hs : List (Int × Int), hs.length = ms.length ∧ ∀ (i : Nat) (p h : Int × Int), ms[i]? = some p → hs[i]? = some h → P p h
  | [], _ => ⟨[], rfl, fun i p h e => by simp at e⟩
  | x :: l, hp => by
    obtain ⟨y, hy⟩ := hp x List.mem_cons_self
    obtain ⟨hs, hl, hh⟩ := pick (ms := l) fun z hz => hp z (List.mem_cons_of_mem _ hz)
    refine ⟨y :: hs, by rw [List.length_cons, List.length_cons, hl], fun i p h e1 e2 => ?_⟩
    cases i with
    | zero => cases e1; cases e2; exact hy
    | succ i => exact hh i p h e1 e2



/-! ### two lines beside each other -/
theorem SpAll.fine {C : Addr} {H : Hp} : ∀ {vs : List V} {ps : List Pt}, SpAll C H vs ps → ∀ s ∈ ps, Fine s.1 ∧ Fine s.2
  | _, _, .cons h r, s, hs => by
    rcases List.mem_cons.mp hs with z | z
    · rw [z]; exact ⟨h.f1, h.f2⟩
    · exact r.fine s z
/-- rows out of moments and heights -/
def zipR (ms hs1 hs2 : List (Int × Int)) : List Row := ms.zip (hs1.zip hs2)
theorem zipR_at {ms hs1 hs2 : List (Int × Int)} {i : Nat} {r : Row} (h : (zipR ms hs1 hs2)[i]? = some r) : ms[i]? = some r.1 ∧ hs1[i]? = some r.2.1 ∧ hs2[i]? = some r.2.2 := by
  unfold zipR at h
  rw [List.getElem?_zip_eq_some, List.getElem?_zip_eq_some] at h
  exact h
theorem zipR_len {ms hs1 hs2 : List (Int × Int)} (h1 : hs1.length = ms.length) (h2 : hs2.length = ms.length) : (zipR ms hs1 hs2).length = ms.length := by
  unfold zipR
  rw [List.length_zip, List.length_zip]
  omega
section
variable {P : Program} {w : World} {K : PySem.W.Frag} {mg : Str → Option Value} {base : Heap}
def spBeside (L C : Addr) : Sp := fun vs H Q _ => ∃ l o qs rs f g a b, vs = [l, o] ∧ Two L C H l o qs rs f g a b ∧
  ∀ M H' xs F, H M = none → Same H H' → H' M = some (.lst xs) → RwAll C H' xs F → Rows f g a b F → F.length ≤ 2 * (qs.length + rs.length) → Q (.ref M) H'
theorem ok_beside (T : Tx K mg) : FnOk P w K mg base CX0 18 T.beside_a T.beside_d ["line", "other"] (spBeside T.Line_a T.Exact_a) := by
  refine T.beside_F.ok sc_beside (fun vs H Q E h => ?_) (fun cdv A outer s H vs Q E hr h => ?_)
  · obtain ⟨l, o, qs, rs, f, g, a, b, rfl, _⟩ := h
    rfl
  · obtain ⟨l, o, qs, rs, f, g, a, b, rfl, tw, k⟩ := h
    refine ⟨_, (pss_cons (ps_if (pt_not (pt_val (pe_call (ok_is_match T) (hr.mono (by decide)) rfl T.is_match_m T.is_match_F.kp T.is_match_b .nil pass0 (pa_cons (pv 0) (pa_cons (pv 1) pa_nil)))))
  (pss_one ps_never)
  pss_nil)
  (pss_cons (ps_set (i := 2) sc_beside.nd rfl (Or.inl rfl) (pe_call (ok_merged T) (hr.mono (by decide)) rfl T.merged_m T.merged_F.kp T.merged_b .nil pass0 (pa_cons (pe_call (ok_moments_of T) (hr.mono (by decide)) rfl T.moments_of_m T.moments_of_F.kp T.moments_of_b .nil pass0 (pa_cons (pe_fld (pv 0) rfl) pa_nil)) (pa_cons (pe_call (ok_moments_of T) (hr.mono (by decide)) rfl T.moments_of_m T.moments_of_F.kp T.moments_of_b .nil pass0 (pa_cons (pe_fld (pv 1) rfl) pa_nil)) pa_nil))))
  (pss_cons (ps_set (i := 3) sc_beside.nd rfl (Or.inl rfl) (pe_zip3L (by rfl) T.z_list (by rfl) T.z_zip (pa_cons (pv 2) (pa_cons (pe_call (ok_heights_at T) (hr.mono (by decide)) rfl T.heights_at_m T.heights_at_F.kp T.heights_at_b .nil pass0 (pa_cons (pe_fld (pv 0) rfl) (pa_cons (pv 2) pa_nil))) (pa_cons (pe_call (ok_heights_at T) (hr.mono (by decide)) rfl T.heights_at_m T.heights_at_F.kp T.heights_at_b .nil pass0 (pa_cons (pe_fld (pv 1) rfl) (pa_cons (pv 2) pa_nil))) pa_nil)))))
  (pss_cons (ps_set (i := 4) sc_beside.nd rfl (Or.inl rfl) (pe_lst (pa_cons (pe_ix ix_list (pv 3) pe_int (fun _ _ => rfl)) pa_nil)))
  (pss_cons (ps_for PassesOwn.never rfl (RZ.pi_zipA (by rfl) T.z_zip (pa_cons (pv 3) (pa_cons (pe_slice sl_list (pv 3) (po_some pe_int) po_none) pa_nil))) (pg_tup (by rfl) (pgs_cons (pg_name (i := 5) sc_beside.nd rfl (Or.inl rfl)) (pgs_cons (pg_name (i := 6) sc_beside.nd rfl (Or.inl rfl)) pgs_nil)))
  (pss_cons (ps_expr (pe_bm PySem.F.plainAttrs_list PySem.F.slot_list_extend PySem.F.type_list_extend mt_extend (pv 4) (pa_cons (pe_call (ok_crossings T) (hr.mono (by decide)) rfl T.crossings_m T.crossings_F.kp T.crossings_b .nil pass0 (pa_cons (pv 5) (pa_cons (pv 6) pa_nil))) pa_nil)))
  (pss_one (ps_expr (pe_bm PySem.F.plainAttrs_list PySem.F.slot_list_append PySem.F.type_list_append mt_append (pv 4) (pa_cons (pv 6) pa_nil))))))
  (pss_one (ps_ret (pv 4)))))))), ?_⟩
    obtain ⟨se, en, en1, en2⟩ := ends_of tw.e1 tw.e2
    have kn := tw.kn
    have cr := tw.cr
    have n1 := tw.n1
    have n2 := tw.n2
    refine ⟨_, rfl, _, rfl, _, _, qs, rs, se, en, rfl, tw.l1, en1, tw.l2, en2, fun H1 s1 => ⟨_, rfl, iteF ?_⟩⟩
    obtain ⟨x, dx, sa, xs, rfl, hx, hs, hsp⟩ := tw.l1.same s1
    obtain ⟨y, dy, sb, ys, rfl, hy, ht, htp⟩ := tw.l2.same s1
    have f1 := hsp.fine
    have f2 := htp.fine
    -- the moments
    refine ⟨_, rfl, x, T.Line_a, dx, _, _, rfl, hx, T.Line_cl, T.Line_n_spots, sp_look, sa, xs, qs, rfl, hs, hsp, by omega, fun M1 H2 m1 nM1 s2 eM1 hm1 => ?_⟩
    refine ⟨_, rfl, y, T.Line_a, dy, _, _, rfl, s2 _ _ hy, T.Line_cl, T.Line_n_spots, sp_look, sb, ys, rs, rfl, s2 _ _ ht, htp.same s2, by omega, fun M2 H3 m2 nM2 s3 eM2 hm2 => ?_⟩
    refine ⟨M1, M2, m1, m2, qs.map Prod.fst, rs.map Prod.fst, rfl, s3 _ _ eM1, eM2, hm1.same s3, hm2, List.pairwise_map.mpr tw.e1.up, List.pairwise_map.mpr tw.e2.up,
      (fun p hp => by obtain ⟨s, hs, rfl⟩ := List.mem_map.mp hp; exact (f1 s hs).1), (fun p hp => by obtain ⟨s, hs, rfl⟩ := List.mem_map.mp hp; exact (f2 s hs).1), by rw [List.length_map]; omega, by rw [List.length_map]; omega, fun M H4 zs ms nM s4 eM hm asc mem len => ?_⟩
    rw [List.length_map, List.length_map] at len
    have s24 := (s2.trans s3).trans s4
    -- what is known of them
    have fm : ∀ p ∈ ms, Fine p := fun p hp => by
      rcases (mem p).mp hp with z | z
      · obtain ⟨s, hs, rfl⟩ := List.mem_map.mp z; exact (f1 s hs).1
      · obtain ⟨s, hs, rfl⟩ := List.mem_map.mp z; exact (f2 s hs).1
    have bm : ∀ p ∈ ms, a ≤ toQ p ∧ toQ p ≤ b := fun p hp => by
      rcases (mem p).mp hp with z | z
      · obtain ⟨s, hs, rfl⟩ := List.mem_map.mp z; exact tw.e1.bnd s hs
      · obtain ⟨s, hs, rfl⟩ := List.mem_map.mp z; exact tw.e2.bnd s hs
    obtain ⟨hs1, l1, k1⟩ := pick (ms := ms) fun p hp => (kn p ((mem p).mp hp)).1
    obtain ⟨hs2, l2, k2⟩ := pick (ms := ms) fun p hp => (kn p ((mem p).mp hp)).2
    have o1 : OnAll qs ms hs1 := ⟨l1.symm, fun i p h e1 e2 => by
      have hp := List.mem_of_getElem? e1
      obtain ⟨fh, eh⟩ := k1 i p h e1 e2
      refine ⟨fm p hp, fh, ?_⟩
      rw [eh]
      exact tw.g1 _ (bm p hp).1 (bm p hp).2⟩
    have o2 : OnAll rs ms hs2 := ⟨l2.symm, fun i p h e1 e2 => by
      have hp := List.mem_of_getElem? e1
      obtain ⟨fh, eh⟩ := k2 i p h e1 e2
      refine ⟨fm p hp, fh, ?_⟩
      rw [eh]
      exact tw.g2 _ (bm p hp).1 (bm p hp).2⟩
    have pw : ms.Pairwise (fun p q => toQ p ≤ toQ q) := asc.imp fun h => by grind
    -- the rows
    refine ⟨_, rfl, _, rfl, x, T.Line_a, dx, _, _, rfl, s24 _ _ hx, T.Line_cl, T.Line_n_spots, sp_look, _, rfl, sa, M, xs, zs, qs, ms, hs1, rfl, s24 _ _ hs, hsp.same s24, tw.e1.up, eM, hm, by omega, by omega, o1, pw, tw.e1.two, fun L1 H5 y1 nL1 s5 eL1 hh1 => ?_⟩
    have s25 := s24.trans s5
    refine ⟨_, rfl, y, T.Line_a, dy, _, _, rfl, s25 _ _ hy, T.Line_cl, T.Line_n_spots, sp_look, _, rfl, sb, M, ys, zs, rs, ms, hs2, rfl, s25 _ _ ht, htp.same s25, tw.e2.up, s5 _ _ eM, hm.same s5, by omega, by omega, o2, pw, tw.e2.two, fun L2 H6 y2 nL2 s6 eL2 hh2 => ?_⟩
    have s56 := s5.trans s6
    have hm6 := hm.same s56
    have hh16 := hh1.same s6
    refine ⟨M, L1, L2, zs, y1, y2, rfl, .inl (.inl (s56 _ _ eM)), .inl (.inl (s6 _ _ eL1)), .inl (.inl eL2), by rw [hh1.len, hm.len, l1], by rw [hh2.len, hm.len, l2], fun S as H7 nS s7 las eS hat => ?_⟩
    have s17 := (s1.trans s24).trans (s56.trans s7)
    rw [hm.len] at las
    have hrows : RwAll T.Exact_a H7 (as.map V.ref) (zipR ms hs1 hs2) := RwAll.of (by rw [List.length_map, las, zipR_len l1 l2]) fun j v r e1 e2 => by
      rw [List.getElem?_map] at e1
      obtain ⟨t, et, rfl⟩ := Option.map_eq_some_iff.mp e1
      obtain ⟨_, _, x0, x1, x2, q0, q1, q2, ht⟩ := hat j t et
      obtain ⟨r0, r1, r2⟩ := zipR_at e2
      obtain ⟨p0, w0, u0⟩ := hm6.at q0
      obtain ⟨p1, w1, u1⟩ := hh16.at q1
      obtain ⟨p2, w2, u2⟩ := hh2.at q2
      rw [r0] at w0
      rw [r1] at w1
      rw [r2] at w2
      cases w0
      cases w1
      cases w2
      exact ⟨t, x0, x1, x2, rfl, ht, u0.same s7, u1.same s7, u2.same s7⟩
    generalize hrw : zipR ms hs1 hs2 = rws at hrows
    have lrw : rws.length = ms.length := by rw [← hrw, zipR_len l1 l2]
    have rowok : ∀ {i : Nat} {r : Row}, rws[i]? = some r → ms[i]? = some r.1 ∧ FineRow r ∧ RowOk f g r := fun {i r} e => by
      rw [← hrw] at e
      obtain ⟨r0, r1, r2⟩ := zipR_at e
      obtain ⟨g1, e1⟩ := k1 i _ _ r0 r1
      obtain ⟨g2, e2⟩ := k2 i _ _ r0 r2
      have fr := fm _ (List.mem_of_getElem? r0)
      exact ⟨r0, ⟨fr, g1, g2⟩, ⟨fr.1, g1.1, g2.1⟩, e1, e2⟩
    have adj : ∀ {i : Nat} {r r' : Row}, rws[i]? = some r → rws[i + 1]? = some r' → Adj0 f g r r' := fun {i r r'} e e' => by
      obtain ⟨m0, _⟩ := rowok e
      obtain ⟨m1, _⟩ := rowok e'
      obtain ⟨lt, no⟩ := asc_next asc m0 m1
      have b0 := bm _ (List.mem_of_getElem? m0)
      have b1 := bm _ (List.mem_of_getElem? m1)
      exact ⟨lt, lin_gr tw.e1 tw.g1 b0.1 lt b1.2 fun p hp => no _ ((mem _).mpr (.inl (List.mem_map.mpr ⟨p, hp, rfl⟩))), lin_gr tw.e2 tw.g2 b0.1 lt b1.2 fun p hp => no _ ((mem _).mpr (.inr (List.mem_map.mpr ⟨p, hp, rfl⟩)))⟩
    -- the ends
    obtain ⟨q0, hq0, ea⟩ := tw.e1.hd
    obtain ⟨q9, hq9, eb⟩ := tw.e1.ls
    have ma : q0.1 ∈ ms := (mem _).mpr (.inl (List.mem_map.mpr ⟨q0, List.mem_of_head? hq0, rfl⟩))
    have mb : q9.1 ∈ ms := (mem _).mpr (.inl (List.mem_map.mpr ⟨q9, List.mem_of_getLast? hq9, rfl⟩))
    have up : ∀ {i j : Nat} {p q : Int × Int}, i < j → ms[i]? = some p → ms[j]? = some q → toQ p < toQ q := fun {i j p q} hij e1 e2 => by
      obtain ⟨i1, e1⟩ := List.getElem?_eq_some_iff.mp e1
      obtain ⟨i2, e2⟩ := List.getElem?_eq_some_iff.mp e2
      have := List.pairwise_iff_getElem.mp asc i j i1 i2 hij
      rw [e1, e2] at this
      exact this
    have ab := tw.e1.lt
    have lm : 2 ≤ ms.length := by
      obtain ⟨i, hi⟩ := List.mem_iff_getElem?.mp ma
      obtain ⟨j, hj⟩ := List.mem_iff_getElem?.mp mb
      have h1 := (List.getElem?_eq_some_iff.mp hi).1
      have h2 := (List.getElem?_eq_some_iff.mp hj).1
      rcases Nat.eq_or_lt_of_le (show 1 ≤ ms.length by omega) with z | z
      · have : i = j := by omega
        rw [this, hj] at hi
        have e9 := Option.some.inj hi
        rw [← ea, ← eb, e9] at ab
        grind
      · exact z
    have first : ∀ {r : Row}, rws[0]? = some r → toQ r.1 = a := fun {r} e => by
      obtain ⟨m0, _⟩ := rowok e
      have := (bm _ (List.mem_of_getElem? m0)).1
      obtain ⟨i, hi⟩ := List.mem_iff_getElem?.mp ma
      rcases Nat.eq_zero_or_pos i with z | z
      · rw [z, m0] at hi
        rw [Option.some.inj hi]
        exact ea
      · have := up z m0 hi
        grind
    have last : ∀ {r : Row}, rws[ms.length - 1]? = some r → toQ r.1 = b := fun {r} e => by
      obtain ⟨m0, _⟩ := rowok e
      have := (bm _ (List.mem_of_getElem? m0)).2
      obtain ⟨i, hi⟩ := List.mem_iff_getElem?.mp mb
      have := (List.getElem?_eq_some_iff.mp hi).1
      rcases Nat.lt_or_ge i (ms.length - 1) with z | z
      · have := up z hi m0
        grind
      · have : i = ms.length - 1 := by omega
        rw [this, m0] at hi
        rw [Option.some.inj hi]
        exact eb
    obtain ⟨r0, hr0⟩ : ∃ r0, rws[0]? = some r0 := ⟨_, List.getElem?_eq_getElem (by omega)⟩
    obtain ⟨a0, ha0⟩ : ∃ a0, as[0]? = some a0 := ⟨_, List.getElem?_eq_getElem (by omega)⟩
    have hv0 : (as.map V.ref)[0]? = some (V.ref a0) := by rw [List.getElem?_map, ha0]; rfl
    obtain ⟨r0', hr0', hw0⟩ := hrows.at hv0
    rw [hr0] at hr0'
    cases hr0'
    -- found
    refine ⟨_, rfl, S, _, 0, _, rfl, rfl, .inl (.inl eS), atI_nat (j := 0) hv0, (by show 1 ≤ sizeLine; decide), fun D nD => ?_⟩
    have s8 : Same H7 (upd H7 D (.lst [.ref a0])) := same_upd nD
    have eD : (upd H7 D (.lst [.ref a0])) D = some (.lst [.ref a0]) := upd_same
    generalize upd H7 D (.lst [.ref a0]) = H8 at s8 eD ⊢
    refine ⟨_, rfl, _, rfl, _, rfl, S, _, rfl, .inl (.inl (s8 _ _ eS)), fun A1 nA1 => ?_⟩
    rw [show cutV (as.map V.ref) (some 1) none = (as.map V.ref).drop 1 from cutV_from _ 1]
    have s9 : Same H8 (upd H8 A1 (.lst ((as.map V.ref).drop 1))) := same_upd nA1
    have eA : (upd H8 A1 (.lst ((as.map V.ref).drop 1))) A1 = some (.lst ((as.map V.ref).drop 1)) := upd_same
    generalize upd H8 A1 (.lst ((as.map V.ref).drop 1)) = H9 at s9 eA ⊢
    have s79 := s8.trans s9
    have eD9 := s9 _ _ eD
    have eS9 := s79 _ _ eS
    have nSD : S ≠ D := ne_of_none eS nD
    have nAD : A1 ≠ D := Ne.symm (ne_of_none eD nA1)
    have hrows9 := hrows.same s79
    have nZ : as.length - 1 = min (as.map V.ref).length ((as.map V.ref).drop 1).length := by
      rw [List.length_drop, List.length_map]
      omega
    refine ⟨S, A1, as.map V.ref, (as.map V.ref).drop 1, rfl, .inl ⟨.inl (.inl eS9), .inl (.inl eA), for_it (walk_zip (K := K) (a := S) (b := A1) nZ) (fun i σ H' => (∃ v2 v3, σ = [some (.ref x), some (.ref y), some (.ref M), some (.ref S), some (.ref D), v2, v3]) ∧ Keep D H9 H' ∧ ∃ us F r, H' D = some (.lst us) ∧ RwAll T.Exact_a H' us F ∧ Good f g F r ∧ rws[i]? = some r ∧ F.head? = some r0 ∧ (∀ x ∈ F, FineRow x) ∧ F.length ≤ 2 * i + 1)
      ⟨⟨none, none, rfl⟩, Keep.refl _ _, [.ref a0], [r0], r0, eD9, .cons (hw0.same s79) .nil, .one (rowok hr0).2.2, hr0, rfl, (fun x hx => by rw [List.mem_singleton.mp hx]; exact (rowok hr0).2.1), Nat.le_refl _⟩ (fun i σ H' _ e => ⟨.inl (.inl (e.2.1 _ _ eS9 nSD)), .inl (.inl (e.2.1 _ _ eA nAD))⟩) ?_ ?_⟩⟩
    · rintro i x1 σ H' H10 hi ⟨⟨v2, v3, rfl⟩, kp, us, F, r, eD', hus, good, hri, hhd, fine, lenF⟩ ⟨Tp, u1, u2, rfl, nT, rfl, hu1, hu2⟩
      have s10 := same_upd (o := .tup [u1, u2]) nT
      refine ⟨Tp, _, rfl, .inl (.inl upd_same), rfl, _, _, rfl, _, _, rfl, rfl, ?_⟩
      generalize upd H' Tp (.tup [u1, u2]) = H10 at s10 ⊢
      have hrowsK := hrows9.keepL eD9 kp
      obtain ⟨ra, hra, hw1⟩ := hrowsK.at hu1
      rw [hri] at hra
      cases hra
      obtain ⟨r', hr', hw2⟩ := hrowsK.at (i := i + 1) (v := u2) (by have hu2 : ((as.map V.ref).drop 1)[i]? = some u2 := hu2; rw [List.getElem?_drop, Nat.add_comm] at hu2; exact hu2)
      have ad := adj hri hr'
      obtain ⟨_, fr, ro⟩ := rowok hri
      obtain ⟨_, fr', ro'⟩ := rowok hr'
      have eD10 := s10 _ _ eD'
      have il : i + 1 < ms.length := by rw [← lrw]; exact (List.getElem?_eq_some_iff.mp hr').1
      have small : ∀ {n : Nat}, n ≤ 900 → n < sizeLine := fun h => small1000 (by omega)
      -- put the row behind
      have put : ∀ (H11 : Hp) (us' : List V) (F' : List Row) (rm : Row), Keep D H10 H11 → H11 D = some (.lst us') → RwAll T.Exact_a H11 us' F' → Good f g F' rm → Adj f g rm r' → F'.head? = some r0 → (∀ x ∈ F', FineRow x) → F'.length ≤ 2 * i + 2 →
          tDrop (tBM K "list" rAppend (tVar 4) (tCons (tVar 6) tNil))
            { nx := fun σ H' => (∃ v2 v3, σ = [some (.ref x), some (.ref y), some (.ref M), some (.ref S), some (.ref D), v2, v3]) ∧ Keep D H9 H' ∧ ∃ us F r, H' D = some (.lst us) ∧ RwAll T.Exact_a H' us F ∧ Good f g F r ∧ rws[i + 1]? = some r ∧ F.head? = some r0 ∧ (∀ x ∈ F, FineRow x) ∧ F.length ≤ 2 * (i + 1) + 1, rt := Q } [some (.ref x), some (.ref y), some (.ref M), some (.ref S), some (.ref D), some u1, some u2] H11 := fun H11 us' F' rm k11 e11 h11 g11 a11 hh11 f11 l11 => by
        refine ⟨_, rfl, .inl ⟨rfl, us', .inl (.inl e11)⟩, _, rfl, D, us', _, rfl, rfl, e11, small (by rw [h11.len]; omega), ?_⟩
        have kpu : ∀ o, Keep D H11 (upd H11 D o) := fun o b o' e n => (upd_ne n).trans e
        have w2' : RwAt T.Exact_a H11 u2 r' := (hw2.same s10).keepL eD10 k11
        refine ⟨⟨_, _, rfl⟩, fun b o e n => kpu _ _ _ (k11 _ _ (s10 _ _ (kp _ _ e n)) n) n, us' ++ [u2], F' ++ [r'], r', upd_same, (h11.keepL e11 (kpu _)).app (.cons (w2'.keepL e11 (kpu _)) .nil), .more g11 a11 ro', hr', ?_, ?_, ?_⟩
        · rw [List.head?_append, hh11]; rfl
        · intro z hz
          rcases List.mem_append.mp hz with z' | z'
          · exact f11 z z'
          · rw [List.mem_singleton.mp z']; exact fr'
        · rw [List.length_append, List.length_singleton]
          omega
      refine ⟨_, rfl, .inl ⟨rfl, us, .inl (.inl eD10)⟩, _, rfl, _, rfl, u1, u2, r, r', rfl, hw1.same s10, hw2.same s10, fr, fr', fun hn Mx H11 nMx s11 eMx => ?_, fun hn => ?_⟩
      · have eD11 := s11 _ _ eD10
        refine ⟨D, Mx, us, [], rfl, rfl, eD11, eMx, Nat.le_of_lt (small (by rw [hus.len, List.length_nil]; omega)), ?_⟩
        rw [List.append_nil]
        have kpu : ∀ o, Keep D H11 (upd H11 D o) := fun o b o' e n => (upd_ne n).trans e
        exact put _ us F r (fun b o e n => kpu _ _ _ (s11 _ _ e) n) upd_same ((hus.same (s10.trans s11)).keepL eD11 (kpu _)) good ⟨ad, hn⟩ hhd fine (by omega)
      · obtain ⟨h0, okm, am1, am2⟩ := cross_ok ro ro' ad hn
        have ty : TyRow r ∧ TyRow r' := by
          rcases cr with z | z
          · refine absurd ?_ hn
            show 0 ≤ _ * _
            rw [ro.e1, ro.e2, ro'.e1, ro'.e2]
            have z1 := z (toQ r.1)
            have z2 := z (toQ r'.1)
            have := Rat.mul_nonneg (a := g (toQ r.1) - f (toQ r.1)) (b := g (toQ r'.1) - f (toQ r'.1)) (by grind) (by grind)
            grind
          · obtain ⟨t1, t2, t3⟩ := z _ ((mem _).mp (List.mem_of_getElem? (rowok hri).1))
            obtain ⟨t1', t2', t3'⟩ := z _ ((mem _).mp (List.mem_of_getElem? (rowok hr').1))
            exact ⟨⟨t1, t2 _ ro.rd.2.1 ro.e1, t3 _ ro.rd.2.2 ro.e2⟩, ⟨t1', t2' _ ro'.rd.2.1 ro'.e1, t3' _ ro'.rd.2.2 ro'.e2⟩⟩
        refine ⟨ty.1, ty.2, h0, fun Mx H11 v nMx s11 eMx hv fv => ?_⟩
        have eD11 := s11 _ _ eD10
        refine ⟨D, Mx, us, [v], rfl, rfl, eD11, eMx, Nat.le_of_lt (small (by rw [hus.len, List.length_singleton]; omega)), ?_⟩
        have kpu : ∀ o, Keep D H11 (upd H11 D o) := fun o b o' e n => (upd_ne n).trans e
        refine put _ (us ++ [v]) (F ++ [midR r r']) (midR r r') (fun b o e n => kpu _ _ _ (s11 _ _ e) n) upd_same (((hus.same (s10.trans s11)).keepL eD11 (kpu _)).app (.cons (hv.keepL eD11 (kpu _)) .nil)) (.more good am1 okm) am2 ?_ ?_ ?_
        · rw [List.head?_append, hhd]; rfl
        · intro z hz
          rcases List.mem_append.mp hz with z' | z'
          · exact fine z z'
          · rw [List.mem_singleton.mp z']; exact fv
        · rw [List.length_append, List.length_singleton]
          omega
    · rintro σ H' ⟨⟨v2, v3, rfl⟩, kp, us, F, r, eD', hus, good, hri, hhd, fine, lenF⟩
      have e1 : as.length - 1 = ms.length - 1 := by rw [las]
      rw [e1] at hri
      have nDH : ∀ {b o}, H b = some o → b ≠ D := fun e => ne_of_none (s17 _ _ e) nD
      refine ⟨_, rfl, k D H' us F (s17.free nD) (fun b o e => kp _ _ (s79 _ _ (s17 _ _ e)) (nDH e)) eD' hus ⟨⟨r, r0, good, hhd, first hr0, last hri⟩, fine⟩ ?_⟩
      rw [las] at lenF
      omega
end



/-! ### the lower and the upper line -/
def PnAt (C : Addr) (H : Hp) (v : V) (s : Pt) : Prop := ∃ a b, SeqQ H v [a, b] ∧ NumAt C H a s.1 ∧ NumAt C H b s.2 ∧ Fine s.1 ∧ Fine s.2
theorem PnAt.same {C : Addr} {H H' : Hp} {v : V} {s : Pt} (h : PnAt C H v s) (e : Same H H') : PnAt C H' v s := by
  obtain ⟨a, b, h1, h2, h3, h4, h5⟩ := h
  exact ⟨a, b, h1.same e, h2.same e, h3.same e, h4, h5⟩
inductive PnAll (C : Addr) (H : Hp) : List V → List Pt → Prop
  | nil : PnAll C H [] []
  | cons {v : V} {s : Pt} {vs : List V} {ps : List Pt} (h : PnAt C H v s) (r : PnAll C H vs ps) : PnAll C H (v :: vs) (s :: ps)
theorem PnAll.app {C : Addr} {H : Hp} : ∀ {vs us : List V} {ps qs : List Pt}, PnAll C H vs ps → PnAll C H us qs → PnAll C H (vs ++ us) (ps ++ qs)
  | _, _, _, _, .nil, h => h
  | _, _, _, _, .cons a r, h => .cons a (r.app h)
theorem PnAll.len {C : Addr} {H : Hp} : ∀ {vs : List V} {ps : List Pt}, PnAll C H vs ps → vs.length = ps.length
  | _, _, .nil => rfl
  | _, _, .cons _ r => congrArg (· + 1) r.len
theorem PnAll.hit {C : Addr} {H : Hp} : ∀ {vs : List V} {ps : List Pt}, PnAll C H vs ps → ∀ (i : Nat) (x : V) (s : Pt), vs[i]? = some x → ps[i]? = some s → PnAt C H x s
  | _, _, .cons h _, 0, _, _, e1, e2 => (Option.some.inj e1) ▸ (Option.some.inj e2) ▸ h
  | _, _, .cons _ r, i + 1, x, s, e1, e2 => r.hit i x s e1 e2
  | _, _, .nil, _, _, _, e1, _ => by simp at e1
theorem SpAll.pn {C : Addr} {H : Hp} : ∀ {vs : List V} {ps : List Pt}, SpAll C H vs ps → PnAll C H vs ps
  | _, _, .nil => .nil
  | _, _, .cons h r => by
    obtain ⟨⟨t, x, y, rfl, ht, hx, hy⟩, f1, f2⟩ := h
    exact .cons ⟨x, y, ⟨t, rfl, .inr ht⟩, hx.num, hy.num, f1, f2⟩ r.pn
theorem SpAll.front {C : Addr} {H : Hp} : ∀ {vs : List V} {ps : List Pt}, SpAll C H vs ps → SpAll C H vs.dropLast ps.dropLast
  | _, _, .nil => .nil
  | _, _, .cons _ .nil => .nil
  | _, _, .cons h (.cons h2 r) => .cons h (SpAll.front (.cons h2 r))
theorem cutV_front (xs : List V) : cutV xs none (some (-1)) = xs.dropLast := by
  unfold cutV
  rw [HT.sIx_none, List.drop_zero, List.dropLast_eq_take, Nat.sub_zero]
  have e : HT.sIx xs.length xs.length (some (-1)) = xs.length - 1 := by
    show (if (-1 : Int) < 0 then ((-1 : Int) + (xs.length : Int)).toNat else min (-1 : Int).toNat xs.length) = _
    rw [if_pos (by decide)]
    omega
  rw [e]

/-! ### numbers compared, whatever stands around -/
theorem OpR.imp {X : Cx} {f : Value → Value → Sem Value} {r r' : R2} (h : OpR X f r) (i : ∀ x y H Q, r' x y H Q → r x y H Q) : OpR X f r' := fun pins s σ H x y v u Q I rx ry z => h pins s σ H x y v u Q I rx ry (i _ _ _ _ z)
def rCmpN (C : Addr) (f : Int × Int → Int × Int → Bool) : R2 := fun x y H Q => ∃ a b, NumAt C H x a ∧ NumAt C H y b ∧ Nm a ∧ Nm b ∧ ∀ H', Same H H' → Q (.bl (f a b)) H'
theorem op_ltN {X : Cx} {C : Addr} {K : PySem.W.Frag} {mg : Str → Option Value} (T : Tx K mg) (eK : X.K = K) (em : X.mg = mg) (eC : T.Exact_a = C) (hr : Room 6 X.A) : OpR X (compareOp .Lt) (rCmpN C bLt) := by
  subst eK em eC
  exact OpR.imp (op_lt.or ((op_gyC (E := E0) (op := .Lt) (fun _ _ => rfl) T.Exact_lt_M.at_ T.Exact_lt_M.fn (ok_Exact_lt T) (hr.mono (by decide)) T.Exact_lt_b pass0).or (op_gyCR (E := E0) (op := .Lt) (fun _ _ => rfl) T.Exact_gt_M.at_ T.Exact_gt_M.fn (ok_Exact_gt T) (hr.mono (by decide)) T.Exact_gt_b pass0))) fun x y H Q ⟨a, b, hx, hy, na, nb, k⟩ => n_lt (fun i => turns_lt T.Exact_dn_int) hx hy na nb k
theorem op_leN {X : Cx} {C : Addr} {K : PySem.W.Frag} {mg : Str → Option Value} (T : Tx K mg) (eK : X.K = K) (em : X.mg = mg) (eC : T.Exact_a = C) (hr : Room 6 X.A) : OpR X (compareOp .LtE) (rCmpN C bLe) := by
  subst eK em eC
  exact OpR.imp (op_le.or ((op_gyC (E := E0) (op := .LtE) (fun _ _ => rfl) T.Exact_le_M.at_ T.Exact_le_M.fn (ok_Exact_le T) (hr.mono (by decide)) T.Exact_le_b pass0).or (op_gyCR (E := E0) (op := .LtE) (fun _ _ => rfl) T.Exact_ge_M.at_ T.Exact_ge_M.fn (ok_Exact_ge T) (hr.mono (by decide)) T.Exact_ge_b pass0))) fun x y H Q ⟨a, b, hx, hy, na, nb, k⟩ => n_le (fun i => turns_le T.Exact_dn_int) hx hy na nb k
theorem op_geN {X : Cx} {C : Addr} {K : PySem.W.Frag} {mg : Str → Option Value} (T : Tx K mg) (eK : X.K = K) (em : X.mg = mg) (eC : T.Exact_a = C) (hr : Room 6 X.A) : OpR X (compareOp .GtE) (rCmpN C bGe) := by
  subst eK em eC
  exact OpR.imp (op_ge.or ((op_gyC (E := E0) (op := .GtE) (fun _ _ => rfl) T.Exact_ge_M.at_ T.Exact_ge_M.fn (ok_Exact_ge T) (hr.mono (by decide)) T.Exact_ge_b pass0).or (op_gyCR (E := E0) (op := .GtE) (fun _ _ => rfl) T.Exact_le_M.at_ T.Exact_le_M.fn (ok_Exact_le T) (hr.mono (by decide)) T.Exact_le_b pass0))) fun x y H Q ⟨a, b, hx, hy, na, nb, k⟩ => n_ge (fun i => turns_ge T.Exact_dn_int) hx hy na nb k
def rEqN (C : Addr) : R2 := fun x y H Q => ∃ a b, NumAt C H x a ∧ NumAt C H y b ∧ ∀ H', Same H H' → Q (.bl (decide (a = b))) H'
theorem op_eqN {X : Cx} {C : Addr} {K : PySem.W.Frag} {mg : Str → Option Value} (T : Tx K mg) (eK : X.K = K) (em : X.mg = mg) (eC : T.Exact_a = C) (hr : Room 6 X.A) : OpR X (compareOp .Eq) (rEqN C) := by
  subst eK em eC
  exact OpR.imp (op_eq.or ((op_gyC (E := E0) (op := .Eq) (fun _ _ => rfl) T.Exact_eq_M.at_ T.Exact_eq_M.fn (ok_Exact_eq T) (hr.mono (by decide)) T.Exact_eq_b pass0).or (op_gyCR (E := E0) (op := .Eq) (fun _ _ => rfl) T.Exact_eq_M.at_ T.Exact_eq_M.fn (ok_Exact_eq T) (hr.mono (by decide)) T.Exact_eq_b pass0))) fun x y H Q ⟨a, b, hx, hy, k⟩ => n_eq (fun i => turns_eq T.Exact_dn_int) hx hy k

/-- a new pair of numbers -/
def TpAt (C : Addr) (H : Hp) (v : V) (s : Pt) : Prop := ∃ t a b, v = .ref t ∧ H t = some (.tup [a, b]) ∧ NumAt C H a s.1 ∧ NumAt C H b s.2 ∧ Fine s.1 ∧ Fine s.2
theorem TpAt.same {C : Addr} {H H' : Hp} {v : V} {s : Pt} (e : Same H H') (h : TpAt C H v s) : TpAt C H' v s := by
  obtain ⟨t, a, b, h0, h1, h2, h3, h4, h5⟩ := h
  exact ⟨t, a, b, h0, e _ _ h1, h2.same e, h3.same e, h4, h5⟩
theorem TpAt.keepL {C : Addr} {H H' : Hp} {L : Addr} {ys : List V} (hL : H L = some (.lst ys)) (k : Keep L H H') {v : V} {s : Pt} (h : TpAt C H v s) : TpAt C H' v s := by
  obtain ⟨t, a, b, h0, h1, h2, h3, h4, h5⟩ := h
  exact ⟨t, a, b, h0, k _ _ h1 (ne_of h1 hL fun q => by cases q), h2.keepL hL k, h3.keepL hL k, h4, h5⟩
inductive TpAll (C : Addr) (H : Hp) : List V → List Pt → Prop
  | nil : TpAll C H [] []
  | cons {v : V} {s : Pt} {vs : List V} {ps : List Pt} (h : TpAt C H v s) (r : TpAll C H vs ps) : TpAll C H (v :: vs) (s :: ps)
theorem TpAll.mono {C : Addr} {H H' : Hp} (f : ∀ v s, TpAt C H v s → TpAt C H' v s) : ∀ {vs : List V} {ps : List Pt}, TpAll C H vs ps → TpAll C H' vs ps
  | _, _, .nil => .nil
  | _, _, .cons h r => .cons (f _ _ h) (r.mono f)
theorem TpAll.snoc {C : Addr} {H : Hp} {v : V} {s : Pt} (h : TpAt C H v s) : ∀ {vs : List V} {ps : List Pt}, TpAll C H vs ps → TpAll C H (vs ++ [v]) (ps ++ [s])
  | _, _, .nil => .cons h .nil
  | _, _, .cons a r => .cons a (r.snoc h)
theorem TpAll.len {C : Addr} {H : Hp} : ∀ {vs : List V} {ps : List Pt}, TpAll C H vs ps → vs.length = ps.length
  | _, _, .nil => rfl
  | _, _, .cons _ r => congrArg (· + 1) r.len
theorem TpAll.pn {C : Addr} {H : Hp} : ∀ {vs : List V} {ps : List Pt}, TpAll C H vs ps → PnAll C H vs ps
  | _, _, .nil => .nil
  | _, _, .cons h r => by
    obtain ⟨t, x, y, rfl, ht, hx, hy, f1, f2⟩ := h
    exact .cons ⟨x, y, ⟨t, rfl, .inr ht⟩, hx, hy, f1, f2⟩ r.pn
section
variable {P : Program} {w : World} {K : PySem.W.Frag} {mg : Str → Option Value} {base : Heap}
def spLess (C : Addr) : Sp := fun vs H Q _ => ∃ x y a b, vs = [x, y] ∧ NumAt C H x a ∧ NumAt C H y b ∧ Fine a ∧ Fine b ∧ ∀ H', Same H H' → Q (if bLe a b = true then x else y) H'
def spGreat (C : Addr) : Sp := fun vs H Q _ => ∃ x y a b, vs = [x, y] ∧ NumAt C H x a ∧ NumAt C H y b ∧ Fine a ∧ Fine b ∧ ∀ H', Same H H' → Q (if bLe a b = true then y else x) H'
theorem ok_lesser (T : Tx K mg) : FnOk P w K mg base CX0 8 T.lesser_a T.lesser_d ["one", "other"] (spLess T.Exact_a) := by
  refine T.lesser_F.ok sc_lesser (fun vs H Q E h => ?_) (fun cdv A outer s H vs Q E hr h => ?_)
  · obtain ⟨x, y, a, b, rfl, _⟩ := h
    rfl
  · obtain ⟨x, y, a, b, rfl, hx, hy, fa, fb, k⟩ := h
    refine ⟨_, (pss_one (ps_ret (pe_ifExp (pt_cmpR (op_le.or ((op_gyC (op := .LtE) (fun _ _ => rfl) T.Exact_le_M.at_ T.Exact_le_M.fn (ok_Exact_le T) (hr.mono (by decide)) T.Exact_le_b pass0).or (op_gyCR (op := .LtE) (fun _ _ => rfl) T.Exact_ge_M.at_ T.Exact_ge_M.fn (ok_Exact_ge T) (hr.mono (by decide)) T.Exact_ge_b pass0))) (pv 0) (pv 1) (nomark _)) (pv 0) (pv 1)))), ?_⟩
    refine ⟨_, rfl, _, rfl, n_le (fun i => turns_le T.Exact_dn_int) hx hy fa.nm fb.nm fun H1 e1 => ⟨_, rfl, ?_⟩⟩
    have := k H1 e1
    cases c : bLe a b with
    | true =>
      rw [c, if_pos rfl] at this
      exact iteT ⟨_, rfl, this⟩
    | false =>
      rw [c, if_neg Bool.false_ne_true] at this
      exact iteF ⟨_, rfl, this⟩
theorem ok_greater (T : Tx K mg) : FnOk P w K mg base CX0 8 T.greater_a T.greater_d ["one", "other"] (spGreat T.Exact_a) := by
  refine T.greater_F.ok sc_greater (fun vs H Q E h => ?_) (fun cdv A outer s H vs Q E hr h => ?_)
  · obtain ⟨x, y, a, b, rfl, _⟩ := h
    rfl
  · obtain ⟨x, y, a, b, rfl, hx, hy, fa, fb, k⟩ := h
    refine ⟨_, (pss_one (ps_ret (pe_ifExp (pt_cmpR (op_le.or ((op_gyC (op := .LtE) (fun _ _ => rfl) T.Exact_le_M.at_ T.Exact_le_M.fn (ok_Exact_le T) (hr.mono (by decide)) T.Exact_le_b pass0).or (op_gyCR (op := .LtE) (fun _ _ => rfl) T.Exact_ge_M.at_ T.Exact_ge_M.fn (ok_Exact_ge T) (hr.mono (by decide)) T.Exact_ge_b pass0))) (pv 0) (pv 1) (nomark _)) (pv 1) (pv 0)))), ?_⟩
    refine ⟨_, rfl, _, rfl, n_le (fun i => turns_le T.Exact_dn_int) hx hy fa.nm fb.nm fun H1 e1 => ⟨_, rfl, ?_⟩⟩
    have := k H1 e1
    cases c : bLe a b with
    | true =>
      rw [c, if_pos rfl] at this
      exact iteT ⟨_, rfl, this⟩
    | false =>
      rw [c, if_neg Bool.false_ne_true] at this
      exact iteF ⟨_, rfl, this⟩
def spLower (L C : Addr) : Sp := fun vs H Q _ => ∃ l o qs rs f g a b, vs = [l, o] ∧ Two L C H l o qs rs f g a b ∧
  ∀ v H' F, Same H H' → LineAt L C H' v (bentF (F.map lowP)) → Rows f g a b F → F.length ≤ 2 * (qs.length + rs.length) → Q v H'
def spUpper (L C : Addr) : Sp := fun vs H Q _ => ∃ l o qs rs f g a b, vs = [l, o] ∧ Two L C H l o qs rs f g a b ∧
  ∀ v H' F, Same H H' → LineAt L C H' v (bentF (F.map highP)) → Rows f g a b F → F.length ≤ 2 * (qs.length + rs.length) → Q v H'
theorem Rows.low {f g : Rat → Rat} {a b : Rat} {F : List Row} (h : Rows f g a b F) (hab : a < b) : Ends (F.map lowP) a b ∧ Gr (F.map lowP) (fun m => mn (f m) (g m)) a b := by
  obtain ⟨r, r0, G, h0, rfl, rfl⟩ := h.ok
  exact G.low h0 hab
theorem Rows.high {f g : Rat → Rat} {a b : Rat} {F : List Row} (h : Rows f g a b F) (hab : a < b) : Ends (F.map highP) a b ∧ Gr (F.map highP) (fun m => mx (f m) (g m)) a b := by
  obtain ⟨r, r0, G, h0, rfl, rfl⟩ := h.ok
  exact G.high h0 hab
theorem Rows.fineL {f g : Rat → Rat} {a b : Rat} {F : List Row} (h : Rows f g a b F) : ∀ s ∈ F.map lowP, Fine s.1 ∧ Fine s.2 := fun s hs => by
  obtain ⟨r, hr, rfl⟩ := List.mem_map.mp hs
  obtain ⟨f0, f1, f2⟩ := h.fine r hr
  refine ⟨f0, ?_⟩
  show Fine (lowR r)
  unfold lowR
  split
  · exact f1
  · exact f2
theorem Rows.fineH {f g : Rat → Rat} {a b : Rat} {F : List Row} (h : Rows f g a b F) : ∀ s ∈ F.map highP, Fine s.1 ∧ Fine s.2 := fun s hs => by
  obtain ⟨r, hr, rfl⟩ := List.mem_map.mp hs
  obtain ⟨f0, f1, f2⟩ := h.fine r hr
  refine ⟨f0, ?_⟩
  show Fine (highR r)
  unfold highR
  split
  · exact f2
  · exact f1
theorem Two.lt {L C : Addr} {H : Hp} {l o : V} {qs rs : List Pt} {f g : Rat → Rat} {a b : Rat} (h : Two L C H l o qs rs f g a b) : a < b := h.e1.lt
theorem ok_Line_lower (T : Tx K mg) : FnOk P w K mg base CX0 22 T.Line_lower_a T.Line_lower_d ["self", "other"] (spLower T.Line_a T.Exact_a) := by
  refine T.Line_lower_F.ok sc_Line_lower (fun vs H Q E h => ?_) (fun cdv A outer s H vs Q E hr h => ?_)
  · obtain ⟨l, o, qs, rs, f, g, a, b, rfl, _⟩ := h
    rfl
  · obtain ⟨l, o, qs, rs, f, g, a, b, rfl, tw, k⟩ := h
    refine ⟨_, (pss_one (ps_ret (pe_make T.Line_mk (ok_Line_init T) (hr.mono (by decide)) rfl T.Line_m T.Line_init_b .nil pass0 (pa_cons (pe_lc (g := gTup K 3 (gCons (gName 2) (gCons (gName 3) (gCons (gName 4) gNil)))) (tt := tYes) (own := [("moment", 2), ("mine", 3), ("yours", 4)]) rfl sc_Line_lower.nd (pi_list (pe_call (ok_beside T) (hr.mono (by decide)) rfl T.beside_m T.beside_F.kp T.beside_b .nil pass0 (pa_cons (pv 0) (pa_cons (pv 1) pa_nil)))) (blkOk_by (own := [("moment", 2), ("mine", 3), ("yours", 4)]) (N := ["self", "other", "moment", "mine", "yours"]) (sc := defScope s_Line_lower) (by decide +kernel))
   (fun _ _ _ _ _ => pg_tup (by rfl) (pgs_cons (pg_name (i := 2) sc_Line_lower.nd rfl (Or.inl rfl)) (pgs_cons (pg_name (i := 3) sc_Line_lower.nd rfl (Or.inl rfl)) (pgs_cons (pg_name (i := 4) sc_Line_lower.nd rfl (Or.inl rfl)) pgs_nil)))) (fun _ _ _ _ _ => pts_nil) (fun _ _ _ _ _ => (pe_tup (pa_cons (pv 2) (pa_cons (pe_call (ok_lesser T) (hr.mono (by decide)) rfl T.lesser_m T.lesser_F.kp T.lesser_b .nil pass0 (pa_cons (pv 3) (pa_cons (pv 4) pa_nil))) pa_nil))))) pa_nil)))), ?_⟩
    refine ⟨_, rfl, _, rfl, l, o, qs, rs, f, g, a, b, rfl, tw, fun M H1 xs F nM e1 hM hrw rows lenF => ?_⟩
    have n1 := tw.n1
    have n2 := tw.n2
    have lx := hrw.len
    refine ⟨M, rfl, ⟨xs, .inl (.inl hM)⟩, fun D nD => ?_⟩
    refine lc_it (walk_list (K := K) (a := M) (xs := xs)) (fun j H' => Same H1 H' ∧ ∃ us, H' D = some (.lst us) ∧ TpAll T.Exact_a H' us ((F.map lowP).take j)) ⟨same_upd nD, [], upd_same, by rw [List.take_zero]; exact .nil⟩ (fun j H' _ e => .inl (.inl (e.1 _ _ hM))) ?_ ?_
    · rintro j z H20 H2 hj ⟨e2, us, eD, hus⟩ ⟨rfl, hz⟩
      obtain ⟨r, hr', t, x, y, z, rfl, ht, hx, hy, hzz⟩ := hrw.at hz
      obtain ⟨f0, f1, f2⟩ := rows.fine r (List.mem_of_getElem? hr')
      have ht2 := e2 _ _ ht
      refine ⟨t, [x, y, z], rfl, .inl (.inl ht2), rfl, _, _, rfl, _, _, rfl, _, _, rfl, rfl, rfl, yes_of ?_⟩
      refine ⟨_, rfl, _, rfl, _, rfl, y, z, r.2.1, r.2.2, rfl, hy.same e2, hzz.same e2, f1, f2, fun H3 e3 => ⟨(by show 2 ≤ sizeLine; decide), fun tp ntp => ?_⟩⟩
      have e23 := e2.trans e3
      have hlow : ∃ v, (if bLe r.2.1 r.2.2 = true then y else z) = v ∧ NumAt T.Exact_a H3 v (lowR r) ∧ Fine (lowR r) := by
        unfold lowR
        by_cases c : bLe r.2.1 r.2.2 = true
        · rw [if_pos c, if_pos c]
          exact ⟨_, rfl, hy.same e23, f1⟩
        · rw [if_neg c, if_neg c]
          exact ⟨_, rfl, hzz.same e23, f2⟩
      obtain ⟨v, ev, hv, fv⟩ := hlow
      rw [ev]
      have e4 : Same H3 (upd H3 tp (.tup [x, v])) := same_upd ntp
      have htp : (upd H3 tp (.tup [x, v])) tp = some (.tup [x, v]) := upd_same
      generalize upd H3 tp (.tup [x, v]) = H4 at e4 htp ⊢
      have eD4 := (e3.trans e4) _ _ eD
      have kp : ∀ o, Keep D H4 (upd H4 D o) := fun o b o' e n => (upd_ne n).trans e
      have pn : TpAt T.Exact_a H4 (.ref tp) (lowP r) := ⟨tp, x, v, rfl, htp, hx.same (e23.trans e4), hv.same e4, f0, fv⟩
      refine ⟨us, eD4, ?_, fun b o e => ?_, us ++ [.ref tp], upd_same, ?_⟩
      · rw [hus.len]
        refine small1000 (Nat.le_trans (List.length_take_le _ _) ?_)
        omega
      · rw [upd_ne (ne_of_none e nD)]
        exact e4 _ _ (e23 _ _ e)
      · rw [List.take_succ, List.getElem?_map, hr']
        exact (hus.mono fun v s z => (z.same (e3.trans e4)).keepL eD4 (kp _)).snoc (pn.keepL eD4 (kp _))
    · rintro H2 ⟨e2, us, eD, hus⟩
      have lF : (F.map lowP).length = F.length := List.length_map _
      rw [lx, ← lF, List.take_length] at hus
      obtain ⟨en, gr⟩ := rows.low tw.lt
      refine fun ln dl nln ndl nel => mk_line (ps := F.map lowP) nln ndl nel ⟨D, rfl, .inl eD⟩ (by rw [hus.len, lF]; omega) (line_fineU en.fa en.up en.two) hus.len hus.pn.hit fun H3 e3 hln => ?_
      exact k _ H3 F ((e1.trans e2).trans e3) hln rows lenF
theorem ok_Line_upper (T : Tx K mg) : FnOk P w K mg base CX0 22 T.Line_upper_a T.Line_upper_d ["self", "other"] (spUpper T.Line_a T.Exact_a) := by
  refine T.Line_upper_F.ok sc_Line_upper (fun vs H Q E h => ?_) (fun cdv A outer s H vs Q E hr h => ?_)
  · obtain ⟨l, o, qs, rs, f, g, a, b, rfl, _⟩ := h
    rfl
  · obtain ⟨l, o, qs, rs, f, g, a, b, rfl, tw, k⟩ := h
    refine ⟨_, (pss_one (ps_ret (pe_make T.Line_mk (ok_Line_init T) (hr.mono (by decide)) rfl T.Line_m T.Line_init_b .nil pass0 (pa_cons (pe_lc (g := gTup K 3 (gCons (gName 2) (gCons (gName 3) (gCons (gName 4) gNil)))) (tt := tYes) (own := [("moment", 2), ("mine", 3), ("yours", 4)]) rfl sc_Line_upper.nd (pi_list (pe_call (ok_beside T) (hr.mono (by decide)) rfl T.beside_m T.beside_F.kp T.beside_b .nil pass0 (pa_cons (pv 0) (pa_cons (pv 1) pa_nil)))) (blkOk_by (own := [("moment", 2), ("mine", 3), ("yours", 4)]) (N := ["self", "other", "moment", "mine", "yours"]) (sc := defScope s_Line_upper) (by decide +kernel))
   (fun _ _ _ _ _ => pg_tup (by rfl) (pgs_cons (pg_name (i := 2) sc_Line_upper.nd rfl (Or.inl rfl)) (pgs_cons (pg_name (i := 3) sc_Line_upper.nd rfl (Or.inl rfl)) (pgs_cons (pg_name (i := 4) sc_Line_upper.nd rfl (Or.inl rfl)) pgs_nil)))) (fun _ _ _ _ _ => pts_nil) (fun _ _ _ _ _ => (pe_tup (pa_cons (pv 2) (pa_cons (pe_call (ok_greater T) (hr.mono (by decide)) rfl T.greater_m T.greater_F.kp T.greater_b .nil pass0 (pa_cons (pv 3) (pa_cons (pv 4) pa_nil))) pa_nil))))) pa_nil)))), ?_⟩
    refine ⟨_, rfl, _, rfl, l, o, qs, rs, f, g, a, b, rfl, tw, fun M H1 xs F nM e1 hM hrw rows lenF => ?_⟩
    have n1 := tw.n1
    have n2 := tw.n2
    have lx := hrw.len
    refine ⟨M, rfl, ⟨xs, .inl (.inl hM)⟩, fun D nD => ?_⟩
    refine lc_it (walk_list (K := K) (a := M) (xs := xs)) (fun j H' => Same H1 H' ∧ ∃ us, H' D = some (.lst us) ∧ TpAll T.Exact_a H' us ((F.map highP).take j)) ⟨same_upd nD, [], upd_same, by rw [List.take_zero]; exact .nil⟩ (fun j H' _ e => .inl (.inl (e.1 _ _ hM))) ?_ ?_
    · rintro j z H20 H2 hj ⟨e2, us, eD, hus⟩ ⟨rfl, hz⟩
      obtain ⟨r, hr', t, x, y, z, rfl, ht, hx, hy, hzz⟩ := hrw.at hz
      obtain ⟨f0, f1, f2⟩ := rows.fine r (List.mem_of_getElem? hr')
      have ht2 := e2 _ _ ht
      refine ⟨t, [x, y, z], rfl, .inl (.inl ht2), rfl, _, _, rfl, _, _, rfl, _, _, rfl, rfl, rfl, yes_of ?_⟩
      refine ⟨_, rfl, _, rfl, _, rfl, y, z, r.2.1, r.2.2, rfl, hy.same e2, hzz.same e2, f1, f2, fun H3 e3 => ⟨(by show 2 ≤ sizeLine; decide), fun tp ntp => ?_⟩⟩
      have e23 := e2.trans e3
      have hlow : ∃ v, (if bLe r.2.1 r.2.2 = true then z else y) = v ∧ NumAt T.Exact_a H3 v (highR r) ∧ Fine (highR r) := by
        unfold highR
        by_cases c : bLe r.2.1 r.2.2 = true
        · rw [if_pos c, if_pos c]
          exact ⟨_, rfl, hzz.same e23, f2⟩
        · rw [if_neg c, if_neg c]
          exact ⟨_, rfl, hy.same e23, f1⟩
      obtain ⟨v, ev, hv, fv⟩ := hlow
      rw [ev]
      have e4 : Same H3 (upd H3 tp (.tup [x, v])) := same_upd ntp
      have htp : (upd H3 tp (.tup [x, v])) tp = some (.tup [x, v]) := upd_same
      generalize upd H3 tp (.tup [x, v]) = H4 at e4 htp ⊢
      have eD4 := (e3.trans e4) _ _ eD
      have kp : ∀ o, Keep D H4 (upd H4 D o) := fun o b o' e n => (upd_ne n).trans e
      have pn : TpAt T.Exact_a H4 (.ref tp) (highP r) := ⟨tp, x, v, rfl, htp, hx.same (e23.trans e4), hv.same e4, f0, fv⟩
      refine ⟨us, eD4, ?_, fun b o e => ?_, us ++ [.ref tp], upd_same, ?_⟩
      · rw [hus.len]
        refine small1000 (Nat.le_trans (List.length_take_le _ _) ?_)
        omega
      · rw [upd_ne (ne_of_none e nD)]
        exact e4 _ _ (e23 _ _ e)
      · rw [List.take_succ, List.getElem?_map, hr']
        exact (hus.mono fun v s z => (z.same (e3.trans e4)).keepL eD4 (kp _)).snoc (pn.keepL eD4 (kp _))
    · rintro H2 ⟨e2, us, eD, hus⟩
      have lF : (F.map highP).length = F.length := List.length_map _
      rw [lx, ← lF, List.take_length] at hus
      obtain ⟨en, gr⟩ := rows.high tw.lt
      refine fun ln dl nln ndl nel => mk_line (ps := F.map highP) nln ndl nel ⟨D, rfl, .inl eD⟩ (by rw [hus.len, lF]; omega) (line_fineU en.fa en.up en.two) hus.len hus.pn.hit fun H3 e3 hln => ?_
      exact k _ H3 F ((e1.trans e2).trans e3) hln rows lenF
def spBelow (L C : Addr) : Sp := fun vs H Q _ => ∃ l o qs rs f g a b, vs = [l, o] ∧ Two L C H l o qs rs f g a b ∧
  ∀ H' F, Same H H' → Rows f g a b F → Q (.bl (F.all fun r => bLe r.2.1 r.2.2)) H'
theorem ok_Line_is_below (T : Tx K mg) : FnOk P w K mg base CX0 22 T.Line_is_below_a T.Line_is_below_d ["self", "other"] (spBelow T.Line_a T.Exact_a) := by
  refine T.Line_is_below_F.ok sc_Line_is_below (fun vs H Q E h => ?_) (fun cdv A outer s H vs Q E hr h => ?_)
  · obtain ⟨l, o, qs, rs, f, g, a, b, rfl, _⟩ := h
    rfl
  · obtain ⟨l, o, qs, rs, f, g, a, b, rfl, tw, k⟩ := h
    refine ⟨_, (pss_one (ps_ret (pe_callB (cr_all rfl) (by rfl) T.z_all (by decide +kernel) (pa_cons (pe_lc (g := gTup K 3 (gCons (gName 2) (gCons (gName 3) (gCons (gName 4) gNil)))) (tt := tYes) (te := (tOp (rCmpN T.Exact_a bLe) (tVar 3) (tVar 4))) (own := [("moment", 2), ("mine", 3), ("yours", 4)]) rfl sc_Line_is_below.nd (pi_list (pe_call (ok_beside T) (hr.mono (by decide)) rfl T.beside_m T.beside_F.kp T.beside_b .nil pass0 (pa_cons (pv 0) (pa_cons (pv 1) pa_nil)))) (blkOk_by (own := [("moment", 2), ("mine", 3), ("yours", 4)]) (N := ["self", "other", "moment", "mine", "yours"]) (sc := defScope s_Line_is_below) (by decide +kernel))
   (fun _ _ _ _ _ => pg_tup (by rfl) (pgs_cons (pg_name (i := 2) sc_Line_is_below.nd rfl (Or.inl rfl)) (pgs_cons (pg_name (i := 3) sc_Line_is_below.nd rfl (Or.inl rfl)) (pgs_cons (pg_name (i := 4) sc_Line_is_below.nd rfl (Or.inl rfl)) pgs_nil)))) (fun _ _ _ _ _ => pts_nil) (fun _ _ _ _ _ => (pe_cmpR (op_leN T rfl rfl rfl (hr.mono (by decide))) (pv 3) (pv 4) (nomark _)))) pa_nil)))), ?_⟩
    refine ⟨_, rfl, _, rfl, l, o, qs, rs, f, g, a, b, rfl, tw, fun M H1 xs F nM e1 hM hrw rows lenF => ?_⟩
    have n1 := tw.n1
    have n2 := tw.n2
    have lx := hrw.len
    refine ⟨M, rfl, ⟨xs, .inl (.inl hM)⟩, fun D nD => ?_⟩
    refine lc_it (walk_list (K := K) (a := M) (xs := xs)) (fun j H' => Same H1 H' ∧ H' D = some (.lst (((F.take j).map fun r => bLe r.2.1 r.2.2).map V.bl))) ⟨same_upd nD, by rw [List.take_zero]; exact upd_same⟩ (fun j H' _ e => .inl (.inl (e.1 _ _ hM))) ?_ ?_
    · rintro j z H20 H2 hj ⟨e2, eD⟩ ⟨rfl, hz⟩
      obtain ⟨r, hr', t, x, y, z, rfl, ht, hx, hy, hzz⟩ := hrw.at hz
      obtain ⟨f0, f1, f2⟩ := rows.fine r (List.mem_of_getElem? hr')
      have ht2 := e2 _ _ ht
      refine ⟨t, [x, y, z], rfl, .inl (.inl ht2), rfl, _, _, rfl, _, _, rfl, _, _, rfl, rfl, rfl, yes_of ?_⟩
      refine ⟨_, rfl, _, rfl, _, _, hy.same e2, hzz.same e2, f1.nm, f2.nm, fun H3 e3 => ?_⟩
      refine ⟨_, e3 _ _ eD, ?_, fun b o e => ?_, ?_⟩
      · rw [List.length_map, List.length_map]
        refine small1000 (Nat.le_trans (List.length_take_le _ _) ?_)
        omega
      · rw [upd_ne (ne_of_none e nD)]
        exact e3 _ _ (e2 _ _ e)
      · rw [upd_same, List.take_succ, hr']
        simp
    · rintro H2 ⟨e2, eD⟩
      rw [lx, List.take_length] at eD
      refine ⟨D, _, rfl, .inl (.inl eD), ?_⟩
      rw [List.all_map]
      exact k H2 F (e1.trans e2) rows
end



/-! ### what is known of drawn courses -/
/-- a drawn course -/
structure Crs (cs : List Pt) (f : Rat → Rat) (a b : Rat) : Prop where
  e : Ends cs a b
  g : Gr cs f a b
  ty : ∀ s ∈ cs, Ty s.1 ∧ Ty s.2
  n : cs.length ≤ 7
theorem on_known {cs : List Pt} {p : Int × Int} (tp : Ty p) {y : Rat} (h : On cs (toQ p) y) : Up cs → (∀ s ∈ cs, Ty s.1 ∧ Ty s.2) → ∃ z, Sz 30 25 z ∧ toQ z = y := by
  generalize hm : toQ p = m at h
  induction h with
  | @here q1 q2 r m y h1 h2 h =>
    intro hu hf
    subst hm
    obtain ⟨f1, f2⟩ := hf q1 List.mem_cons_self
    obtain ⟨f3, f4⟩ := hf q2 (List.mem_cons_of_mem _ List.mem_cons_self)
    have lt := (List.pairwise_cons.mp hu).1 q2 List.mem_cons_self
    have w0 : (subR q2.1 q1.1).1 ≠ 0 := sub_ne f3.1 f1.1 (by grind)
    have z1 := zz_sub 9 tp f1
    have z2 := zz_sub 9 f3 f1
    have z3 := zz_div z1 z2 w0
    have z4 := zz_sub 9 f4 f2
    have z5 := zz_mul z3 z4
    refine ⟨_, zz_add 29 f2 z5, ?_⟩
    have d1 := (toQ_div z1.1 z2.1 w0).1
    rw [toQ_add f2.1 z5.1, toQ_mul z3.1 z4.1, toQ_sub f4.1 f2.1]
    rw [toQ_sub tp.1 f1.1, toQ_sub f3.1 f1.1] at d1
    generalize toQ (divR (subR p q1.1) (subR q2.1 q1.1)) = sh at d1 ⊢
    unfold OnL at h
    have d0 : toQ q2.1 - toQ q1.1 ≠ 0 := by grind
    have e : (toQ q1.2 + sh * (toQ q2.2 - toQ q1.2) - y) * (toQ q2.1 - toQ q1.1) = 0 := by grind
    rcases Rat.mul_eq_zero.mp e with z | z
    · grind
    · exact absurd z d0
  | there h ih => exact fun hu hf => ih hm (List.pairwise_cons.mp hu).2 fun s hs => hf s (List.mem_cons_of_mem _ hs)
theorem Crs.known {cs : List Pt} {f : Rat → Rat} {a b : Rat} (h : Crs cs f a b) {p : Int × Int} (tp : Ty p) (h1 : a ≤ toQ p) (h2 : toQ p ≤ b) : ∃ z, Sz 30 25 z ∧ toQ z = f (toQ p) :=
  on_known tp (h.g _ h1 h2) h.e.up h.ty
theorem Crs.at {cs : List Pt} {f : Rat → Rat} {a b : Rat} (h : Crs cs f a b) {p : Int × Int} (tp : Ty p) (h1 : a ≤ toQ p) (h2 : toQ p ≤ b) {y : Int × Int} (ry : Rd y) (e : toQ y = f (toQ p)) : Sz 30 25 y := by
  obtain ⟨z, sz, ez⟩ := h.known tp h1 h2
  rw [toQ_inj ry sz.1 (e.trans ez.symm)]
  exact sz
theorem Crs.mom {cs : List Pt} {f : Rat → Rat} {a b : Rat} (h : Crs cs f a b) {x : Int × Int} (hx : x ∈ cs.map Prod.fst) : Ty x ∧ a ≤ toQ x ∧ toQ x ≤ b := by
  obtain ⟨s, hs, rfl⟩ := List.mem_map.mp hx
  exact ⟨(h.ty s hs).1, h.e.bnd s hs⟩
theorem Crs.bmem {cs : List Pt} {f : Rat → Rat} {a b : Rat} (h : Crs cs f a b) : (∀ s ∈ bentF cs, s ∈ cs) ∧ (bentF cs).length ≤ cs.length := by
  obtain ⟨_, _, m, _, l⟩ := bentF_two h.e.two h.e.fa h.e.up
  exact ⟨m, l⟩
theorem two_of {L C : Addr} {H : Hp} {l o : V} {cs ds : List Pt} {f g : Rat → Rat} {a b : Rat} (h1 : Crs cs f a b) (h2 : Crs ds g a b) (l1 : LineAt L C H l (bentF cs)) (l2 : LineAt L C H o (bentF ds)) : Two L C H l o (bentF cs) (bentF ds) f g a b := by
  have mom : ∀ x, x ∈ (bentF cs).map Prod.fst ∨ x ∈ (bentF ds).map Prod.fst → Ty x ∧ a ≤ toQ x ∧ toQ x ≤ b := fun x hx => by
    rcases hx with hx | hx
    · obtain ⟨s, hs, rfl⟩ := List.mem_map.mp hx
      exact h1.mom (List.mem_map_of_mem (h1.bmem.1 s hs))
    · obtain ⟨s, hs, rfl⟩ := List.mem_map.mp hx
      exact h2.mom (List.mem_map_of_mem (h2.bmem.1 s hs))
  have n1 := h1.bmem.2
  have n2 := h2.bmem.2
  have n3 := h1.n
  have n4 := h2.n
  refine ⟨l1, l2, h1.e.bent, h2.e.bent, h1.e.gr_bent h1.g, h2.e.gr_bent h2.g, by omega, by omega, fun x hx => ?_, .inr fun x hx => ?_⟩
  · obtain ⟨t, x1, x2⟩ := mom x hx
    obtain ⟨y, sy, ey⟩ := h1.known t x1 x2
    obtain ⟨z, sz, ez⟩ := h2.known t x1 x2
    exact ⟨⟨y, sy.fine, ey⟩, z, sz.fine, ez⟩
  · obtain ⟨t, x1, x2⟩ := mom x hx
    exact ⟨t, fun y ry ey => h1.at t x1 x2 ry ey, fun y ry ey => h2.at t x1 x2 ry ey⟩
/-! ### below -/
theorem lin_le {f g : Rat → Rat} {s t : Rat} (hf : Lin f s t) (hg : Lin g s t) (hst : s < t) (h1 : f s ≤ g s) (h2 : f t ≤ g t) : ∀ m, s ≤ m → m ≤ t → f m ≤ g m := fun m m1 m2 => by
  have e1 := hf m m1 m2
  have e2 := hg m m1 m2
  have e : (f m - g m) * (t - s) = (f s - g s) * (t - m) + (f t - g t) * (m - s) := by grind
  have p1 := Rat.mul_nonneg (a := -(f s - g s)) (b := t - m) (by grind) (by grind)
  have p2 := Rat.mul_nonneg (a := -(f t - g t)) (b := m - s) (by grind) (by grind)
  by_cases c : f m ≤ g m
  · exact c
  · have := Rat.mul_pos (a := f m - g m) (b := t - s) (by grind) (by grind)
    grind
theorem Good.nowhere {f g : Rat → Rat} {F : List Row} {r : Row} (G : Good f g F r) : (∀ x ∈ F, f (toQ x.1) ≤ g (toQ x.1)) → ∀ r0, F.head? = some r0 → ∀ m, toQ r0.1 ≤ m → m ≤ toQ r.1 → f m ≤ g m := by
  induction G with
  | @one r h =>
    intro hx r0 e m m1 m2
    cases e
    rw [show m = toQ r.1 by grind]
    exact hx _ List.mem_cons_self
  | @more F r r' G a h' ih =>
    intro hx r0 e m m1 m2
    obtain ⟨F0, eF⟩ := G.last
    have hh : F.head? = some r0 := by
      rw [eF] at e ⊢
      cases F0 <;> exact e
    by_cases c : m ≤ toQ r.1
    · exact ih (fun x hm => hx x (List.mem_append_left _ hm)) r0 hh m m1 c
    · exact lin_le a.lf a.lg a.lt (hx r (List.mem_append_left _ (by rw [eF]; exact List.mem_append_right _ List.mem_cons_self))) (hx r' (List.mem_append_right _ List.mem_cons_self)) m (by grind) m2
theorem Rows.bnd {f g : Rat → Rat} {a b : Rat} {F : List Row} (h : Rows f g a b F) : ∀ x ∈ F, RowOk f g x ∧ a ≤ toQ x.1 ∧ toQ x.1 ≤ b := fun x hx => by
  obtain ⟨r, r0, G, h0, rfl, rfl⟩ := h.ok
  refine ⟨G.ok x hx, ?_, G.up.2 x hx⟩
  obtain ⟨u1, u2⟩ := G.up
  cases F with
  | nil => cases hx
  | cons y F =>
    cases h0
    rcases List.mem_cons.mp hx with z | z
    · rw [z]; exact Rat.le_refl
    · have := (List.pairwise_cons.mp u1).1 x z
      grind
theorem Rows.all {f g : Rat → Rat} {a b : Rat} {F : List Row} (h : Rows f g a b F) : (F.all fun r => bLe r.2.1 r.2.2) = true ↔ ∀ m, a ≤ m → m ≤ b → f m ≤ g m := by
  rw [List.all_eq_true]
  constructor
  · intro hx m m1 m2
    obtain ⟨r, r0, G, h0, rfl, rfl⟩ := h.ok
    refine G.nowhere (fun x hm => ?_) r0 h0 m m1 m2
    have ok := G.ok x hm
    rw [← ok.e1, ← ok.e2]
    exact (le_toQ ok.rd.2.1 ok.rd.2.2).mp (hx x hm)
  · intro hx x hm
    obtain ⟨ok, b1, b2⟩ := h.bnd x hm
    refine (le_toQ ok.rd.2.1 ok.rd.2.2).mpr ?_
    rw [ok.e1, ok.e2]
    exact hx _ b1 b2
/-! ### the lower line of two, bent -/
theorem gr_eq {l : List Pt} {f g : Rat → Rat} {a b : Rat} (h : Gr l f a b) (e : ∀ m, f m = g m) : Gr l g a b := fun m m1 m2 => by
  rw [← e m]
  exact h m m1 m2
/-- a line is equal to the lower one just if it is nowhere above the other -/
theorem low_is {cs l : List Pt} {f g h : Rat → Rat} {a b : Rat} (hc : Ends cs a b) (gc : Gr cs f a b) (hl : Ends l a b) (gl : Gr l h a b) (e : ∀ m, h m = mn (f m) (g m)) : bentF l = bentF cs ↔ ∀ m, a ≤ m → m ≤ b → f m ≤ g m := by
  constructor
  · intro z m m1 m2
    have b1 := hl.gr_bent gl m m1 m2
    rw [z] at b1
    have := (hc.bent.uniq (hc.gr_bent gc) b1).2.2
    rw [e m] at this
    unfold mn at this
    split at this
    · assumption
    · grind
  · intro z
    refine bent_uniq (f := f) hl hc (fun m m1 m2 => ?_) gc
    have := gl m m1 m2
    rw [e m, mn_le (z m m1 m2)] at this
    exact this
/-! ### upside down -/
def ngP (s : Pt) : Pt := (s.1, (-s.2.1, s.2.2))
theorem toQ_ng (p : Int × Int) : toQ (-p.1, p.2) = -toQ p := by
  unfold toQ
  rw [Rat.neg_divInt]
theorem on_ng {l : List Pt} {m y : Rat} (h : On l m y) : On (l.map ngP) m (-y) := by
  induction h with
  | @here p q r m y h1 h2 h =>
    refine .here h1 h2 ?_
    unfold OnL at h ⊢
    show (-y - toQ (-p.2.1, p.2.2)) * (toQ q.1 - toQ p.1) = (toQ (-q.2.1, q.2.2) - toQ (-p.2.1, p.2.2)) * (m - toQ p.1)
    rw [toQ_ng, toQ_ng]
    grind
  | there h ih => exact .there ih
theorem rd_ng {p : Int × Int} (h : Rd p) : Rd (-p.1, p.2) := by
  refine ⟨h.1, ?_⟩
  show Int.gcd (-p.1) p.2 = 1
  rw [Int.neg_gcd]
  exact h.2
theorem Ends.ng {l : List Pt} {a b : Rat} (h : Ends l a b) : Ends (l.map ngP) a b := by
  refine ⟨List.pairwise_map.mpr h.up, fun s hs => ?_, by rw [List.length_map]; exact h.two, ?_, ?_⟩
  · obtain ⟨r, hr, rfl⟩ := List.mem_map.mp hs
    obtain ⟨h1, h2⟩ := h.fa r hr
    exact ⟨h1, rd_ng h2⟩
  · obtain ⟨p, hp, e⟩ := h.hd
    exact ⟨ngP p, by rw [List.head?_map, hp]; rfl, e⟩
  · obtain ⟨p, hp, e⟩ := h.ls
    exact ⟨ngP p, by rw [List.getLast?_map, hp]; rfl, e⟩
theorem Gr.ng {l : List Pt} {f : Rat → Rat} {a b : Rat} (h : Gr l f a b) : Gr (l.map ngP) (fun m => -f m) a b := fun m m1 m2 => on_ng (h m m1 m2)
theorem sz_ng {m n : Nat} {p : Int × Int} (h : Sz m n p) : Sz m n (-p.1, p.2) := ⟨rd_ng h.1, by show (-p.1).natAbs < _; rw [Int.natAbs_neg]; exact h.2.1, h.2.2⟩
theorem fine_ng {p : Int × Int} (h : Fine p) : Fine (-p.1, p.2) := ⟨rd_ng h.1, by show (-p.1).natAbs < _; rw [Int.natAbs_neg]; exact h.2.1, h.2.2⟩
theorem Crs.ng {cs : List Pt} {f : Rat → Rat} {a b : Rat} (h : Crs cs f a b) : Crs (cs.map ngP) (fun m => -f m) a b :=
  ⟨h.e.ng, h.g.ng, fun s hs => by
    obtain ⟨r, hr, rfl⟩ := List.mem_map.mp hs
    obtain ⟨h1, h2⟩ := h.ty r hr
    exact ⟨h1, sz_ng h2⟩, by rw [List.length_map]; exact h.n⟩

theorem crs_of {a b : Int} {l : List Pt} (so : Sorted (l.map Prod.fst)) (hd : (l.map Prod.fst).head? = some (a, 1)) (ls : (l.map Prod.fst).getLast? = some (b, 1)) (ty : ∀ s ∈ l, Ty s.1 ∧ Ty s.2) (n : l.length ≤ 7) (hab : a ≠ b) : ∃ f, Crs l f (toQ (a, 1)) (toQ (b, 1)) := by
  have e : Ends l (toQ (a, 1)) (toQ (b, 1)) := by
    refine ⟨List.Pairwise.imp_of_mem (fun {x y} hx hy z => (lt_toQ (ty x hx).1.1 (ty y hy).1.1).mp z) (List.pairwise_map.mp so), fun s hs => ⟨(ty s hs).1.1, (ty s hs).2.1⟩, ?_, ?_, ?_⟩
    · match l, hd, ls with
      | [], hd, _ => cases hd
      | [p], hd, ls =>
        have h1 := Option.some.inj hd
        have h2 := Option.some.inj ls
        exact absurd (Prod.mk.inj (h1.symm.trans h2)).1 hab
      | _ :: _ :: _, _, _ => exact Nat.le_add_left _ _
    · rw [List.head?_map] at hd
      obtain ⟨p, hp, e⟩ := Option.map_eq_some_iff.mp hd
      exact ⟨p, hp, by rw [e]⟩
    · rw [List.getLast?_map] at ls
      obtain ⟨p, hp, e⟩ := Option.map_eq_some_iff.mp ls
      exact ⟨p, hp, by rw [e]⟩
  obtain ⟨f, g⟩ := e.gr
  exact ⟨f, e, g, ty, n⟩
theorem raise_ty {h : Int × Int} {r : Int} (hh : Sz 5 2 h) (h0 : 0 ≤ r) (h3 : r < 3) : Ty (addR h (r, 1)) := by
  obtain ⟨rd, z1, z2⟩ := hh
  have p := rd.1
  have e0 : h.2 * 1 ≠ 0 := by omega
  have e1 : (h.1 * 1 + r * h.2).natAbs < 2 ^ 6 := by
    have : r = 0 ∨ r = 1 ∨ r = 2 := by omega
    rcases this with rfl | rfl | rfl <;> omega
  have := red_sz (a := h.1 * 1 + r * h.2) (b := h.2 * 1) (n := 3) e0 e1 (by omega)
  exact ⟨red_rd e0, this.1, this.2⟩
theorem Crs.fine {cs : List Pt} {f : Rat → Rat} {a b : Rat} (h : Crs cs f a b) : ∀ s ∈ cs, Fine s.1 ∧ Fine s.2 := fun s hs => ⟨(h.ty s hs).1.fine, (h.ty s hs).2.fine⟩
theorem mn_self (x : Rat) : mn x x = x := mn_le Rat.le_refl
theorem mx_self (x : Rat) : mx x x = x := mx_le Rat.le_refl
theorem mn_le_mx (x y : Rat) : mn x y ≤ mx x y := by
  unfold mn mx
  split
  · assumption
  · grind
theorem Rows.kn {f g : Rat → Rat} {a b : Rat} {F : List Row} (h : Rows f g a b F) {r : Row} (hr : r ∈ F) : (∃ y, Fine y ∧ toQ y = mn (f (toQ r.1)) (g (toQ r.1))) ∧ ∃ y, Fine y ∧ toQ y = mx (f (toQ r.1)) (g (toQ r.1)) := by
  obtain ⟨ok, _⟩ := h.bnd r hr
  exact ⟨⟨lowR r, (h.fineL (lowP r) (List.mem_map_of_mem hr)).2, (lowR_q ok).2⟩, highR r, (h.fineH (highP r) (List.mem_map_of_mem hr)).2, (highR_q ok).2⟩
/-- the lower and the upper line of two, to be put together -/
theorem two_lu {L C : Addr} {H : Hp} {l o : V} {f g : Rat → Rat} {a b : Rat} {F G : List Row} (hab : a < b) (rF : Rows f g a b F) (rG : Rows f g a b G) (nF : F.length ≤ 100) (nG : G.length ≤ 100) (l1 : LineAt L C H l (bentF (F.map lowP))) (l2 : LineAt L C H o (bentF (G.map highP))) :
    Two L C H l o (bentF (F.map lowP)) (bentF (G.map highP)) (fun m => mn (f m) (g m)) (fun m => mx (f m) (g m)) a b := by
  obtain ⟨e1, g1⟩ := rF.low hab
  obtain ⟨e2, g2⟩ := rG.high hab
  obtain ⟨_, _, m1, _, n1⟩ := bentF_two e1.two e1.fa e1.up
  obtain ⟨_, _, m2, _, n2⟩ := bentF_two e2.two e2.fa e2.up
  rw [List.length_map] at n1 n2
  refine ⟨l1, l2, e1.bent, e2.bent, e1.gr_bent g1, e2.gr_bent g2, by omega, by omega, fun x hx => ?_, .inl fun m => mn_le_mx _ _⟩
  rcases hx with hx | hx
  · obtain ⟨s, hs, rfl⟩ := List.mem_map.mp hx
    obtain ⟨r, hr, rfl⟩ := List.mem_map.mp (m1 s hs)
    exact rF.kn hr
  · obtain ⟨s, hs, rfl⟩ := List.mem_map.mp hx
    obtain ⟨r, hr, rfl⟩ := List.mem_map.mp (m2 s hs)
    exact rG.kn hr

/-! ### the law's moments and courses -/
section
variable {P : Program} {w : World} {K : PySem.W.Frag} {mg : Str → Option Value} {base : Heap}
def spMoments : Sp := fun vs H Q _ => ∃ (R : Addr) (xs : List V) (ps : List (Int × Int)), vs = [.ref R] ∧ H R = some (.lst xs) ∧ PrAll H xs ps ∧ ps.length ≤ 50 ∧ (∀ p ∈ ps, Rd p ∧ p.1.natAbs < 2 ^ 1000 ∧ p.2.natAbs < 2 ^ 1000) ∧
  ∀ L H' ys ms, H L = none → Same H H' → H' L = some (.lst ys) → PrAll H' ys ms → Sorted ms → (∀ x, x ∈ ms ↔ x ∈ ps) → ms.length ≤ ps.length → Q (.ref L) H'
theorem ok_law_moments (T : Tx K mg) : FnOk P w K mg base CX0 2 T.law_moments_a T.law_moments_d ["_law_rows"] spMoments := by
  refine T.law_moments_F.ok sc_law_moments (fun vs H Q E h => ?_) (fun cdv A outer s H vs Q E hr h => ?_)
  · obtain ⟨R, xs, ps, rfl, _⟩ := h
    rfl
  · obtain ⟨R, xs, ps, rfl, hR, hps, h50, hgood, k⟩ := h
    refine ⟨_, (pss_cons (ps_set (i := 1) sc_law_moments.nd rfl (Or.inl rfl) (pe_lst pa_nil))
  (pss_cons (ps_for PassesOwn.never rfl (pi_list (pv 0)) (pg_name (i := 2) sc_law_moments.nd rfl (Or.inr rfl))
  (pss_cons (ps_set (i := 3) sc_law_moments.nd rfl (Or.inl rfl) (pe_callB (call_len_seq) (by rfl) T.z_len (by decide +kernel) (pa_cons (pe_lc (g := gName 4) (tt := _) (own := [("_law_x", 4)]) rfl sc_law_moments.nd (pi_list (pv 1)) (blkOk_by (own := [("_law_x", 4)]) (N := ["_law_rows", "_law_found", "_law_t", "_law_at", "_law_x"]) (sc := defScope s_law_moments) (by decide +kernel))
   (fun _ _ _ _ _ => pg_name (i := 4) sc_law_moments.nd rfl (Or.inl rfl)) (fun _ _ _ _ _ => (pts_one (pt_val (pe_call (ok_law_less T) (hr.mono (by decide)) rfl T.law_less_m T.law_less_F.kp T.law_less_b .nil pass0 (pa_cons (pv 4) (pa_cons (pv 2) pa_nil)))))) (fun _ _ _ _ _ => (pv 4))) pa_nil)))
  (pss_one (ps_if (PW.pt (pw_or (pt_cmpR op_eq (pv 3) (pe_callB (call_len_seq) (by rfl) T.z_len (by decide +kernel) (pa_cons (pv 1) pa_nil)) (nomark _)) (pw_or1 (pt_cmpR (op_neD hr.units) (pe_ix ix_list (pv 1) (pv 3) (fun _ _ => rfl)) (pv 2) (nomark _)))))
  (pss_one (ps_expr (pe_bm PySem.F.plainAttrs_list PySem.F.slot_list_insert PySem.F.type_list_insert mt_insert (pv 1) (pa_cons (pv 3) (pa_cons (pv 2) pa_nil)))))
  pss_nil))))
  (pss_one (ps_ret (pv 1))))), ?_⟩
    refine ⟨(by show 0 ≤ sizeLine; decide), fun L nL => ?_⟩
    have e1 : Same H (upd H L (.lst [])) := same_upd nL
    have hL : (upd H L (.lst [])) L = some (.lst []) := upd_same
    generalize upd H L (.lst []) = H1 at e1 hL ⊢
    refine ⟨_, rfl, R, rfl, ⟨xs, .inl (.inl (e1 _ _ hR))⟩, for_list (K := K) (a := R) (xs := xs) (fun i σ H2 => (∃ v2 v3 v4, σ = [some (.ref R), some (.ref L), v2, v3, v4]) ∧ Same H H2 ∧ ∃ ys ms, H2 L = some (.lst ys) ∧ PrAll H2 ys ms ∧ Sorted ms ∧ (∀ x, x ∈ ms ↔ x ∈ ps.take i) ∧ ms.length ≤ i)
      ⟨⟨none, none, none, rfl⟩, e1, [], [], hL, .nil, List.Pairwise.nil, fun x => Iff.rfl, Nat.le_refl _⟩ (fun i σ H2 _ e => .inl (.inl (e.2.1 _ _ hR))) ?_ ?_⟩
    · rintro i x σ H2 hi ⟨⟨v2, v3, v4, rfl⟩, e2, ys, ms, eL, hms, hs, hmem, hlen⟩
      obtain ⟨t, p, rfl, hp, ht⟩ := hps.at hi
      have hpm : p ∈ ps := List.mem_of_getElem? hp
      obtain ⟨rp, z1, z2⟩ := hgood p hpm
      have hil : i < ps.length := (List.getElem?_eq_some_iff.mp hp).1
      have mgood : ∀ x ∈ ms, Rd x ∧ x.1.natAbs < 2 ^ 1000 ∧ x.2.natAbs < 2 ^ 1000 := fun x hx => hgood x (List.mem_of_mem_take ((hmem x).mp hx))
      -- how many are less
      refine ⟨_, rfl, L, rfl, ⟨ys, .inl (.inl eL)⟩, fun D nD => ?_⟩
      have nDL : L ≠ D := ne_of_none eL nD
      refine lc_it (walk_list (K := K) (a := L) (xs := ys)) (fun j H3 => Same H2 H3 ∧ ∃ zs, H3 D = some (.lst zs) ∧ zs.length = ((ms.take j).filter fun x => bLt x p).length) ⟨same_upd nD, [], upd_same, by rw [List.take_zero]; rfl⟩ (fun j H3 _ e => .inl (.inl (e.1 _ _ eL))) ?_ ?_
      · rintro j z H3 H4 hj ⟨e3, zs, eD, hz⟩ ⟨rfl, hzj⟩
        obtain ⟨u, q, rfl, hq, hu⟩ := hms.at hzj
        obtain ⟨rq, y1, y2⟩ := mgood q (List.mem_of_getElem? hq)
        refine ⟨rfl, _, rfl, _, rfl, u, t, q, p, rfl, hu.same e3, (ht.same e2).same e3, y1, y2, z1, z2, _, rfl, ?_⟩
        have et : ms.take (j + 1) = ms.take j ++ [q] := by rw [List.take_succ, hq]; rfl
        cases hb : bLt q p with
        | true =>
          refine iteT ?_
          refine ⟨_, rfl, zs, eD, ?_, fun c o e => ?_, zs ++ [.ref u], upd_same, ?_⟩
          · rw [hz]
            refine small1000 (Nat.le_trans (List.length_filter_le _ _) ?_)
            rw [List.length_take]
            omega
          · rw [upd_ne (ne_of_none e nD)]
            exact e3 _ _ e
          · rw [et, List.filter_append, List.length_append, List.length_append, hz]
            simp [hb]
        | false =>
          refine iteF ?_
          refine ⟨e3, zs, eD, ?_⟩
          rw [et, List.filter_append, List.length_append, hz]
          simp [hb]
      · rintro H3 ⟨e3, zs, eD, hz⟩
        rw [hms.len, List.take_length] at hz
        refine ⟨D, zs, rfl, .inl (.inl (.inl eD)), ?_⟩
        rw [show zs.length = insAt p ms from hz]
        have eL3 := e3 _ _ eL
        have hms3 := hms.mono fun t p z => z.same e3
        have ht3 := (ht.same e2).same e3
        obtain ⟨so, me⟩ := ins_ok rp (fun x hx => (mgood x hx).1) hs
        have il := ins_len p ms
        have mem' : ∀ x, x ∈ ins p ms ↔ x ∈ ps.take (i + 1) := fun x => by
          rw [me, hmem, List.take_succ, hp]
          show _ ↔ x ∈ ps.take i ++ [p]
          rw [List.mem_append, List.mem_singleton]
          exact Or.comm
        have i50 : insAt p ms ≤ ms.length := List.length_filter_le _ _
        -- put in, or not
        have put : ∀ H4, Same H3 H4 → (insAt p ms = ms.length ∨ ms[insAt p ms]? ≠ some p) →
            tDrop (tBM K "list" (fun x vs H Q => ∃ (l : Addr) (xs : List V) (i : Int) (y : V), x = .ref l ∧ vs = [.int i, y] ∧ H l = some (.lst xs) ∧ xs.length < sizeLine ∧ 0 ≤ i ∧ i < 2 ^ 63 ∧ Q .non (upd H l (.lst (xs.take i.toNat ++ [y] ++ xs.drop i.toNat)))) (tVar 1) (tCons (tVar 3) (tCons (tVar 2) tNil)))
              { nx := fun σ H2 => (∃ v2 v3 v4, σ = [some (.ref R), some (.ref L), v2, v3, v4]) ∧ Same H H2 ∧ ∃ ys ms, H2 L = some (.lst ys) ∧ PrAll H2 ys ms ∧ Sorted ms ∧ (∀ x, x ∈ ms ↔ x ∈ ps.take (i + 1)) ∧ ms.length ≤ i + 1, rt := Q } [some (.ref R), some (.ref L), some (.ref t), some (.int ((insAt p ms : Nat) : Int)), v4] H4 := fun H4 e4 hc => by
          have eL4 := e4 _ _ eL3
          refine ⟨_, rfl, .inl ⟨rfl, ys, .inl (.inl eL4)⟩, _, rfl, _, rfl, L, ys, _, _, rfl, rfl, eL4, small1000 (by rw [hms.len]; omega), by omega, by omega, ?_⟩
          have kp : ∀ o, Keep L H4 (upd H4 L o) := fun o b o' e n => (upd_ne n).trans e
          refine ⟨⟨_, _, _, rfl⟩, fun b o e => ?_, _, ins p ms, upd_same, ?_, so, mem', by omega⟩
          · rw [upd_ne (ne_of_none e nL)]
            exact e4 _ _ (e3 _ _ (e2 _ _ e))
          · have : ins p ms = ms.take (insAt p ms) ++ [p] ++ ms.drop (insAt p ms) := by unfold ins; rw [if_pos hc]
            rw [this, Int.toNat_natCast]
            have hm4 : PrAll (upd H4 L (.lst (ys.take (insAt p ms) ++ [.ref t] ++ ys.drop (insAt p ms)))) ys ms := (hms3.mono fun _ _ z => z.same e4).mono fun _ _ z => z.keepL eL4 (kp _)
            exact ((hm4.take _).app (.cons ((ht3.same e4).keepL eL4 (kp _)) .nil)).app (hm4.drop _)
        refine ⟨_, rfl, _, rfl, L, ys, rfl, .inl (.inl (.inl eL3)), rfl, _, rfl, ?_⟩
        by_cases c1 : insAt p ms = ms.length
        · rw [show decide (V.int ((insAt p ms : Nat) : Int) = V.int ((ys.length : Nat) : Int)) = true by rw [hms.len, c1]; simp]
          refine iteT ?_
          exact iteT (put H3 (Same.refl _) (.inl c1))
        · rw [show decide (V.int ((insAt p ms : Nat) : Int) = V.int ((ys.length : Nat) : Int)) = false by rw [hms.len]; exact decide_eq_false fun z => c1 (by have := V.int.inj z; omega)]
          refine iteF ?_
          obtain ⟨q, hq⟩ : ∃ q, ms[insAt p ms]? = some q := ⟨_, List.getElem?_eq_getElem (by omega)⟩
          obtain ⟨vq, hvq⟩ : ∃ vq, ys[insAt p ms]? = some vq := ⟨_, List.getElem?_eq_getElem (by rw [hms.len]; omega)⟩
          obtain ⟨u, q', rfl, hq', hu⟩ := hms3.at hvq
          rw [hq] at hq'
          cases hq'
          refine ⟨_, rfl, _, rfl, L, ys, _, _, rfl, rfl, .inl (.inl eL3), atI_nat hvq, _, rfl, dp q, dp p, dpPair hu, dpPair ht3, rfl, rfl, _, rfl, ?_⟩
          rw [dp_eqv]
          by_cases c2 : p = q
          · rw [decide_eq_true c2]
            refine iteF ?_
            refine ⟨⟨_, _, _, rfl⟩, e2.trans e3, ys, ms, eL3, hms3, hs, fun x => ?_, by omega⟩
            have := mem' x
            rw [show ins p ms = ms by unfold ins; rw [if_neg (fun z => z.elim c1 fun y => y (hq.trans (congrArg some c2.symm)))]] at this
            exact this
          · rw [decide_eq_false c2]
            exact iteT (put H3 (Same.refl _) (.inr (by rw [hq]; exact fun z => c2 (Option.some.inj z).symm)))
    · rintro σ H2 ⟨⟨v2, v3, v4, rfl⟩, e2, ys, ms, eL, hms, hs, hmem, hlen⟩
      rw [hps.len, List.take_length] at hmem
      rw [hps.len] at hlen
      exact ⟨_, rfl, k L H2 ys ms nL e2 eL hms hs hmem hlen⟩
/-- what a drawn course keeps to -/
structure Course (a b : Int) (cs : List Pt) : Prop where
  so : Sorted (cs.map Prod.fst)
  hd : (cs.map Prod.fst).head? = some (a, 1)
  ls : (cs.map Prod.fst).getLast? = some (b, 1)
  fine : ∀ s ∈ cs, Ty s.1 ∧ Sz 5 2 s.2
  len : cs.length ≤ 6
def spCourse : Sp := fun vs H Q _ => ∃ (st c : Addr) (ns : List Int) (a b : Int), vs = [.ref st, .int a, .int b] ∧ StAt H st c ns ∧ ns.length ≤ 63 ∧ a < b ∧ -5 ≤ a ∧ b ≤ 10 ∧
  ∀ L H' ys cs, StAt H' st c ns → Keep st H H' → H' L = some (.lst ys) → L ≠ st → CrAll H' ys cs → Course a b cs → Q (.ref L) H'
theorem ok_law_drawn_course (T : Tx K mg) : FnOk P w K mg base CX0 4 T.law_drawn_course_a T.law_drawn_course_d ["_law_state", "_law_a", "_law_b"] spCourse := by
  refine T.law_drawn_course_F.ok sc_law_drawn_course (fun vs H Q E h => ?_) (fun cdv A outer s H vs Q E hr h => ?_)
  · obtain ⟨st, c, ns, a, b, rfl, _⟩ := h
    rfl
  · obtain ⟨st, c, ns, a, b, rfl, hSt, hl, hab, ha, hb, k⟩ := h
    refine ⟨_, (pss_cons (ps_set (i := 3) sc_law_drawn_course.nd rfl (Or.inl rfl) (pe_lst (pa_cons (pe_tup (pa_cons (pv 1) (pa_cons pe_int pa_nil))) (pa_cons (pe_tup (pa_cons (pv 2) (pa_cons pe_int pa_nil))) pa_nil))))
  (pss_cons (ps_for PassesOwn.never rfl (pi_range1 rfl T.z_range (pa_cons (pe_call (ok_law_take T) (hr.mono (by decide)) rfl T.law_take_m T.law_take_F.kp T.law_take_b .nil pass0 (pa_cons (pv 0) (pa_cons pe_int pa_nil))) pa_nil)) (pg_name (i := 4) sc_law_drawn_course.nd rfl (Or.inl rfl))
  (pss_one (ps_expr (pe_bm PySem.F.plainAttrs_list PySem.F.slot_list_append PySem.F.type_list_append mt_append (pv 3) (pa_cons (pe_call (ok_law_frac T) (hr.mono (by decide)) rfl T.law_frac_m T.law_frac_F.kp T.law_frac_b .nil pass0 (pa_cons (pe_op (op_add) (pe_op (op_add) (pe_op (op_mulG) (pv 1) pe_int) pe_int) (pe_call (ok_law_take T) (hr.mono (by decide)) rfl T.law_take_m T.law_take_F.kp T.law_take_b .nil pass0 (pa_cons (pv 0) (pa_cons (pe_op (op_sub) (pe_op (op_mulG) pe_int (pe_op (op_sub) (pv 2) (pv 1))) pe_int) pa_nil)))) (pa_cons pe_int pa_nil))) pa_nil)))))
  (pss_one (ps_ret (pe_lc (g := gName 5) (tt := tYes) (own := [("_law_t", 5)]) rfl sc_law_drawn_course.nd (pi_list (pe_call (ok_law_moments T) (hr.mono (by decide)) rfl T.law_moments_m T.law_moments_F.kp T.law_moments_b .nil pass0 (pa_cons (pv 3) pa_nil))) (blkOk_by (own := [("_law_t", 5)]) (N := ["_law_state", "_law_a", "_law_b", "_law_stops", "_law_k", "_law_t"]) (sc := defScope s_law_drawn_course) (by decide +kernel))
   (fun _ _ _ _ _ => pg_name (i := 5) sc_law_drawn_course.nd rfl (Or.inl rfl)) (fun _ _ _ _ _ => pts_nil) (fun _ _ _ _ _ => (pe_tup (pa_cons (pv 5) (pa_cons (pe_call (ok_law_frac T) (hr.mono (by decide)) rfl T.law_frac_m T.law_frac_F.kp T.law_frac_b .nil pass0 (pa_cons (pe_op (op_sub) (pe_call (ok_law_take T) (hr.mono (by decide)) rfl T.law_take_m T.law_take_F.kp T.law_take_b .nil pass0 (pa_cons (pv 0) (pa_cons pe_int pa_nil))) pe_int) (pa_cons (pe_call (ok_law_one T) (hr.mono (by decide)) rfl T.law_one_m T.law_one_F.kp T.law_one_b .nil pass0 (pa_cons (pv 0) (pa_cons (pe_lst (pa_cons pe_int (pa_cons pe_int (pa_cons pe_int (pa_cons pe_int pa_nil))))) pa_nil))) pa_nil))) pa_nil))))))))), ?_⟩
    obtain ⟨sx, hstL⟩ := st_lst hSt
    refine ⟨_, rfl, (by show 2 ≤ sizeLine; decide), fun t1 n1 => ?_⟩
    have e1 : Same H (upd H t1 (.tup [.int a, .int 1])) := same_upd n1
    have h1 : (upd H t1 (.tup [.int a, .int 1])) t1 = some (.tup [.int a, .int 1]) := upd_same
    generalize upd H t1 (.tup [.int a, .int 1]) = H1 at e1 h1 ⊢
    refine ⟨_, rfl, (by show 2 ≤ sizeLine; decide), fun t2 n2 => ?_⟩
    have e2 : Same H1 (upd H1 t2 (.tup [.int b, .int 1])) := same_upd n2
    have h2 : (upd H1 t2 (.tup [.int b, .int 1])) t2 = some (.tup [.int b, .int 1]) := upd_same
    generalize upd H1 t2 (.tup [.int b, .int 1]) = H2 at e2 h2 ⊢
    refine ⟨(by show 2 ≤ sizeLine; decide), fun S nS => ?_⟩
    have e3 : Same H2 (upd H2 S (.lst [.ref t1, .ref t2])) := same_upd nS
    have hS : (upd H2 S (.lst [.ref t1, .ref t2])) S = some (.lst [.ref t1, .ref t2]) := upd_same
    generalize upd H2 S (.lst [.ref t1, .ref t2]) = H3 at e3 hS ⊢
    have e13 := (e1.trans e2).trans e3
    have nSst : S ≠ st := Ne.symm (ne_of_none ((e1.trans e2) _ _ hstL) nS)
    have nSc : c ≠ S := ne_of_none ((e1.trans e2) _ _ hSt.2.1) nS
    have nSH : H S = none := (e1.trans e2).free nS
    -- stops
    refine ⟨_, rfl, st, c, ns, 5, rfl, hSt.same e13, hl, by decide, sz_up (by decide : (5 : Int).natAbs < 2 ^ 3) (by decide), fun r0 H4 q0 q1 s4 k4 => ?_⟩
    obtain ⟨m, rfl⟩ : ∃ m : Nat, r0 = (m : Int) := ⟨_, (Int.toNat_of_nonneg q0).symm⟩
    have k03 : Keep st H H4 := (Same.keep e13).trans k4
    have pr0 : PrAll H4 [.ref t1, .ref t2] [(a, 1), (b, 1)] := by
      refine .cons (k4 _ _ ((e2.trans e3) _ _ h1) ?_) (.cons (k4 _ _ (e3 _ _ h2) ?_) .nil)
      · exact Ne.symm (ne_of_none hstL n1)
      · exact Ne.symm (ne_of_none (e1 _ _ hstL) n2)
    have hS4 := k4 _ _ hS nSst
    have bnd0 : ∀ p ∈ ([(a, 1), (b, 1)] : List (Int × Int)), Ty p ∧ (p = (a, 1) ∨ bLt (a, 1) p = true) ∧ (p = (b, 1) ∨ bLt p (b, 1) = true) := by
      have hlt : bLt (a, 1) (b, 1) = true := decide_eq_true (by show a * 1 < b * 1; omega)
      intro p hp
      have sz : ∀ z : Int, -5 ≤ z → z ≤ 10 → Ty (z, 1) := fun z h1 h2 => ⟨rd_int z, by show z.natAbs < 2 ^ 6; omega, by show (1 : Int).natAbs < 2 ^ 3; decide⟩
      simp only [List.mem_cons, List.not_mem_nil, or_false] at hp
      rcases hp with rfl | rfl
      · exact ⟨sz a (by omega) (by omega), .inl rfl, .inr hlt⟩
      · exact ⟨sz b (by omega) (by omega), .inr hlt, .inl rfl⟩
    refine ⟨m, rfl, by omega, by omega, for_range (n := m) (fun i σ H' => (∃ v, σ = [some (.ref st), some (.int a), some (.int b), some (.ref S), v, none]) ∧ StAt H' st c ns ∧ Keep st H H' ∧ ∃ ys ps, H' S = some (.lst ys) ∧ PrAll H' ys ps ∧ ps.length = 2 + i ∧ (a, 1) ∈ ps ∧ (b, 1) ∈ ps ∧ ∀ p ∈ ps, Ty p ∧ (p = (a, 1) ∨ bLt (a, 1) p = true) ∧ (p = (b, 1) ∨ bLt p (b, 1) = true))
      ⟨⟨none, rfl⟩, s4, k03, _, _, hS4, pr0, rfl, by simp, by simp, bnd0⟩ ?_ ?_⟩
    · rintro i σ H5 hi ⟨⟨v, rfl⟩, s5, k5, ys, ps, eS, hps, hpl, ma, mb, hb5⟩
      refine ⟨_, rfl, .inl ⟨rfl, ys, .inl (.inl eS)⟩, _, rfl, _, _, rfl, rfl, mulOk_r ⟨by decide, by decide⟩, _, _, rfl, rfl, _, rfl, _, rfl, _, rfl, _, _, rfl, rfl, _, _, rfl, rfl, mulOk_l ⟨by decide, by decide⟩, _, _, rfl, rfl, st, c, ns, _, rfl, s5, hl, by omega, ?_, fun r H6 r0 r1 s6 k6 => ?_⟩
      · exact sz_up (m := 12) (by omega) (by decide)
      obtain ⟨sx5, hL5⟩ := st_lst s5
      refine ⟨_, _, rfl, rfl, a * 6 + 1 + r, 6, rfl, by decide, sz_up (by decide : (6 : Int).natAbs < 2 ^ 3) (by decide), fun t H7 e7 ht => ?_⟩
      have eS6 := k6 _ _ eS nSst
      have eS7 := e7 _ _ eS6
      have hps7 : PrAll H7 ys ps := (hps.mono fun t p z => z.keepL hL5 k6).mono fun t p z => z.same e7
      refine ⟨S, ys, _, rfl, rfl, eS7, small1000 (by rw [hps.len, hpl]; omega), ?_⟩
      have kp : Keep S H7 (upd H7 S (.lst (ys ++ [.ref t]))) := fun b o e n => (upd_ne n).trans e
      have ft : Ty (red (a * 6 + 1 + r) 6) := ⟨red_rd (by decide), red_sz (m := 6) (n := 3) (by decide) (by omega) (by decide)⟩
      obtain ⟨b1, b2⟩ := red_between (n := a * 6 + 1 + r) (a := a) (b := b) (by omega) (by omega)
      refine ⟨⟨_, rfl⟩, ?_, fun b o e n => ?_, ys ++ [.ref t], ps ++ [red (a * 6 + 1 + r) 6], upd_same, (hps7.mono fun t p z => z.keepL eS7 kp).app (.cons (ht.keepL eS7 kp) .nil), by rw [List.length_append, hpl]; rfl, List.mem_append_left _ ma, List.mem_append_left _ mb, fun p hp => ?_⟩
      · exact st_updL (s6.same e7) (Ne.symm nSst) nSc
      · rw [upd_ne (ne_of_none e nSH)]
        exact e7 _ _ (k6 _ _ (k5 b o e n) n)
      · rcases List.mem_append.mp hp with hp | hp
        · exact hb5 p hp
        · rw [List.mem_singleton.mp hp]
          exact ⟨ft, .inr b1, .inr b2⟩
    · rintro σ H5 ⟨⟨v, rfl⟩, s5, k5, ys, ps, eS, hps, hpl, ma, mb, hb5⟩
      obtain ⟨sx5, hL5⟩ := st_lst s5
      have gd : ∀ p ∈ ps, Rd p ∧ p.1.natAbs < 2 ^ 1000 ∧ p.2.natAbs < 2 ^ 1000 := fun p hp => ⟨(hb5 p hp).1.1, (hb5 p hp).1.nm.2.1, (hb5 p hp).1.nm.2.2⟩
      refine ⟨_, rfl, S, ys, ps, rfl, eS, hps, by omega, gd, fun L H6 zs ms nL e6 hL hms hso hmem hlen => ⟨L, rfl, ⟨zs, .inl (.inl hL)⟩, fun D nD => ?_⟩⟩
      have hL6 := e6 _ _ hL5
      have nLst : L ≠ st := Ne.symm (ne_of_none hL5 nL)
      have nDst : D ≠ st := Ne.symm (ne_of_none hL6 nD)
      have s6 := s5.same e6
      have nDc : c ≠ D := ne_of_none s6.2.1 nD
      have k6 : Keep st H H6 := k5.trans (Same.keep e6)
      refine lc_it (walk_list (K := K) (a := L) (xs := zs)) (fun j H7 => StAt H7 st c ns ∧ Keep st H6 H7 ∧ ∃ us cs, H7 D = some (.lst us) ∧ CrAll H7 us cs ∧ cs.map Prod.fst = ms.take j ∧ ∀ s ∈ cs, Sz 5 2 s.2)
        ⟨s6.same (same_upd nD), Same.keep (same_upd nD), [], [], upd_same, .nil, by rw [List.take_zero]; rfl, nofun⟩ (fun j H7 _ e => .inl (.inl (e.2.1 _ _ hL nLst))) ?_ ?_
      · rintro j z H70 H7 hj ⟨s7, k7, us, cs, eD, hcs, ecs, hfs⟩ ⟨rfl, hz⟩
        obtain ⟨t, p, rfl, hp, ht⟩ := hms.at hz
        have ht7 : PairAt H7 t p := ht.keepL hL6 k7
        obtain ⟨sx7, hL7⟩ := st_lst s7
        refine ⟨rfl, yes_of ?_⟩
        refine ⟨_, rfl, _, rfl, st, c, ns, 40, rfl, s7, hl, by decide, sz_up (by decide : (40 : Int).natAbs < 2 ^ 6) (by decide), fun r H8 r0 r1 s8 k8 => ⟨_, _, rfl, rfl, _, rfl, (by show 4 ≤ sizeLine; decide), fun l nl => ?_⟩⟩
        obtain ⟨sx8, hL8⟩ := st_lst s8
        have en := same_upd (o := .lst [.int 1, .int 1, .int 2, .int 3]) nl
        refine ⟨st, c, l, ns, _, rfl, s8.same en, hl, upd_same, Ne.symm (ne_of_none hL8 nl), (by simp), (by show 4 ≤ 1000; decide), fun v H9 hv s9 k9 => ?_⟩
        have hd : ∃ d : Int, v = .int d ∧ d ≠ 0 ∧ d.natAbs < 2 ^ 2 := by
          simp only [List.mem_cons, List.not_mem_nil, or_false] at hv
          rcases hv with rfl | rfl | rfl | rfl <;> exact ⟨_, rfl, by decide, by decide⟩
        obtain ⟨d, rfl, d0, dz⟩ := hd
        refine ⟨r - 10, d, rfl, d0, sz_up dz (by decide), fun th H10 e10 hth => ⟨(by show 2 ≤ sizeLine; decide), fun u nu => ?_⟩⟩
        have eu := same_upd (o := .tup [.ref t, .ref th]) nu
        have hu := upd_same (H := H10) (a := u) (o := .tup [.ref t, .ref th])
        generalize upd H10 u (.tup [.ref t, .ref th]) = H11 at eu hu ⊢
        have kk : Keep st H7 H11 := fun b o e n => eu _ _ (e10 _ _ (k9 _ _ (en _ _ (k8 b o e n)) n))
        have eD11 := kk _ _ eD nDst
        have hcs11 := hcs.keepL hL7 kk
        have ht11 : PairAt H11 t p := ht7.keepL hL7 kk
        have kp : ∀ o, Keep D H11 (upd H11 D o) := fun o b o' e n => (upd_ne n).trans e
        have s11 := (s9.same e10).same eu
        refine ⟨us, eD11, ?_, st_updL s11 (Ne.symm nDst) nDc, fun b o e n => ?_, us ++ [.ref u], cs ++ [(p, red (r - 10) d)], upd_same, ?_, ?_, fun s hs => ?_⟩
        · have := congrArg List.length ecs
          rw [List.length_map, List.length_take] at this
          rw [hcs.len]
          exact small1000 (by omega)
        · rw [upd_ne (ne_of_none e nD)]
          exact kk _ _ (k7 b o e n) n
        · exact (hcs11.keepL eD11 (kp _)).app (.cons (kp _ _ _ hu (ne_of hu eD11 fun z => by cases z)) (ht11.keepL eD11 (kp _)) ((hth.same eu).keepL eD11 (kp _)) .nil)
        · rw [List.map_append, ecs, List.take_succ, hp]
          rfl
        · rcases List.mem_append.mp hs with hs | hs
          · exact hfs s hs
          · rw [List.mem_singleton.mp hs]
            exact ⟨red_rd d0, red_sz (m := 5) (n := 2) d0 (by omega) dz⟩
      · rintro H7 ⟨s7, k7, us, cs, eD, hcs, ecs, hfs⟩
        rw [hms.len, List.take_length] at ecs
        have pos : ∀ x ∈ ms, 0 < x.2 := fun x hx => (hb5 x ((hmem x).mp hx)).1.1.1
        refine k D H7 us cs s7 (k6.trans k7) eD nDst hcs ⟨?_, ?_, ?_, fun s hs => ⟨?_, hfs s hs⟩, ?_⟩
        · rw [ecs]; exact hso
        · rw [ecs]; exact sorted_head hso ((hmem _).mpr ma) pos fun x hx => (hb5 x ((hmem x).mp hx)).2.1
        · rw [ecs]; exact sorted_last hso ((hmem _).mpr mb) pos fun x hx => (hb5 x ((hmem x).mp hx)).2.2
        · have : s.1 ∈ cs.map Prod.fst := List.mem_map_of_mem hs
          rw [ecs] at this
          exact (hb5 _ ((hmem _).mp this)).1
        · have := congrArg List.length ecs
          rw [List.length_map] at this
          omega
end



/-! ### the law's lines, its lower line -/
theorem mulR_comm (p q : Int × Int) : mulR p q = mulR q p := by
  unfold mulR
  show red (p.1 * q.1) (p.2 * q.2) = red (q.1 * p.1) (q.2 * p.2)
  rw [Int.mul_comm p.1, Int.mul_comm p.2]
theorem over_q {D : Int × Int} (hD : Rd D) (h0 : D.1 ≠ 0) : Rd (red D.2 D.1) ∧ toQ (red D.2 D.1) * toQ D = 1 := by
  refine ⟨red_rd h0, ?_⟩
  rw [toQ_red h0]
  unfold toQ
  rw [Rat.divInt_mul_divInt, Int.mul_comm D.2 D.1]
  have : Rat.divInt (D.1 * D.2) (D.1 * D.2) = Rat.divInt 1 1 := (Rat.divInt_eq_divInt_iff (Int.mul_ne_zero h0 (Int.ne_of_gt hD.1)) (by decide)).mpr (by rw [Int.mul_one, Int.one_mul])
  exact this.trans (by decide +kernel)
theorem share_eq {G D : Int × Int} (hG : Rd G) (hD : Rd D) (h0 : D.1 ≠ 0) : mulR G (red D.2 D.1) = divR G D := by
  obtain ⟨r1, e1⟩ := over_q hD h0
  obtain ⟨e2, r2⟩ := toQ_div hG hD h0
  refine toQ_inj (rd_mul hG r1) r2 ?_
  rw [toQ_mul hG r1]
  have d0 : toQ D ≠ 0 := fun z => by rw [z, Rat.mul_zero] at e1; exact absurd e1 (by decide)
  have e : (toQ G * toQ (red D.2 D.1) - toQ (divR G D)) * toQ D = 0 := by grind
  rcases Rat.mul_eq_zero.mp e with z | z
  · grind
  · exact absurd z d0
theorem neg_sign {p q : Int × Int} (hp : Rd p) (hq : Rd q) : p.1 * q.1 < 0 ↔ ¬ 0 ≤ toQ p * toQ q := by
  unfold toQ
  rw [Rat.divInt_mul_divInt, Rat.divInt_nonneg_iff_of_pos_right (Int.mul_pos hp.1 hq.1)]
  omega
theorem low_lt {x y : Int × Int} (hx : Rd x) (hy : Rd y) : (if bLt x y = true then x else y) = if bLe x y = true then x else y := by
  have h1 := lt_toQ hx hy
  have h2 := le_toQ hx hy
  by_cases c : bLt x y = true
  · rw [if_pos c, if_pos (h2.mpr (by have := h1.mp c; grind))]
  · rw [if_neg c]
    by_cases d : bLe x y = true
    · rw [if_pos d]
      refine toQ_inj hy hx ?_
      have n : ¬ toQ x < toQ y := fun z => c (h1.mpr z)
      have := h2.mp d
      grind
    · rw [if_neg d]
theorem lowR_mid (r r' : Row) : lowR (midR r r') = (midR r r').2.1 := by
  unfold lowR
  split <;> rfl
section
variable {P : Program} {w : World} {K : PySem.W.Frag} {mg : Str → Option Value} {base : Heap}
def spOver : Sp := fun vs H Q _ => ∃ t p, vs = [.ref t] ∧ PairAt H t p ∧ p.1 ≠ 0 ∧ p.1.natAbs < 2 ^ 1000 ∧ ∀ u H', Same H H' → PairAt H' u (red p.2 p.1) → Q (.ref u) H'
theorem ok_law_over (T : Tx K mg) : FnOk P w K mg base CX0 3 T.law_over_a T.law_over_d ["_law_a"] spOver := by
  refine T.law_over_F.ok sc_law_over (fun vs H Q E h => ?_) (fun cdv A outer s H vs Q E hr h => ?_)
  · obtain ⟨t, p, rfl, _⟩ := h
    rfl
  · obtain ⟨t, p, rfl, ht, h0, hz, k⟩ := h
    refine ⟨_, (pss_one (ps_ret (pe_call (ok_law_frac T) (hr.mono (by decide)) rfl T.law_frac_m T.law_frac_F.kp T.law_frac_b .nil pass0 (pa_cons (pe_ix ix_tup (pv 0) pe_int (fun _ _ => rfl)) (pa_cons (pe_ix ix_tup (pv 0) pe_int (fun _ _ => rfl)) pa_nil))))), ?_⟩
    exact ⟨_, rfl, t, _, _, _, rfl, rfl, .inl (.inl ht), rfl, _, rfl, t, _, _, _, rfl, rfl, .inl (.inl ht), rfl, _, _, rfl, h0, sz_up hz (by decide), k⟩
def spAsLine (L C : Addr) : Sp := fun vs H Q _ => ∃ (a : Addr) (xs : List V) (cs : List Pt), vs = [.ref a] ∧ H a = some (.lst xs) ∧ CrAll H xs cs ∧ (∀ s ∈ cs, Fine s.1 ∧ Fine s.2) ∧ Up cs ∧ 2 ≤ cs.length ∧ cs.length ≤ 900 ∧ ∀ v H', Same H H' → LineAt L C H' v (bentF cs) → Q v H'
theorem ok_law_as_line (T : Tx K mg) : FnOk P w K mg base CX0 20 T.law_as_line_a T.law_as_line_d ["_law_course"] (spAsLine T.Line_a T.Exact_a) := by
  refine T.law_as_line_F.ok sc_law_as_line (fun vs H Q E h => ?_) (fun cdv A outer s H vs Q E hr h => ?_)
  · obtain ⟨a, xs, cs, rfl, _⟩ := h
    rfl
  · obtain ⟨a, xs, cs, rfl, ha, hcs, fine, hu, h2, h9, k⟩ := h
    refine ⟨_, (pss_one (ps_ret (pe_make T.Line_mk (ok_Line_init T) (hr.mono (by decide)) rfl T.Line_m T.Line_init_b .nil pass0 (pa_cons (pe_lc (g := gName 1) (tt := tYes) (te := (tTup (tCons (tCall (spLawPlain T.Exact_a) [] E0 (tCons (tOp (rIxT K) (tVar 1) (tC (.int 0))) tNil)) (tCons (tCall (spLawPlain T.Exact_a) [] E0 (tCons (tOp (rIxT K) (tVar 1) (tC (.int 1))) tNil)) tNil)))) (own := [("_law_x", 1)]) rfl sc_law_as_line.nd (pi_list (pv 0)) (blkOk_by (own := [("_law_x", 1)]) (N := ["_law_course", "_law_x"]) (sc := defScope s_law_as_line) (by decide +kernel))
   (fun _ _ _ _ _ => pg_name (i := 1) sc_law_as_line.nd rfl (Or.inl rfl)) (fun _ _ _ _ _ => pts_nil) (fun _ _ _ _ _ => (pe_tup (pa_cons (pe_call (ok_law_plain T) (hr.mono (by decide)) rfl T.law_plain_m T.law_plain_F.kp T.law_plain_b .nil pass0 (pa_cons (pe_ix ix_tup (pv 1) pe_int (fun _ _ => rfl)) pa_nil)) (pa_cons (pe_call (ok_law_plain T) (hr.mono (by decide)) rfl T.law_plain_m T.law_plain_F.kp T.law_plain_b .nil pass0 (pa_cons (pe_ix ix_tup (pv 1) pe_int (fun _ _ => rfl)) pa_nil)) pa_nil))))) pa_nil)))), ?_⟩
    refine ⟨_, rfl, a, rfl, ⟨xs, .inl (.inl ha)⟩, fun D nD => ?_⟩
    have lx := hcs.len
    refine lc_it (walk_list (K := K) (a := a) (xs := xs)) (fun j H' => Same H H' ∧ ∃ us, H' D = some (.lst us) ∧ TpAll T.Exact_a H' us (cs.take j)) ⟨same_upd nD, [], upd_same, by rw [List.take_zero]; exact .nil⟩ (fun j H' _ e => .inl (.inl (e.1 _ _ ha))) ?_ ?_
    · rintro j z H20 H2 hj ⟨e2, us, eD, hus⟩ ⟨rfl, hz⟩
      obtain ⟨u, t, h, s, rfl, hs, eu, ht, hh⟩ := hcs.at hz
      obtain ⟨f1, f2⟩ := fine s (List.mem_of_getElem? hs)
      have eu2 := e2 _ _ eu
      refine ⟨rfl, yes_of ?_⟩
      refine ⟨_, rfl, u, _, 0, _, rfl, rfl, .inl (.inl eu2), rfl, t, s.1, rfl, ht.same e2, f1.1, sz_up f1.nm.2.2 (by decide), fun x1 H3 e3 hx => ?_⟩
      refine ⟨_, rfl, u, _, 1, _, rfl, rfl, .inl (.inl (e3 _ _ eu2)), rfl, h, s.2, rfl, (hh.same e2).same e3, f2.1, sz_up f2.nm.2.2 (by decide), fun y1 H4 e4 hy => ⟨(by show 2 ≤ sizeLine; decide), fun tp ntp => ?_⟩⟩
      have e5 : Same H4 (upd H4 tp (.tup [x1, y1])) := same_upd ntp
      have htp : (upd H4 tp (.tup [x1, y1])) tp = some (.tup [x1, y1]) := upd_same
      generalize upd H4 tp (.tup [x1, y1]) = H5 at e5 htp ⊢
      have e25 := (e3.trans e4).trans e5
      have eD5 := e25 _ _ eD
      have kp : ∀ o, Keep D H5 (upd H5 D o) := fun o b o' e n => (upd_ne n).trans e
      have pn : TpAt T.Exact_a H5 (.ref tp) s := ⟨tp, x1, y1, rfl, htp, hx.num.same (e4.trans e5), hy.num.same e5, f1, f2⟩
      refine ⟨us, eD5, ?_, fun b o e => ?_, us ++ [.ref tp], upd_same, ?_⟩
      · rw [hus.len]
        refine small1000 (Nat.le_trans (List.length_take_le _ _) ?_)
        omega
      · rw [upd_ne (ne_of_none e nD)]
        exact e25 _ _ (e2 _ _ e)
      · rw [List.take_succ, hs]
        exact (hus.mono fun v s z => (z.same e25).keepL eD5 (kp _)).snoc (pn.keepL eD5 (kp _))
    · rintro H2 ⟨e2, us, eD, hus⟩
      rw [lx, List.take_length] at hus
      refine fun ln dl nln ndl nel => mk_line (ps := cs) nln ndl nel ⟨D, rfl, .inl eD⟩ (by rw [hus.len]; omega) (line_fineU (fun s hs => ⟨(fine s hs).1.1, (fine s hs).2.1⟩) hu h2) hus.len hus.pn.hit fun H3 e3 hln => ?_
      exact k _ H3 (e2.trans e3) hln
def spUnder : Sp := fun vs H Q _ => ∃ (a : Addr) (xs : List V) (cs : List Pt), vs = [.ref a] ∧ H a = some (.lst xs) ∧ CrAll H xs cs ∧ cs.length ≤ 900 ∧ ∀ D H' us, H D = none → Same H H' → H' D = some (.lst us) → CrAll H' us (cs.map ngP) → Q (.ref D) H'
theorem ok_law_under (T : Tx K mg) : FnOk P w K mg base CX0 1 T.law_under_a T.law_under_d ["_law_course"] spUnder := by
  refine T.law_under_F.ok sc_law_under (fun vs H Q E h => ?_) (fun cdv A outer s H vs Q E hr h => ?_)
  · obtain ⟨a, xs, cs, rfl, _⟩ := h
    rfl
  · obtain ⟨a, xs, cs, rfl, ha, hcs, h9, k⟩ := h
    refine ⟨_, (pss_one (ps_ret (pe_lc (g := gName 1) (tt := tYes) (te := (tTup (tCons (tOp (rIxT K) (tVar 1) (tC (.int 0))) (tCons (tTup (tCons (tUn (rU fun i => .int (-i)) (tOp (rIxT K) (tOp (rIxT K) (tVar 1) (tC (.int 1))) (tC (.int 0)))) (tCons (tOp (rIxT K) (tOp (rIxT K) (tVar 1) (tC (.int 1))) (tC (.int 1))) tNil))) tNil)))) (own := [("_law_x", 1)]) rfl sc_law_under.nd (pi_list (pv 0)) (blkOk_by (own := [("_law_x", 1)]) (N := ["_law_course", "_law_x"]) (sc := defScope s_law_under) (by decide +kernel))
   (fun _ _ _ _ _ => pg_name (i := 1) sc_law_under.nd rfl (Or.inl rfl)) (fun _ _ _ _ _ => pts_nil) (fun _ _ _ _ _ => (pe_tup (pa_cons (pe_ix ix_tup (pv 1) pe_int (fun _ _ => rfl)) (pa_cons (pe_tup (pa_cons (pe_un (un_neg) (pe_ix ix_tup (pe_ix ix_tup (pv 1) pe_int (fun _ _ => rfl)) pe_int (fun _ _ => rfl))) (pa_cons (pe_ix ix_tup (pe_ix ix_tup (pv 1) pe_int (fun _ _ => rfl)) pe_int (fun _ _ => rfl)) pa_nil))) pa_nil))))))), ?_⟩
    refine ⟨_, rfl, a, rfl, ⟨xs, .inl (.inl ha)⟩, fun D nD => ?_⟩
    have lx := hcs.len
    refine lc_it (walk_list (K := K) (a := a) (xs := xs)) (fun j H' => Same H H' ∧ ∃ us, H' D = some (.lst us) ∧ CrAll H' us ((cs.take j).map ngP)) ⟨same_upd nD, [], upd_same, by rw [List.take_zero]; exact .nil⟩ (fun j H' _ e => .inl (.inl (e.1 _ _ ha))) ?_ ?_
    · rintro j z H20 H2 hj ⟨e2, us, eD, hus⟩ ⟨rfl, hz⟩
      obtain ⟨u, t, h, s, rfl, hs, eu, ht, hh⟩ := hcs.at hz
      have eu2 := e2 _ _ eu
      have hh2 := hh.same e2
      refine ⟨rfl, yes_of ?_⟩
      refine ⟨_, rfl, u, _, 0, _, rfl, rfl, .inl (.inl eu2), rfl, _, rfl, u, _, 1, _, rfl, rfl, .inl (.inl eu2), rfl, h, _, 0, _, rfl, rfl, .inl (.inl hh2), rfl, _, rfl, _, rfl, u, _, 1, _, rfl, rfl, .inl (.inl eu2), rfl, h, _, 1, _, rfl, rfl, .inl (.inl hh2), rfl, (by show 2 ≤ sizeLine; decide), fun n nn => ?_⟩
      have e3 : Same H2 (upd H2 n (.tup [.int (-s.2.1), .int s.2.2])) := same_upd nn
      have hn : (upd H2 n (.tup [.int (-s.2.1), .int s.2.2])) n = some (.tup [.int (-s.2.1), .int s.2.2]) := upd_same
      generalize upd H2 n (.tup [.int (-s.2.1), .int s.2.2]) = H3 at e3 hn ⊢
      refine ⟨(by show 2 ≤ sizeLine; decide), fun tp ntp => ?_⟩
      have e4 : Same H3 (upd H3 tp (.tup [.ref t, .ref n])) := same_upd ntp
      have htp : (upd H3 tp (.tup [.ref t, .ref n])) tp = some (.tup [.ref t, .ref n]) := upd_same
      generalize upd H3 tp (.tup [.ref t, .ref n]) = H4 at e4 htp ⊢
      have e24 := e3.trans e4
      have eD4 := e24 _ _ eD
      have kp : ∀ o, Keep D H4 (upd H4 D o) := fun o b o' e n => (upd_ne n).trans e
      refine ⟨us, eD4, ?_, fun b o e => ?_, us ++ [.ref tp], upd_same, ?_⟩
      · rw [hus.len, List.length_map]
        refine small1000 (Nat.le_trans (List.length_take_le _ _) ?_)
        omega
      · rw [upd_ne (ne_of_none e nD)]
        exact e24 _ _ (e2 _ _ e)
      · rw [List.take_succ, hs, List.map_append]
        exact ((hus.same e24).keepL eD4 (kp _)).app (.cons (kp _ _ _ htp (ne_of htp eD4 fun q => by cases q)) (((ht.same e2).same e24).keepL eD4 (kp _)) (PairAt.keepL (p := (-s.2.1, s.2.2)) (e4 _ _ hn) eD4 (kp _)) .nil)
    · rintro H2 ⟨e2, us, eD, hus⟩
      rw [lx, List.take_length] at hus
      exact k D H2 us nD e2 eD hus
def spLow : Sp := fun vs H Q _ => ∃ (C1 C2 : Addr) (xs ys : List V) (cs ds : List Pt) (f g : Rat → Rat) (a b : Rat), vs = [.ref C1, .ref C2] ∧ H C1 = some (.lst xs) ∧ CrAll H xs cs ∧ H C2 = some (.lst ys) ∧ CrAll H ys ds ∧ Crs cs f a b ∧ Crs ds g a b ∧
  ∀ D H' us F, H D = none → Same H H' → H' D = some (.lst us) → CrAll H' us (F.map lowP) → Rows f g a b F → F.length ≤ 2 * (cs.length + ds.length) → Q (.ref D) H'
theorem ok_law_lower (T : Tx K mg) : FnOk P w K mg base CX0 14 T.law_lower_a T.law_lower_d ["_law_one_here", "_law_other"] spLow := by
  refine T.law_lower_F.ok sc_law_lower (fun vs H Q E h => ?_) (fun cdv A outer s H vs Q E hr h => ?_)
  · obtain ⟨C1, C2, xs, ys, cs, ds, f, g, a, b, rfl, _⟩ := h
    rfl
  · obtain ⟨C1, C2, xs, ys, cs, ds, f, g, a, b, rfl, h1, hcs, h2, hds, X1, X2, k⟩ := h
    refine ⟨_, (pss_cons (ps_set (i := 2) sc_law_lower.nd rfl (Or.inl rfl) (pe_call (ok_law_moments T) (hr.mono (by decide)) rfl T.law_moments_m T.law_moments_F.kp T.law_moments_b .nil pass0 (pa_cons (pe_lc (g := gName 6) (tt := tYes) (te := (tOp (rIxT K) (tVar 6) (tC (.int 0)))) (own := [("_law_x", 6)]) rfl sc_law_lower.nd (pi_list (pe_op (op_cat) (pv 0) (pv 1))) (blkOk_by (own := [("_law_x", 6)]) (N := ["_law_one_here", "_law_other", "_law_stops", "_law_found", "_law_k", "_law_t", "_law_x", "_law_y", "_law_a", "_law_b", "_law_back", "_law_here", "_law_share", "_law_span", "_law_middle"]) (sc := defScope s_law_lower) (by decide +kernel))
   (fun _ _ _ _ _ => pg_name (i := 6) sc_law_lower.nd rfl (Or.inl rfl)) (fun _ _ _ _ _ => pts_nil) (fun _ _ _ _ _ => (pe_ix ix_tup (pv 6) pe_int (fun _ _ => rfl)))) pa_nil)))
  (pss_cons (ps_set (i := 3) sc_law_lower.nd rfl (Or.inl rfl) (pe_lst pa_nil))
  (pss_cons (ps_for PassesOwn.never rfl (pi_enum (by rfl) T.z_enumerate (pa_cons (pv 2) pa_nil)) (pg_tup (by rfl) (pgs_cons (pg_name (i := 4) sc_law_lower.nd rfl (Or.inl rfl)) (pgs_cons (pg_name (i := 5) sc_law_lower.nd rfl (Or.inl rfl)) pgs_nil)))
  (pss_cons (ps_par (i := 6) (j := 7) (by rfl) sc_law_lower.nd rfl rfl (by decide) rfl rfl (pa_cons (pe_call (ok_law_on T) (hr.mono (by decide)) rfl T.law_on_m T.law_on_F.kp T.law_on_b .nil pass0 (pa_cons (pv 0) (pa_cons (pv 5) pa_nil))) (pa_cons (pe_call (ok_law_on T) (hr.mono (by decide)) rfl T.law_on_m T.law_on_F.kp T.law_on_b .nil pass0 (pa_cons (pv 1) (pa_cons (pv 5) pa_nil))) pa_nil)) (by rfl))
  (pss_cons (ps_if (pt_cmpR op_gt (pv 4) pe_int (nomark _))
  (pss_cons (ps_par (i := 8) (j := 9) (by rfl) sc_law_lower.nd rfl rfl (by decide) rfl rfl (pa_cons (pe_call (ok_law_on T) (hr.mono (by decide)) rfl T.law_on_m T.law_on_F.kp T.law_on_b .nil pass0 (pa_cons (pv 0) (pa_cons (pe_ix ix_list (pv 2) (pe_op (op_sub) (pv 4) pe_int) (fun _ _ => rfl)) pa_nil))) (pa_cons (pe_call (ok_law_on T) (hr.mono (by decide)) rfl T.law_on_m T.law_on_F.kp T.law_on_b .nil pass0 (pa_cons (pv 1) (pa_cons (pe_ix ix_list (pv 2) (pe_op (op_sub) (pv 4) pe_int) (fun _ _ => rfl)) pa_nil))) pa_nil)) (by rfl))
  (pss_cons (ps_par (i := 10) (j := 11) (by rfl) sc_law_lower.nd rfl rfl (by decide) rfl rfl (pa_cons (pe_call (ok_law_add T) (hr.mono (by decide)) rfl T.law_add_m T.law_add_F.kp T.law_add_b .nil pass0 (pa_cons (pv 8) (pa_cons (pe_tup (pa_cons (pe_un (un_neg) (pe_ix ix_tup (pv 9) pe_int (fun _ _ => rfl))) (pa_cons (pe_ix ix_tup (pv 9) pe_int (fun _ _ => rfl)) pa_nil))) pa_nil))) (pa_cons (pe_call (ok_law_add T) (hr.mono (by decide)) rfl T.law_add_m T.law_add_F.kp T.law_add_b .nil pass0 (pa_cons (pv 6) (pa_cons (pe_tup (pa_cons (pe_un (un_neg) (pe_ix ix_tup (pv 7) pe_int (fun _ _ => rfl))) (pa_cons (pe_ix ix_tup (pv 7) pe_int (fun _ _ => rfl)) pa_nil))) pa_nil))) pa_nil)) (by rfl))
  (pss_one (ps_if (pt_cmpR op_lt (pe_op (op_mulG) (pe_ix ix_tup (pv 10) pe_int (fun _ _ => rfl)) (pe_ix ix_tup (pv 11) pe_int (fun _ _ => rfl))) pe_int (nomark _))
  (pss_cons (ps_set (i := 12) sc_law_lower.nd rfl (Or.inl rfl) (pe_call (ok_law_mul T) (hr.mono (by decide)) rfl T.law_mul_m T.law_mul_F.kp T.law_mul_b .nil pass0 (pa_cons (pv 10) (pa_cons (pe_call (ok_law_over T) (hr.mono (by decide)) rfl T.law_over_m T.law_over_F.kp T.law_over_b .nil pass0 (pa_cons (pe_call (ok_law_add T) (hr.mono (by decide)) rfl T.law_add_m T.law_add_F.kp T.law_add_b .nil pass0 (pa_cons (pv 10) (pa_cons (pe_tup (pa_cons (pe_un (un_neg) (pe_ix ix_tup (pv 11) pe_int (fun _ _ => rfl))) (pa_cons (pe_ix ix_tup (pv 11) pe_int (fun _ _ => rfl)) pa_nil))) pa_nil))) pa_nil)) pa_nil))))
  (pss_cons (ps_set (i := 13) sc_law_lower.nd rfl (Or.inl rfl) (pe_call (ok_law_add T) (hr.mono (by decide)) rfl T.law_add_m T.law_add_F.kp T.law_add_b .nil pass0 (pa_cons (pv 5) (pa_cons (pe_tup (pa_cons (pe_un (un_neg) (pe_ix ix_tup (pe_ix ix_list (pv 2) (pe_op (op_sub) (pv 4) pe_int) (fun _ _ => rfl)) pe_int (fun _ _ => rfl))) (pa_cons (pe_ix ix_tup (pe_ix ix_list (pv 2) (pe_op (op_sub) (pv 4) pe_int) (fun _ _ => rfl)) pe_int (fun _ _ => rfl)) pa_nil))) pa_nil))))
  (pss_cons (ps_set (i := 14) sc_law_lower.nd rfl (Or.inl rfl) (pe_call (ok_law_add T) (hr.mono (by decide)) rfl T.law_add_m T.law_add_F.kp T.law_add_b .nil pass0 (pa_cons (pe_ix ix_list (pv 2) (pe_op (op_sub) (pv 4) pe_int) (fun _ _ => rfl)) (pa_cons (pe_call (ok_law_mul T) (hr.mono (by decide)) rfl T.law_mul_m T.law_mul_F.kp T.law_mul_b .nil pass0 (pa_cons (pv 13) (pa_cons (pv 12) pa_nil))) pa_nil))))
  (pss_one (ps_expr (pe_bm PySem.F.plainAttrs_list PySem.F.slot_list_append PySem.F.type_list_append mt_append (pv 3) (pa_cons (pe_tup (pa_cons (pv 14) (pa_cons (pe_call (ok_law_on T) (hr.mono (by decide)) rfl T.law_on_m T.law_on_F.kp T.law_on_b .nil pass0 (pa_cons (pv 0) (pa_cons (pv 14) pa_nil))) pa_nil))) pa_nil)))))))
  pss_nil))))
  pss_nil)
  (pss_one (ps_expr (pe_bm PySem.F.plainAttrs_list PySem.F.slot_list_append PySem.F.type_list_append mt_append (pv 3) (pa_cons (pe_tup (pa_cons (pv 5) (pa_cons (pe_ifExp (pt_val (pe_call (ok_law_less T) (hr.mono (by decide)) rfl T.law_less_m T.law_less_F.kp T.law_less_b .nil pass0 (pa_cons (pv 6) (pa_cons (pv 7) pa_nil)))) (pv 6) (pv 7)) pa_nil))) pa_nil)))))))
  (pss_one (ps_ret (pv 3)))))), ?_⟩
    have l1 := hcs.len
    have l2 := hds.len
    have n1 := X1.n
    have n2 := X2.n
    refine ⟨_, rfl, _, rfl, C1, C2, xs, ys, rfl, rfl, h1, h2, len_ok' (by omega), fun L nL => ?_⟩
    have e1 : Same H (upd H L (.lst (xs ++ ys))) := same_upd nL
    have hL : (upd H L (.lst (xs ++ ys))) L = some (.lst (xs ++ ys)) := upd_same
    generalize upd H L (.lst (xs ++ ys)) = H1 at e1 hL ⊢
    refine ⟨L, rfl, ⟨_, .inl (.inl hL)⟩, fun N nN => ?_⟩
    have hall : CrAll H1 (xs ++ ys) (cs ++ ds) := (hcs.same e1).app (hds.same e1)
    have lall := hall.len
    rw [List.length_append] at lall
    refine lc_it (walk_list (K := K) (a := L) (xs := xs ++ ys)) (fun j H' => Same H1 H' ∧ ∃ us, H' N = some (.lst us) ∧ PrAll H' us (((cs ++ ds).take j).map Prod.fst)) ⟨same_upd nN, [], upd_same, by rw [List.take_zero]; exact .nil⟩ (fun j H' _ e => .inl (.inl (e.1 _ _ hL))) ?_ ?_
    · rintro j z H20 H2 hj ⟨e2, us, eN, hus⟩ ⟨rfl, hz⟩
      obtain ⟨u, t, h, s, rfl, hs, eu, ht, hh⟩ := hall.at hz
      have eu2 := e2 _ _ eu
      refine ⟨rfl, yes_of ⟨_, rfl, u, _, 0, _, rfl, rfl, .inl (.inl eu2), rfl, ?_⟩⟩
      have kp : ∀ o, Keep N H2 (upd H2 N o) := fun o b o' e n => (upd_ne n).trans e
      refine ⟨us, eN, ?_, fun b o e => ?_, us ++ [.ref t], upd_same, ?_⟩
      · rw [hus.len, List.length_map]
        refine small1000 (Nat.le_trans (List.length_take_le _ _) ?_)
        rw [List.length_append] at hj
        omega
      · rw [upd_ne (ne_of_none e nN)]
        exact e2 _ _ e
      · rw [List.take_succ, hs, List.map_append]
        exact (hus.mono fun t p z => z.keepL eN (kp _)).app (.cons ((ht.same e2).keepL eN (kp _)) .nil)
    · rintro H2 ⟨e2, us, eN, hus⟩
      rw [List.length_append, lall, List.take_length] at hus
      have e02 := e1.trans e2
      have tym : ∀ p ∈ (cs ++ ds).map Prod.fst, Ty p ∧ a ≤ toQ p ∧ toQ p ≤ b := fun p hp => by
        rw [List.map_append] at hp
        rcases List.mem_append.mp hp with z | z
        · exact X1.mom z
        · exact X2.mom z
      refine ⟨N, us, _, rfl, eN, hus, by rw [List.length_map, List.length_append]; omega, fun p hp => ⟨(tym p hp).1.1, (tym p hp).1.nm.2.1, (tym p hp).1.nm.2.2⟩, fun S H3 zs ms nS e3 hS hms so mem len => ?_⟩
      rw [List.length_map, List.length_append] at len
      have e03 := e02.trans e3
      have ty : ∀ p ∈ ms, Ty p ∧ a ≤ toQ p ∧ toQ p ≤ b := fun p hp => tym p ((mem p).mp hp)
      have asc : Asc ms := List.Pairwise.imp_of_mem (fun {x y} hx hy z => (lt_toQ (ty x hx).1.1 (ty y hy).1.1).mp z) so
      refine ⟨(by show 0 ≤ sizeLine; decide), fun D nD => ?_⟩
      have e4 : Same H3 (upd H3 D (.lst [])) := same_upd nD
      have hD : (upd H3 D (.lst [])) D = some (.lst []) := upd_same
      generalize upd H3 D (.lst []) = H4 at e4 hD ⊢
      have e04 := e03.trans e4
      have nSD : S ≠ D := ne_of_none hS nD
      have hS4 := e4 _ _ hS
      have nDH : H D = none := e03.free nD
      have lz : zs.length = ms.length := hms.len
      have base : ∀ {G : Hp}, Keep D H4 G → G C1 = some (.lst xs) ∧ CrAll G xs cs ∧ G C2 = some (.lst ys) ∧ CrAll G ys ds ∧ G S = some (.lst zs) ∧ PrAll G zs ms := fun {G} kk =>
        ⟨kk _ _ (e04 _ _ h1) (ne_of_none h1 nDH), (hcs.same e04).keepL hD kk, kk _ _ (e04 _ _ h2) (ne_of_none h2 nDH), (hds.same e04).keepL hD kk, kk _ _ hS4 nSD, (hms.mono fun t p z => z.same e4).mono fun t p z => z.keepL hD kk⟩
      obtain ⟨q0, hq0, ea⟩ := X1.e.hd
      obtain ⟨q9, hq9, eb⟩ := X1.e.ls
      obtain ⟨w0, hw0, ea'⟩ := X2.e.hd
      obtain ⟨w9, hw9, eb'⟩ := X2.e.ls
      have pos : ∀ {x y : Int × Int}, Rd x → Rd y → x.2 * y.2 ≠ 0 := fun hx hy => Int.ne_of_gt (Int.mul_pos hx.1 hy.1)
      have memc : ∀ q ∈ cs, q.1 ∈ ms := fun q hq => (mem _).mpr (by rw [List.map_append]; exact List.mem_append_left _ (List.mem_map_of_mem hq))
      have memd : ∀ q ∈ ds, q.1 ∈ ms := fun q hq => (mem _).mpr (by rw [List.map_append]; exact List.mem_append_right _ (List.mem_map_of_mem hq))
      refine ⟨_, rfl, S, zs, rfl, .inl (.inl hS4), for_it (walk_enum (K := K) (a := S) (xs := zs)) (fun i σ H' => (∃ v4 v5 v6 v7 v8 v9 v10 v11 v12 v13 v14, σ = [some (.ref C1), some (.ref C2), some (.ref S), some (.ref D), v4, v5, v6, v7, v8, v9, v10, v11, v12, v13, v14]) ∧ Keep D H4 H' ∧
          ∃ us F, H' D = some (.lst us) ∧ CrAll H' us (F.map lowP) ∧ (∀ x ∈ F, FineRow x) ∧ F.length ≤ 2 * i ∧ (i = 0 ∧ F = [] ∨ ∃ r, 0 < i ∧ Good f g F r ∧ ms[i - 1]? = some r.1 ∧ F.head?.map Prod.fst = ms[0]?))
        ⟨⟨_, _, _, _, _, _, _, _, _, _, _, rfl⟩, Keep.refl _ _, [], [], hD, .nil, nofun, Nat.zero_le _, .inl ⟨rfl, rfl⟩⟩ (fun i σ H' _ e => .inl (.inl (e.2.1 _ _ hS4 nSD))) ?_ ?_⟩
      · rintro i z σ H' H60 hi ⟨⟨v4, v5, v6, v7, v8, v9, v10, v11, v12, v13, v14, rfl⟩, kp, us, F, eD, hus, fine, lenF, stt⟩ ⟨Tp, z1, z2, rfl, nT, rfl, hz1, hz2⟩
        cases hz1
        obtain ⟨t, p, rfl, hp, ht⟩ := (base kp).2.2.2.2.2.at hz2
        refine ⟨Tp, _, rfl, .inl (.inl upd_same), rfl, _, _, rfl, _, _, rfl, rfl, ?_⟩
        have s6 := same_upd (o := .tup [.int (i : Nat), .ref t]) nT
        generalize upd H' Tp (.tup [.int (i : Nat), .ref t]) = H6 at s6 ⊢
        have k6 : Keep D H4 H6 := kp.trans (Same.keep s6)
        obtain ⟨tp, pa, pb⟩ := ty p (List.mem_of_getElem? hp)
        have il : i < ms.length := (List.getElem?_eq_some_iff.mp hp).1
        obtain ⟨b1, b2, b3, b4, b5, b6⟩ := base k6
        refine ⟨_, rfl, _, rfl, C1, t, xs, cs, p, rfl, b1, b2, X1.e.up, X1.ty, X1.e.two, by omega, ht.same s6, tp.up, ⟨q0, hq0, by rw [ea]; exact pa⟩, ⟨q9, hq9, by rw [eb]; exact pb⟩, fun x H7 px e7 hx _ smx onx => ?_⟩
        refine ⟨_, rfl, _, rfl, C2, t, ys, ds, p, rfl, e7 _ _ b3, b4.same e7, X2.e.up, X2.ty, X2.e.two, by omega, (ht.same s6).same e7, tp.up, ⟨w0, hw0, by rw [ea']; exact pa⟩, ⟨w9, hw9, by rw [eb']; exact pb⟩, fun y H8 py e8 hy _ smy ony => ⟨_, _, rfl, ?_⟩⟩
        have zx := smx tp
        have zy := smy tp
        have vx := (X1.e.uniq X1.g onx).2.2
        have vy := (X2.e.uniq X2.g ony).2.2
        have ro' : RowOk f g (p, px, py) := ⟨⟨tp.1, zx.1, zy.1⟩, vx, vy⟩
        have fr' : FineRow (p, px, py) := ⟨tp.fine, zx.fine, zy.fine⟩
        have s8 := (s6.trans e7).trans e8
        have k8 : Keep D H4 H8 := kp.trans (Same.keep s8)
        dsimp only
        show tSeq (tIfS _ _ _) _ _ _ _
        refine seq_ways (fun σ' H' => (∃ v8 v9 v10 v11 v12 v13 v14, σ' = [some (.ref C1), some (.ref C2), some (.ref S), some (.ref D), some (.int (i : Nat)), some (.ref t), some (.ref x), some (.ref y), v8, v9, v10, v11, v12, v13, v14]) ∧ Keep D H4 H' ∧ PairAt H' t p ∧ PairAt H' x px ∧ PairAt H' y py ∧
          ∃ us F, H' D = some (.lst us) ∧ CrAll H' us (F.map lowP) ∧ (∀ x ∈ F, FineRow x) ∧ F.length ≤ 2 * i + 1 ∧ (i = 0 ∧ F = [] ∨ ∃ r, Good f g F r ∧ Adj f g r (p, px, py) ∧ F.head?.map Prod.fst = ms[0]?)) (fun σ' H9 jj => ?_) (fun D' go => ?_)
        · obtain ⟨⟨v8, v9, v10, v11, v12, v13, v14, rfl⟩, k9, ht9, hx9, hy9, us, F, eD9, hus9, fine9, len9, st9⟩ := jj
          have nx := zx.nm
          have ny := zy.nm
          have ell := low_lt zx.1 zy.1
          refine ⟨_, rfl, .inl ⟨rfl, us, .inl (.inl eD9)⟩, _, rfl, _, rfl, _, rfl, x, y, px, py, rfl, hx9, hy9, nx.2.1, nx.2.2, ny.2.1, ny.2.2, _, rfl, ?_⟩
          by_cases c : bLt px py = true
          · first | rw [c] | rw [Bool.eq_false_iff.mpr c]
            refine iteT ⟨_, rfl, (by show 2 ≤ sizeLine; decide), fun tq ntq => ?_⟩
            have hlow : lowR (p, px, py) = px := by
              show (if bLe px py = true then px else py) = px
              rw [← ell, if_pos c]
            have e10 : Same H9 (upd H9 tq (.tup [.ref t, .ref x])) := same_upd ntq
            have htq : (upd H9 tq (.tup [.ref t, .ref x])) tq = some (.tup [.ref t, .ref x]) := upd_same
            generalize upd H9 tq (.tup [.ref t, .ref x]) = H10 at e10 htq ⊢
            have eD10 := e10 _ _ eD9
            have kpu : ∀ o, Keep D H10 (upd H10 D o) := fun o b o' e n => (upd_ne n).trans e
            have lus : us.length = F.length := by rw [hus9.len, List.length_map]
            refine ⟨D, us, _, rfl, rfl, eD10, small1000 (by rw [lus]; omega), ?_⟩
            refine ⟨⟨_, _, _, _, _, _, _, _, _, _, _, rfl⟩, fun b o e n => kpu _ _ _ (e10 _ _ (k9 _ _ e n)) n, us ++ [.ref tq], F ++ [(p, px, py)], upd_same, ?_, ?_, by rw [List.length_append, List.length_singleton]; omega, .inr ⟨(p, px, py), Nat.succ_pos _, ?_, ?_, ?_⟩⟩
            · rw [List.map_append]
              refine ((hus9.same e10).keepL eD10 (kpu _)).app (.cons (kpu _ _ _ htq (ne_of htq eD10 fun q => by cases q)) ((ht9.same e10).keepL eD10 (kpu _)) ?_ .nil)
              show PairAt _ _ (lowR (p, px, py))
              rw [hlow]
              exact (hx9.same e10).keepL eD10 (kpu _)
            · intro r hr
              rcases List.mem_append.mp hr with z | z
              · exact fine9 r z
              · rw [List.mem_singleton.mp z]; exact fr'
            · rcases st9 with ⟨_, rfl⟩ | ⟨r, good, ad, _⟩
              · exact .one ro'
              · exact .more good ad ro'
            · exact hp
            · rcases st9 with ⟨rfl, rfl⟩ | ⟨r, good, ad, hh⟩
              · exact hp.symm
              · rw [← hh]
                obtain ⟨F0, rfl⟩ := good.last
                cases F0 <;> rfl
          · first | rw [c] | rw [Bool.eq_false_iff.mpr c]
            refine iteF ⟨_, rfl, (by show 2 ≤ sizeLine; decide), fun tq ntq => ?_⟩
            have hlow : lowR (p, px, py) = py := by
              show (if bLe px py = true then px else py) = py
              rw [← ell, if_neg c]
            have e10 : Same H9 (upd H9 tq (.tup [.ref t, .ref y])) := same_upd ntq
            have htq : (upd H9 tq (.tup [.ref t, .ref y])) tq = some (.tup [.ref t, .ref y]) := upd_same
            generalize upd H9 tq (.tup [.ref t, .ref y]) = H10 at e10 htq ⊢
            have eD10 := e10 _ _ eD9
            have kpu : ∀ o, Keep D H10 (upd H10 D o) := fun o b o' e n => (upd_ne n).trans e
            have lus : us.length = F.length := by rw [hus9.len, List.length_map]
            refine ⟨D, us, _, rfl, rfl, eD10, small1000 (by rw [lus]; omega), ?_⟩
            refine ⟨⟨_, _, _, _, _, _, _, _, _, _, _, rfl⟩, fun b o e n => kpu _ _ _ (e10 _ _ (k9 _ _ e n)) n, us ++ [.ref tq], F ++ [(p, px, py)], upd_same, ?_, ?_, by rw [List.length_append, List.length_singleton]; omega, .inr ⟨(p, px, py), Nat.succ_pos _, ?_, ?_, ?_⟩⟩
            · rw [List.map_append]
              refine ((hus9.same e10).keepL eD10 (kpu _)).app (.cons (kpu _ _ _ htq (ne_of htq eD10 fun q => by cases q)) ((ht9.same e10).keepL eD10 (kpu _)) ?_ .nil)
              show PairAt _ _ (lowR (p, px, py))
              rw [hlow]
              exact (hy9.same e10).keepL eD10 (kpu _)
            · intro r hr
              rcases List.mem_append.mp hr with z | z
              · exact fine9 r z
              · rw [List.mem_singleton.mp z]; exact fr'
            · rcases st9 with ⟨_, rfl⟩ | ⟨r, good, ad, _⟩
              · exact .one ro'
              · exact .more good ad ro'
            · exact hp
            · rcases st9 with ⟨rfl, rfl⟩ | ⟨r, good, ad, hh⟩
              · exact hp.symm
              · rw [← hh]
                obtain ⟨F0, rfl⟩ := good.last
                cases F0 <;> rfl
        · refine ⟨_, rfl, _, _, rfl, rfl, _, rfl, ?_⟩
          have eD8 := s8 _ _ eD
          have hus8 := hus.same s8
          have hx8 := hx.same e8
          have ht8 := ht.same s8
          rcases stt with ⟨rfl, rfl⟩ | ⟨r, ipos, good, hri, hhd⟩
          · rw [decide_eq_false (by omega)]
            refine iteF ?_
            exact go _ _ ⟨⟨_, _, _, _, _, _, _, rfl⟩, k8, ht8, hx8, hy, us, [], eD8, hus8, nofun, Nat.zero_le _, .inl ⟨rfl, rfl⟩⟩
          · rw [decide_eq_true (by omega)]
            refine iteT ?_
            obtain ⟨j, rfl⟩ : ∃ j, i = j + 1 := ⟨i - 1, by omega⟩
            rw [Nat.add_sub_cancel] at hri
            obtain ⟨d1, d2, d3, d4, d5, d6⟩ := base k8
            obtain ⟨v, hv⟩ : ∃ v, zs[j]? = some v := ⟨_, List.getElem?_eq_getElem (by omega)⟩
            obtain ⟨s, p', rfl, hp', hs⟩ := d6.at hv
            rw [hri] at hp'
            cases hp'
            have hix : atI zs (((j + 1 : Nat) : Int) - 1) = some (.ref s) := by
              rw [show ((j + 1 : Nat) : Int) - 1 = ((j : Nat) : Int) by omega]
              exact atI_nat hv
            obtain ⟨tr, ra, rb⟩ := ty r.1 (List.mem_of_getElem? hri)
            obtain ⟨F0, eF0⟩ := good.last
            have ror : RowOk f g r := good.ok r (by rw [eF0]; exact List.mem_append_right _ List.mem_cons_self)
            -- the heights at the stop before
            refine ⟨_, rfl, _, rfl, _, rfl, _, _, rfl, rfl, S, zs, _, _, rfl, rfl, .inl (.inl d5), hix, C1, s, xs, cs, r.1, rfl, d1, d2, X1.e.up, X1.ty, X1.e.two, by omega, hs, tr.up, ⟨q0, hq0, by rw [ea]; exact ra⟩, ⟨q9, hq9, by rw [eb]; exact rb⟩, fun aa H9 qa e9 ha _ sma ona => ?_⟩
            refine ⟨_, rfl, _, rfl, _, rfl, _, _, rfl, rfl, S, zs, _, _, rfl, rfl, .inl (.inl (e9 _ _ d5)), hix, C2, s, ys, ds, r.1, rfl, e9 _ _ d3, d4.same e9, X2.e.up, X2.ty, X2.e.two, by omega, hs.same e9, tr.up, ⟨w0, hw0, by rw [ea']; exact ra⟩, ⟨w9, hw9, by rw [eb']; exact rb⟩, fun bb H10 qb e10 hb _ smb onb => ⟨_, _, rfl, ?_⟩⟩
            have za := sma tr
            have zb := smb tr
            have eqa : qa = r.2.1 := toQ_inj za.1 ror.rd.2.1 (((X1.e.uniq X1.g ona).2.2).trans ror.e1.symm)
            have eqb : qb = r.2.2 := toQ_inj zb.1 ror.rd.2.2 (((X2.e.uniq X2.g onb).2.2).trans ror.e2.symm)
            subst eqa eqb
            have na := za.nm
            have nb := zb.nm
            have nx := zx.nm
            have ny := zy.nm
            refine ⟨_, rfl, _, rfl, bb, _, _, _, rfl, rfl, .inl (.inl hb), rfl, _, rfl, _, rfl, bb, _, _, _, rfl, rfl, .inl (.inl hb), rfl, (by show 2 ≤ sizeLine; decide), fun m1 nm1 => ?_⟩
            have e11 : Same H10 (upd H10 m1 (.tup [.int (-r.2.2.1), .int r.2.2.2])) := same_upd nm1
            have hm1 : (upd H10 m1 (.tup [.int (-r.2.2.1), .int r.2.2.2])) m1 = some (.tup [.int (-r.2.2.1), .int r.2.2.2]) := upd_same
            generalize upd H10 m1 (.tup [.int (-r.2.2.1), .int r.2.2.2]) = H11 at e11 hm1 ⊢
            refine ⟨aa, m1, r.2.1, (-r.2.2.1, r.2.2.2), rfl, (ha.same e10).same e11, hm1, na.2.1, na.2.2, by rw [Int.natAbs_neg]; exact nb.2.1, nb.2.2, (by show r.2.1.2 * r.2.2.2 ≠ 0; exact pos za.1 zb.1), fun bk H12 e12 hbk => ?_⟩
            rw [fAdd_ng] at hbk
            have e812 := ((e9.trans e10).trans e11).trans e12
            have hx12 := hx8.same e812
            have hy12 := hy.same e812
            refine ⟨_, rfl, _, rfl, y, _, _, _, rfl, rfl, .inl (.inl hy12), rfl, _, rfl, _, rfl, y, _, _, _, rfl, rfl, .inl (.inl hy12), rfl, (by show 2 ≤ sizeLine; decide), fun m2 nm2 => ?_⟩
            have e13 : Same H12 (upd H12 m2 (.tup [.int (-py.1), .int py.2])) := same_upd nm2
            have hm2 : (upd H12 m2 (.tup [.int (-py.1), .int py.2])) m2 = some (.tup [.int (-py.1), .int py.2]) := upd_same
            generalize upd H12 m2 (.tup [.int (-py.1), .int py.2]) = H13 at e13 hm2 ⊢
            refine ⟨x, m2, px, (-py.1, py.2), rfl, hx12.same e13, hm2, nx.2.1, nx.2.2, by rw [Int.natAbs_neg]; exact ny.2.1, ny.2.2, (by show px.2 * py.2 ≠ 0; exact pos zx.1 zy.1), fun hr0 H14 e14 hhr => ⟨_, _, rfl, ?_⟩⟩
            rw [fAdd_ng] at hhr
            have hbk14 : PairAt H14 bk (subR r.2.1 r.2.2) := PairAt.same hbk (e13.trans e14)
            have hhr14 : PairAt H14 hr0 (subR px py) := hhr
            clear hbk hhr
            have zG := zz_sub 55 za zb
            have zR := zz_sub 55 zx zy
            have nG := zG.nm
            have nR := zR.nm
            have e814 := (e812.trans e13).trans e14
            have k14 : Keep D H4 H14 := k8.trans (Same.keep e814)
            refine ⟨_, rfl, bk, _, _, _, rfl, rfl, .inl (.inl hbk14), rfl, _, rfl, hr0, _, _, _, rfl, rfl, .inl (.inl hhr14), rfl, _, _, rfl, rfl, ok1000 nG.2.1 nR.2.1, _, _, rfl, rfl, _, rfl, ?_⟩
            obtain ⟨lt, no⟩ := asc_next asc hri hp
            have ad : Adj0 f g r (p, px, py) := ⟨lt, lin_gr X1.e X1.g ra lt pb fun q hq => no _ (memc q hq), lin_gr X2.e X2.g ra lt pb fun q hq => no _ (memd q hq)⟩
            have sg := neg_sign zG.1 zR.1
            rw [toQ_sub za.1 zb.1, toQ_sub zx.1 zy.1] at sg
            by_cases c : 0 ≤ (toQ r.2.1 - toQ r.2.2) * (toQ px - toQ py)
            · rw [decide_eq_false (fun z => sg.mp z c)]
              refine iteF ?_
              exact go _ _ ⟨⟨_, _, _, _, _, _, _, rfl⟩, k14, ht8.same e814, hx8.same e814, hy.same e814, us, F, e814 _ _ eD8, hus8.same e814, fine, by omega, .inr ⟨r, good, ⟨ad, c⟩, hhd⟩⟩
            · rw [decide_eq_true (sg.mpr c)]
              refine iteT ?_
              obtain ⟨h0, okm, am1, am2⟩ := cross_ok ror ro' ad c
              have zD := zz_sub 106 zG zR
              have nD' := zD.nm
              refine ⟨_, rfl, _, rfl, _, rfl, hr0, _, _, _, rfl, rfl, .inl (.inl hhr14), rfl, _, rfl, _, rfl, hr0, _, _, _, rfl, rfl, .inl (.inl hhr14), rfl, (by show 2 ≤ sizeLine; decide), fun m3 nm3 => ?_⟩
              have e15 : Same H14 (upd H14 m3 (.tup [.int (-(subR px py).1), .int (subR px py).2])) := same_upd nm3
              have hm3 : (upd H14 m3 (.tup [.int (-(subR px py).1), .int (subR px py).2])) m3 = some (.tup [.int (-(subR px py).1), .int (subR px py).2]) := upd_same
              generalize upd H14 m3 (.tup [.int (-(subR px py).1), .int (subR px py).2]) = H15 at e15 hm3 ⊢
              refine ⟨bk, m3, subR r.2.1 r.2.2, (-(subR px py).1, (subR px py).2), rfl, hbk14.same e15, hm3, nG.2.1, nG.2.2, by rw [Int.natAbs_neg]; exact nR.2.1, nR.2.2, (by show (subR r.2.1 r.2.2).2 * (subR px py).2 ≠ 0; exact pos zG.1 zR.1), fun dd H16 e16 hdd => ?_⟩
              rw [fAdd_ng] at hdd
              replace hdd : PairAt H16 dd (subR (subR r.2.1 r.2.2) (subR px py)) := hdd
              refine ⟨dd, _, rfl, hdd, h0, nD'.2.1, fun oo H17 e17 hoo => ?_⟩
              have zS := zz_div zG zD h0
              have eS := share_eq zG.1 zD.1 h0
              obtain ⟨rO, _⟩ := over_q zD.1 h0
              have zO := red_sz (a := (subR (subR r.2.1 r.2.2) (subR px py)).2) (b := (subR (subR r.2.1 r.2.2) (subR px py)).1) h0 nD'.2.2 nD'.2.1
              have e1417 := (e15.trans e16).trans e17
              refine ⟨bk, oo, subR r.2.1 r.2.2, _, rfl, hbk14.same e1417, hoo, nG.2.1, nG.2.2, zO.1, zO.2, pos zG.1 rO, fun sh H18 e18 hsh => ?_⟩
              replace hsh : PairAt H18 sh (divR (subR r.2.1 r.2.2) (subR (subR r.2.1 r.2.2) (subR px py))) := by
                rw [← eS]
                exact hsh
              have e818 := (e814.trans e1417).trans e18
              have d5' := e818 _ _ d5
              have hs' := hs.same e818
              have nr := tr.nm
              have np := tp.nm
              refine ⟨_, rfl, _, rfl, _, rfl, _, _, rfl, rfl, S, zs, _, _, rfl, rfl, .inl (.inl d5'), hix, s, _, _, _, rfl, rfl, .inl (.inl hs'), rfl, _, rfl, _, rfl, _, rfl, _, _, rfl, rfl, S, zs, _, _, rfl, rfl, .inl (.inl d5'), hix, s, _, _, _, rfl, rfl, .inl (.inl hs'), rfl, (by show 2 ≤ sizeLine; decide), fun m4 nm4 => ?_⟩
              have e19 : Same H18 (upd H18 m4 (.tup [.int (-r.1.1), .int r.1.2])) := same_upd nm4
              have hm4 : (upd H18 m4 (.tup [.int (-r.1.1), .int r.1.2])) m4 = some (.tup [.int (-r.1.1), .int r.1.2]) := upd_same
              generalize upd H18 m4 (.tup [.int (-r.1.1), .int r.1.2]) = H19 at e19 hm4 ⊢
              refine ⟨t, m4, p, (-r.1.1, r.1.2), rfl, (ht8.same e818).same e19, hm4, np.2.1, np.2.2, by rw [Int.natAbs_neg]; exact nr.2.1, nr.2.2, (by show p.2 * r.1.2 ≠ 0; exact pos tp.1 tr.1), fun sp H20 e20 hsp => ?_⟩
              rw [fAdd_ng] at hsp
              replace hsp : PairAt H20 sp (subR p r.1) := hsp
              have zP := zz_sub 9 tp tr
              have nP := zP.nm
              have nS' := zS.nm
              have e1820 := e19.trans e20
              have d5'' := e1820 _ _ d5'
              have hs'' := hs'.same e1820
              refine ⟨_, rfl, _, rfl, _, _, rfl, rfl, S, zs, _, _, rfl, rfl, .inl (.inl d5''), hix, _, rfl, _, rfl, sp, sh, subR p r.1, _, rfl, hsp, hsh.same e1820, nP.2.1, nP.2.2, nS'.2.1, nS'.2.2, pos zP.1 zS.1, fun mm H21 e21 hmm => ?_⟩
              replace hmm : PairAt H21 mm (mulR (subR p r.1) (divR (subR r.2.1 r.2.2) (subR (subR r.2.1 r.2.2) (subR px py)))) := hmm
              rw [mulR_comm] at hmm
              have zM := zz_mul zS zP
              have nM := zM.nm
              refine ⟨s, mm, r.1, _, rfl, hs''.same e21, hmm, nr.2.1, nr.2.2, nM.2.1, nM.2.2, pos tr.1 zM.1, fun md H22 e22 hmd => ?_⟩
              replace hmd : PairAt H22 md (midR r (p, px, py)).1 := hmd
              have zm : Sz 170 166 (midR r (p, px, py)).1 := zz_add 169 tr zM
              have e822 := ((e818.trans e1820).trans e21).trans e22
              have k22 : Keep D H4 H22 := k8.trans (Same.keep e822)
              obtain ⟨f1, f2, f3, f4, f5, f6⟩ := base k22
              have eD22 := e822 _ _ eD8
              refine ⟨_, rfl, .inl ⟨rfl, us, .inl (.inl eD22)⟩, _, rfl, _, rfl, _, rfl, C1, md, xs, cs, (midR r (p, px, py)).1, rfl, f1, f2, X1.e.up, X1.ty, X1.e.two, by omega, hmd, zm.up, ⟨q0, hq0, ?_⟩, ⟨q9, hq9, ?_⟩, fun hh H23 hq e23 hhh szh _ onh => ⟨(by show 2 ≤ sizeLine; decide), fun tq ntq => ?_⟩⟩
              · rw [ea]
                have := am1.lt
                grind
              · rw [eb]
                have h1 := am2.lt
                have h2 : toQ ((p, px, py) : Row).1 ≤ b := pb
                grind
              · have eh : hq = (midR r (p, px, py)).2.1 := toQ_inj szh.1 okm.rd.2.1 (((X1.e.uniq X1.g onh).2.2).trans okm.e1.symm)
                have e24 : Same H23 (upd H23 tq (.tup [.ref md, .ref hh])) := same_upd ntq
                have htq : (upd H23 tq (.tup [.ref md, .ref hh])) tq = some (.tup [.ref md, .ref hh]) := upd_same
                generalize upd H23 tq (.tup [.ref md, .ref hh]) = H24 at e24 htq ⊢
                have e2224 := e23.trans e24
                have e824 := e822.trans e2224
                have eD24 := e2224 _ _ eD22
                have kpu : ∀ o, Keep D H24 (upd H24 D o) := fun o b o' e n => (upd_ne n).trans e
                have lus : us.length = F.length := by rw [hus.len, List.length_map]
                refine ⟨D, us, _, rfl, rfl, eD24, small1000 (by rw [lus]; omega), ?_⟩
                refine go _ _ ⟨⟨_, _, _, _, _, _, _, rfl⟩, fun b o e n => kpu _ _ _ (e2224 _ _ (k22 _ _ e n)) n, (ht8.same e824).keepL eD24 (kpu _), (hx8.same e824).keepL eD24 (kpu _), (hy.same e824).keepL eD24 (kpu _), us ++ [.ref tq], F ++ [midR r (p, px, py)], upd_same, ?_, ?_, by rw [List.length_append, List.length_singleton]; omega, .inr ⟨midR r (p, px, py), .more good am1 okm, am2, ?_⟩⟩
                · rw [List.map_append]
                  refine ((hus8.same e824).keepL eD24 (kpu _)).app (.cons (kpu _ _ _ htq (ne_of htq eD24 fun q => by cases q)) ((hmd.same e2224).keepL eD24 (kpu _)) ?_ .nil)
                  show PairAt _ _ (lowR (midR r (p, px, py)))
                  rw [lowR_mid, ← eh]
                  exact (hhh.same e24).keepL eD24 (kpu _)
                · intro q hq'
                  rcases List.mem_append.mp hq' with z | z
                  · exact fine q z
                  · rw [List.mem_singleton.mp z]
                    have fh : Fine (midR r (p, px, py)).2.1 := by rw [← eh]; exact szh.fine
                    exact ⟨zm.fine, fh, fh⟩
                · rw [← hhd]
                  rw [eF0]
                  cases F0 <;> rfl
      · rintro σ H' ⟨⟨v4, v5, v6, v7, v8, v9, v10, v11, v12, v13, v14, rfl⟩, kp, us, F, eD, hus, fine, lenF, stt⟩
        rw [lz] at lenF stt
        have ma : q0.1 ∈ ms := memc _ (List.mem_of_head? hq0)
        have mb : q9.1 ∈ ms := memc _ (List.mem_of_getLast? hq9)
        have up : ∀ {i j : Nat} {p q : Int × Int}, i < j → ms[i]? = some p → ms[j]? = some q → toQ p < toQ q := fun {i j p q} hij e1 e2 => by
          obtain ⟨i1, e1⟩ := List.getElem?_eq_some_iff.mp e1
          obtain ⟨i2, e2⟩ := List.getElem?_eq_some_iff.mp e2
          have := List.pairwise_iff_getElem.mp asc i j i1 i2 hij
          rw [e1, e2] at this
          exact this
        have lm : 0 < ms.length := List.length_pos_iff.mpr (List.ne_nil_of_mem ma)
        rcases stt with ⟨z, _⟩ | ⟨r, _, good, hri, hhd⟩
        · omega
        obtain ⟨F0, eF0⟩ := good.last
        obtain ⟨r0, hr0⟩ : ∃ r0, F.head? = some r0 := by
          rw [eF0]
          cases F0 with
          | nil => exact ⟨_, rfl⟩
          | cons x l => exact ⟨_, rfl⟩
        rw [hr0] at hhd
        have hm0 : ms[0]? = some r0.1 := hhd.symm
        have first : toQ r0.1 = a := by
          have := (ty _ (List.mem_of_getElem? hm0)).2.1
          obtain ⟨i, hi⟩ := List.mem_iff_getElem?.mp ma
          rcases Nat.eq_zero_or_pos i with z | z
          · rw [z, hm0] at hi
            rw [Option.some.inj hi]
            exact ea
          · have := up z hm0 hi
            grind
        have last : toQ r.1 = b := by
          have := (ty _ (List.mem_of_getElem? hri)).2.2
          obtain ⟨i, hi⟩ := List.mem_iff_getElem?.mp mb
          have := (List.getElem?_eq_some_iff.mp hi).1
          rcases Nat.lt_or_ge i (ms.length - 1) with z | z
          · have := up z hi hri
            grind
          · have : i = ms.length - 1 := by omega
            rw [this, hri] at hi
            rw [Option.some.inj hi]
            exact eb
        refine ⟨_, rfl, k D H' us F nDH (fun b o e => kp _ _ (e04 _ _ e) (ne_of_none e nDH)) eD hus ⟨⟨r, r0, good, hr0, first, last⟩, fine⟩ ?_⟩
        omega
end



/-! ### equal: spots, lines -/
theorem NumAt.uniq {C : Addr} {H : Hp} {v : V} {p q : Int × Int} (h : NumAt C H v p) (h' : NumAt C H v q) : p = q := by
  rcases h with ⟨e, z⟩ | ⟨a, dx, e, z⟩ <;> rcases h' with ⟨e', z'⟩ | ⟨a', dx', e', z'⟩
  · rw [e] at e'
    exact Prod.ext (V.int.inj e') (z.trans z'.symm)
  · rw [e] at e'
    cases e'
  · rw [e] at e'
    cases e'
  · rw [e] at e'
    cases e'
    rw [z] at z'
    have := HO.ins.inj (Option.some.inj z')
    have h2 := this.2.2
    have l1 := congrArg (List.lookup ("over" : Str)) h2
    have l2 := congrArg (List.lookup ("under" : Str)) h2
    rw [fl_over, fl_over] at l1
    rw [fl_under, fl_under] at l2
    exact Prod.ext (V.int.inj (Option.some.inj l1)) (V.int.inj (Option.some.inj l2))
theorem SpotAt.uniq {C : Addr} {H : Hp} {v : V} {p q : Pt} (h : SpotAt C H v p) (h' : SpotAt C H v q) : p = q := by
  obtain ⟨⟨t, x, y, rfl, ht, hx, hy⟩, _⟩ := h
  obtain ⟨⟨t', x', y', e, ht', hx', hy'⟩, _⟩ := h'
  cases e
  rw [ht] at ht'
  cases ht'
  exact Prod.ext (hx.num.uniq hx'.num) (hy.num.uniq hy'.num)
theorem SpAll.refs {C : Addr} {H : Hp} : ∀ {vs : List V} {ps : List Pt}, SpAll C H vs ps → ∃ ts : List Addr, vs = ts.map V.ref
  | _, _, .nil => ⟨[], rfl⟩
  | _, _, .cons h r => by
    obtain ⟨ts, e⟩ := r.refs
    obtain ⟨⟨t, _, _, e1, _⟩, _⟩ := h
    exact ⟨t :: ts, by rw [e, e1]; rfl⟩
/-- a list of spots == another one -/
def rSpots (C : Addr) : R2 := fun x y H Q => ∃ (a b : Addr) (ys zs : List V) (ps qs : List Pt), x = .ref a ∧ y = .ref b ∧ H a = some (.lst ys) ∧ H b = some (.lst zs) ∧ SpAll C H ys ps ∧ SpAll C H zs qs ∧ ∀ H', Same H H' → Q (.bl (decide (ps = qs))) H'
theorem range_all {e : Nat → Bool} {ps qs : List Pt} (h : ps.length = qs.length) (he : ∀ j p q, ps[j]? = some p → qs[j]? = some q → e j = decide (p = q)) : (List.range ps.length).all e = decide (ps = qs) := by
  rw [Bool.eq_iff_iff, List.all_eq_true, decide_eq_true_iff]
  constructor
  · intro z
    apply List.ext_getElem h
    intro i h1 h2
    have := z i (List.mem_range.mpr h1)
    rw [he i _ _ (List.getElem?_eq_getElem h1) (List.getElem?_eq_getElem h2)] at this
    exact of_decide_eq_true this
  · rintro rfl i hi
    have h1 := List.mem_range.mp hi
    rw [he i _ _ (List.getElem?_eq_getElem h1) (List.getElem?_eq_getElem h1)]
    exact decide_eq_true rfl
section
variable {P : Program} {w : World} {K : PySem.W.Frag} {mg : Str → Option Value} {base : Heap}
theorem eqs_num {X : Cx} (T : Tx X.K X.mg) (hr : Room (6 + 2) X.A) {pins : List (Addr × Obj)} {σ : St} {H : Hp} {x y : V} {v u : Value} {a b : Int × Int} (hx : NumAt T.Exact_a H x a) (hy : NumAt T.Exact_a H y b) (rx : RelV x v) (ry : RelV y u) :
    PySem.Gj.Eqs X.prog X.w (JS X pins σ H) X.A.in1.in1 v u (decide (a = b)) := by
  have hr : Room 6 (Cx.in2 X).A := hr.in1.in1
  refine eqs_op (r := fun E x y H Q => rEq x y H Q ∨ rGyC X.K T.Exact_a (spExEq X.K T.Exact_a) E0 x y H Q ∨ rGyCR ((Cx.in2 X).wish E) .Eq T.Exact_a (spExEq X.K T.Exact_a) E0 x y H Q) (fun E => ?_) rx ry ?_ ?_ ?_
  · exact op_eq.or ((op_gyC (X := (Cx.in2 X).wish E) (E := E0) (op := .Eq) (fun _ _ => rfl) T.Exact_eq_M.at_ T.Exact_eq_M.fn (ok_Exact_eq T) hr T.Exact_eq_b pass0).or (op_gyCR (E := E0) (op := .Eq) (fun _ _ => rfl) T.Exact_eq_M.at_ T.Exact_eq_M.fn (ok_Exact_eq T) hr T.Exact_eq_b pass0))
  · rcases hx.cases with ⟨rfl, _⟩ | ⟨p, dx, rfl, _⟩
    · obtain ⟨t, rfl⟩ := rx
      exact .inl ⟨_, t, rfl⟩
    · exact .inr ⟨p, rx⟩
  · rintro rfl
    refine decide_eq_true ?_
    rcases hx.cases with ⟨rfl, ex⟩ | ⟨p, dx, rfl, hp⟩ <;> rcases hy.cases with ⟨rfl, ey⟩ | ⟨q, dy, rfl, hq⟩
    · obtain ⟨t, rfl⟩ := rx
      obtain ⟨t', e⟩ := ry
      exact Prod.ext (by injection e) (ex.trans ey.symm)
    · obtain ⟨t, rfl⟩ := rx
      cases ry
    · cases rx
      obtain ⟨t', e⟩ := ry
      cases e
    · cases rx
      cases ry
      exact hx.uniq hy
  · intro E H' e
    exact n_eq (fun i => turns_eq T.Exact_dn_int) (hx.same e) (hy.same e) fun H2 e2 => ⟨rfl, e2⟩
theorem vals_two {x y : V} {us : List Value} (h : Vals [x, y] us) : ∃ u v, us = [u, v] ∧ RelV x u ∧ RelV y v := by
  cases h with
  | cons a r =>
    cases r with
    | cons b r =>
      cases r
      exact ⟨_, _, rfl, a, b⟩
theorem op_spots {X : Cx} (T : Tx X.K X.mg) (hr : Room (6 + 2) X.A) : OpR X (compareOp .Eq) (rSpots T.Exact_a) := by
  intro pins s σ H x y v u Q I rx ry h
  obtain ⟨a, b, ys, zs, ps, qs, rfl, rfl, ha, hb, hps, hqs, k⟩ := h
  obtain rfl : v = Value.ref a := rx
  obtain rfl : u = Value.ref b := ry
  obtain ⟨ts1, e1⟩ := hps.refs
  obtain ⟨ts2, e2⟩ := hqs.refs
  have hJ : ∀ s, JS X pins σ H s → s.heap.IsList a (ts1.map Value.ref).toArray ∧ s.heap.IsList b (ts2.map Value.ref).toArray := by
    rintro s ⟨H', I', e⟩
    have ha' := e _ _ ha
    have hb' := e _ _ hb
    rw [e1] at ha'
    rw [e2] at hb'
    obtain ⟨i1, r1, p1, _⟩ := I'.list (.inl (.inl ha'))
    obtain ⟨i2, r2, p2, _⟩ := I'.list (.inl (.inl hb'))
    rw [vals_refs r1] at p1
    rw [vals_refs r2] at p2
    exact ⟨p1.isList, p2.isList⟩
  have l1 : ts1.length = ps.length := by rw [← hps.len, e1, List.length_map]
  have l2 : ts2.length = qs.length := by rw [← hqs.len, e2, List.length_map]
  have fin : ∀ c : Bool, c = decide (ps = qs) → ∀ s', JS X pins σ H s' → EP X pins σ Q (.bool c) s' := by
    rintro c rfl s' ⟨H', I', e⟩
    exact ⟨.bl _, H', I', rfl, k H' e⟩
  show wpAny (model X.prog X.w) X.A (richCompare .Eq (.ref a) (.ref b)) _ _ _
  by_cases hl : ps.length = qs.length
  · have hz : (ts1.map Value.ref).toArray.size = (ts2.map Value.ref).toArray.size := by
      rw [List.size_toArray, List.size_toArray, List.length_map, List.length_map]
      omega
    refine PySem.Gj.listJ (prog := X.prog) (w := X.w) (J := JS X pins σ H) (e := fun j => decide (ps[j]? = qs[j]?)) hz hJ hr.units0 ?_ X.xe _ s ⟨H, I, Same.refl _⟩ (fin _ ?_)
    · intro j h1 h2
      rw [List.size_toArray, List.length_map] at h1 h2
      have g1 : (ts1.map Value.ref).toArray[j] = Value.ref ts1[j] := by simp
      have g2 : (ts2.map Value.ref).toArray[j] = Value.ref ts2[j] := by simp
      rw [g1, g2]
      obtain ⟨p, hp, sp⟩ := hps.at (i := j) (v := .ref ts1[j]) (by rw [e1, List.getElem?_map, List.getElem?_eq_getElem h1]; rfl)
      obtain ⟨q, hq, sq⟩ := hqs.at (i := j) (v := .ref ts2[j]) (by rw [e2, List.getElem?_map, List.getElem?_eq_getElem h2]; rfl)
      have ed : decide (ps[j]? = qs[j]?) = (decide (p.1 = q.1) && decide (p.2 = q.2)) := by
        rw [hp, hq, ← Bool.decide_and]
        exact decide_eq_decide.mpr ⟨fun z => ⟨by rw [Option.some.inj z], by rw [Option.some.inj z]⟩, fun z => congrArg some (Prod.ext z.1 z.2)⟩
      rw [ed]
      by_cases hne : ts1[j] = ts2[j]
      · rw [hne] at sp ⊢
        rw [sp.uniq sq, decide_eq_true rfl, decide_eq_true rfl]
        exact PySem.Gj.Eqs.here
      · refine PySem.Gj.Eqs.refs hne fun E Q' s' hj hq' => ?_
        obtain ⟨H', I', e⟩ := id hj
        obtain ⟨⟨t1, x1, y1, et1, ht1, hx1, hy1⟩, _⟩ := sp
        obtain ⟨⟨t2, x2, y2, et2, ht2, hx2, hy2⟩, _⟩ := sq
        cases et1
        cases et2
        obtain ⟨i1, r1, q1, _⟩ := I'.tuple (.inl (.inl (e _ _ ht1)))
        obtain ⟨i2, r2, q2, _⟩ := I'.tuple (.inl (.inl (e _ _ ht2)))
        obtain ⟨u1, u2, rfl, a1, b1⟩ := vals_two r1
        obtain ⟨v1, v2, rfl, a2, b2⟩ := vals_two r2
        exact PySem.Gj.pairJ (J := JS X pins σ H) q1 q2 hr.in1.units0 (eqs_num T hr hx1.num hx2.num a1 a2) (eqs_num T hr hy1.num hy2.num b1 b2) hj hq'
    · rw [List.size_toArray, List.length_map, l1]
      exact range_all hl fun j p q h1 h2 => by rw [h1, h2]; exact decide_eq_decide.mpr ⟨fun z => Option.some.inj z, fun z => congrArg some z⟩
  · refine PySem.Gj.lensJ (prog := X.prog) (w := X.w) (J := JS X pins σ H) (fun z => hl ?_) hJ hr.units0 X.xe _ s ⟨H, I, Same.refl _⟩ (fin _ ?_)
    · rw [List.size_toArray, List.size_toArray, List.length_map, List.length_map] at z
      omega
    · exact (decide_eq_false fun z => hl (congrArg List.length z)).symm
end

section
variable {P : Program} {w : World} {K : PySem.W.Frag} {mg : Str → Option Value} {base : Heap}
def spLineEq (K : PySem.W.Frag) (L C : Addr) : Sp := fun vs H Q _ => ∃ l o qs, vs = [l, o] ∧ LineAt L C H l qs ∧ ((∃ rs, LineAt L C H o rs ∧ ∀ H', Same H H' → Q (.bl (decide (qs = rs))) H') ∨ (∃ t, TyX K H o t ∧ PySem.W.kitOne K t (.ref L) = some false) ∧ Q (.bl false) H)
theorem ok_Line_eq (T : Tx K mg) : FnOk P w K mg base CX0 10 T.Line_eq_a T.Line_eq_d ["self", "other"] (spLineEq K T.Line_a T.Exact_a) := by
  refine T.Line_eq_F.ok sc_Line_eq (fun vs H Q E h => ?_) (fun cdv A outer s H vs Q E hr h => ?_)
  · obtain ⟨l, o, qs, rfl, _⟩ := h
    rfl
  · obtain ⟨l, o, qs, rfl, hl, h⟩ := h
    refine ⟨_, (pss_one (ps_ret (pe_and (pe_callB call_isi (by rfl) T.z_isinstance (by decide +kernel) (pa_cons (pv 1) (pa_cons (pe_glob (v := .ref T.Line_a) rfl T.Line_m rfl) pa_nil))) (pe_one (pe_cmpR ((op_spots T (hr.mono (by decide)))) (pe_fld (pv 0) rfl) (pe_fld (pv 1) rfl) (nomark _)))))), ?_⟩
    obtain ⟨x, dx, sa, xs, rfl, hx, hs, hsp⟩ := hl
    rcases h with ⟨rs, ⟨y, dy, sb, ys, rfl, hy, ht, htp⟩, k⟩ | ⟨⟨t, ty, kt⟩, q⟩
    · refine ⟨_, rfl, _, _, _, _, true, rfl, .own _, .base (.ins hy T.Line_cl T.Line_i1 T.Line_i2 T.Line_i3 T.Line_i4), T.Line_k0, true, rfl, iteT ?_⟩
      refine ⟨_, rfl, x, T.Line_a, dx, _, _, rfl, hx, T.Line_cl, T.Line_n_spots, sp_look, _, rfl, y, T.Line_a, dy, _, _, rfl, hy, T.Line_cl, T.Line_n_spots, sp_look, ?_⟩
      exact ⟨sa, sb, xs, ys, qs, rs, rfl, rfl, hs, ht, hsp, htp, k⟩
    · exact ⟨_, rfl, _, _, _, _, false, rfl, .own _, ty, kt, false, rfl, iteF q⟩
end

/-! ### _law_same of two things alike, any depth -/
inductive Tw (H : Hp) : Nat → V → V → Prop
  | non {n : Nat} : Tw H n .non .non
  | bl {n : Nat} (b : Bool) : Tw H n (.bl b) (.bl b)
  | int {n : Nat} (i : Int) : Tw H n (.int i) (.int i)
  | str {n : Nat} (s : Str) : Tw H n (.str s) (.str s)
  | dk {n : Nat} {a : Addr} {kvs : List (Key × V)} (h : H a = some (.dK kvs)) (nd : (kvs.map (·.1)).Nodup) (fl : ∀ p ∈ kvs, flatB p.2 = true) : Tw H n (.ref a) (.ref a)
  | lst {n : Nat} {a b : Addr} {xs ys : List V} (h : H a = some (.lst xs)) (g : H b = some (.lst ys)) (z : xs.length ≤ 1000) (l : xs.length = ys.length) (d : ∀ (i : Nat) (x y : V), xs[i]? = some x → ys[i]? = some y → Tw H n x y) : Tw H (n + 1) (.ref a) (.ref b)
  | tup {n : Nat} {a b : Addr} {xs ys : List V} (h : H a = some (.tup xs)) (g : H b = some (.tup ys)) (z : xs.length ≤ 1000) (l : xs.length = ys.length) (d : ∀ (i : Nat) (x y : V), xs[i]? = some x → ys[i]? = some y → Tw H n x y) : Tw H (n + 1) (.ref a) (.ref b)
theorem Tw.same {H H' : Hp} (e : Same H H') : ∀ {n : Nat} {v u : V}, Tw H n v u → Tw H' n v u
  | _, _, _, .non => .non
  | _, _, _, .bl b => .bl b
  | _, _, _, .int i => .int i
  | _, _, _, .str s => .str s
  | _, _, _, .dk h nd fl => .dk (e _ _ h) nd fl
  | _, _, _, .lst h g z l d => .lst (e _ _ h) (e _ _ g) z l fun i x y a b => (d i x y a b).same e
  | _, _, _, .tup h g z l d => .tup (e _ _ h) (e _ _ g) z l fun i x y a b => (d i x y a b).same e
inductive Kd where
  | non | bl | int | str | dk | lst | tup
def Kd.ty : Kd → Value
  | .non => .type "NoneType"
  | .bl => .type "bool"
  | .int => .type "int"
  | .str => .type "str"
  | .dk => .type "dict"
  | .lst => .type "list"
  | .tup => .type "tuple"
def Kd.isL : Kd → Bool
  | .lst => true
  | _ => false
def Kd.isT : Kd → Bool
  | .tup => true
  | _ => false
def Kd.isI : Kd → Bool
  | .int => true
  | .bl => true
  | _ => false
def Kd.isB : Kd → Bool
  | .bl => true
  | _ => false
section
variable {K : PySem.W.Frag} (d : Kd)
theorem kdL : PySem.W.kitOne K d.ty (.type "list") = some d.isL := by
  cases d <;> first | exact kit_ty (r := true) (by decide +kernel) | exact kit_ty (r := false) (by decide +kernel)
theorem kdT : PySem.W.kitOne K d.ty (.type "tuple") = some d.isT := by
  cases d <;> first | exact kit_ty (r := true) (by decide +kernel) | exact kit_ty (r := false) (by decide +kernel)
theorem kdI : PySem.W.kitOne K d.ty (.type "int") = some d.isI := by
  cases d <;> first | exact kit_ty (r := true) (by decide +kernel) | exact kit_ty (r := false) (by decide +kernel)
theorem kdB : PySem.W.kitOne K d.ty (.type "bool") = some d.isB := by
  cases d <;> first | exact kit_ty (r := true) (by decide +kernel) | exact kit_ty (r := false) (by decide +kernel)
theorem kdLT : PySem.W.kitAny K d.ty [.type "list", .type "tuple"] = some (d.isL || d.isT) := by
  refine kitAny_cons (kdL d) (fun e => ?_) (fun e => by rw [e]; rfl)
  refine kitAny_cons (kdT d) (fun e' => ?_) (fun e' => by rw [e', Bool.or_true])
  rw [e, e']
  exact kitAny_nil
theorem kdBILT : PySem.W.kitAny K d.ty [.type "bool", .type "int", .type "list", .type "tuple"] = some (d.isB || d.isI || d.isL || d.isT) := by
  refine kitAny_cons (kdB d) (fun e => ?_) (fun e => by rw [e]; rfl)
  refine kitAny_cons (kdI d) (fun e2 => ?_) (fun e2 => by rw [e2, Bool.or_true]; rfl)
  rw [kdLT d, e, e2]
  rfl
end
def rDict : R2 := fun x y H Q => ∃ a b kvs, x = .ref a ∧ y = .ref b ∧ H a = some (.dK kvs) ∧ H b = some (.dK kvs) ∧ (kvs.map (·.1)).Nodup ∧ (∀ p ∈ kvs, flatB p.2 = true) ∧ Q (.bl true) H
/-- two things of a kind: what is asked of them -/
structure KdAt (K : PySem.W.Frag) (H : Hp) (n : Nat) (v u : V) (d : Kd) : Prop where
  tv : ∀ H', Same H H' → TyX K H' v d.ty
  tu : ∀ H', Same H H' → TyX K H' u d.ty
  seq : d.isL = true ∨ d.isT = true → ∃ a b xs ys m, v = .ref a ∧ u = .ref b ∧ n = m + 1 ∧ xs.length ≤ 1000 ∧ xs.length = ys.length ∧ (∀ (i : Nat) (x y : V), xs[i]? = some x → ys[i]? = some y → Tw H m x y) ∧ (H a = some (.lst xs) ∧ H b = some (.lst ys) ∨ H a = some (.tup xs) ∧ H b = some (.tup ys))
  eq : d.isL = false → d.isT = false → ∀ H' Q, Same H H' → Q (.bl true) H' → rEq v u H' Q ∨ rDict v u H' Q
theorem Tw.kd {K : PySem.W.Frag} {H : Hp} {n : Nat} {v u : V} (h : Tw H n v u) : ∃ d, KdAt K H n v u d := by
  have sc : ∀ (u : V), scal u u = true → ∀ (H' : Hp) (Q : VK), Same H H' → Q (.bl true) H' → rEq u u H' Q ∨ rDict u u H' Q := fun u e H' Q _ q => .inl ⟨e, by rw [decide_eq_true rfl]; exact q⟩
  cases h with
  | non => exact ⟨.non, fun _ _ => .base .non, fun _ _ => .base .non, fun z => (by rcases z with z | z <;> cases z), fun _ _ => sc .non rfl⟩
  | bl b => exact ⟨.bl, fun _ _ => .base (.bl b), fun _ _ => .base (.bl b), fun z => (by rcases z with z | z <;> cases z), fun _ _ => sc (.bl b) rfl⟩
  | int i => exact ⟨.int, fun _ _ => .base (.int i), fun _ _ => .base (.int i), fun z => (by rcases z with z | z <;> cases z), fun _ _ => sc (.int i) rfl⟩
  | str s => exact ⟨.str, fun _ _ => .base (.str s), fun _ _ => .base (.str s), fun z => (by rcases z with z | z <;> cases z), fun _ _ => sc (.str s) rfl⟩
  | dk h nd fl => exact ⟨.dk, fun _ s => .base (.dK (s _ _ h)), fun _ s => .base (.dK (s _ _ h)), fun z => (by rcases z with z | z <;> cases z), fun _ _ H' Q s q => .inr ⟨_, _, _, rfl, rfl, s _ _ h, s _ _ h, nd, fl, q⟩⟩
  | lst h g z l d => exact ⟨.lst, fun _ s => .base (.lst (s _ _ h)), fun _ s => .base (.lst (s _ _ g)), fun _ => ⟨_, _, _, _, _, rfl, rfl, rfl, z, l, d, .inl ⟨h, g⟩⟩, fun e => (by cases e)⟩
  | tup h g z l d => exact ⟨.tup, fun _ s => .base (.tup (s _ _ h)), fun _ s => .base (.tup (s _ _ g)), fun _ => ⟨_, _, _, _, _, rfl, rfl, rfl, z, l, d, .inr ⟨h, g⟩⟩, fun _ e => (by cases e)⟩
def spSlf (n : Nat) : Sp := fun vs H Q _ => ∃ v u, vs = [v, u] ∧ Tw H n v u ∧ ∀ H', Same H H' → Q (.bl true) H'
def spSlfR : Nat → Sp
  | 0 => fun _ _ _ _ => False
  | n + 1 => spSlf n
theorem fn_none {P : Program} {w : World} {K : PySem.W.Frag} {mg : Str → Option Value} {base : Heap} {CX : CXT} {k : Nat} {f : Addr} {fd : FuncData} {ps : List Str} : FnOk P w K mg base CX k f fd ps (fun _ _ _ _ => False) :=
  ⟨fun _ _ _ _ h => h.elim, fun _ _ _ _ _ _ _ _ _ _ _ _ _ h => h.elim⟩
theorem all_yes : ∀ n : Nat, (List.replicate n true).all id = true
  | 0 => rfl
  | n + 1 => by rw [List.replicate_succ]; exact all_yes n
theorem yes_snoc (n : Nat) : (List.replicate n true).map V.bl ++ [V.bl true] = (List.replicate (n + 1) true).map V.bl := by
  rw [List.replicate_succ', List.map_append]
  rfl
section
variable {P : Program} {w : World} {K : PySem.W.Frag} {mg : Str → Option Value} {base : Heap}
theorem ok_law_same (T : Tx K mg) : ∀ n : Nat, FnOk P w K mg base CX0 (1 + n) T.law_same_a T.law_same_d ["_law_found", "_law_due"] (spSlf n) := by
  intro n
  have REC : FnOk P w K mg base CX0 (0 + n) T.law_same_a T.law_same_d ["_law_found", "_law_due"] (spSlfR n) := by
    cases n with
    | zero => exact fn_none
    | succ n => exact (ok_law_same T n).mono (by omega)
  refine (T.law_same_F.ok (k := 0 + n) sc_law_same (fun vs H Q E h => ?_) (fun cdv A outer s H vs Q E hr h => ?_)).mono (by omega)
  · obtain ⟨v, u, rfl, _⟩ := h
    rfl
  · obtain ⟨v, u, rfl, hv, k⟩ := h
    have hrR := hr
    replace hr := hr.mono (Nat.le_add_right _ _)
    refine ⟨_, (pss_cons (ps_if (pt_val (pe_callB call_isiT (by rfl) T.z_isinstance (by decide +kernel) (pa_cons (pv 1) (pa_cons (pe_tup (pa_cons (pe_bltn (v := .ty "list") (by rfl) T.z_list (by decide +kernel) rfl) (pa_cons (pe_bltn (v := .ty "tuple") (by rfl) T.z_tuple (by decide +kernel) rfl) pa_nil))) pa_nil))))
  (pss_cons (ps_if (PW.pt (pw_or (pt_cmpR op_ne (pe_callB call_isi (by rfl) T.z_isinstance (by decide +kernel) (pa_cons (pv 0) (pa_cons (pe_bltn (v := .ty "list") (by rfl) T.z_list (by decide +kernel) rfl) pa_nil))) (pe_callB call_isi (by rfl) T.z_isinstance (by decide +kernel) (pa_cons (pv 1) (pa_cons (pe_bltn (v := .ty "list") (by rfl) T.z_list (by decide +kernel) rfl) pa_nil))) (nomark _)) (pw_or1 (pt_cmpR op_ne (pe_callB call_isi (by rfl) T.z_isinstance (by decide +kernel) (pa_cons (pv 0) (pa_cons (pe_bltn (v := .ty "tuple") (by rfl) T.z_tuple (by decide +kernel) rfl) pa_nil))) (pe_callB call_isi (by rfl) T.z_isinstance (by decide +kernel) (pa_cons (pv 1) (pa_cons (pe_bltn (v := .ty "tuple") (by rfl) T.z_tuple (by decide +kernel) rfl) pa_nil))) (nomark _)))))
  (pss_one (ps_ret pe_bl))
  pss_nil)
  (pss_one (ps_ret (pe_and (pe_cmpR op_eq (pe_callB (call_len_seq) (by rfl) T.z_len (by decide +kernel) (pa_cons (pv 0) pa_nil)) (pe_callB (call_len_seq) (by rfl) T.z_len (by decide +kernel) (pa_cons (pv 1) pa_nil)) (nomark _)) (pe_one (pe_callB (cr_all rfl) (by rfl) T.z_all (by decide +kernel) (pa_cons (pe_lc (g := gTup K 2 (gCons (gName 2) (gCons (gName 3) gNil))) (tt := tYes) (own := [("_law_a", 2), ("_law_b", 3)]) rfl sc_law_same.nd (RZ.pi_zipA (by rfl) T.z_zip (pa_cons (pv 0) (pa_cons (pv 1) pa_nil))) (blkOk_by (own := [("_law_a", 2), ("_law_b", 3)]) (N := ["_law_found", "_law_due", "_law_a", "_law_b"]) (sc := defScope s_law_same) (by decide +kernel))
   (fun _ _ _ _ _ => pg_tup (by rfl) (pgs_cons (pg_name (i := 2) sc_law_same.nd rfl (Or.inl rfl)) (pgs_cons (pg_name (i := 3) sc_law_same.nd rfl (Or.inl rfl)) pgs_nil))) (fun _ _ _ _ _ => pts_nil) (fun _ _ _ _ _ => (pe_call REC hrR rfl T.law_same_m T.law_same_F.kp T.law_same_b .nil pass0 (pa_cons (pv 2) (pa_cons (pv 3) pa_nil))))) pa_nil)))))))
  pss_nil)
  (pss_cons (ps_if (pt_val (pe_callB call_isi (by rfl) T.z_isinstance (by decide +kernel) (pa_cons (pv 1) (pa_cons (pe_bltn (v := .ty "int") (by rfl) T.z_int (by decide +kernel) rfl) pa_nil))))
  (pss_one (ps_ret (pe_and (pe_callB call_isi (by rfl) T.z_isinstance (by decide +kernel) (pa_cons (pv 0) (pa_cons (pe_bltn (v := .ty "int") (by rfl) T.z_int (by decide +kernel) rfl) pa_nil))) (pe_and (pe_cmpR op_eq (pe_callB call_isi (by rfl) T.z_isinstance (by decide +kernel) (pa_cons (pv 0) (pa_cons (pe_bltn (v := .ty "bool") (by rfl) T.z_bool (by decide +kernel) rfl) pa_nil))) (pe_callB call_isi (by rfl) T.z_isinstance (by decide +kernel) (pa_cons (pv 1) (pa_cons (pe_bltn (v := .ty "bool") (by rfl) T.z_bool (by decide +kernel) rfl) pa_nil))) (nomark _)) (pe_one (pe_cmpR (op_eq.or (op_eq_dict (Nat.lt_of_le_of_lt (Nat.le_add_right _ _) hr.units))) (pv 0) (pv 1) (nomark _)))))))
  pss_nil)
  (pss_one (ps_ret (pe_and (pe_cmpR op_isBl (pe_callB call_isiT (by rfl) T.z_isinstance (by decide +kernel) (pa_cons (pv 0) (pa_cons (pe_tup (pa_cons (pe_bltn (v := .ty "bool") (by rfl) T.z_bool (by decide +kernel) rfl) (pa_cons (pe_bltn (v := .ty "int") (by rfl) T.z_int (by decide +kernel) rfl) (pa_cons (pe_bltn (v := .ty "list") (by rfl) T.z_list (by decide +kernel) rfl) (pa_cons (pe_bltn (v := .ty "tuple") (by rfl) T.z_tuple (by decide +kernel) rfl) pa_nil))))) pa_nil))) pe_bl (nomark _)) (pe_one (pe_cmpR (op_eq.or (op_eq_dict (Nat.lt_of_le_of_lt (Nat.le_add_right _ _) hr.units))) (pv 0) (pv 1) (nomark _)))))))), ?_⟩
    refine ⟨_, rfl, (by show 2 ≤ sizeLine; decide), fun t nt => ?_⟩
    have s1 := same_upd (o := .tup [.ty "list", .ty "tuple"]) nt
    obtain ⟨d, D⟩ := hv.kd (K := K)
    refine ⟨_, _, _, _, _, _, rfl, upd_same, .cons (.ty "list") (.cons (.ty "tuple") .nil), D.tu _ s1, kdLT d, _, rfl, ?_⟩
    generalize upd H t (HO.tup [V.ty "list", V.ty "tuple"]) = H1 at s1 ⊢
    by_cases hs : d.isL = true ∨ d.isT = true
    · have hb : (d.isL || d.isT) = true := by rcases hs with e | e <;> simp [e]
      rw [hb]
      refine iteT ?_
      refine ⟨_, rfl, _, _, _, _, _, rfl, .ty "list", D.tv _ s1, kdL d, _, rfl, _, _, _, _, _, rfl, .ty "list", D.tu _ s1, kdL d, rfl, _, rfl, ?_⟩
      rw [decide_eq_true rfl]
      refine iteF ?_
      refine ⟨_, rfl, _, _, _, _, _, rfl, .ty "tuple", D.tv _ s1, kdT d, _, rfl, _, _, _, _, _, rfl, .ty "tuple", D.tu _ s1, kdT d, rfl, _, rfl, ?_⟩
      rw [decide_eq_true rfl]
      refine iteF ?_
      obtain ⟨a, b, xs, ys, m, rfl, rfl, rfl, zx, lxy, dv, hk⟩ := D.seq hs
      rcases hk with ⟨ha, hb⟩ | ⟨ha, hb⟩
      · have ha1 := s1 _ _ ha
        have hb1 := s1 _ _ hb
        refine ⟨_, rfl, a, xs, rfl, .inl (.inl (.inl ha1)), _, rfl, b, ys, rfl, .inl (.inl (.inl hb1)), rfl, _, rfl, ?_⟩
        rw [decide_eq_true (congrArg (fun n : Nat => V.int (n : Int)) lxy)]
        refine iteT ?_
        refine ⟨_, rfl, _, rfl, a, b, xs, ys, rfl, .inl ⟨.inl (.inl ha1), .inl (.inl hb1), fun D nD => lc_it (walk_zip (K := K) (a := a) (b := b) (xs := xs) (ys := ys) rfl) (fun i H2 => Same H H2 ∧ Same H1 H2 ∧ H2 D = some (.lst ((List.replicate i true).map V.bl))) ⟨s1.trans (same_upd nD), same_upd nD, upd_same⟩ (fun i H2 _ e => ⟨.inl (.inl (e.2.1 _ _ ha1)), .inl (.inl (e.2.1 _ _ hb1))⟩) ?_ ?_⟩⟩
        · rintro i x H2 H3 hi ⟨e1, e2, eD⟩ ⟨Tp, x1, y1, rfl, nT, rfl, hx1, hy1⟩
          refine ⟨Tp, _, rfl, .inl (.inl upd_same), rfl, _, _, rfl, _, _, rfl, rfl, rfl, yes_of ?_⟩
          have e3 := e1.trans (same_upd (o := .tup [x1, y1]) nT)
          refine ⟨_, rfl, _, rfl, ?_⟩
          refine ⟨_, _, rfl, (dv i x1 y1 hx1 hy1).same e3, fun H4 e4 => ⟨_, e4 D _ (by rw [upd_ne (ne_of_none eD nT)]; exact eD), ?_, ?_⟩⟩
          · rw [List.length_map, List.length_replicate]
            exact small1000 (by omega)
          · have nDH : H D = none := s1.free nD
            exact ⟨fun c o e => by rw [upd_ne (ne_of_none e nDH)]; exact e4 _ _ (e3 _ _ e), fun c o e => by rw [upd_ne (ne_of_none e nD)]; exact e4 _ _ (same_upd nT _ _ (e2 _ _ e)), by rw [upd_same, yes_snoc]⟩
        · rintro H2 ⟨e1, e2, eD⟩
          refine ⟨D, _, rfl, .inl (.inl eD), ?_⟩
          rw [all_yes]
          exact k _ e1
      · have ha1 := s1 _ _ ha
        have hb1 := s1 _ _ hb
        refine ⟨_, rfl, a, xs, rfl, .inr (.inl (.inl ha1)), _, rfl, b, ys, rfl, .inr (.inl (.inl hb1)), rfl, _, rfl, ?_⟩
        rw [decide_eq_true (congrArg (fun n : Nat => V.int (n : Int)) lxy)]
        refine iteT ?_
        refine ⟨_, rfl, _, rfl, a, b, xs, ys, rfl, .inr ⟨.inl (.inl ha1), .inl (.inl hb1), fun D nD => lc_it (walk_zipT (K := K) (a := a) (b := b) (xs := xs) (ys := ys) rfl) (fun i H2 => Same H H2 ∧ Same H1 H2 ∧ H2 D = some (.lst ((List.replicate i true).map V.bl))) ⟨s1.trans (same_upd nD), same_upd nD, upd_same⟩ (fun i H2 _ e => ⟨.inl (.inl (e.2.1 _ _ ha1)), .inl (.inl (e.2.1 _ _ hb1))⟩) ?_ ?_⟩⟩
        · rintro i x H2 H3 hi ⟨e1, e2, eD⟩ ⟨Tp, x1, y1, rfl, nT, rfl, hx1, hy1⟩
          refine ⟨Tp, _, rfl, .inl (.inl upd_same), rfl, _, _, rfl, _, _, rfl, rfl, rfl, yes_of ?_⟩
          have e3 := e1.trans (same_upd (o := .tup [x1, y1]) nT)
          refine ⟨_, rfl, _, rfl, ?_⟩
          refine ⟨_, _, rfl, (dv i x1 y1 hx1 hy1).same e3, fun H4 e4 => ⟨_, e4 D _ (by rw [upd_ne (ne_of_none eD nT)]; exact eD), ?_, ?_⟩⟩
          · rw [List.length_map, List.length_replicate]
            exact small1000 (by omega)
          · have nDH : H D = none := s1.free nD
            exact ⟨fun c o e => by rw [upd_ne (ne_of_none e nDH)]; exact e4 _ _ (e3 _ _ e), fun c o e => by rw [upd_ne (ne_of_none e nD)]; exact e4 _ _ (same_upd nT _ _ (e2 _ _ e)), by rw [upd_same, yes_snoc]⟩
        · rintro H2 ⟨e1, e2, eD⟩
          refine ⟨D, _, rfl, .inl (.inl eD), ?_⟩
          rw [all_yes]
          exact k _ e1
    · have e1 : d.isL = false := by
        cases e : d.isL with
        | false => rfl
        | true => exact absurd (.inl e) hs
      have e2 : d.isT = false := by
        cases e : d.isT with
        | false => rfl
        | true => exact absurd (.inr e) hs
      rw [e1, e2]
      refine iteF ?_
      refine ⟨_, rfl, _, _, _, _, _, rfl, .ty "int", D.tu _ s1, kdI d, _, rfl, ?_⟩
      cases hi : d.isI with
      | true =>
        refine iteT ?_
        refine ⟨_, rfl, _, _, _, _, _, rfl, .ty "int", D.tv _ s1, kdI d, _, rfl, ?_⟩
        rw [hi]
        refine iteT ?_
        refine ⟨_, rfl, _, _, _, _, _, rfl, .ty "bool", D.tv _ s1, kdB d, _, rfl, _, _, _, _, _, rfl, .ty "bool", D.tu _ s1, kdB d, rfl, _, rfl, ?_⟩
        rw [decide_eq_true rfl]
        refine iteT ?_
        exact ⟨_, rfl, _, rfl, D.eq e1 e2 _ _ s1 (k _ s1)⟩
      | false =>
        refine iteF ?_
        refine ⟨_, rfl, (by show 4 ≤ sizeLine; decide), fun t' nt' => ?_⟩
        have s2 := same_upd (o := .tup [.ty "bool", .ty "int", .ty "list", .ty "tuple"]) nt'
        refine ⟨_, _, _, _, _, _, rfl, upd_same, .cons (.ty "bool") (.cons (.ty "int") (.cons (.ty "list") (.cons (.ty "tuple") .nil))), D.tv _ (s1.trans s2), kdBILT d, ?_⟩
        have hb : d.isB = false := by cases d <;> first | rfl | cases hi
        rw [e1, e2, hi, hb]
        refine ⟨_, _, rfl, rfl, _, rfl, ?_⟩
        rw [decide_eq_true (show (false || false || false || false) = false from rfl)]
        refine iteT ?_
        exact ⟨_, rfl, _, rfl, D.eq e1 e2 _ _ (s1.trans s2) (k _ (s1.trans s2))⟩
end



/-! ### the law -/
section
variable {P : Program} {w : World} {K : PySem.W.Frag} {mg : Str → Option Value} {base : Heap}
theorem line_ty (T : Tx K mg) {H : Hp} {v : V} {qs : List Pt} (h : LineAt T.Line_a T.Exact_a H v qs) : ∃ x dx fs, v = .ref x ∧ H x = some (.ins T.Line_a dx fs) ∧ TyX K H v (.ref T.Line_a) ∧ PySem.W.notFirst K T.Line_a (.ref T.Line_a) = true := by
  obtain ⟨x, dx, s, ys, rfl, hx, _⟩ := h
  exact ⟨x, dx, _, rfl, hx, .base (.ins hx T.Line_cl T.Line_i1 T.Line_i2 T.Line_i3 T.Line_i4), nf_own⟩
theorem line_ins (T : Tx K mg) {H : Hp} {v : V} {qs : List Pt} (h : LineAt T.Line_a T.Exact_a H v qs) : ∃ x dx s, v = .ref x ∧ H x = some (.ins T.Line_a dx [(("spots" : Str), .ref s)]) := by
  obtain ⟨x, dx, s, ys, rfl, hx, _⟩ := h
  exact ⟨x, dx, s, rfl, hx⟩
theorem ne_same {T : Tx K mg} {H : Hp} {Q : VK} {E : XK} {v u : V} {p q : List Pt} (hv : LineAt T.Line_a T.Exact_a H v p) (hu : LineAt T.Line_a T.Exact_a H u q) (e : p = q) (k : ∀ H', Same H H' → Q (.bl false) H') : rGyNe K T.Line_a (spLineEq K T.Line_a T.Exact_a) E v u H Q := by
  obtain ⟨a, d, fs, rfl, ha, _, _⟩ := line_ty T hv
  obtain ⟨_, _, _, rfl, _, ty, nf⟩ := line_ty T hu
  refine ⟨a, d, fs, _, rfl, ha, ty, nf, _, _, p, rfl, hv, .inl ⟨q, hu, fun H' s => ⟨_, rfl, ?_⟩⟩⟩
  rw [decide_eq_true e]
  exact k H' s
theorem eq_lines {T : Tx K mg} {H : Hp} {Q : VK} {E : XK} {v u : V} {p q : List Pt} (hv : LineAt T.Line_a T.Exact_a H v p) (hu : LineAt T.Line_a T.Exact_a H u q) (k : ∀ H', Same H H' → Q (.bl (decide (p = q))) H') : rGyC K T.Line_a (spLineEq K T.Line_a T.Exact_a) E v u H Q := by
  obtain ⟨a, d, fs, rfl, ha, _, _⟩ := line_ty T hv
  obtain ⟨_, _, _, rfl, _, ty, nf⟩ := line_ty T hu
  exact ⟨a, d, fs, _, rfl, ha, ty, nf, _, _, p, rfl, hv, .inl ⟨q, hu, k⟩⟩
def spLaw (K : PySem.W.Frag) : Sp := fun vs H Q _ => ∃ (a : Addr) (ns : List Int), vs = [.ref a] ∧ SqL K H a (ns.map V.int) ∧ ns.length ≤ 63 ∧ ∀ H', Q (.bl true) H'
theorem ok_law (T : Tx K mg) : FnOk P w K mg base CX0 30 T.law_a T.law_d ["_law_script"] (spLaw K) := by
  refine T.law_F.ok sc_law (fun vs H Q E h => ?_) (fun cdv A outer s H vs Q E hr h => ?_)
  · obtain ⟨a, ns, rfl, _⟩ := h
    rfl
  · obtain ⟨a0, ns, rfl, hS, hl, k⟩ := h
    refine ⟨_, (pss_cons (ps_set (i := 1) sc_law.nd rfl (Or.inr rfl) (pe_call (ok_law_fresh T) (hr.mono (by decide)) rfl T.law_fresh_m T.law_fresh_F.kp T.law_fresh_b .nil pass0 (pa_cons (pv 0) pa_nil)))
  (pss_cons (ps_for PassesOwn.never rfl (pi_range1 rfl T.z_range (pa_cons pe_int pa_nil)) (pg_name (i := 2) sc_law.nd rfl (Or.inl rfl))
  (pss_cons (ps_set (i := 3) sc_law.nd rfl (Or.inl rfl) (pe_op (op_sub) (pe_call (ok_law_take T) (hr.mono (by decide)) rfl T.law_take_m T.law_take_F.kp T.law_take_b .nil pass0 (pa_cons (pv 1) (pa_cons pe_int pa_nil))) pe_int))
  (pss_cons (ps_set (i := 4) sc_law.nd rfl (Or.inl rfl) (pe_op (op_add) (pe_op (op_add) (pv 3) pe_int) (pe_call (ok_law_take T) (hr.mono (by decide)) rfl T.law_take_m T.law_take_F.kp T.law_take_b .nil pass0 (pa_cons (pv 1) (pa_cons pe_int pa_nil)))))
  (pss_cons (ps_par (i := 5) (j := 6) (by rfl) sc_law.nd rfl rfl (by decide) rfl rfl (pa_cons (pe_call (ok_law_drawn_course T) (hr.mono (by decide)) rfl T.law_drawn_course_m T.law_drawn_course_F.kp T.law_drawn_course_b .nil pass0 (pa_cons (pv 1) (pa_cons (pv 3) (pa_cons (pv 4) pa_nil)))) (pa_cons (pe_call (ok_law_drawn_course T) (hr.mono (by decide)) rfl T.law_drawn_course_m T.law_drawn_course_F.kp T.law_drawn_course_b .nil pass0 (pa_cons (pv 1) (pa_cons (pv 3) (pa_cons (pv 4) pa_nil)))) pa_nil)) (by rfl))
  (pss_cons (ps_if (pt_cmpR op_eq (pe_call (ok_law_take T) (hr.mono (by decide)) rfl T.law_take_m T.law_take_F.kp T.law_take_b .nil pass0 (pa_cons (pv 1) (pa_cons pe_int pa_nil))) pe_int (nomark _))
  (pss_one (ps_setLc (g := gName 7) (tt := tYes) (te := (tTup (tCons (tOp (rIxT K) (tVar 7) (tC (.int 0))) (tCons (tCall (spPairs fAdd) [] E0 (tCons (tOp (rIxT K) (tVar 7) (tC (.int 1))) (tCons (tTup (tCons (tCall spTake [] E0 (tCons (tVar 1) (tCons (tC (.int 3)) tNil))) (tCons (tC (.int 1)) tNil))) tNil))) tNil)))) (i := 6) (own := [("_law_x", 7)]) rfl sc_law.nd rfl rfl (sw_true rfl rfl rfl (by decide +kernel)) (pi_list (pv 5)) (blkOk_by (own := [("_law_x", 7)]) (N := ["_law_script", "_law_state", "_law_turn", "_law_a", "_law_b", "_law_one_here", "_law_other", "_law_x", "_law_y", "_law_low", "_law_high", "_law_below"]) (sc := defScope s_law) (by decide +kernel))
   (fun _ _ _ _ _ => pg_name (i := 7) sc_law.nd rfl (Or.inl rfl)) (fun _ _ _ _ _ => pts_nil) (fun _ _ _ _ _ => (pe_tup (pa_cons (pe_ix ix_tup (pv 7) pe_int (fun _ _ => rfl)) (pa_cons (pe_call (ok_law_add T) (hr.mono (by decide)) rfl T.law_add_m T.law_add_F.kp T.law_add_b .nil pass0 (pa_cons (pe_ix ix_tup (pv 7) pe_int (fun _ _ => rfl)) (pa_cons (pe_tup (pa_cons (pe_call (ok_law_take T) (hr.mono (by decide)) rfl T.law_take_m T.law_take_F.kp T.law_take_b .nil pass0 (pa_cons (pv 1) (pa_cons pe_int pa_nil))) (pa_cons pe_int pa_nil))) pa_nil))) pa_nil))))))
  pss_nil)
  (pss_cons (ps_par (i := 7) (j := 8) (by rfl) sc_law.nd rfl rfl (by decide) rfl rfl (pa_cons (pe_call (ok_law_as_line T) (hr.mono (by decide)) rfl T.law_as_line_m T.law_as_line_F.kp T.law_as_line_b .nil pass0 (pa_cons (pv 5) pa_nil)) (pa_cons (pe_call (ok_law_as_line T) (hr.mono (by decide)) rfl T.law_as_line_m T.law_as_line_F.kp T.law_as_line_b .nil pass0 (pa_cons (pv 6) pa_nil)) pa_nil)) (by rfl))
  (pss_cons (ps_par (i := 9) (j := 10) (by rfl) sc_law.nd rfl rfl (by decide) rfl rfl (pa_cons (pe_call (ok_law_lower T) (hr.mono (by decide)) rfl T.law_lower_m T.law_lower_F.kp T.law_lower_b .nil pass0 (pa_cons (pv 5) (pa_cons (pv 6) pa_nil))) (pa_cons (pe_call (ok_law_under T) (hr.mono (by decide)) rfl T.law_under_m T.law_under_F.kp T.law_under_b .nil pass0 (pa_cons (pe_call (ok_law_lower T) (hr.mono (by decide)) rfl T.law_lower_m T.law_lower_F.kp T.law_lower_b .nil pass0 (pa_cons (pe_call (ok_law_under T) (hr.mono (by decide)) rfl T.law_under_m T.law_under_F.kp T.law_under_b .nil pass0 (pa_cons (pv 5) pa_nil)) (pa_cons (pe_call (ok_law_under T) (hr.mono (by decide)) rfl T.law_under_m T.law_under_F.kp T.law_under_b .nil pass0 (pa_cons (pv 6) pa_nil)) pa_nil))) pa_nil)) pa_nil)) (by rfl))
  (pss_cons (ps_if (PW.pt (pw_or (pt_cmpR (op_gyNe T.Line_ne T.Line_eq_M.at_ T.Line_eq_M.fn T.Line_i4 (ok_Line_eq T) (hr.mono (by decide)) T.Line_eq_b pass0) (pe_meth (pv 7) T.Line_cl T.Line_lower_M (ok_Line_lower T) (hr.mono (by decide)) T.Line_lower_b .nil pass0 (pa_cons (pv 8) pa_nil)) (pe_call (ok_law_as_line T) (hr.mono (by decide)) rfl T.law_as_line_m T.law_as_line_F.kp T.law_as_line_b .nil pass0 (pa_cons (pv 9) pa_nil)) (nomark _)) (pw_or1 (pt_cmpR (op_gyNe T.Line_ne T.Line_eq_M.at_ T.Line_eq_M.fn T.Line_i4 (ok_Line_eq T) (hr.mono (by decide)) T.Line_eq_b pass0) (pe_meth (pv 8) T.Line_cl T.Line_lower_M (ok_Line_lower T) (hr.mono (by decide)) T.Line_lower_b .nil pass0 (pa_cons (pv 7) pa_nil)) (pe_call (ok_law_as_line T) (hr.mono (by decide)) rfl T.law_as_line_m T.law_as_line_F.kp T.law_as_line_b .nil pass0 (pa_cons (pv 9) pa_nil)) (nomark _)))))
  (pss_one (ps_ret pe_bl))
  pss_nil)
  (pss_cons (ps_if (PW.pt (pw_or (pt_cmpR (op_gyNe T.Line_ne T.Line_eq_M.at_ T.Line_eq_M.fn T.Line_i4 (ok_Line_eq T) (hr.mono (by decide)) T.Line_eq_b pass0) (pe_meth (pv 7) T.Line_cl T.Line_upper_M (ok_Line_upper T) (hr.mono (by decide)) T.Line_upper_b .nil pass0 (pa_cons (pv 8) pa_nil)) (pe_call (ok_law_as_line T) (hr.mono (by decide)) rfl T.law_as_line_m T.law_as_line_F.kp T.law_as_line_b .nil pass0 (pa_cons (pv 10) pa_nil)) (nomark _)) (pw_or1 (pt_cmpR (op_gyNe T.Line_ne T.Line_eq_M.at_ T.Line_eq_M.fn T.Line_i4 (ok_Line_eq T) (hr.mono (by decide)) T.Line_eq_b pass0) (pe_meth (pv 8) T.Line_cl T.Line_upper_M (ok_Line_upper T) (hr.mono (by decide)) T.Line_upper_b .nil pass0 (pa_cons (pv 7) pa_nil)) (pe_call (ok_law_as_line T) (hr.mono (by decide)) rfl T.law_as_line_m T.law_as_line_F.kp T.law_as_line_b .nil pass0 (pa_cons (pv 10) pa_nil)) (nomark _)))))
  (pss_one (ps_ret pe_bl))
  pss_nil)
  (pss_cons (ps_set (i := 11) sc_law.nd rfl (Or.inl rfl) (pe_lst (pa_cons (pe_meth (pv 7) T.Line_cl T.Line_is_below_M (ok_Line_is_below T) (hr.mono (by decide)) T.Line_is_below_b .nil pass0 (pa_cons (pv 8) pa_nil)) (pa_cons (pe_meth (pv 8) T.Line_cl T.Line_is_below_M (ok_Line_is_below T) (hr.mono (by decide)) T.Line_is_below_b .nil pass0 (pa_cons (pv 7) pa_nil)) (pa_cons (pe_meth (pv 7) T.Line_cl T.Line_is_below_M (ok_Line_is_below T) (hr.mono (by decide)) T.Line_is_below_b .nil pass0 (pa_cons (pv 7) pa_nil)) pa_nil)))))
  (pss_cons (ps_if (pt_not (pt_val (pe_call (ok_law_same T 1) (hr.mono (by decide)) rfl T.law_same_m T.law_same_F.kp T.law_same_b .nil pass0 (pa_cons (pv 11) (pa_cons (pe_lst (pa_cons (pe_cmpR (op_gyC (op := .Eq) (fun _ _ => rfl) T.Line_eq_M.at_ T.Line_eq_M.fn (ok_Line_eq T) (hr.mono (by decide)) T.Line_eq_b pass0) (pe_call (ok_law_as_line T) (hr.mono (by decide)) rfl T.law_as_line_m T.law_as_line_F.kp T.law_as_line_b .nil pass0 (pa_cons (pv 9) pa_nil)) (pv 7) (nomark _)) (pa_cons (pe_cmpR (op_gyC (op := .Eq) (fun _ _ => rfl) T.Line_eq_M.at_ T.Line_eq_M.fn (ok_Line_eq T) (hr.mono (by decide)) T.Line_eq_b pass0) (pe_call (ok_law_as_line T) (hr.mono (by decide)) rfl T.law_as_line_m T.law_as_line_F.kp T.law_as_line_b .nil pass0 (pa_cons (pv 9) pa_nil)) (pv 8) (nomark _)) (pa_cons pe_bl pa_nil)))) pa_nil)))))
  (pss_one (ps_ret pe_bl))
  pss_nil)
  (pss_one (ps_if (PW.pt (pw_or (pt_cmpR (op_gyNe T.Line_ne T.Line_eq_M.at_ T.Line_eq_M.fn T.Line_i4 (ok_Line_eq T) (hr.mono (by decide)) T.Line_eq_b pass0) (pe_meth (pv 7) T.Line_cl T.Line_lower_M (ok_Line_lower T) (hr.mono (by decide)) T.Line_lower_b .nil pass0 (pa_cons (pv 7) pa_nil)) (pv 7) (nomark _)) (pw_or (pt_cmpR (op_gyNe T.Line_ne T.Line_eq_M.at_ T.Line_eq_M.fn T.Line_i4 (ok_Line_eq T) (hr.mono (by decide)) T.Line_eq_b pass0) (pe_meth (pv 7) T.Line_cl T.Line_upper_M (ok_Line_upper T) (hr.mono (by decide)) T.Line_upper_b .nil pass0 (pa_cons (pv 7) pa_nil)) (pv 7) (nomark _)) (pw_or1 (pt_not (pt_val (pe_meth (pe_meth (pv 7) T.Line_cl T.Line_lower_M (ok_Line_lower T) (hr.mono (by decide)) T.Line_lower_b .nil pass0 (pa_cons (pv 8) pa_nil)) T.Line_cl T.Line_is_below_M (ok_Line_is_below T) (hr.mono (by decide)) T.Line_is_below_b .nil pass0 (pa_cons (pe_meth (pv 7) T.Line_cl T.Line_upper_M (ok_Line_upper T) (hr.mono (by decide)) T.Line_upper_b .nil pass0 (pa_cons (pv 8) pa_nil)) pa_nil))))))))
  (pss_one (ps_ret pe_bl))
  pss_nil)))))))))))))
  (pss_one (ps_ret pe_bl)))), ?_⟩
    have z8 : ∀ {z : Int} {n : Nat}, z.natAbs < 2 ^ n → n ≤ 2000 → z.natAbs < 2 ^ 2000 := fun h hn => sz_up h hn
    refine ⟨_, rfl, a0, ns, rfl, hS, hl, fun st c H0 s0 hSt0 => ?_⟩
    refine ⟨5, rfl, by decide, by decide, for_range (n := 5) (fun i σ H1 => (∃ v2 v3 v4 v5 v6 v7 v8 v9 v10 v11, σ = [some (.ref a0), some (.ref st), v2, v3, v4, v5, v6, v7, v8, v9, v10, v11]) ∧ StAt H1 st c ns)
      ⟨⟨none, none, none, none, none, none, none, none, none, none, rfl⟩, hSt0⟩ ?_ (fun σ H1 _ => k H1)⟩
    rintro i σ H1 hi ⟨⟨v2, v3, v4, v5, v6, v7, v8, v9, v10, v11, rfl⟩, hSt⟩
    refine ⟨_, rfl, st, c, ns, 9, rfl, hSt, hl, by decide, z8 (by decide : (9 : Int).natAbs < 2 ^ 4) (by decide), fun ra H2 ra0 ra1 s2 k2 => ⟨_, _, rfl, rfl, ?_⟩⟩
    refine ⟨_, rfl, _, _, rfl, rfl, _, rfl, st, c, ns, 6, rfl, s2, hl, by decide, z8 (by decide : (6 : Int).natAbs < 2 ^ 3) (by decide), fun rb H3 rb0 rb1 s3 k3 => ⟨_, _, rfl, rfl, ?_⟩⟩
    have hab : ra - 4 < ra - 4 + 1 + rb := by omega
    have hA : -5 ≤ ra - 4 := by omega
    have hB : ra - 4 + 1 + rb ≤ 10 := by omega
    refine ⟨_, rfl, _, rfl, _, rfl, st, c, ns, ra - 4, ra - 4 + 1 + rb, rfl, s3, hl, hab, hA, hB, fun C1 H4 xs cs s4 k4 hC1 nC1 hcs hco => ?_⟩
    refine ⟨_, rfl, _, rfl, _, rfl, st, c, ns, ra - 4, ra - 4 + 1 + rb, rfl, s4, hl, hab, hA, hB, fun C2 H5 ys ds s5 k5 hC2 nC2 hds hdo => ⟨_, _, rfl, ?_⟩⟩
    have hC15 := k5 _ _ hC1 nC1
    obtain ⟨sx4, hL4⟩ := st_lst s4
    have hcs5 := hcs.keepL hL4 k5
    have tyS : ∀ {l : List Pt}, (∀ s ∈ l, Ty s.1 ∧ Sz 5 2 s.2) → ∀ s ∈ l, Ty s.1 ∧ Ty s.2 := fun h s hs => ⟨(h s hs).1, (h s hs).2.up⟩
    have nC := hco.len
    obtain ⟨f, X1⟩ := crs_of hco.so hco.hd hco.ls (tyS hco.fine) (by have := hco.len; omega) (Int.ne_of_lt hab)
    obtain ⟨g0, X20⟩ := crs_of hdo.so hdo.hd hdo.ls (tyS hdo.fine) (by have := hdo.len; omega) (Int.ne_of_lt hab)
    generalize ea : toQ (ra - 4, 1) = a at X1 X20
    generalize eb : toQ (ra - 4 + 1 + rb, 1) = b at X1 X20
    dsimp only
    show tSeq (tIfS _ _ _) _ _ _ _
    refine seq_ways (fun σ' H' => ∃ (C2 : Addr) (ys : List V) (ds : List Pt) (g : Rat → Rat) (w7 w8 w9 w10 w11 : Option V), σ' = [some (.ref a0), some (.ref st), some (.int (0 + (i : Nat))), some (.int (ra - 4)), some (.int (ra - 4 + 1 + rb)), some (.ref C1), some (.ref C2), w7, w8, w9, w10, w11] ∧
      StAt H' st c ns ∧ H' C1 = some (.lst xs) ∧ CrAll H' xs cs ∧ H' C2 = some (.lst ys) ∧ CrAll H' ys ds ∧ Crs ds g a b) (fun σ' H6 j => ?_) (fun D' go => ?_)
    · obtain ⟨C2, ys, ds, g, w7, w8, w9, w10, w11, rfl, s6, hC1, hcs, hC2, hds, X2⟩ := j
      have n1 := X1.n
      have n2 := X2.n
      have ab := X1.e.lt
      refine ⟨_, rfl, C1, xs, cs, rfl, hC1, hcs, X1.fine, X1.e.up, X1.e.two, by omega, fun x H7 e7 hx => ?_⟩
      refine ⟨_, rfl, C2, ys, ds, rfl, e7 _ _ hC2, hds.same e7, X2.fine, X2.e.up, X2.e.two, by omega, fun y H8 e8 hy => ⟨_, _, rfl, ?_⟩⟩
      have e78 := e7.trans e8
      -- the law's own lower and upper ones
      refine ⟨_, rfl, _, rfl, C1, C2, xs, ys, cs, ds, f, g, a, b, rfl, e78 _ _ hC1, hcs.same e78, e78 _ _ hC2, hds.same e78, X1, X2, fun Lw H9 lws F nLw e9 hLw hlw rows lenF => ?_⟩
      have e79 := e78.trans e9
      refine ⟨_, rfl, C1, xs, cs, rfl, e79 _ _ hC1, hcs.same e79, by omega, fun U1 H10 us1 nU1 e10 hU1 hus1 => ?_⟩
      refine ⟨_, rfl, C2, ys, ds, rfl, (e79.trans e10) _ _ hC2, (hds.same e79).same e10, by omega, fun U2 H11 us2 nU2 e11 hU2 hus2 => ?_⟩
      refine ⟨U1, U2, us1, us2, _, _, _, _, a, b, rfl, e11 _ _ hU1, hus1.same e11, hU2, hus2, X1.ng, X2.ng, fun W H12 ws G nW e12 hW hws rowsG lenG => ?_⟩
      rw [List.length_map, List.length_map] at lenG
      refine ⟨W, ws, G.map lowP, rfl, hW, hws, by rw [List.length_map]; omega, fun Hi H13 his nHi e13 hHi hhis => ⟨_, _, rfl, ?_⟩⟩
      have e913 : Same H9 H13 := ((e10.trans e11).trans e12).trans e13
      have hx13 := (hx.same (e8.trans e9)).same e913
      have hy13 := (hy.same e9).same e913
      have hLw13 := e913 _ _ hLw
      have hlw13 := hlw.same e913
      have s13 := (s6.same e79).same e913
      obtain ⟨eL, gL⟩ := rows.low ab
      have fL := rows.fineL
      obtain ⟨eG, gG⟩ := rowsG.low ab
      have eH := eG.ng
      have gH : Gr ((G.map lowP).map ngP) (fun m => mx (f m) (g m)) a b := gr_eq gG.ng fun m => mx_neg _ _
      have fH : ∀ s ∈ (G.map lowP).map ngP, Fine s.1 ∧ Fine s.2 := fun s hs => by
        obtain ⟨r, hr, rfl⟩ := List.mem_map.mp hs
        obtain ⟨z1, z2⟩ := rowsG.fineL r hr
        exact ⟨z1, fine_ng z2⟩
      have lL : (F.map lowP).length ≤ 900 := by rw [List.length_map]; omega
      have lH : ((G.map lowP).map ngP).length ≤ 900 := by rw [List.length_map, List.length_map]; omega
      generalize F.map lowP = low at hlw13 eL gL fL lL
      generalize (G.map lowP).map ngP = high at hhis eH gH fH lH
      have lb : ∀ {l : List Pt} {h : Rat → Rat}, Crs l h a b → (bentF l).length ≤ 7 := fun h => Nat.le_trans h.bmem.2 h.n
      have lb1 := lb X1
      have lb2 := lb X2
      obtain ⟨xa, dx, fx, rfl, hxa⟩ := line_ins T hx13
      obtain ⟨ya, dy, fy, rfl, hya⟩ := line_ins T hy13
      clear hx hy hLw hlw rows lenF hU1 hus1 hU2 hus2 hW hws rowsG lenG eG gG e10 e11 e12 e13 e7 e8 e9 e78 e79 e913 hC1 hcs hC2 hds
      -- lower ones
      refine ⟨_, rfl, xa, dx, _, rfl, hxa, rfl, _, rfl, _, _, bentF cs, bentF ds, f, g, a, b, rfl, two_of X1 X2 hx13 hy13, fun v1 K1 F1 q1 hv1 rows1 _ => ?_⟩
      refine ⟨_, rfl, Lw, lws, low, rfl, q1 _ _ hLw13, hlw13.same q1, fL, eL.up, eL.two, lL, fun u1 K2 q2 hu1 => ?_⟩
      refine ne_same (hv1.same q2) hu1 (bent_uniq (rows1.low ab).1 eL (rows1.low ab).2 gL) fun K3 q3 => ⟨_, rfl, iteF ?_⟩
      have p3 := (q1.trans q2).trans q3
      refine ⟨_, rfl, ya, dy, _, rfl, p3 _ _ hya, rfl, _, rfl, _, _, bentF ds, bentF cs, g, f, a, b, rfl, two_of X2 X1 (hy13.same p3) (hx13.same p3), fun v2 K4 F2 q4 hv2 rows2 _ => ?_⟩
      have p4 := p3.trans q4
      refine ⟨_, rfl, Lw, lws, low, rfl, p4 _ _ hLw13, hlw13.same p4, fL, eL.up, eL.two, lL, fun u2 K5 q5 hu2 => ?_⟩
      refine ne_same (hv2.same q5) hu2 (bent_uniq (rows2.low ab).1 eL (rows2.low ab).2 (gr_eq gL fun m => mn_comm _ _)) fun K6 q6 => ⟨_, rfl, iteF ?_⟩
      have p6 := (p4.trans q5).trans q6
      -- upper ones
      refine ⟨_, rfl, xa, dx, _, rfl, p6 _ _ hxa, rfl, _, rfl, _, _, bentF cs, bentF ds, f, g, a, b, rfl, two_of X1 X2 (hx13.same p6) (hy13.same p6), fun v3 K7 F3 q7 hv3 rows3 _ => ?_⟩
      have p7 := p6.trans q7
      refine ⟨_, rfl, Hi, his, high, rfl, p7 _ _ hHi, hhis.same p7, fH, eH.up, eH.two, lH, fun u3 K8 q8 hu3 => ?_⟩
      refine ne_same (hv3.same q8) hu3 (bent_uniq (rows3.high ab).1 eH (rows3.high ab).2 gH) fun K9 q9 => ⟨_, rfl, iteF ?_⟩
      have p9 := (p7.trans q8).trans q9
      refine ⟨_, rfl, ya, dy, _, rfl, p9 _ _ hya, rfl, _, rfl, _, _, bentF ds, bentF cs, g, f, a, b, rfl, two_of X2 X1 (hy13.same p9) (hx13.same p9), fun v4 K10 F4 q10 hv4 rows4 _ => ?_⟩
      have p10 := p9.trans q10
      refine ⟨_, rfl, Hi, his, high, rfl, p10 _ _ hHi, hhis.same p10, fH, eH.up, eH.two, lH, fun u4 K11 q11 hu4 => ?_⟩
      refine ne_same (hv4.same q11) hu4 (bent_uniq (rows4.high ab).1 eH (rows4.high ab).2 (gr_eq gH fun m => mx_comm _ _)) fun K12 q12 => ⟨_, rfl, iteF ?_⟩
      have p12 := (p10.trans q11).trans q12
      -- below
      refine ⟨_, rfl, xa, dx, _, rfl, p12 _ _ hxa, rfl, _, rfl, _, _, bentF cs, bentF ds, f, g, a, b, rfl, two_of X1 X2 (hx13.same p12) (hy13.same p12), fun K13 F5 q13 rows5 => ?_⟩
      have p13 := p12.trans q13
      refine ⟨_, rfl, ya, dy, _, rfl, p13 _ _ hya, rfl, _, rfl, _, _, bentF ds, bentF cs, g, f, a, b, rfl, two_of X2 X1 (hy13.same p13) (hx13.same p13), fun K14 F6 q14 rows6 => ?_⟩
      have p14 := p13.trans q14
      refine ⟨_, rfl, xa, dx, _, rfl, p14 _ _ hxa, rfl, _, rfl, _, _, bentF cs, bentF cs, f, f, a, b, rfl, two_of X1 X1 (hx13.same p14) (hx13.same p14), fun K15 F7 q15 rows7 => ⟨(by show 3 ≤ sizeLine; decide), fun Bl nBl => ?_⟩⟩
      have p15 := p14.trans q15
      have q16 : Same K15 (upd K15 Bl (.lst [.bl (F5.all fun r => bLe r.2.1 r.2.2), .bl (F6.all fun r => bLe r.2.1 r.2.2), .bl (F7.all fun r => bLe r.2.1 r.2.2)])) := same_upd nBl
      have hBl : (upd K15 Bl (.lst [.bl (F5.all fun r => bLe r.2.1 r.2.2), .bl (F6.all fun r => bLe r.2.1 r.2.2), .bl (F7.all fun r => bLe r.2.1 r.2.2)])) Bl = some (.lst [.bl (F5.all fun r => bLe r.2.1 r.2.2), .bl (F6.all fun r => bLe r.2.1 r.2.2), .bl (F7.all fun r => bLe r.2.1 r.2.2)]) := upd_same
      generalize upd K15 Bl (.lst [.bl (F5.all fun r => bLe r.2.1 r.2.2), .bl (F6.all fun r => bLe r.2.1 r.2.2), .bl (F7.all fun r => bLe r.2.1 r.2.2)]) = K16 at q16 hBl ⊢
      have p16 := p15.trans q16
      refine ⟨_, rfl, _, rfl, Lw, lws, low, rfl, p16 _ _ hLw13, hlw13.same p16, fL, eL.up, eL.two, lL, fun u5 K17 q17 hu5 => ⟨_, rfl, eq_lines hu5 ((hx13.same p16).same q17) fun K18 q18 => ?_⟩⟩
      have p18 := (p16.trans q17).trans q18
      refine ⟨_, rfl, Lw, lws, low, rfl, p18 _ _ hLw13, hlw13.same p18, fL, eL.up, eL.two, lL, fun u6 K19 q19 hu6 => ⟨_, rfl, eq_lines hu6 ((hy13.same p18).same q19) fun K20 q20 => ⟨(by show 3 ≤ sizeLine; decide), fun Bd nBd => ?_⟩⟩⟩
      have p20 := (p18.trans q19).trans q20
      have hBl20 := (((q17.trans q18).trans q19).trans q20) _ _ hBl
      have b1 : decide (bentF low = bentF cs) = (F5.all fun r => bLe r.2.1 r.2.2) := by
        rw [Bool.eq_iff_iff, decide_eq_true_iff, rows5.all]
        exact low_is X1.e X1.g eL gL fun _ => rfl
      have b2 : decide (bentF low = bentF ds) = (F6.all fun r => bLe r.2.1 r.2.2) := by
        rw [Bool.eq_iff_iff, decide_eq_true_iff, rows6.all]
        exact low_is X2.e X2.g eL gL fun _ => mn_comm _ _
      have b3 : (F7.all fun r => bLe r.2.1 r.2.2) = true := rows7.all.mpr fun _ _ _ => Rat.le_refl
      rw [b1, b2]
      have q21 : Same K20 (upd K20 Bd (.lst [.bl (F5.all fun r => bLe r.2.1 r.2.2), .bl (F6.all fun r => bLe r.2.1 r.2.2), .bl true])) := same_upd nBd
      have hBd : (upd K20 Bd (.lst [.bl (F5.all fun r => bLe r.2.1 r.2.2), .bl (F6.all fun r => bLe r.2.1 r.2.2), .bl true])) Bd = some (.lst [.bl (F5.all fun r => bLe r.2.1 r.2.2), .bl (F6.all fun r => bLe r.2.1 r.2.2), .bl true]) := upd_same
      generalize upd K20 Bd (.lst [.bl (F5.all fun r => bLe r.2.1 r.2.2), .bl (F6.all fun r => bLe r.2.1 r.2.2), .bl true]) = K21 at q21 hBd ⊢
      have p21 := p20.trans q21
      rw [b3] at hBl20
      generalize (F5.all fun r => bLe r.2.1 r.2.2) = c5 at hBl20 hBd
      generalize (F6.all fun r => bLe r.2.1 r.2.2) = c6 at hBl20 hBd
      refine ⟨_, _, rfl, Tw.lst (q21 _ _ hBl20) hBd (by show 3 ≤ 1000; decide) rfl (fun i x y e1 e2 => ?_), fun K22 q22 => ⟨_, rfl, iteF ?_⟩⟩
      · match i, e1, e2 with
        | 0, e1, e2 => cases e1; cases e2; exact .bl _
        | 1, e1, e2 => cases e1; cases e2; exact .bl _
        | 2, e1, e2 => cases e1; cases e2; exact .bl _
        | j + 3, e1, e2 => exact absurd e1 (by simp)
      have p22 := p21.trans q22
      -- a line and itself
      refine ⟨_, rfl, xa, dx, _, rfl, p22 _ _ hxa, rfl, _, rfl, _, _, bentF cs, bentF cs, f, f, a, b, rfl, two_of X1 X1 (hx13.same p22) (hx13.same p22), fun v5 K23 F8 q23 hv5 rows8 _ => ⟨_, rfl, ?_⟩⟩
      have p23 := p22.trans q23
      refine ne_same hv5 (hx13.same p23) (bent_uniq (rows8.low ab).1 X1.e (gr_eq (rows8.low ab).2 fun m => mn_self _) X1.g) fun K24 q24 => ⟨_, rfl, iteF ?_⟩
      have p24 := p23.trans q24
      refine ⟨_, rfl, xa, dx, _, rfl, p24 _ _ hxa, rfl, _, rfl, _, _, bentF cs, bentF cs, f, f, a, b, rfl, two_of X1 X1 (hx13.same p24) (hx13.same p24), fun v6 K25 F9 q25 hv6 rows9 _ => ⟨_, rfl, ?_⟩⟩
      have p25 := p24.trans q25
      refine ne_same hv6 (hx13.same p25) (bent_uniq (rows9.high ab).1 X1.e (gr_eq (rows9.high ab).2 fun m => mx_self _) X1.g) fun K26 q26 => ⟨_, rfl, iteF ?_⟩
      have p26 := p25.trans q26
      -- the lower one below the upper one
      refine ⟨_, rfl, xa, dx, _, rfl, p26 _ _ hxa, rfl, _, rfl, _, _, bentF cs, bentF ds, f, g, a, b, rfl, two_of X1 X2 (hx13.same p26) (hy13.same p26), fun v7 K27 F10 q27 hv7 rows10 len10 => ?_⟩
      obtain ⟨va, dv, fv, rfl, hva⟩ := line_ins T hv7
      have p27 := p26.trans q27
      refine ⟨va, dv, _, rfl, hva, rfl, _, rfl, xa, dx, _, rfl, p27 _ _ hxa, rfl, _, rfl, _, _, bentF cs, bentF ds, f, g, a, b, rfl, two_of X1 X2 (hx13.same p27) (hy13.same p27), fun v8 K28 F11 q28 hv8 rows11 len11 => ?_⟩
      refine ⟨_, _, _, _, _, _, a, b, rfl, two_lu ab rows10 rows11 (by omega) (by omega) (hv7.same q28) hv8, fun K29 F12 q29 rows12 => ⟨_, rfl, ?_⟩⟩
      rw [rows12.all.mpr fun m _ _ => mn_le_mx _ _]
      refine iteF ?_
      exact ⟨⟨_, _, _, _, _, _, _, _, _, _, rfl⟩, s13.same ((p27.trans q28).trans q29)⟩
    · refine ⟨_, rfl, st, c, ns, 3, rfl, s5, hl, by decide, z8 (by decide : (3 : Int).natAbs < 2 ^ 2) (by decide), fun r0 H6 r1 r2 s6 k6 => ⟨rfl, _, rfl, ?_⟩⟩
      obtain ⟨sx5, hL5⟩ := st_lst s5
      obtain ⟨sx6, hL6⟩ := st_lst s6
      have hC16 := k6 _ _ hC15 nC1
      have hC26 := k6 _ _ hC2 nC2
      have hcs6 := hcs5.keepL hL5 k6
      have hds6 := hds.keepL hL5 k6
      refine ite2 (fun _ => ?_) (fun _ => ?_)
      · refine ⟨_, rfl, C1, rfl, ⟨xs, .inl (.inl hC16)⟩, fun D nD => ?_⟩
        have nDst : D ≠ st := Ne.symm (ne_of_none hL6 nD)
        have nDc : c ≠ D := ne_of_none s6.2.1 nD
        have nDC : C1 ≠ D := ne_of_none hC16 nD
        have lx := hcs6.len
        refine lc_it (walk_list (K := K) (a := C1) (xs := xs)) (fun j H7 => StAt H7 st c ns ∧ Keep st H6 H7 ∧ ∃ us l, H7 D = some (.lst us) ∧ CrAll H7 us l ∧ l.map Prod.fst = (cs.map Prod.fst).take j ∧ ∀ s ∈ l, Ty s.1 ∧ Ty s.2)
          ⟨s6.same (same_upd nD), Same.keep (same_upd nD), [], [], upd_same, .nil, by rw [List.take_zero]; rfl, nofun⟩ (fun j H7 _ e => .inl (.inl (e.2.1 _ _ hC16 nC1))) ?_ ?_
        · rintro j z H70 H7 hj ⟨s7, k7, us, l, eD, hus, ecs, hty⟩ ⟨rfl, hz⟩
          have hcs7 := hcs6.keepL hL6 k7
          obtain ⟨u, t, h, s, rfl, hs, eu, ht, hh⟩ := hcs7.at hz
          obtain ⟨sx7, hL7⟩ := st_lst s7
          obtain ⟨f1, f2⟩ := hco.fine s (List.mem_of_getElem? hs)
          have ust : u ≠ st := ne_of eu hL7 fun z => by cases z
          refine ⟨rfl, yes_of ?_⟩
          refine ⟨_, rfl, u, _, 0, _, rfl, rfl, .inl (.inl eu), rfl, _, rfl, u, _, 1, _, rfl, rfl, .inl (.inl eu), rfl, _, rfl, st, c, ns, 3, rfl, s7, hl, by decide, z8 (by decide : (3 : Int).natAbs < 2 ^ 2) (by decide), fun q H8 qa qb s8 k8 => ⟨(by show 2 ≤ sizeLine; decide), fun n nn => ?_⟩⟩
          have e9 : Same H8 (upd H8 n (.tup [.int q, .int 1])) := same_upd nn
          have hn : (upd H8 n (.tup [.int q, .int 1])) n = some (.tup [.int q, .int 1]) := upd_same
          generalize upd H8 n (.tup [.int q, .int 1]) = H9 at e9 hn ⊢
          have h8 := (hh.keepL hL7 k8).same e9
          have nm2 := f2.nm
          refine ⟨h, n, s.2, (q, 1), rfl, h8, hn, nm2.2.1, nm2.2.2, sz_up (m := 3) (by show q.natAbs < 2 ^ 3; omega) (by decide), sz_up (m := 1) (by show (1 : Int).natAbs < 2 ^ 1; decide) (by decide), (by show s.2.2 * 1 ≠ 0; have := f2.1.1; omega), fun hh' H10 e10 hr' => ⟨(by show 2 ≤ sizeLine; decide), fun tp ntp => ?_⟩⟩
          have e11 : Same H10 (upd H10 tp (.tup [.ref t, .ref hh'])) := same_upd ntp
          have htp : (upd H10 tp (.tup [.ref t, .ref hh'])) tp = some (.tup [.ref t, .ref hh']) := upd_same
          generalize upd H10 tp (.tup [.ref t, .ref hh']) = H11 at e11 htp ⊢
          have e811 := (e9.trans e10).trans e11
          have kk : Keep st H7 H11 := k8.trans (Same.keep e811)
          have eD11 := kk _ _ eD nDst
          have s11 := s8.same e811
          have kp : ∀ o, Keep D H11 (upd H11 D o) := fun o b o' e n => (upd_ne n).trans e
          refine ⟨us, eD11, ?_, st_updL s11 (Ne.symm nDst) nDc, fun b o e n => ?_, us ++ [.ref tp], l ++ [(s.1, addR s.2 (q, 1))], upd_same, ?_, ?_, fun s' hs' => ?_⟩
          · have := congrArg List.length ecs
            rw [List.length_map, List.length_take, List.length_map] at this
            rw [hus.len]
            exact small1000 (by omega)
          · rw [upd_ne (ne_of_none e nD)]
            exact kk _ _ (k7 b o e n) n
          · exact ((hus.keepL hL7 kk).keepL eD11 (kp _)).app (.cons (kp _ _ _ htp (ne_of htp eD11 fun z => by cases z)) ((ht.keepL hL7 kk).keepL eD11 (kp _)) ((hr'.same e11).keepL eD11 (kp _)) .nil)
          · rw [List.map_append, ecs, List.take_succ, List.getElem?_map, hs]
            rfl
          · rcases List.mem_append.mp hs' with z | z
            · exact hty s' z
            · rw [List.mem_singleton.mp z]
              exact ⟨f1, raise_ty f2 qa qb⟩
        · rintro H7 ⟨s7, k7, us, l, eD, hus, ecs, hty⟩
          rw [lx, ← List.length_map (f := Prod.fst), List.take_length] at ecs
          have ll := congrArg List.length ecs
          rw [List.length_map, List.length_map] at ll
          obtain ⟨g, X2⟩ := crs_of (l := l) (a := ra - 4) (b := ra - 4 + 1 + rb) (by rw [ecs]; exact hco.so) (by rw [ecs]; exact hco.hd) (by rw [ecs]; exact hco.ls) hty (by omega) (Int.ne_of_lt hab)
          rw [ea, eb] at X2
          exact go _ _ ⟨D, us, l, g, _, _, _, _, _, rfl, s7, k7 _ _ hC16 nC1, hcs6.keepL hL6 k7, eD, hus, X2⟩
      · exact go _ _ ⟨C2, ys, ds, g0, _, _, _, _, _, rfl, s6, hC16, hcs6, hC26, hds6, X20⟩
end



theorem all_mk {l : PySem.W.OpenLaw} {w : World} {K : PySem.W.Frag} {h : Heap} {mg : Str → Option Value} {fa : Addr} (X : K.In h) (G : h.Ns mainGlobals mg) (hfa : mg "law" = some (.ref fa))
    {LevelError_a BadPoint_a BadMoment_a BadLine_a Exact_a Line_a BadPoint_init_a BadMoment_init_a BadLine_init_a is_whole_a is_list_a Exact_init_a Exact_add_a Exact_radd_a Exact_sub_a Exact_rsub_a Exact_mul_a Exact_rmul_a Exact_neg_a Exact_eq_a Exact_lt_a Exact_le_a Exact_gt_a Exact_ge_a divisor_a is_number_a parts_a plain_a quotient_a copied_a lesser_a greater_a merged_a Line_init_a Line_eq_a Line_is_below_a Line_lower_a Line_upper_a checked_points_a is_point_a bent_a is_straight_a heights_at_a height_between_a beside_a is_match_a spans_a moments_of_a crossings_a law_fresh_a law_fill_a law_take_a law_one_a law_same_a law_gcd_a law_frac_a law_add_a law_mul_a law_less_a law_plain_a law_on_a law_over_a law_moments_a law_drawn_course_a law_as_line_a law_lower_a law_under_a law_a : Addr}
    {od_BadPoint_init an_BadPoint_init od_BadMoment_init an_BadMoment_init od_BadLine_init an_BadLine_init od_is_whole an_is_whole od_is_list an_is_list od_Exact_init an_Exact_init od_Exact_add an_Exact_add od_Exact_radd an_Exact_radd od_Exact_sub an_Exact_sub od_Exact_rsub an_Exact_rsub od_Exact_mul an_Exact_mul od_Exact_rmul an_Exact_rmul od_Exact_neg an_Exact_neg od_Exact_eq an_Exact_eq od_Exact_lt an_Exact_lt od_Exact_le an_Exact_le od_Exact_gt an_Exact_gt od_Exact_ge an_Exact_ge od_divisor an_divisor od_is_number an_is_number od_parts an_parts od_plain an_plain od_quotient an_quotient od_copied an_copied od_lesser an_lesser od_greater an_greater od_merged an_merged od_Line_init an_Line_init od_Line_eq an_Line_eq od_Line_is_below an_Line_is_below od_Line_lower an_Line_lower od_Line_upper an_Line_upper od_checked_points an_checked_points od_is_point an_is_point od_bent an_bent od_is_straight an_is_straight od_heights_at an_heights_at od_height_between an_height_between od_beside an_beside od_is_match an_is_match od_spans an_spans od_moments_of an_moments_of od_crossings an_crossings od_law_fresh an_law_fresh od_law_fill an_law_fill od_law_take an_law_take od_law_one an_law_one od_law_same an_law_same od_law_gcd an_law_gcd od_law_frac an_law_frac od_law_add an_law_add od_law_mul an_law_mul od_law_less an_law_less od_law_plain an_law_plain od_law_on an_law_on od_law_over an_law_over od_law_moments an_law_moments od_law_drawn_course an_law_drawn_course od_law_as_line an_law_as_line od_law_lower an_law_lower od_law_under an_law_under od_law an_law : Option Addr}
    {sl_BadPoint_init sl_BadMoment_init sl_BadLine_init sl_is_whole sl_is_list sl_Exact_init sl_Exact_add sl_Exact_radd sl_Exact_sub sl_Exact_rsub sl_Exact_mul sl_Exact_rmul sl_Exact_neg sl_Exact_eq sl_Exact_lt sl_Exact_le sl_Exact_gt sl_Exact_ge sl_divisor sl_is_number sl_parts sl_plain sl_quotient sl_copied sl_lesser sl_greater sl_merged sl_Line_init sl_Line_eq sl_Line_is_below sl_Line_lower sl_Line_upper sl_checked_points sl_is_point sl_bent sl_is_straight sl_heights_at sl_height_between sl_beside sl_is_match sl_spans sl_moments_of sl_crossings sl_law_fresh sl_law_fill sl_law_take sl_law_one sl_law_same sl_law_gcd sl_law_frac sl_law_add sl_law_mul sl_law_less sl_law_plain sl_law_on sl_law_over sl_law_moments sl_law_drawn_course sl_law_as_line sl_law_lower sl_law_under sl_law : Array (Option Value)}
    {oc_BadPoint_init kV_BadPoint_init dc_BadPoint_init pm_BadPoint_init cd_BadPoint_init ct_BadPoint_init oc_BadMoment_init kV_BadMoment_init dc_BadMoment_init pm_BadMoment_init cd_BadMoment_init ct_BadMoment_init oc_BadLine_init kV_BadLine_init dc_BadLine_init pm_BadLine_init cd_BadLine_init ct_BadLine_init oc_is_whole kV_is_whole dc_is_whole pm_is_whole cd_is_whole ct_is_whole oc_is_list kV_is_list dc_is_list pm_is_list cd_is_list ct_is_list oc_Exact_init kV_Exact_init dc_Exact_init pm_Exact_init cd_Exact_init ct_Exact_init oc_Exact_add kV_Exact_add dc_Exact_add pm_Exact_add cd_Exact_add ct_Exact_add oc_Exact_radd kV_Exact_radd dc_Exact_radd pm_Exact_radd cd_Exact_radd ct_Exact_radd oc_Exact_sub kV_Exact_sub dc_Exact_sub pm_Exact_sub cd_Exact_sub ct_Exact_sub oc_Exact_rsub kV_Exact_rsub dc_Exact_rsub pm_Exact_rsub cd_Exact_rsub ct_Exact_rsub oc_Exact_mul kV_Exact_mul dc_Exact_mul pm_Exact_mul cd_Exact_mul ct_Exact_mul oc_Exact_rmul kV_Exact_rmul dc_Exact_rmul pm_Exact_rmul cd_Exact_rmul ct_Exact_rmul oc_Exact_neg kV_Exact_neg dc_Exact_neg pm_Exact_neg cd_Exact_neg ct_Exact_neg oc_Exact_eq kV_Exact_eq dc_Exact_eq pm_Exact_eq cd_Exact_eq ct_Exact_eq oc_Exact_lt kV_Exact_lt dc_Exact_lt pm_Exact_lt cd_Exact_lt ct_Exact_lt oc_Exact_le kV_Exact_le dc_Exact_le pm_Exact_le cd_Exact_le ct_Exact_le oc_Exact_gt kV_Exact_gt dc_Exact_gt pm_Exact_gt cd_Exact_gt ct_Exact_gt oc_Exact_ge kV_Exact_ge dc_Exact_ge pm_Exact_ge cd_Exact_ge ct_Exact_ge oc_divisor kV_divisor dc_divisor pm_divisor cd_divisor ct_divisor oc_is_number kV_is_number dc_is_number pm_is_number cd_is_number ct_is_number oc_parts kV_parts dc_parts pm_parts cd_parts ct_parts oc_plain kV_plain dc_plain pm_plain cd_plain ct_plain oc_quotient kV_quotient dc_quotient pm_quotient cd_quotient ct_quotient oc_copied kV_copied dc_copied pm_copied cd_copied ct_copied oc_lesser kV_lesser dc_lesser pm_lesser cd_lesser ct_lesser oc_greater kV_greater dc_greater pm_greater cd_greater ct_greater oc_merged kV_merged dc_merged pm_merged cd_merged ct_merged oc_Line_init kV_Line_init dc_Line_init pm_Line_init cd_Line_init ct_Line_init oc_Line_eq kV_Line_eq dc_Line_eq pm_Line_eq cd_Line_eq ct_Line_eq oc_Line_is_below kV_Line_is_below dc_Line_is_below pm_Line_is_below cd_Line_is_below ct_Line_is_below oc_Line_lower kV_Line_lower dc_Line_lower pm_Line_lower cd_Line_lower ct_Line_lower oc_Line_upper kV_Line_upper dc_Line_upper pm_Line_upper cd_Line_upper ct_Line_upper oc_checked_points kV_checked_points dc_checked_points pm_checked_points cd_checked_points ct_checked_points oc_is_point kV_is_point dc_is_point pm_is_point cd_is_point ct_is_point oc_bent kV_bent dc_bent pm_bent cd_bent ct_bent oc_is_straight kV_is_straight dc_is_straight pm_is_straight cd_is_straight ct_is_straight oc_heights_at kV_heights_at dc_heights_at pm_heights_at cd_heights_at ct_heights_at oc_height_between kV_height_between dc_height_between pm_height_between cd_height_between ct_height_between oc_beside kV_beside dc_beside pm_beside cd_beside ct_beside oc_is_match kV_is_match dc_is_match pm_is_match cd_is_match ct_is_match oc_spans kV_spans dc_spans pm_spans cd_spans ct_spans oc_moments_of kV_moments_of dc_moments_of pm_moments_of cd_moments_of ct_moments_of oc_crossings kV_crossings dc_crossings pm_crossings cd_crossings ct_crossings oc_law_fresh kV_law_fresh dc_law_fresh pm_law_fresh cd_law_fresh ct_law_fresh oc_law_fill kV_law_fill dc_law_fill pm_law_fill cd_law_fill ct_law_fill oc_law_take kV_law_take dc_law_take pm_law_take cd_law_take ct_law_take oc_law_one kV_law_one dc_law_one pm_law_one cd_law_one ct_law_one oc_law_same kV_law_same dc_law_same pm_law_same cd_law_same ct_law_same oc_law_gcd kV_law_gcd dc_law_gcd pm_law_gcd cd_law_gcd ct_law_gcd oc_law_frac kV_law_frac dc_law_frac pm_law_frac cd_law_frac ct_law_frac oc_law_add kV_law_add dc_law_add pm_law_add cd_law_add ct_law_add oc_law_mul kV_law_mul dc_law_mul pm_law_mul cd_law_mul ct_law_mul oc_law_less kV_law_less dc_law_less pm_law_less cd_law_less ct_law_less oc_law_plain kV_law_plain dc_law_plain pm_law_plain cd_law_plain ct_law_plain oc_law_on kV_law_on dc_law_on pm_law_on cd_law_on ct_law_on oc_law_over kV_law_over dc_law_over pm_law_over cd_law_over ct_law_over oc_law_moments kV_law_moments dc_law_moments pm_law_moments cd_law_moments ct_law_moments oc_law_drawn_course kV_law_drawn_course dc_law_drawn_course pm_law_drawn_course cd_law_drawn_course ct_law_drawn_course oc_law_as_line kV_law_as_line dc_law_as_line pm_law_as_line cd_law_as_line ct_law_as_line oc_law_lower kV_law_lower dc_law_lower pm_law_lower cd_law_lower ct_law_lower oc_law_under kV_law_under dc_law_under pm_law_under cd_law_under ct_law_under oc_law kV_law dc_law pm_law cd_law ct_law : Value}
    {dT_Exact_init : Addr} {tc_Exact_init : Value} {td_Exact_init : Option Addr} {tn_Exact_init : Nat} {ts_Exact_init : Array (Option Value)} {tt_Exact_init_0 : Tok}
    {nm_LevelError q_LevelError : Str} {N_LevelError : Addr} {bs_LevelError : List Value} {sn_LevelError : List Str} {sub_LevelError : List Value} {ab_LevelError : Bool} {col_LevelError : Option Bool} {dd_LevelError : Option Addr} {k0_LevelError k1_LevelError k2_LevelError k3_LevelError k5_LevelError : Option Value}
    {nm_BadPoint q_BadPoint : Str} {N_BadPoint : Addr} {bs_BadPoint : List Value} {sn_BadPoint : List Str} {sub_BadPoint : List Value} {ab_BadPoint : Bool} {col_BadPoint : Option Bool} {dd_BadPoint : Option Addr} {k0_BadPoint k1_BadPoint k2_BadPoint k3_BadPoint k5_BadPoint : Option Value}
    {nm_BadMoment q_BadMoment : Str} {N_BadMoment : Addr} {bs_BadMoment : List Value} {sn_BadMoment : List Str} {sub_BadMoment : List Value} {ab_BadMoment : Bool} {col_BadMoment : Option Bool} {dd_BadMoment : Option Addr} {k0_BadMoment k1_BadMoment k2_BadMoment k3_BadMoment k5_BadMoment : Option Value}
    {nm_BadLine q_BadLine : Str} {N_BadLine : Addr} {bs_BadLine : List Value} {sn_BadLine : List Str} {sub_BadLine : List Value} {ab_BadLine : Bool} {col_BadLine : Option Bool} {dd_BadLine : Option Addr} {k0_BadLine k1_BadLine k2_BadLine k3_BadLine k5_BadLine : Option Value}
    {fo1_add fo2_add fo1_sub fo2_sub fo1_mul fo2_mul : Option Value}
    (g_LevelError : PySem.W.nsIn K mainGlobals "LevelError" = some (some (.ref LevelError_a)))
    (xl_LevelError : K.lookup LevelError_a = some (excClassObj nm_LevelError q_LevelError LevelError_a N_LevelError bs_LevelError [.type "ValueError", .type "Exception", .type "BaseException", .type "object"] true sn_LevelError sub_LevelError ab_LevelError col_LevelError dd_LevelError k0_LevelError k1_LevelError k2_LevelError k3_LevelError k5_LevelError "ValueError.__new__"))
    (sa_LevelError : PySem.W.findIn K (.ref LevelError_a) "__setattr__" = some (some (.builtin "object.__setattr__")))
    (ga_LevelError : PySem.W.findIn K (.ref LevelError_a) "__getattribute__" = some (some (.builtin "BaseException.__getattribute__")))
    (ca_LevelError : PySem.W.findIn K (.ref LevelError_a) "__class__" = some (some (.builtin "object.__class__")))
    (gg_LevelError : PySem.W.findIn K (.ref LevelError_a) "__getattr__" = some none)
    (ty_LevelError : PySem.W.typeIn K (.ref LevelError_a) = some (.type "type"))
    (kp_LevelError : PySem.W.keepIn K (.ref LevelError_a) = true)
    (g_BadPoint : PySem.W.nsIn K mainGlobals "BadPoint" = some (some (.ref BadPoint_a)))
    (xl_BadPoint : K.lookup BadPoint_a = some (excClassObj nm_BadPoint q_BadPoint BadPoint_a N_BadPoint bs_BadPoint [.ref LevelError_a, .type "ValueError", .type "Exception", .type "BaseException", .type "object"] true sn_BadPoint sub_BadPoint ab_BadPoint col_BadPoint dd_BadPoint k0_BadPoint k1_BadPoint k2_BadPoint k3_BadPoint k5_BadPoint "ValueError.__new__"))
    (sa_BadPoint : PySem.W.findIn K (.ref BadPoint_a) "__setattr__" = some (some (.builtin "object.__setattr__")))
    (ga_BadPoint : PySem.W.findIn K (.ref BadPoint_a) "__getattribute__" = some (some (.builtin "BaseException.__getattribute__")))
    (ca_BadPoint : PySem.W.findIn K (.ref BadPoint_a) "__class__" = some (some (.builtin "object.__class__")))
    (gg_BadPoint : PySem.W.findIn K (.ref BadPoint_a) "__getattr__" = some none)
    (ty_BadPoint : PySem.W.typeIn K (.ref BadPoint_a) = some (.type "type"))
    (kp_BadPoint : PySem.W.keepIn K (.ref BadPoint_a) = true)
    (n_BadPoint_index : PySem.W.findIn K (.ref BadPoint_a) "index" = some none)
    (g_BadMoment : PySem.W.nsIn K mainGlobals "BadMoment" = some (some (.ref BadMoment_a)))
    (xl_BadMoment : K.lookup BadMoment_a = some (excClassObj nm_BadMoment q_BadMoment BadMoment_a N_BadMoment bs_BadMoment [.ref LevelError_a, .type "ValueError", .type "Exception", .type "BaseException", .type "object"] true sn_BadMoment sub_BadMoment ab_BadMoment col_BadMoment dd_BadMoment k0_BadMoment k1_BadMoment k2_BadMoment k3_BadMoment k5_BadMoment "ValueError.__new__"))
    (sa_BadMoment : PySem.W.findIn K (.ref BadMoment_a) "__setattr__" = some (some (.builtin "object.__setattr__")))
    (ga_BadMoment : PySem.W.findIn K (.ref BadMoment_a) "__getattribute__" = some (some (.builtin "BaseException.__getattribute__")))
    (ca_BadMoment : PySem.W.findIn K (.ref BadMoment_a) "__class__" = some (some (.builtin "object.__class__")))
    (gg_BadMoment : PySem.W.findIn K (.ref BadMoment_a) "__getattr__" = some none)
    (ty_BadMoment : PySem.W.typeIn K (.ref BadMoment_a) = some (.type "type"))
    (kp_BadMoment : PySem.W.keepIn K (.ref BadMoment_a) = true)
    (n_BadMoment_moment : PySem.W.findIn K (.ref BadMoment_a) "moment" = some none)
    (g_BadLine : PySem.W.nsIn K mainGlobals "BadLine" = some (some (.ref BadLine_a)))
    (xl_BadLine : K.lookup BadLine_a = some (excClassObj nm_BadLine q_BadLine BadLine_a N_BadLine bs_BadLine [.ref LevelError_a, .type "ValueError", .type "Exception", .type "BaseException", .type "object"] true sn_BadLine sub_BadLine ab_BadLine col_BadLine dd_BadLine k0_BadLine k1_BadLine k2_BadLine k3_BadLine k5_BadLine "ValueError.__new__"))
    (sa_BadLine : PySem.W.findIn K (.ref BadLine_a) "__setattr__" = some (some (.builtin "object.__setattr__")))
    (ga_BadLine : PySem.W.findIn K (.ref BadLine_a) "__getattribute__" = some (some (.builtin "BaseException.__getattribute__")))
    (ca_BadLine : PySem.W.findIn K (.ref BadLine_a) "__class__" = some (some (.builtin "object.__class__")))
    (gg_BadLine : PySem.W.findIn K (.ref BadLine_a) "__getattr__" = some none)
    (ty_BadLine : PySem.W.typeIn K (.ref BadLine_a) = some (.type "type"))
    (kp_BadLine : PySem.W.keepIn K (.ref BadLine_a) = true)
    (n_BadLine_line : PySem.W.findIn K (.ref BadLine_a) "line" = some none)
    (eg1 : PySem.W.specialIn K (.builtin "object.__class__") "__get__" = some (some (.builtin "getset_descriptor.__get__")))
    (eg2 : PySem.W.takesIn K (.builtin "object.__class__") = some true)
    (ev : PySem.W.findCls K (.type "ValueError") (.type "type") "__init__" = some (.val (.builtin "ValueError.__init__")))
    (e_nd : List.Nodup [LevelError_a, BadPoint_a, BadMoment_a, BadLine_a])
    (g_Exact : PySem.W.nsIn K mainGlobals "Exact" = some (some (.ref Exact_a)))
    (pg_Exact : PySem.W.plainGet K Exact_a Str.empty = true)
    (hd_Exact : PySem.W.hasDictIn K Exact_a = true)
    (po_Exact : PySem.W.plainOver K Exact_a = true)
    (sa_Exact : PySem.W.findIn K (.ref Exact_a) "__setattr__" = some (some (.builtin "object.__setattr__")))
    (n_Exact_over : PySem.W.findIn K (.ref Exact_a) "over" = some none)
    (n_Exact_under : PySem.W.findIn K (.ref Exact_a) "under" = some none)
    (i1_Exact : PySem.W.findIn K (.ref Exact_a) "__class__" = some (some (.builtin "object.__class__")))
    (i2_Exact : PySem.W.specialIn K (.builtin "object.__class__") "__get__" = some (some (.builtin "getset_descriptor.__get__")))
    (i3_Exact : PySem.W.takesIn K (.builtin "object.__class__") = some true)
    (i4_Exact : PySem.W.mroIn K Exact_a (.type "object") = some true)
    (ic_Exact : PySem.W.isClsIn K Exact_a = true)
    (ty_Exact : PySem.W.typeIn K (.ref Exact_a) = some (.type "type"))
    (u_int_Exact : PySem.W.subIn K (.type "int") (.ref Exact_a) = some false)
    (d_int_Exact : PySem.W.subIn K (.ref Exact_a) (.type "int") = some false)
    (up_int_Exact : PySem.W.subIn K (.type "int") (.ref Exact_a) = some false)
    (dn_int_Exact : PySem.W.subIn K (.ref Exact_a) (.type "int") = some false)
    (od_add : PySem.W.findIn K (.ref Exact_a) (PySem.dunder Operator.Add.info.2) = some (some (.ref Exact_add_a)))
    (or_add : PySem.W.findIn K (.ref Exact_a) (dunderR Operator.Add.info.2) = some (some (.ref Exact_radd_a)))
    (o1_add : PySem.W.findIn K (.type "int") (PySem.dunder Operator.Add.info.2) = some fo1_add)
    (o2_add : PySem.W.findIn K (.type "int") (dunderR Operator.Add.info.2) = some fo2_add)
    (osf_add : PySem.W.selfFirst K Exact_a = true)
    (oup_add : PySem.W.subIn K (.type "int") (.ref Exact_a) = some false)
    (odn_add : PySem.W.subIn K (.ref Exact_a) (.type "int") = some false)
    (od_sub : PySem.W.findIn K (.ref Exact_a) (PySem.dunder Operator.Sub.info.2) = some (some (.ref Exact_sub_a)))
    (or_sub : PySem.W.findIn K (.ref Exact_a) (dunderR Operator.Sub.info.2) = some (some (.ref Exact_rsub_a)))
    (o1_sub : PySem.W.findIn K (.type "int") (PySem.dunder Operator.Sub.info.2) = some fo1_sub)
    (o2_sub : PySem.W.findIn K (.type "int") (dunderR Operator.Sub.info.2) = some fo2_sub)
    (osf_sub : PySem.W.selfFirst K Exact_a = true)
    (oup_sub : PySem.W.subIn K (.type "int") (.ref Exact_a) = some false)
    (odn_sub : PySem.W.subIn K (.ref Exact_a) (.type "int") = some false)
    (od_mul : PySem.W.findIn K (.ref Exact_a) (PySem.dunder Operator.Mult.info.2) = some (some (.ref Exact_mul_a)))
    (or_mul : PySem.W.findIn K (.ref Exact_a) (dunderR Operator.Mult.info.2) = some (some (.ref Exact_rmul_a)))
    (o1_mul : PySem.W.findIn K (.type "int") (PySem.dunder Operator.Mult.info.2) = some fo1_mul)
    (o2_mul : PySem.W.findIn K (.type "int") (dunderR Operator.Mult.info.2) = some fo2_mul)
    (osf_mul : PySem.W.selfFirst K Exact_a = true)
    (oup_mul : PySem.W.subIn K (.type "int") (.ref Exact_a) = some false)
    (odn_mul : PySem.W.subIn K (.ref Exact_a) (.type "int") = some false)
    (g_Line : PySem.W.nsIn K mainGlobals "Line" = some (some (.ref Line_a)))
    (pg_Line : PySem.W.plainGet K Line_a Str.empty = true)
    (hd_Line : PySem.W.hasDictIn K Line_a = true)
    (po_Line : PySem.W.plainOver K Line_a = true)
    (sa_Line : PySem.W.findIn K (.ref Line_a) "__setattr__" = some (some (.builtin "object.__setattr__")))
    (n_Line_spots : PySem.W.findIn K (.ref Line_a) "spots" = some none)
    (i1_Line : PySem.W.findIn K (.ref Line_a) "__class__" = some (some (.builtin "object.__class__")))
    (i2_Line : PySem.W.specialIn K (.builtin "object.__class__") "__get__" = some (some (.builtin "getset_descriptor.__get__")))
    (i3_Line : PySem.W.takesIn K (.builtin "object.__class__") = some true)
    (i4_Line : PySem.W.mroIn K Line_a (.type "object") = some true)
    (ne_Line : PySem.W.findIn K (.ref Line_a) "__ne__" = some (some (.builtin "object.__ne__")))
    (ne9_Line_Exact : Line_a ≠ Exact_a)
    (g_BadPoint_init : PySem.W.findIn K (.ref BadPoint_a) "__init__" = some (some (.ref BadPoint_init_a)))
    (i_BadPoint_init : PySem.W.isFn K (.ref BadPoint_init_a) = true)
    (l_BadPoint_init : K.lookup BadPoint_init_a = some ⟨oc_BadPoint_init, od_BadPoint_init, .func (PySem.W.fnOf "__init__" "BadPoint.__init__" (defArgs s_BadPoint_init) (defBody s_BadPoint_init) (defScope s_BadPoint_init) .none kV_BadPoint_init dc_BadPoint_init pm_BadPoint_init an_BadPoint_init cd_BadPoint_init ct_BadPoint_init), sl_BadPoint_init⟩)
    (c_BadPoint_init : PySem.W.codeIn K cd_BadPoint_init "BadPoint.__init__" = true)
    (k_BadPoint_init : PySem.W.keepIn K (.ref BadPoint_init_a) = true)
    (g_BadMoment_init : PySem.W.findIn K (.ref BadMoment_a) "__init__" = some (some (.ref BadMoment_init_a)))
    (i_BadMoment_init : PySem.W.isFn K (.ref BadMoment_init_a) = true)
    (l_BadMoment_init : K.lookup BadMoment_init_a = some ⟨oc_BadMoment_init, od_BadMoment_init, .func (PySem.W.fnOf "__init__" "BadMoment.__init__" (defArgs s_BadMoment_init) (defBody s_BadMoment_init) (defScope s_BadMoment_init) .none kV_BadMoment_init dc_BadMoment_init pm_BadMoment_init an_BadMoment_init cd_BadMoment_init ct_BadMoment_init), sl_BadMoment_init⟩)
    (c_BadMoment_init : PySem.W.codeIn K cd_BadMoment_init "BadMoment.__init__" = true)
    (k_BadMoment_init : PySem.W.keepIn K (.ref BadMoment_init_a) = true)
    (g_BadLine_init : PySem.W.findIn K (.ref BadLine_a) "__init__" = some (some (.ref BadLine_init_a)))
    (i_BadLine_init : PySem.W.isFn K (.ref BadLine_init_a) = true)
    (l_BadLine_init : K.lookup BadLine_init_a = some ⟨oc_BadLine_init, od_BadLine_init, .func (PySem.W.fnOf "__init__" "BadLine.__init__" (defArgs s_BadLine_init) (defBody s_BadLine_init) (defScope s_BadLine_init) .none kV_BadLine_init dc_BadLine_init pm_BadLine_init an_BadLine_init cd_BadLine_init ct_BadLine_init), sl_BadLine_init⟩)
    (c_BadLine_init : PySem.W.codeIn K cd_BadLine_init "BadLine.__init__" = true)
    (k_BadLine_init : PySem.W.keepIn K (.ref BadLine_init_a) = true)
    (g_is_whole : PySem.W.nsIn K mainGlobals "is_whole" = some (some (.ref is_whole_a)))
    (l_is_whole : K.lookup is_whole_a = some ⟨oc_is_whole, od_is_whole, .func (PySem.W.fnOf "is_whole" "is_whole" (defArgs s_is_whole) (defBody s_is_whole) (defScope s_is_whole) .none kV_is_whole dc_is_whole pm_is_whole an_is_whole cd_is_whole ct_is_whole), sl_is_whole⟩)
    (c_is_whole : PySem.W.codeIn K cd_is_whole "is_whole" = true)
    (k_is_whole : PySem.W.keepIn K (.ref is_whole_a) = true)
    (g_is_list : PySem.W.nsIn K mainGlobals "is_list" = some (some (.ref is_list_a)))
    (l_is_list : K.lookup is_list_a = some ⟨oc_is_list, od_is_list, .func (PySem.W.fnOf "is_list" "is_list" (defArgs s_is_list) (defBody s_is_list) (defScope s_is_list) .none kV_is_list dc_is_list pm_is_list an_is_list cd_is_list ct_is_list), sl_is_list⟩)
    (c_is_list : PySem.W.codeIn K cd_is_list "is_list" = true)
    (k_is_list : PySem.W.keepIn K (.ref is_list_a) = true)
    (g_Exact_init : PySem.W.findIn K (.ref Exact_a) "__init__" = some (some (.ref Exact_init_a)))
    (i_Exact_init : PySem.W.isFn K (.ref Exact_init_a) = true)
    (l_Exact_init : K.lookup Exact_init_a = some ⟨oc_Exact_init, od_Exact_init, .func (PySem.W.fnOf "__init__" "Exact.__init__" (defArgs s_Exact_init) (defBody s_Exact_init) (defScope s_Exact_init) (.ref dT_Exact_init) kV_Exact_init dc_Exact_init pm_Exact_init an_Exact_init cd_Exact_init ct_Exact_init), sl_Exact_init⟩)
    (c_Exact_init : PySem.W.codeIn K cd_Exact_init "Exact.__init__" = true)
    (k_Exact_init : PySem.W.keepIn K (.ref Exact_init_a) = true)
    (t_Exact_init : K.lookup dT_Exact_init = some ⟨tc_Exact_init, td_Exact_init, .seq (List.toArray [Value.int 1 tt_Exact_init_0]) tn_Exact_init, ts_Exact_init⟩)
    (mk_Exact : PySem.W.makesIn K Exact_a = true)
    (kc_Exact : PySem.W.keepIn K (.ref Exact_a) = true)
    (g_Exact_add : PySem.W.findIn K (.ref Exact_a) "__add__" = some (some (.ref Exact_add_a)))
    (i_Exact_add : PySem.W.isFn K (.ref Exact_add_a) = true)
    (l_Exact_add : K.lookup Exact_add_a = some ⟨oc_Exact_add, od_Exact_add, .func (PySem.W.fnOf "__add__" "Exact.__add__" (defArgs s_Exact_add) (defBody s_Exact_add) (defScope s_Exact_add) .none kV_Exact_add dc_Exact_add pm_Exact_add an_Exact_add cd_Exact_add ct_Exact_add), sl_Exact_add⟩)
    (c_Exact_add : PySem.W.codeIn K cd_Exact_add "Exact.__add__" = true)
    (k_Exact_add : PySem.W.keepIn K (.ref Exact_add_a) = true)
    (g_Exact_radd : PySem.W.findIn K (.ref Exact_a) "__radd__" = some (some (.ref Exact_radd_a)))
    (i_Exact_radd : PySem.W.isFn K (.ref Exact_radd_a) = true)
    (l_Exact_radd : K.lookup Exact_radd_a = some ⟨oc_Exact_radd, od_Exact_radd, .func (PySem.W.fnOf "__radd__" "Exact.__radd__" (defArgs s_Exact_radd) (defBody s_Exact_radd) (defScope s_Exact_radd) .none kV_Exact_radd dc_Exact_radd pm_Exact_radd an_Exact_radd cd_Exact_radd ct_Exact_radd), sl_Exact_radd⟩)
    (c_Exact_radd : PySem.W.codeIn K cd_Exact_radd "Exact.__radd__" = true)
    (k_Exact_radd : PySem.W.keepIn K (.ref Exact_radd_a) = true)
    (g_Exact_sub : PySem.W.findIn K (.ref Exact_a) "__sub__" = some (some (.ref Exact_sub_a)))
    (i_Exact_sub : PySem.W.isFn K (.ref Exact_sub_a) = true)
    (l_Exact_sub : K.lookup Exact_sub_a = some ⟨oc_Exact_sub, od_Exact_sub, .func (PySem.W.fnOf "__sub__" "Exact.__sub__" (defArgs s_Exact_sub) (defBody s_Exact_sub) (defScope s_Exact_sub) .none kV_Exact_sub dc_Exact_sub pm_Exact_sub an_Exact_sub cd_Exact_sub ct_Exact_sub), sl_Exact_sub⟩)
    (c_Exact_sub : PySem.W.codeIn K cd_Exact_sub "Exact.__sub__" = true)
    (k_Exact_sub : PySem.W.keepIn K (.ref Exact_sub_a) = true)
    (g_Exact_rsub : PySem.W.findIn K (.ref Exact_a) "__rsub__" = some (some (.ref Exact_rsub_a)))
    (i_Exact_rsub : PySem.W.isFn K (.ref Exact_rsub_a) = true)
    (l_Exact_rsub : K.lookup Exact_rsub_a = some ⟨oc_Exact_rsub, od_Exact_rsub, .func (PySem.W.fnOf "__rsub__" "Exact.__rsub__" (defArgs s_Exact_rsub) (defBody s_Exact_rsub) (defScope s_Exact_rsub) .none kV_Exact_rsub dc_Exact_rsub pm_Exact_rsub an_Exact_rsub cd_Exact_rsub ct_Exact_rsub), sl_Exact_rsub⟩)
    (c_Exact_rsub : PySem.W.codeIn K cd_Exact_rsub "Exact.__rsub__" = true)
    (k_Exact_rsub : PySem.W.keepIn K (.ref Exact_rsub_a) = true)
    (g_Exact_mul : PySem.W.findIn K (.ref Exact_a) "__mul__" = some (some (.ref Exact_mul_a)))
    (i_Exact_mul : PySem.W.isFn K (.ref Exact_mul_a) = true)
    (l_Exact_mul : K.lookup Exact_mul_a = some ⟨oc_Exact_mul, od_Exact_mul, .func (PySem.W.fnOf "__mul__" "Exact.__mul__" (defArgs s_Exact_mul) (defBody s_Exact_mul) (defScope s_Exact_mul) .none kV_Exact_mul dc_Exact_mul pm_Exact_mul an_Exact_mul cd_Exact_mul ct_Exact_mul), sl_Exact_mul⟩)
    (c_Exact_mul : PySem.W.codeIn K cd_Exact_mul "Exact.__mul__" = true)
    (k_Exact_mul : PySem.W.keepIn K (.ref Exact_mul_a) = true)
    (g_Exact_rmul : PySem.W.findIn K (.ref Exact_a) "__rmul__" = some (some (.ref Exact_rmul_a)))
    (i_Exact_rmul : PySem.W.isFn K (.ref Exact_rmul_a) = true)
    (l_Exact_rmul : K.lookup Exact_rmul_a = some ⟨oc_Exact_rmul, od_Exact_rmul, .func (PySem.W.fnOf "__rmul__" "Exact.__rmul__" (defArgs s_Exact_rmul) (defBody s_Exact_rmul) (defScope s_Exact_rmul) .none kV_Exact_rmul dc_Exact_rmul pm_Exact_rmul an_Exact_rmul cd_Exact_rmul ct_Exact_rmul), sl_Exact_rmul⟩)
    (c_Exact_rmul : PySem.W.codeIn K cd_Exact_rmul "Exact.__rmul__" = true)
    (k_Exact_rmul : PySem.W.keepIn K (.ref Exact_rmul_a) = true)
    (g_Exact_neg : PySem.W.findIn K (.ref Exact_a) "__neg__" = some (some (.ref Exact_neg_a)))
    (i_Exact_neg : PySem.W.isFn K (.ref Exact_neg_a) = true)
    (l_Exact_neg : K.lookup Exact_neg_a = some ⟨oc_Exact_neg, od_Exact_neg, .func (PySem.W.fnOf "__neg__" "Exact.__neg__" (defArgs s_Exact_neg) (defBody s_Exact_neg) (defScope s_Exact_neg) .none kV_Exact_neg dc_Exact_neg pm_Exact_neg an_Exact_neg cd_Exact_neg ct_Exact_neg), sl_Exact_neg⟩)
    (c_Exact_neg : PySem.W.codeIn K cd_Exact_neg "Exact.__neg__" = true)
    (k_Exact_neg : PySem.W.keepIn K (.ref Exact_neg_a) = true)
    (g_Exact_eq : PySem.W.findIn K (.ref Exact_a) "__eq__" = some (some (.ref Exact_eq_a)))
    (i_Exact_eq : PySem.W.isFn K (.ref Exact_eq_a) = true)
    (l_Exact_eq : K.lookup Exact_eq_a = some ⟨oc_Exact_eq, od_Exact_eq, .func (PySem.W.fnOf "__eq__" "Exact.__eq__" (defArgs s_Exact_eq) (defBody s_Exact_eq) (defScope s_Exact_eq) .none kV_Exact_eq dc_Exact_eq pm_Exact_eq an_Exact_eq cd_Exact_eq ct_Exact_eq), sl_Exact_eq⟩)
    (c_Exact_eq : PySem.W.codeIn K cd_Exact_eq "Exact.__eq__" = true)
    (k_Exact_eq : PySem.W.keepIn K (.ref Exact_eq_a) = true)
    (g_Exact_lt : PySem.W.findIn K (.ref Exact_a) "__lt__" = some (some (.ref Exact_lt_a)))
    (i_Exact_lt : PySem.W.isFn K (.ref Exact_lt_a) = true)
    (l_Exact_lt : K.lookup Exact_lt_a = some ⟨oc_Exact_lt, od_Exact_lt, .func (PySem.W.fnOf "__lt__" "Exact.__lt__" (defArgs s_Exact_lt) (defBody s_Exact_lt) (defScope s_Exact_lt) .none kV_Exact_lt dc_Exact_lt pm_Exact_lt an_Exact_lt cd_Exact_lt ct_Exact_lt), sl_Exact_lt⟩)
    (c_Exact_lt : PySem.W.codeIn K cd_Exact_lt "Exact.__lt__" = true)
    (k_Exact_lt : PySem.W.keepIn K (.ref Exact_lt_a) = true)
    (g_Exact_le : PySem.W.findIn K (.ref Exact_a) "__le__" = some (some (.ref Exact_le_a)))
    (i_Exact_le : PySem.W.isFn K (.ref Exact_le_a) = true)
    (l_Exact_le : K.lookup Exact_le_a = some ⟨oc_Exact_le, od_Exact_le, .func (PySem.W.fnOf "__le__" "Exact.__le__" (defArgs s_Exact_le) (defBody s_Exact_le) (defScope s_Exact_le) .none kV_Exact_le dc_Exact_le pm_Exact_le an_Exact_le cd_Exact_le ct_Exact_le), sl_Exact_le⟩)
    (c_Exact_le : PySem.W.codeIn K cd_Exact_le "Exact.__le__" = true)
    (k_Exact_le : PySem.W.keepIn K (.ref Exact_le_a) = true)
    (g_Exact_gt : PySem.W.findIn K (.ref Exact_a) "__gt__" = some (some (.ref Exact_gt_a)))
    (i_Exact_gt : PySem.W.isFn K (.ref Exact_gt_a) = true)
    (l_Exact_gt : K.lookup Exact_gt_a = some ⟨oc_Exact_gt, od_Exact_gt, .func (PySem.W.fnOf "__gt__" "Exact.__gt__" (defArgs s_Exact_gt) (defBody s_Exact_gt) (defScope s_Exact_gt) .none kV_Exact_gt dc_Exact_gt pm_Exact_gt an_Exact_gt cd_Exact_gt ct_Exact_gt), sl_Exact_gt⟩)
    (c_Exact_gt : PySem.W.codeIn K cd_Exact_gt "Exact.__gt__" = true)
    (k_Exact_gt : PySem.W.keepIn K (.ref Exact_gt_a) = true)
    (g_Exact_ge : PySem.W.findIn K (.ref Exact_a) "__ge__" = some (some (.ref Exact_ge_a)))
    (i_Exact_ge : PySem.W.isFn K (.ref Exact_ge_a) = true)
    (l_Exact_ge : K.lookup Exact_ge_a = some ⟨oc_Exact_ge, od_Exact_ge, .func (PySem.W.fnOf "__ge__" "Exact.__ge__" (defArgs s_Exact_ge) (defBody s_Exact_ge) (defScope s_Exact_ge) .none kV_Exact_ge dc_Exact_ge pm_Exact_ge an_Exact_ge cd_Exact_ge ct_Exact_ge), sl_Exact_ge⟩)
    (c_Exact_ge : PySem.W.codeIn K cd_Exact_ge "Exact.__ge__" = true)
    (k_Exact_ge : PySem.W.keepIn K (.ref Exact_ge_a) = true)
    (g_divisor : PySem.W.nsIn K mainGlobals "divisor" = some (some (.ref divisor_a)))
    (l_divisor : K.lookup divisor_a = some ⟨oc_divisor, od_divisor, .func (PySem.W.fnOf "divisor" "divisor" (defArgs s_divisor) (defBody s_divisor) (defScope s_divisor) .none kV_divisor dc_divisor pm_divisor an_divisor cd_divisor ct_divisor), sl_divisor⟩)
    (c_divisor : PySem.W.codeIn K cd_divisor "divisor" = true)
    (k_divisor : PySem.W.keepIn K (.ref divisor_a) = true)
    (g_is_number : PySem.W.nsIn K mainGlobals "is_number" = some (some (.ref is_number_a)))
    (l_is_number : K.lookup is_number_a = some ⟨oc_is_number, od_is_number, .func (PySem.W.fnOf "is_number" "is_number" (defArgs s_is_number) (defBody s_is_number) (defScope s_is_number) .none kV_is_number dc_is_number pm_is_number an_is_number cd_is_number ct_is_number), sl_is_number⟩)
    (c_is_number : PySem.W.codeIn K cd_is_number "is_number" = true)
    (k_is_number : PySem.W.keepIn K (.ref is_number_a) = true)
    (g_parts : PySem.W.nsIn K mainGlobals "parts" = some (some (.ref parts_a)))
    (l_parts : K.lookup parts_a = some ⟨oc_parts, od_parts, .func (PySem.W.fnOf "parts" "parts" (defArgs s_parts) (defBody s_parts) (defScope s_parts) .none kV_parts dc_parts pm_parts an_parts cd_parts ct_parts), sl_parts⟩)
    (c_parts : PySem.W.codeIn K cd_parts "parts" = true)
    (k_parts : PySem.W.keepIn K (.ref parts_a) = true)
    (g_plain : PySem.W.nsIn K mainGlobals "plain" = some (some (.ref plain_a)))
    (l_plain : K.lookup plain_a = some ⟨oc_plain, od_plain, .func (PySem.W.fnOf "plain" "plain" (defArgs s_plain) (defBody s_plain) (defScope s_plain) .none kV_plain dc_plain pm_plain an_plain cd_plain ct_plain), sl_plain⟩)
    (c_plain : PySem.W.codeIn K cd_plain "plain" = true)
    (k_plain : PySem.W.keepIn K (.ref plain_a) = true)
    (g_quotient : PySem.W.nsIn K mainGlobals "quotient" = some (some (.ref quotient_a)))
    (l_quotient : K.lookup quotient_a = some ⟨oc_quotient, od_quotient, .func (PySem.W.fnOf "quotient" "quotient" (defArgs s_quotient) (defBody s_quotient) (defScope s_quotient) .none kV_quotient dc_quotient pm_quotient an_quotient cd_quotient ct_quotient), sl_quotient⟩)
    (c_quotient : PySem.W.codeIn K cd_quotient "quotient" = true)
    (k_quotient : PySem.W.keepIn K (.ref quotient_a) = true)
    (g_copied : PySem.W.nsIn K mainGlobals "copied" = some (some (.ref copied_a)))
    (l_copied : K.lookup copied_a = some ⟨oc_copied, od_copied, .func (PySem.W.fnOf "copied" "copied" (defArgs s_copied) (defBody s_copied) (defScope s_copied) .none kV_copied dc_copied pm_copied an_copied cd_copied ct_copied), sl_copied⟩)
    (c_copied : PySem.W.codeIn K cd_copied "copied" = true)
    (k_copied : PySem.W.keepIn K (.ref copied_a) = true)
    (g_lesser : PySem.W.nsIn K mainGlobals "lesser" = some (some (.ref lesser_a)))
    (l_lesser : K.lookup lesser_a = some ⟨oc_lesser, od_lesser, .func (PySem.W.fnOf "lesser" "lesser" (defArgs s_lesser) (defBody s_lesser) (defScope s_lesser) .none kV_lesser dc_lesser pm_lesser an_lesser cd_lesser ct_lesser), sl_lesser⟩)
    (c_lesser : PySem.W.codeIn K cd_lesser "lesser" = true)
    (k_lesser : PySem.W.keepIn K (.ref lesser_a) = true)
    (g_greater : PySem.W.nsIn K mainGlobals "greater" = some (some (.ref greater_a)))
    (l_greater : K.lookup greater_a = some ⟨oc_greater, od_greater, .func (PySem.W.fnOf "greater" "greater" (defArgs s_greater) (defBody s_greater) (defScope s_greater) .none kV_greater dc_greater pm_greater an_greater cd_greater ct_greater), sl_greater⟩)
    (c_greater : PySem.W.codeIn K cd_greater "greater" = true)
    (k_greater : PySem.W.keepIn K (.ref greater_a) = true)
    (g_merged : PySem.W.nsIn K mainGlobals "merged" = some (some (.ref merged_a)))
    (l_merged : K.lookup merged_a = some ⟨oc_merged, od_merged, .func (PySem.W.fnOf "merged" "merged" (defArgs s_merged) (defBody s_merged) (defScope s_merged) .none kV_merged dc_merged pm_merged an_merged cd_merged ct_merged), sl_merged⟩)
    (c_merged : PySem.W.codeIn K cd_merged "merged" = true)
    (k_merged : PySem.W.keepIn K (.ref merged_a) = true)
    (g_Line_init : PySem.W.findIn K (.ref Line_a) "__init__" = some (some (.ref Line_init_a)))
    (i_Line_init : PySem.W.isFn K (.ref Line_init_a) = true)
    (l_Line_init : K.lookup Line_init_a = some ⟨oc_Line_init, od_Line_init, .func (PySem.W.fnOf "__init__" "Line.__init__" (defArgs s_Line_init) (defBody s_Line_init) (defScope s_Line_init) .none kV_Line_init dc_Line_init pm_Line_init an_Line_init cd_Line_init ct_Line_init), sl_Line_init⟩)
    (c_Line_init : PySem.W.codeIn K cd_Line_init "Line.__init__" = true)
    (k_Line_init : PySem.W.keepIn K (.ref Line_init_a) = true)
    (mk_Line : PySem.W.makesIn K Line_a = true)
    (kc_Line : PySem.W.keepIn K (.ref Line_a) = true)
    (g_Line_eq : PySem.W.findIn K (.ref Line_a) "__eq__" = some (some (.ref Line_eq_a)))
    (i_Line_eq : PySem.W.isFn K (.ref Line_eq_a) = true)
    (l_Line_eq : K.lookup Line_eq_a = some ⟨oc_Line_eq, od_Line_eq, .func (PySem.W.fnOf "__eq__" "Line.__eq__" (defArgs s_Line_eq) (defBody s_Line_eq) (defScope s_Line_eq) .none kV_Line_eq dc_Line_eq pm_Line_eq an_Line_eq cd_Line_eq ct_Line_eq), sl_Line_eq⟩)
    (c_Line_eq : PySem.W.codeIn K cd_Line_eq "Line.__eq__" = true)
    (k_Line_eq : PySem.W.keepIn K (.ref Line_eq_a) = true)
    (g_Line_is_below : PySem.W.findIn K (.ref Line_a) "is_below" = some (some (.ref Line_is_below_a)))
    (i_Line_is_below : PySem.W.isFn K (.ref Line_is_below_a) = true)
    (l_Line_is_below : K.lookup Line_is_below_a = some ⟨oc_Line_is_below, od_Line_is_below, .func (PySem.W.fnOf "is_below" "Line.is_below" (defArgs s_Line_is_below) (defBody s_Line_is_below) (defScope s_Line_is_below) .none kV_Line_is_below dc_Line_is_below pm_Line_is_below an_Line_is_below cd_Line_is_below ct_Line_is_below), sl_Line_is_below⟩)
    (c_Line_is_below : PySem.W.codeIn K cd_Line_is_below "Line.is_below" = true)
    (k_Line_is_below : PySem.W.keepIn K (.ref Line_is_below_a) = true)
    (g_Line_lower : PySem.W.findIn K (.ref Line_a) "lower" = some (some (.ref Line_lower_a)))
    (i_Line_lower : PySem.W.isFn K (.ref Line_lower_a) = true)
    (l_Line_lower : K.lookup Line_lower_a = some ⟨oc_Line_lower, od_Line_lower, .func (PySem.W.fnOf "lower" "Line.lower" (defArgs s_Line_lower) (defBody s_Line_lower) (defScope s_Line_lower) .none kV_Line_lower dc_Line_lower pm_Line_lower an_Line_lower cd_Line_lower ct_Line_lower), sl_Line_lower⟩)
    (c_Line_lower : PySem.W.codeIn K cd_Line_lower "Line.lower" = true)
    (k_Line_lower : PySem.W.keepIn K (.ref Line_lower_a) = true)
    (g_Line_upper : PySem.W.findIn K (.ref Line_a) "upper" = some (some (.ref Line_upper_a)))
    (i_Line_upper : PySem.W.isFn K (.ref Line_upper_a) = true)
    (l_Line_upper : K.lookup Line_upper_a = some ⟨oc_Line_upper, od_Line_upper, .func (PySem.W.fnOf "upper" "Line.upper" (defArgs s_Line_upper) (defBody s_Line_upper) (defScope s_Line_upper) .none kV_Line_upper dc_Line_upper pm_Line_upper an_Line_upper cd_Line_upper ct_Line_upper), sl_Line_upper⟩)
    (c_Line_upper : PySem.W.codeIn K cd_Line_upper "Line.upper" = true)
    (k_Line_upper : PySem.W.keepIn K (.ref Line_upper_a) = true)
    (g_checked_points : PySem.W.nsIn K mainGlobals "checked_points" = some (some (.ref checked_points_a)))
    (l_checked_points : K.lookup checked_points_a = some ⟨oc_checked_points, od_checked_points, .func (PySem.W.fnOf "checked_points" "checked_points" (defArgs s_checked_points) (defBody s_checked_points) (defScope s_checked_points) .none kV_checked_points dc_checked_points pm_checked_points an_checked_points cd_checked_points ct_checked_points), sl_checked_points⟩)
    (c_checked_points : PySem.W.codeIn K cd_checked_points "checked_points" = true)
    (k_checked_points : PySem.W.keepIn K (.ref checked_points_a) = true)
    (g_is_point : PySem.W.nsIn K mainGlobals "is_point" = some (some (.ref is_point_a)))
    (l_is_point : K.lookup is_point_a = some ⟨oc_is_point, od_is_point, .func (PySem.W.fnOf "is_point" "is_point" (defArgs s_is_point) (defBody s_is_point) (defScope s_is_point) .none kV_is_point dc_is_point pm_is_point an_is_point cd_is_point ct_is_point), sl_is_point⟩)
    (c_is_point : PySem.W.codeIn K cd_is_point "is_point" = true)
    (k_is_point : PySem.W.keepIn K (.ref is_point_a) = true)
    (g_bent : PySem.W.nsIn K mainGlobals "bent" = some (some (.ref bent_a)))
    (l_bent : K.lookup bent_a = some ⟨oc_bent, od_bent, .func (PySem.W.fnOf "bent" "bent" (defArgs s_bent) (defBody s_bent) (defScope s_bent) .none kV_bent dc_bent pm_bent an_bent cd_bent ct_bent), sl_bent⟩)
    (c_bent : PySem.W.codeIn K cd_bent "bent" = true)
    (k_bent : PySem.W.keepIn K (.ref bent_a) = true)
    (g_is_straight : PySem.W.nsIn K mainGlobals "is_straight" = some (some (.ref is_straight_a)))
    (l_is_straight : K.lookup is_straight_a = some ⟨oc_is_straight, od_is_straight, .func (PySem.W.fnOf "is_straight" "is_straight" (defArgs s_is_straight) (defBody s_is_straight) (defScope s_is_straight) .none kV_is_straight dc_is_straight pm_is_straight an_is_straight cd_is_straight ct_is_straight), sl_is_straight⟩)
    (c_is_straight : PySem.W.codeIn K cd_is_straight "is_straight" = true)
    (k_is_straight : PySem.W.keepIn K (.ref is_straight_a) = true)
    (g_heights_at : PySem.W.nsIn K mainGlobals "heights_at" = some (some (.ref heights_at_a)))
    (l_heights_at : K.lookup heights_at_a = some ⟨oc_heights_at, od_heights_at, .func (PySem.W.fnOf "heights_at" "heights_at" (defArgs s_heights_at) (defBody s_heights_at) (defScope s_heights_at) .none kV_heights_at dc_heights_at pm_heights_at an_heights_at cd_heights_at ct_heights_at), sl_heights_at⟩)
    (c_heights_at : PySem.W.codeIn K cd_heights_at "heights_at" = true)
    (k_heights_at : PySem.W.keepIn K (.ref heights_at_a) = true)
    (g_height_between : PySem.W.nsIn K mainGlobals "height_between" = some (some (.ref height_between_a)))
    (l_height_between : K.lookup height_between_a = some ⟨oc_height_between, od_height_between, .func (PySem.W.fnOf "height_between" "height_between" (defArgs s_height_between) (defBody s_height_between) (defScope s_height_between) .none kV_height_between dc_height_between pm_height_between an_height_between cd_height_between ct_height_between), sl_height_between⟩)
    (c_height_between : PySem.W.codeIn K cd_height_between "height_between" = true)
    (k_height_between : PySem.W.keepIn K (.ref height_between_a) = true)
    (g_beside : PySem.W.nsIn K mainGlobals "beside" = some (some (.ref beside_a)))
    (l_beside : K.lookup beside_a = some ⟨oc_beside, od_beside, .func (PySem.W.fnOf "beside" "beside" (defArgs s_beside) (defBody s_beside) (defScope s_beside) .none kV_beside dc_beside pm_beside an_beside cd_beside ct_beside), sl_beside⟩)
    (c_beside : PySem.W.codeIn K cd_beside "beside" = true)
    (k_beside : PySem.W.keepIn K (.ref beside_a) = true)
    (g_is_match : PySem.W.nsIn K mainGlobals "is_match" = some (some (.ref is_match_a)))
    (l_is_match : K.lookup is_match_a = some ⟨oc_is_match, od_is_match, .func (PySem.W.fnOf "is_match" "is_match" (defArgs s_is_match) (defBody s_is_match) (defScope s_is_match) .none kV_is_match dc_is_match pm_is_match an_is_match cd_is_match ct_is_match), sl_is_match⟩)
    (c_is_match : PySem.W.codeIn K cd_is_match "is_match" = true)
    (k_is_match : PySem.W.keepIn K (.ref is_match_a) = true)
    (g_spans : PySem.W.nsIn K mainGlobals "spans" = some (some (.ref spans_a)))
    (l_spans : K.lookup spans_a = some ⟨oc_spans, od_spans, .func (PySem.W.fnOf "spans" "spans" (defArgs s_spans) (defBody s_spans) (defScope s_spans) .none kV_spans dc_spans pm_spans an_spans cd_spans ct_spans), sl_spans⟩)
    (c_spans : PySem.W.codeIn K cd_spans "spans" = true)
    (k_spans : PySem.W.keepIn K (.ref spans_a) = true)
    (g_moments_of : PySem.W.nsIn K mainGlobals "moments_of" = some (some (.ref moments_of_a)))
    (l_moments_of : K.lookup moments_of_a = some ⟨oc_moments_of, od_moments_of, .func (PySem.W.fnOf "moments_of" "moments_of" (defArgs s_moments_of) (defBody s_moments_of) (defScope s_moments_of) .none kV_moments_of dc_moments_of pm_moments_of an_moments_of cd_moments_of ct_moments_of), sl_moments_of⟩)
    (c_moments_of : PySem.W.codeIn K cd_moments_of "moments_of" = true)
    (k_moments_of : PySem.W.keepIn K (.ref moments_of_a) = true)
    (g_crossings : PySem.W.nsIn K mainGlobals "crossings" = some (some (.ref crossings_a)))
    (l_crossings : K.lookup crossings_a = some ⟨oc_crossings, od_crossings, .func (PySem.W.fnOf "crossings" "crossings" (defArgs s_crossings) (defBody s_crossings) (defScope s_crossings) .none kV_crossings dc_crossings pm_crossings an_crossings cd_crossings ct_crossings), sl_crossings⟩)
    (c_crossings : PySem.W.codeIn K cd_crossings "crossings" = true)
    (k_crossings : PySem.W.keepIn K (.ref crossings_a) = true)
    (g_law_fresh : PySem.W.nsIn K mainGlobals "_law_fresh" = some (some (.ref law_fresh_a)))
    (l_law_fresh : K.lookup law_fresh_a = some ⟨oc_law_fresh, od_law_fresh, .func (PySem.W.fnOf "_law_fresh" "_law_fresh" (defArgs s_law_fresh) (defBody s_law_fresh) (defScope s_law_fresh) .none kV_law_fresh dc_law_fresh pm_law_fresh an_law_fresh cd_law_fresh ct_law_fresh), sl_law_fresh⟩)
    (c_law_fresh : PySem.W.codeIn K cd_law_fresh "_law_fresh" = true)
    (k_law_fresh : PySem.W.keepIn K (.ref law_fresh_a) = true)
    (g_law_fill : PySem.W.nsIn K mainGlobals "_law_fill" = some (some (.ref law_fill_a)))
    (l_law_fill : K.lookup law_fill_a = some ⟨oc_law_fill, od_law_fill, .func (PySem.W.fnOf "_law_fill" "_law_fill" (defArgs s_law_fill) (defBody s_law_fill) (defScope s_law_fill) .none kV_law_fill dc_law_fill pm_law_fill an_law_fill cd_law_fill ct_law_fill), sl_law_fill⟩)
    (c_law_fill : PySem.W.codeIn K cd_law_fill "_law_fill" = true)
    (k_law_fill : PySem.W.keepIn K (.ref law_fill_a) = true)
    (g_law_take : PySem.W.nsIn K mainGlobals "_law_take" = some (some (.ref law_take_a)))
    (l_law_take : K.lookup law_take_a = some ⟨oc_law_take, od_law_take, .func (PySem.W.fnOf "_law_take" "_law_take" (defArgs s_law_take) (defBody s_law_take) (defScope s_law_take) .none kV_law_take dc_law_take pm_law_take an_law_take cd_law_take ct_law_take), sl_law_take⟩)
    (c_law_take : PySem.W.codeIn K cd_law_take "_law_take" = true)
    (k_law_take : PySem.W.keepIn K (.ref law_take_a) = true)
    (g_law_one : PySem.W.nsIn K mainGlobals "_law_one" = some (some (.ref law_one_a)))
    (l_law_one : K.lookup law_one_a = some ⟨oc_law_one, od_law_one, .func (PySem.W.fnOf "_law_one" "_law_one" (defArgs s_law_one) (defBody s_law_one) (defScope s_law_one) .none kV_law_one dc_law_one pm_law_one an_law_one cd_law_one ct_law_one), sl_law_one⟩)
    (c_law_one : PySem.W.codeIn K cd_law_one "_law_one" = true)
    (k_law_one : PySem.W.keepIn K (.ref law_one_a) = true)
    (g_law_same : PySem.W.nsIn K mainGlobals "_law_same" = some (some (.ref law_same_a)))
    (l_law_same : K.lookup law_same_a = some ⟨oc_law_same, od_law_same, .func (PySem.W.fnOf "_law_same" "_law_same" (defArgs s_law_same) (defBody s_law_same) (defScope s_law_same) .none kV_law_same dc_law_same pm_law_same an_law_same cd_law_same ct_law_same), sl_law_same⟩)
    (c_law_same : PySem.W.codeIn K cd_law_same "_law_same" = true)
    (k_law_same : PySem.W.keepIn K (.ref law_same_a) = true)
    (g_law_gcd : PySem.W.nsIn K mainGlobals "_law_gcd" = some (some (.ref law_gcd_a)))
    (l_law_gcd : K.lookup law_gcd_a = some ⟨oc_law_gcd, od_law_gcd, .func (PySem.W.fnOf "_law_gcd" "_law_gcd" (defArgs s_law_gcd) (defBody s_law_gcd) (defScope s_law_gcd) .none kV_law_gcd dc_law_gcd pm_law_gcd an_law_gcd cd_law_gcd ct_law_gcd), sl_law_gcd⟩)
    (c_law_gcd : PySem.W.codeIn K cd_law_gcd "_law_gcd" = true)
    (k_law_gcd : PySem.W.keepIn K (.ref law_gcd_a) = true)
    (g_law_frac : PySem.W.nsIn K mainGlobals "_law_frac" = some (some (.ref law_frac_a)))
    (l_law_frac : K.lookup law_frac_a = some ⟨oc_law_frac, od_law_frac, .func (PySem.W.fnOf "_law_frac" "_law_frac" (defArgs s_law_frac) (defBody s_law_frac) (defScope s_law_frac) .none kV_law_frac dc_law_frac pm_law_frac an_law_frac cd_law_frac ct_law_frac), sl_law_frac⟩)
    (c_law_frac : PySem.W.codeIn K cd_law_frac "_law_frac" = true)
    (k_law_frac : PySem.W.keepIn K (.ref law_frac_a) = true)
    (g_law_add : PySem.W.nsIn K mainGlobals "_law_add" = some (some (.ref law_add_a)))
    (l_law_add : K.lookup law_add_a = some ⟨oc_law_add, od_law_add, .func (PySem.W.fnOf "_law_add" "_law_add" (defArgs s_law_add) (defBody s_law_add) (defScope s_law_add) .none kV_law_add dc_law_add pm_law_add an_law_add cd_law_add ct_law_add), sl_law_add⟩)
    (c_law_add : PySem.W.codeIn K cd_law_add "_law_add" = true)
    (k_law_add : PySem.W.keepIn K (.ref law_add_a) = true)
    (g_law_mul : PySem.W.nsIn K mainGlobals "_law_mul" = some (some (.ref law_mul_a)))
    (l_law_mul : K.lookup law_mul_a = some ⟨oc_law_mul, od_law_mul, .func (PySem.W.fnOf "_law_mul" "_law_mul" (defArgs s_law_mul) (defBody s_law_mul) (defScope s_law_mul) .none kV_law_mul dc_law_mul pm_law_mul an_law_mul cd_law_mul ct_law_mul), sl_law_mul⟩)
    (c_law_mul : PySem.W.codeIn K cd_law_mul "_law_mul" = true)
    (k_law_mul : PySem.W.keepIn K (.ref law_mul_a) = true)
    (g_law_less : PySem.W.nsIn K mainGlobals "_law_less" = some (some (.ref law_less_a)))
    (l_law_less : K.lookup law_less_a = some ⟨oc_law_less, od_law_less, .func (PySem.W.fnOf "_law_less" "_law_less" (defArgs s_law_less) (defBody s_law_less) (defScope s_law_less) .none kV_law_less dc_law_less pm_law_less an_law_less cd_law_less ct_law_less), sl_law_less⟩)
    (c_law_less : PySem.W.codeIn K cd_law_less "_law_less" = true)
    (k_law_less : PySem.W.keepIn K (.ref law_less_a) = true)
    (g_law_plain : PySem.W.nsIn K mainGlobals "_law_plain" = some (some (.ref law_plain_a)))
    (l_law_plain : K.lookup law_plain_a = some ⟨oc_law_plain, od_law_plain, .func (PySem.W.fnOf "_law_plain" "_law_plain" (defArgs s_law_plain) (defBody s_law_plain) (defScope s_law_plain) .none kV_law_plain dc_law_plain pm_law_plain an_law_plain cd_law_plain ct_law_plain), sl_law_plain⟩)
    (c_law_plain : PySem.W.codeIn K cd_law_plain "_law_plain" = true)
    (k_law_plain : PySem.W.keepIn K (.ref law_plain_a) = true)
    (g_law_on : PySem.W.nsIn K mainGlobals "_law_on" = some (some (.ref law_on_a)))
    (l_law_on : K.lookup law_on_a = some ⟨oc_law_on, od_law_on, .func (PySem.W.fnOf "_law_on" "_law_on" (defArgs s_law_on) (defBody s_law_on) (defScope s_law_on) .none kV_law_on dc_law_on pm_law_on an_law_on cd_law_on ct_law_on), sl_law_on⟩)
    (c_law_on : PySem.W.codeIn K cd_law_on "_law_on" = true)
    (k_law_on : PySem.W.keepIn K (.ref law_on_a) = true)
    (g_law_over : PySem.W.nsIn K mainGlobals "_law_over" = some (some (.ref law_over_a)))
    (l_law_over : K.lookup law_over_a = some ⟨oc_law_over, od_law_over, .func (PySem.W.fnOf "_law_over" "_law_over" (defArgs s_law_over) (defBody s_law_over) (defScope s_law_over) .none kV_law_over dc_law_over pm_law_over an_law_over cd_law_over ct_law_over), sl_law_over⟩)
    (c_law_over : PySem.W.codeIn K cd_law_over "_law_over" = true)
    (k_law_over : PySem.W.keepIn K (.ref law_over_a) = true)
    (g_law_moments : PySem.W.nsIn K mainGlobals "_law_moments" = some (some (.ref law_moments_a)))
    (l_law_moments : K.lookup law_moments_a = some ⟨oc_law_moments, od_law_moments, .func (PySem.W.fnOf "_law_moments" "_law_moments" (defArgs s_law_moments) (defBody s_law_moments) (defScope s_law_moments) .none kV_law_moments dc_law_moments pm_law_moments an_law_moments cd_law_moments ct_law_moments), sl_law_moments⟩)
    (c_law_moments : PySem.W.codeIn K cd_law_moments "_law_moments" = true)
    (k_law_moments : PySem.W.keepIn K (.ref law_moments_a) = true)
    (g_law_drawn_course : PySem.W.nsIn K mainGlobals "_law_drawn_course" = some (some (.ref law_drawn_course_a)))
    (l_law_drawn_course : K.lookup law_drawn_course_a = some ⟨oc_law_drawn_course, od_law_drawn_course, .func (PySem.W.fnOf "_law_drawn_course" "_law_drawn_course" (defArgs s_law_drawn_course) (defBody s_law_drawn_course) (defScope s_law_drawn_course) .none kV_law_drawn_course dc_law_drawn_course pm_law_drawn_course an_law_drawn_course cd_law_drawn_course ct_law_drawn_course), sl_law_drawn_course⟩)
    (c_law_drawn_course : PySem.W.codeIn K cd_law_drawn_course "_law_drawn_course" = true)
    (k_law_drawn_course : PySem.W.keepIn K (.ref law_drawn_course_a) = true)
    (g_law_as_line : PySem.W.nsIn K mainGlobals "_law_as_line" = some (some (.ref law_as_line_a)))
    (l_law_as_line : K.lookup law_as_line_a = some ⟨oc_law_as_line, od_law_as_line, .func (PySem.W.fnOf "_law_as_line" "_law_as_line" (defArgs s_law_as_line) (defBody s_law_as_line) (defScope s_law_as_line) .none kV_law_as_line dc_law_as_line pm_law_as_line an_law_as_line cd_law_as_line ct_law_as_line), sl_law_as_line⟩)
    (c_law_as_line : PySem.W.codeIn K cd_law_as_line "_law_as_line" = true)
    (k_law_as_line : PySem.W.keepIn K (.ref law_as_line_a) = true)
    (g_law_lower : PySem.W.nsIn K mainGlobals "_law_lower" = some (some (.ref law_lower_a)))
    (l_law_lower : K.lookup law_lower_a = some ⟨oc_law_lower, od_law_lower, .func (PySem.W.fnOf "_law_lower" "_law_lower" (defArgs s_law_lower) (defBody s_law_lower) (defScope s_law_lower) .none kV_law_lower dc_law_lower pm_law_lower an_law_lower cd_law_lower ct_law_lower), sl_law_lower⟩)
    (c_law_lower : PySem.W.codeIn K cd_law_lower "_law_lower" = true)
    (k_law_lower : PySem.W.keepIn K (.ref law_lower_a) = true)
    (g_law_under : PySem.W.nsIn K mainGlobals "_law_under" = some (some (.ref law_under_a)))
    (l_law_under : K.lookup law_under_a = some ⟨oc_law_under, od_law_under, .func (PySem.W.fnOf "_law_under" "_law_under" (defArgs s_law_under) (defBody s_law_under) (defScope s_law_under) .none kV_law_under dc_law_under pm_law_under an_law_under cd_law_under ct_law_under), sl_law_under⟩)
    (c_law_under : PySem.W.codeIn K cd_law_under "_law_under" = true)
    (k_law_under : PySem.W.keepIn K (.ref law_under_a) = true)
    (g_law : PySem.W.nsIn K mainGlobals "law" = some (some (.ref law_a)))
    (l_law : K.lookup law_a = some ⟨oc_law, od_law, .func (PySem.W.fnOf "law" "law" (defArgs s_law) (defBody s_law) (defScope s_law) .none kV_law dc_law pm_law an_law cd_law ct_law), sl_law⟩)
    (c_law : PySem.W.codeIn K cd_law "law" = true)
    (k_law : PySem.W.keepIn K (.ref law_a) = true)
    (hz_abs : PySem.W.nsIn K mainGlobals "abs" = some none)
    (hz_all : PySem.W.nsIn K mainGlobals "all" = some none)
    (hz_bool : PySem.W.nsIn K mainGlobals "bool" = some none)
    (hz_enumerate : PySem.W.nsIn K mainGlobals "enumerate" = some none)
    (hz_int : PySem.W.nsIn K mainGlobals "int" = some none)
    (hz_isinstance : PySem.W.nsIn K mainGlobals "isinstance" = some none)
    (hz_len : PySem.W.nsIn K mainGlobals "len" = some none)
    (hz_list : PySem.W.nsIn K mainGlobals "list" = some none)
    (hz_range : PySem.W.nsIn K mainGlobals "range" = some none)
    (hz_tuple : PySem.W.nsIn K mainGlobals "tuple" = some none)
    (hz_zip : PySem.W.nsIn K mainGlobals "zip" = some none)
    : ∃ fd : FuncData, (∀ (s : Shared) (v : Value), BindsTo s fd ⟨[v], []⟩ [("_law_script", v)]) ∧ ∀ base : Heap, K.In base → base.Ns mainGlobals mg → FnOk l.prog w K mg base CX0 30 fa fd ["_law_script"] (spLaw K) := by
  have e := hfa.symm.trans (PySem.W.mg_of X G g_law)
  cases e
  have F_Exact_init := (⟨⟨_, _, _, _, _, _, _, _, _, _, rfl, l_Exact_init, c_Exact_init, .inr ⟨List.cons_ne_nil _ _, dT_Exact_init, _, _, _, rfl, t_Exact_init, rfl, .cons ⟨_, rfl⟩ .nil⟩, .inl rfl⟩, k_Exact_init⟩ : FunD K "__init__" "Exact.__init__" (defArgs s_Exact_init) (defBody s_Exact_init) (defScope s_Exact_init) [V.int 1] [] Exact_init_a _)
  obtain ⟨ds_Exact_init, vs_Exact_init, b_Exact_init⟩ := F_Exact_init.binds1 (ps := ["self", "over", "under"]) 3 1 (List.cons_ne_nil _ _) rfl fun _ _ _ _ _ _ _ us its h1 h2 => match us, its, h1, h2 with | [_, _, _], [_], _, _ => ⟨_, rfl, rfl⟩
  cases vs_Exact_init
  let T : Tx K mg := {
    LevelError_a := LevelError_a
    LevelError_m := PySem.W.mg_of X G g_LevelError
    LevelError_e := ⟨⟨⟨nm_LevelError, q_LevelError, N_LevelError, bs_LevelError, sn_LevelError, sub_LevelError, ab_LevelError, col_LevelError, dd_LevelError, k0_LevelError, k1_LevelError, k2_LevelError, k3_LevelError, k5_LevelError⟩, [], .inl ⟨rfl, rfl⟩, xl_LevelError⟩, sa_LevelError, ga_LevelError, gg_LevelError, ca_LevelError, ty_LevelError, kp_LevelError⟩
    BadPoint_a := BadPoint_a
    BadPoint_m := PySem.W.mg_of X G g_BadPoint
    BadPoint_e := ⟨⟨⟨nm_BadPoint, q_BadPoint, N_BadPoint, bs_BadPoint, sn_BadPoint, sub_BadPoint, ab_BadPoint, col_BadPoint, dd_BadPoint, k0_BadPoint, k1_BadPoint, k2_BadPoint, k3_BadPoint, k5_BadPoint⟩, [.ref LevelError_a], .inr rfl, xl_BadPoint⟩, sa_BadPoint, ga_BadPoint, gg_BadPoint, ca_BadPoint, ty_BadPoint, kp_BadPoint⟩
    BadPoint_n_index := n_BadPoint_index
    BadMoment_a := BadMoment_a
    BadMoment_m := PySem.W.mg_of X G g_BadMoment
    BadMoment_e := ⟨⟨⟨nm_BadMoment, q_BadMoment, N_BadMoment, bs_BadMoment, sn_BadMoment, sub_BadMoment, ab_BadMoment, col_BadMoment, dd_BadMoment, k0_BadMoment, k1_BadMoment, k2_BadMoment, k3_BadMoment, k5_BadMoment⟩, [.ref LevelError_a], .inr rfl, xl_BadMoment⟩, sa_BadMoment, ga_BadMoment, gg_BadMoment, ca_BadMoment, ty_BadMoment, kp_BadMoment⟩
    BadMoment_n_moment := n_BadMoment_moment
    BadLine_a := BadLine_a
    BadLine_m := PySem.W.mg_of X G g_BadLine
    BadLine_e := ⟨⟨⟨nm_BadLine, q_BadLine, N_BadLine, bs_BadLine, sn_BadLine, sub_BadLine, ab_BadLine, col_BadLine, dd_BadLine, k0_BadLine, k1_BadLine, k2_BadLine, k3_BadLine, k5_BadLine⟩, [.ref LevelError_a], .inr rfl, xl_BadLine⟩, sa_BadLine, ga_BadLine, gg_BadLine, ca_BadLine, ty_BadLine, kp_BadLine⟩
    BadLine_n_line := n_BadLine_line
    E_g := ⟨eg1, eg2⟩
    E_nd := e_nd
    E_v := ev
    Exact_a := Exact_a
    Exact_m := PySem.W.mg_of X G g_Exact
    Exact_cl := ⟨pg_Exact, hd_Exact, po_Exact, sa_Exact⟩
    Exact_n_over := n_Exact_over
    Exact_n_under := n_Exact_under
    Exact_i1 := i1_Exact
    Exact_i2 := i2_Exact
    Exact_i3 := i3_Exact
    Exact_i4 := i4_Exact
    Exact_k0 := kit_self
    Exact_kt_int := kit_to ic_Exact ty_Exact u_int_Exact
    Exact_ko_int := kit_ob (by decide +kernel) d_int_Exact
    Exact_up_int := up_int_Exact
    Exact_dn_int := dn_int_Exact
    op_add := ⟨osf_add, od_add, i_Exact_add, or_add, i_Exact_radd, ⟨_, o1_add⟩, ⟨_, o2_add⟩, oup_add, odn_add⟩
    op_sub := ⟨osf_sub, od_sub, i_Exact_sub, or_sub, i_Exact_rsub, ⟨_, o1_sub⟩, ⟨_, o2_sub⟩, oup_sub, odn_sub⟩
    op_mul := ⟨osf_mul, od_mul, i_Exact_mul, or_mul, i_Exact_rmul, ⟨_, o1_mul⟩, ⟨_, o2_mul⟩, oup_mul, odn_mul⟩
    Line_a := Line_a
    Line_m := PySem.W.mg_of X G g_Line
    Line_cl := ⟨pg_Line, hd_Line, po_Line, sa_Line⟩
    Line_n_spots := n_Line_spots
    Line_i1 := i1_Line
    Line_i2 := i2_Line
    Line_i3 := i3_Line
    Line_i4 := i4_Line
    Line_ne := ne_Line
    Line_k0 := kit_self
    Line_ne_Exact := ne9_Line_Exact
    BadPoint_init_a := BadPoint_init_a
    BadPoint_init_d := _
    BadPoint_init_F := fun_mk (st := s_BadPoint_init) l_BadPoint_init c_BadPoint_init k_BadPoint_init
    BadPoint_init_b := (fun_mk (st := s_BadPoint_init) l_BadPoint_init c_BadPoint_init k_BadPoint_init).binds (ps := ["self", "index"]) fun _ _ _ _ _ _ us hl => match us, hl with | [_, _], _ => rfl
    BadPoint_init_M := ⟨g_BadPoint_init, i_BadPoint_init, k_BadPoint_init⟩
    BadPoint_init_kb := kw_binds (fun_mk (st := s_BadPoint_init) l_BadPoint_init c_BadPoint_init k_BadPoint_init) fun _ _ _ _ _ _ _ _ => rfl
    BadMoment_init_a := BadMoment_init_a
    BadMoment_init_d := _
    BadMoment_init_F := fun_mk (st := s_BadMoment_init) l_BadMoment_init c_BadMoment_init k_BadMoment_init
    BadMoment_init_b := (fun_mk (st := s_BadMoment_init) l_BadMoment_init c_BadMoment_init k_BadMoment_init).binds (ps := ["self", "moment"]) fun _ _ _ _ _ _ us hl => match us, hl with | [_, _], _ => rfl
    BadMoment_init_M := ⟨g_BadMoment_init, i_BadMoment_init, k_BadMoment_init⟩
    BadMoment_init_kb := kw_binds (fun_mk (st := s_BadMoment_init) l_BadMoment_init c_BadMoment_init k_BadMoment_init) fun _ _ _ _ _ _ _ _ => rfl
    BadLine_init_a := BadLine_init_a
    BadLine_init_d := _
    BadLine_init_F := fun_mk (st := s_BadLine_init) l_BadLine_init c_BadLine_init k_BadLine_init
    BadLine_init_b := (fun_mk (st := s_BadLine_init) l_BadLine_init c_BadLine_init k_BadLine_init).binds (ps := ["self", "line"]) fun _ _ _ _ _ _ us hl => match us, hl with | [_, _], _ => rfl
    BadLine_init_M := ⟨g_BadLine_init, i_BadLine_init, k_BadLine_init⟩
    BadLine_init_kb := kw_binds (fun_mk (st := s_BadLine_init) l_BadLine_init c_BadLine_init k_BadLine_init) fun _ _ _ _ _ _ _ _ => rfl
    is_whole_a := is_whole_a
    is_whole_d := _
    is_whole_F := fun_mk (st := s_is_whole) l_is_whole c_is_whole k_is_whole
    is_whole_b := (fun_mk (st := s_is_whole) l_is_whole c_is_whole k_is_whole).binds (ps := ["thing"]) fun _ _ _ _ _ _ us hl => match us, hl with | [_], _ => rfl
    is_whole_m := PySem.W.mg_of X G g_is_whole
    is_list_a := is_list_a
    is_list_d := _
    is_list_F := fun_mk (st := s_is_list) l_is_list c_is_list k_is_list
    is_list_b := (fun_mk (st := s_is_list) l_is_list c_is_list k_is_list).binds (ps := ["thing"]) fun _ _ _ _ _ _ us hl => match us, hl with | [_], _ => rfl
    is_list_m := PySem.W.mg_of X G g_is_list
    Exact_init_a := Exact_init_a
    Exact_init_d := _
    Exact_init_F := F_Exact_init
    Exact_init_b := b_Exact_init
    Exact_init_M := ⟨g_Exact_init, i_Exact_init, k_Exact_init⟩
    Exact_mk := ⟨mk_Exact, g_Exact_init, i_Exact_init, kc_Exact⟩
    Exact_add_a := Exact_add_a
    Exact_add_d := _
    Exact_add_F := fun_mk (st := s_Exact_add) l_Exact_add c_Exact_add k_Exact_add
    Exact_add_b := (fun_mk (st := s_Exact_add) l_Exact_add c_Exact_add k_Exact_add).binds (ps := ["self", "other"]) fun _ _ _ _ _ _ us hl => match us, hl with | [_, _], _ => rfl
    Exact_add_M := ⟨g_Exact_add, i_Exact_add, k_Exact_add⟩
    Exact_radd_a := Exact_radd_a
    Exact_radd_d := _
    Exact_radd_F := fun_mk (st := s_Exact_radd) l_Exact_radd c_Exact_radd k_Exact_radd
    Exact_radd_b := (fun_mk (st := s_Exact_radd) l_Exact_radd c_Exact_radd k_Exact_radd).binds (ps := ["self", "other"]) fun _ _ _ _ _ _ us hl => match us, hl with | [_, _], _ => rfl
    Exact_radd_M := ⟨g_Exact_radd, i_Exact_radd, k_Exact_radd⟩
    Exact_sub_a := Exact_sub_a
    Exact_sub_d := _
    Exact_sub_F := fun_mk (st := s_Exact_sub) l_Exact_sub c_Exact_sub k_Exact_sub
    Exact_sub_b := (fun_mk (st := s_Exact_sub) l_Exact_sub c_Exact_sub k_Exact_sub).binds (ps := ["self", "other"]) fun _ _ _ _ _ _ us hl => match us, hl with | [_, _], _ => rfl
    Exact_sub_M := ⟨g_Exact_sub, i_Exact_sub, k_Exact_sub⟩
    Exact_rsub_a := Exact_rsub_a
    Exact_rsub_d := _
    Exact_rsub_F := fun_mk (st := s_Exact_rsub) l_Exact_rsub c_Exact_rsub k_Exact_rsub
    Exact_rsub_b := (fun_mk (st := s_Exact_rsub) l_Exact_rsub c_Exact_rsub k_Exact_rsub).binds (ps := ["self", "other"]) fun _ _ _ _ _ _ us hl => match us, hl with | [_, _], _ => rfl
    Exact_rsub_M := ⟨g_Exact_rsub, i_Exact_rsub, k_Exact_rsub⟩
    Exact_mul_a := Exact_mul_a
    Exact_mul_d := _
    Exact_mul_F := fun_mk (st := s_Exact_mul) l_Exact_mul c_Exact_mul k_Exact_mul
    Exact_mul_b := (fun_mk (st := s_Exact_mul) l_Exact_mul c_Exact_mul k_Exact_mul).binds (ps := ["self", "other"]) fun _ _ _ _ _ _ us hl => match us, hl with | [_, _], _ => rfl
    Exact_mul_M := ⟨g_Exact_mul, i_Exact_mul, k_Exact_mul⟩
    Exact_rmul_a := Exact_rmul_a
    Exact_rmul_d := _
    Exact_rmul_F := fun_mk (st := s_Exact_rmul) l_Exact_rmul c_Exact_rmul k_Exact_rmul
    Exact_rmul_b := (fun_mk (st := s_Exact_rmul) l_Exact_rmul c_Exact_rmul k_Exact_rmul).binds (ps := ["self", "other"]) fun _ _ _ _ _ _ us hl => match us, hl with | [_, _], _ => rfl
    Exact_rmul_M := ⟨g_Exact_rmul, i_Exact_rmul, k_Exact_rmul⟩
    Exact_neg_a := Exact_neg_a
    Exact_neg_d := _
    Exact_neg_F := fun_mk (st := s_Exact_neg) l_Exact_neg c_Exact_neg k_Exact_neg
    Exact_neg_b := (fun_mk (st := s_Exact_neg) l_Exact_neg c_Exact_neg k_Exact_neg).binds (ps := ["self"]) fun _ _ _ _ _ _ us hl => match us, hl with | [_], _ => rfl
    Exact_neg_M := ⟨g_Exact_neg, i_Exact_neg, k_Exact_neg⟩
    Exact_eq_a := Exact_eq_a
    Exact_eq_d := _
    Exact_eq_F := fun_mk (st := s_Exact_eq) l_Exact_eq c_Exact_eq k_Exact_eq
    Exact_eq_b := (fun_mk (st := s_Exact_eq) l_Exact_eq c_Exact_eq k_Exact_eq).binds (ps := ["self", "other"]) fun _ _ _ _ _ _ us hl => match us, hl with | [_, _], _ => rfl
    Exact_eq_M := ⟨g_Exact_eq, i_Exact_eq, k_Exact_eq⟩
    Exact_lt_a := Exact_lt_a
    Exact_lt_d := _
    Exact_lt_F := fun_mk (st := s_Exact_lt) l_Exact_lt c_Exact_lt k_Exact_lt
    Exact_lt_b := (fun_mk (st := s_Exact_lt) l_Exact_lt c_Exact_lt k_Exact_lt).binds (ps := ["self", "other"]) fun _ _ _ _ _ _ us hl => match us, hl with | [_, _], _ => rfl
    Exact_lt_M := ⟨g_Exact_lt, i_Exact_lt, k_Exact_lt⟩
    Exact_le_a := Exact_le_a
    Exact_le_d := _
    Exact_le_F := fun_mk (st := s_Exact_le) l_Exact_le c_Exact_le k_Exact_le
    Exact_le_b := (fun_mk (st := s_Exact_le) l_Exact_le c_Exact_le k_Exact_le).binds (ps := ["self", "other"]) fun _ _ _ _ _ _ us hl => match us, hl with | [_, _], _ => rfl
    Exact_le_M := ⟨g_Exact_le, i_Exact_le, k_Exact_le⟩
    Exact_gt_a := Exact_gt_a
    Exact_gt_d := _
    Exact_gt_F := fun_mk (st := s_Exact_gt) l_Exact_gt c_Exact_gt k_Exact_gt
    Exact_gt_b := (fun_mk (st := s_Exact_gt) l_Exact_gt c_Exact_gt k_Exact_gt).binds (ps := ["self", "other"]) fun _ _ _ _ _ _ us hl => match us, hl with | [_, _], _ => rfl
    Exact_gt_M := ⟨g_Exact_gt, i_Exact_gt, k_Exact_gt⟩
    Exact_ge_a := Exact_ge_a
    Exact_ge_d := _
    Exact_ge_F := fun_mk (st := s_Exact_ge) l_Exact_ge c_Exact_ge k_Exact_ge
    Exact_ge_b := (fun_mk (st := s_Exact_ge) l_Exact_ge c_Exact_ge k_Exact_ge).binds (ps := ["self", "other"]) fun _ _ _ _ _ _ us hl => match us, hl with | [_, _], _ => rfl
    Exact_ge_M := ⟨g_Exact_ge, i_Exact_ge, k_Exact_ge⟩
    divisor_a := divisor_a
    divisor_d := _
    divisor_F := fun_mk (st := s_divisor) l_divisor c_divisor k_divisor
    divisor_b := (fun_mk (st := s_divisor) l_divisor c_divisor k_divisor).binds (ps := ["one", "other"]) fun _ _ _ _ _ _ us hl => match us, hl with | [_, _], _ => rfl
    divisor_m := PySem.W.mg_of X G g_divisor
    is_number_a := is_number_a
    is_number_d := _
    is_number_F := fun_mk (st := s_is_number) l_is_number c_is_number k_is_number
    is_number_b := (fun_mk (st := s_is_number) l_is_number c_is_number k_is_number).binds (ps := ["thing"]) fun _ _ _ _ _ _ us hl => match us, hl with | [_], _ => rfl
    is_number_m := PySem.W.mg_of X G g_is_number
    parts_a := parts_a
    parts_d := _
    parts_F := fun_mk (st := s_parts) l_parts c_parts k_parts
    parts_b := (fun_mk (st := s_parts) l_parts c_parts k_parts).binds (ps := ["number"]) fun _ _ _ _ _ _ us hl => match us, hl with | [_], _ => rfl
    parts_m := PySem.W.mg_of X G g_parts
    plain_a := plain_a
    plain_d := _
    plain_F := fun_mk (st := s_plain) l_plain c_plain k_plain
    plain_b := (fun_mk (st := s_plain) l_plain c_plain k_plain).binds (ps := ["number"]) fun _ _ _ _ _ _ us hl => match us, hl with | [_], _ => rfl
    plain_m := PySem.W.mg_of X G g_plain
    quotient_a := quotient_a
    quotient_d := _
    quotient_F := fun_mk (st := s_quotient) l_quotient c_quotient k_quotient
    quotient_b := (fun_mk (st := s_quotient) l_quotient c_quotient k_quotient).binds (ps := ["one", "other"]) fun _ _ _ _ _ _ us hl => match us, hl with | [_, _], _ => rfl
    quotient_m := PySem.W.mg_of X G g_quotient
    copied_a := copied_a
    copied_d := _
    copied_F := fun_mk (st := s_copied) l_copied c_copied k_copied
    copied_b := (fun_mk (st := s_copied) l_copied c_copied k_copied).binds (ps := ["row"]) fun _ _ _ _ _ _ us hl => match us, hl with | [_], _ => rfl
    copied_m := PySem.W.mg_of X G g_copied
    lesser_a := lesser_a
    lesser_d := _
    lesser_F := fun_mk (st := s_lesser) l_lesser c_lesser k_lesser
    lesser_b := (fun_mk (st := s_lesser) l_lesser c_lesser k_lesser).binds (ps := ["one", "other"]) fun _ _ _ _ _ _ us hl => match us, hl with | [_, _], _ => rfl
    lesser_m := PySem.W.mg_of X G g_lesser
    greater_a := greater_a
    greater_d := _
    greater_F := fun_mk (st := s_greater) l_greater c_greater k_greater
    greater_b := (fun_mk (st := s_greater) l_greater c_greater k_greater).binds (ps := ["one", "other"]) fun _ _ _ _ _ _ us hl => match us, hl with | [_, _], _ => rfl
    greater_m := PySem.W.mg_of X G g_greater
    merged_a := merged_a
    merged_d := _
    merged_F := fun_mk (st := s_merged) l_merged c_merged k_merged
    merged_b := (fun_mk (st := s_merged) l_merged c_merged k_merged).binds (ps := ["ones", "others"]) fun _ _ _ _ _ _ us hl => match us, hl with | [_, _], _ => rfl
    merged_m := PySem.W.mg_of X G g_merged
    Line_init_a := Line_init_a
    Line_init_d := _
    Line_init_F := fun_mk (st := s_Line_init) l_Line_init c_Line_init k_Line_init
    Line_init_b := (fun_mk (st := s_Line_init) l_Line_init c_Line_init k_Line_init).binds (ps := ["self", "points"]) fun _ _ _ _ _ _ us hl => match us, hl with | [_, _], _ => rfl
    Line_init_M := ⟨g_Line_init, i_Line_init, k_Line_init⟩
    Line_mk := ⟨mk_Line, g_Line_init, i_Line_init, kc_Line⟩
    Line_eq_a := Line_eq_a
    Line_eq_d := _
    Line_eq_F := fun_mk (st := s_Line_eq) l_Line_eq c_Line_eq k_Line_eq
    Line_eq_b := (fun_mk (st := s_Line_eq) l_Line_eq c_Line_eq k_Line_eq).binds (ps := ["self", "other"]) fun _ _ _ _ _ _ us hl => match us, hl with | [_, _], _ => rfl
    Line_eq_M := ⟨g_Line_eq, i_Line_eq, k_Line_eq⟩
    Line_is_below_a := Line_is_below_a
    Line_is_below_d := _
    Line_is_below_F := fun_mk (st := s_Line_is_below) l_Line_is_below c_Line_is_below k_Line_is_below
    Line_is_below_b := (fun_mk (st := s_Line_is_below) l_Line_is_below c_Line_is_below k_Line_is_below).binds (ps := ["self", "other"]) fun _ _ _ _ _ _ us hl => match us, hl with | [_, _], _ => rfl
    Line_is_below_M := ⟨g_Line_is_below, i_Line_is_below, k_Line_is_below⟩
    Line_lower_a := Line_lower_a
    Line_lower_d := _
    Line_lower_F := fun_mk (st := s_Line_lower) l_Line_lower c_Line_lower k_Line_lower
    Line_lower_b := (fun_mk (st := s_Line_lower) l_Line_lower c_Line_lower k_Line_lower).binds (ps := ["self", "other"]) fun _ _ _ _ _ _ us hl => match us, hl with | [_, _], _ => rfl
    Line_lower_M := ⟨g_Line_lower, i_Line_lower, k_Line_lower⟩
    Line_upper_a := Line_upper_a
    Line_upper_d := _
    Line_upper_F := fun_mk (st := s_Line_upper) l_Line_upper c_Line_upper k_Line_upper
    Line_upper_b := (fun_mk (st := s_Line_upper) l_Line_upper c_Line_upper k_Line_upper).binds (ps := ["self", "other"]) fun _ _ _ _ _ _ us hl => match us, hl with | [_, _], _ => rfl
    Line_upper_M := ⟨g_Line_upper, i_Line_upper, k_Line_upper⟩
    checked_points_a := checked_points_a
    checked_points_d := _
    checked_points_F := fun_mk (st := s_checked_points) l_checked_points c_checked_points k_checked_points
    checked_points_b := (fun_mk (st := s_checked_points) l_checked_points c_checked_points k_checked_points).binds (ps := ["things"]) fun _ _ _ _ _ _ us hl => match us, hl with | [_], _ => rfl
    checked_points_m := PySem.W.mg_of X G g_checked_points
    is_point_a := is_point_a
    is_point_d := _
    is_point_F := fun_mk (st := s_is_point) l_is_point c_is_point k_is_point
    is_point_b := (fun_mk (st := s_is_point) l_is_point c_is_point k_is_point).binds (ps := ["thing"]) fun _ _ _ _ _ _ us hl => match us, hl with | [_], _ => rfl
    is_point_m := PySem.W.mg_of X G g_is_point
    bent_a := bent_a
    bent_d := _
    bent_F := fun_mk (st := s_bent) l_bent c_bent k_bent
    bent_b := (fun_mk (st := s_bent) l_bent c_bent k_bent).binds (ps := ["spots"]) fun _ _ _ _ _ _ us hl => match us, hl with | [_], _ => rfl
    bent_m := PySem.W.mg_of X G g_bent
    is_straight_a := is_straight_a
    is_straight_d := _
    is_straight_F := fun_mk (st := s_is_straight) l_is_straight c_is_straight k_is_straight
    is_straight_b := (fun_mk (st := s_is_straight) l_is_straight c_is_straight k_is_straight).binds (ps := ["one", "two", "three"]) fun _ _ _ _ _ _ us hl => match us, hl with | [_, _, _], _ => rfl
    is_straight_m := PySem.W.mg_of X G g_is_straight
    heights_at_a := heights_at_a
    heights_at_d := _
    heights_at_F := fun_mk (st := s_heights_at) l_heights_at c_heights_at k_heights_at
    heights_at_b := (fun_mk (st := s_heights_at) l_heights_at c_heights_at k_heights_at).binds (ps := ["spots", "moments"]) fun _ _ _ _ _ _ us hl => match us, hl with | [_, _], _ => rfl
    heights_at_m := PySem.W.mg_of X G g_heights_at
    height_between_a := height_between_a
    height_between_d := _
    height_between_F := fun_mk (st := s_height_between) l_height_between c_height_between k_height_between
    height_between_b := (fun_mk (st := s_height_between) l_height_between c_height_between k_height_between).binds (ps := ["one", "other", "moment"]) fun _ _ _ _ _ _ us hl => match us, hl with | [_, _, _], _ => rfl
    height_between_m := PySem.W.mg_of X G g_height_between
    beside_a := beside_a
    beside_d := _
    beside_F := fun_mk (st := s_beside) l_beside c_beside k_beside
    beside_b := (fun_mk (st := s_beside) l_beside c_beside k_beside).binds (ps := ["line", "other"]) fun _ _ _ _ _ _ us hl => match us, hl with | [_, _], _ => rfl
    beside_m := PySem.W.mg_of X G g_beside
    is_match_a := is_match_a
    is_match_d := _
    is_match_F := fun_mk (st := s_is_match) l_is_match c_is_match k_is_match
    is_match_b := (fun_mk (st := s_is_match) l_is_match c_is_match k_is_match).binds (ps := ["line", "other"]) fun _ _ _ _ _ _ us hl => match us, hl with | [_, _], _ => rfl
    is_match_m := PySem.W.mg_of X G g_is_match
    spans_a := spans_a
    spans_d := _
    spans_F := fun_mk (st := s_spans) l_spans c_spans k_spans
    spans_b := (fun_mk (st := s_spans) l_spans c_spans k_spans).binds (ps := ["line", "start", "end"]) fun _ _ _ _ _ _ us hl => match us, hl with | [_, _, _], _ => rfl
    spans_m := PySem.W.mg_of X G g_spans
    moments_of_a := moments_of_a
    moments_of_d := _
    moments_of_F := fun_mk (st := s_moments_of) l_moments_of c_moments_of k_moments_of
    moments_of_b := (fun_mk (st := s_moments_of) l_moments_of c_moments_of k_moments_of).binds (ps := ["spots"]) fun _ _ _ _ _ _ us hl => match us, hl with | [_], _ => rfl
    moments_of_m := PySem.W.mg_of X G g_moments_of
    crossings_a := crossings_a
    crossings_d := _
    crossings_F := fun_mk (st := s_crossings) l_crossings c_crossings k_crossings
    crossings_b := (fun_mk (st := s_crossings) l_crossings c_crossings k_crossings).binds (ps := ["row", "following"]) fun _ _ _ _ _ _ us hl => match us, hl with | [_, _], _ => rfl
    crossings_m := PySem.W.mg_of X G g_crossings
    law_fresh_a := law_fresh_a
    law_fresh_d := _
    law_fresh_F := fun_mk (st := s_law_fresh) l_law_fresh c_law_fresh k_law_fresh
    law_fresh_b := (fun_mk (st := s_law_fresh) l_law_fresh c_law_fresh k_law_fresh).binds (ps := ["_law_script"]) fun _ _ _ _ _ _ us hl => match us, hl with | [_], _ => rfl
    law_fresh_m := PySem.W.mg_of X G g_law_fresh
    law_fill_a := law_fill_a
    law_fill_d := _
    law_fill_F := fun_mk (st := s_law_fill) l_law_fill c_law_fill k_law_fill
    law_fill_b := (fun_mk (st := s_law_fill) l_law_fill c_law_fill k_law_fill).binds (ps := ["_law_state"]) fun _ _ _ _ _ _ us hl => match us, hl with | [_], _ => rfl
    law_fill_m := PySem.W.mg_of X G g_law_fill
    law_take_a := law_take_a
    law_take_d := _
    law_take_F := fun_mk (st := s_law_take) l_law_take c_law_take k_law_take
    law_take_b := (fun_mk (st := s_law_take) l_law_take c_law_take k_law_take).binds (ps := ["_law_state", "_law_many"]) fun _ _ _ _ _ _ us hl => match us, hl with | [_, _], _ => rfl
    law_take_m := PySem.W.mg_of X G g_law_take
    law_one_a := law_one_a
    law_one_d := _
    law_one_F := fun_mk (st := s_law_one) l_law_one c_law_one k_law_one
    law_one_b := (fun_mk (st := s_law_one) l_law_one c_law_one k_law_one).binds (ps := ["_law_state", "_law_things"]) fun _ _ _ _ _ _ us hl => match us, hl with | [_, _], _ => rfl
    law_one_m := PySem.W.mg_of X G g_law_one
    law_same_a := law_same_a
    law_same_d := _
    law_same_F := fun_mk (st := s_law_same) l_law_same c_law_same k_law_same
    law_same_b := (fun_mk (st := s_law_same) l_law_same c_law_same k_law_same).binds (ps := ["_law_found", "_law_due"]) fun _ _ _ _ _ _ us hl => match us, hl with | [_, _], _ => rfl
    law_same_m := PySem.W.mg_of X G g_law_same
    law_gcd_a := law_gcd_a
    law_gcd_d := _
    law_gcd_F := fun_mk (st := s_law_gcd) l_law_gcd c_law_gcd k_law_gcd
    law_gcd_b := (fun_mk (st := s_law_gcd) l_law_gcd c_law_gcd k_law_gcd).binds (ps := ["_law_a", "_law_b"]) fun _ _ _ _ _ _ us hl => match us, hl with | [_, _], _ => rfl
    law_gcd_m := PySem.W.mg_of X G g_law_gcd
    law_frac_a := law_frac_a
    law_frac_d := _
    law_frac_F := fun_mk (st := s_law_frac) l_law_frac c_law_frac k_law_frac
    law_frac_b := (fun_mk (st := s_law_frac) l_law_frac c_law_frac k_law_frac).binds (ps := ["_law_over_here", "_law_under_here"]) fun _ _ _ _ _ _ us hl => match us, hl with | [_, _], _ => rfl
    law_frac_m := PySem.W.mg_of X G g_law_frac
    law_add_a := law_add_a
    law_add_d := _
    law_add_F := fun_mk (st := s_law_add) l_law_add c_law_add k_law_add
    law_add_b := (fun_mk (st := s_law_add) l_law_add c_law_add k_law_add).binds (ps := ["_law_a", "_law_b"]) fun _ _ _ _ _ _ us hl => match us, hl with | [_, _], _ => rfl
    law_add_m := PySem.W.mg_of X G g_law_add
    law_mul_a := law_mul_a
    law_mul_d := _
    law_mul_F := fun_mk (st := s_law_mul) l_law_mul c_law_mul k_law_mul
    law_mul_b := (fun_mk (st := s_law_mul) l_law_mul c_law_mul k_law_mul).binds (ps := ["_law_a", "_law_b"]) fun _ _ _ _ _ _ us hl => match us, hl with | [_, _], _ => rfl
    law_mul_m := PySem.W.mg_of X G g_law_mul
    law_less_a := law_less_a
    law_less_d := _
    law_less_F := fun_mk (st := s_law_less) l_law_less c_law_less k_law_less
    law_less_b := (fun_mk (st := s_law_less) l_law_less c_law_less k_law_less).binds (ps := ["_law_a", "_law_b"]) fun _ _ _ _ _ _ us hl => match us, hl with | [_, _], _ => rfl
    law_less_m := PySem.W.mg_of X G g_law_less
    law_plain_a := law_plain_a
    law_plain_d := _
    law_plain_F := fun_mk (st := s_law_plain) l_law_plain c_law_plain k_law_plain
    law_plain_b := (fun_mk (st := s_law_plain) l_law_plain c_law_plain k_law_plain).binds (ps := ["_law_a"]) fun _ _ _ _ _ _ us hl => match us, hl with | [_], _ => rfl
    law_plain_m := PySem.W.mg_of X G g_law_plain
    law_on_a := law_on_a
    law_on_d := _
    law_on_F := fun_mk (st := s_law_on) l_law_on c_law_on k_law_on
    law_on_b := (fun_mk (st := s_law_on) l_law_on c_law_on k_law_on).binds (ps := ["_law_course", "_law_t"]) fun _ _ _ _ _ _ us hl => match us, hl with | [_, _], _ => rfl
    law_on_m := PySem.W.mg_of X G g_law_on
    law_over_a := law_over_a
    law_over_d := _
    law_over_F := fun_mk (st := s_law_over) l_law_over c_law_over k_law_over
    law_over_b := (fun_mk (st := s_law_over) l_law_over c_law_over k_law_over).binds (ps := ["_law_a"]) fun _ _ _ _ _ _ us hl => match us, hl with | [_], _ => rfl
    law_over_m := PySem.W.mg_of X G g_law_over
    law_moments_a := law_moments_a
    law_moments_d := _
    law_moments_F := fun_mk (st := s_law_moments) l_law_moments c_law_moments k_law_moments
    law_moments_b := (fun_mk (st := s_law_moments) l_law_moments c_law_moments k_law_moments).binds (ps := ["_law_rows"]) fun _ _ _ _ _ _ us hl => match us, hl with | [_], _ => rfl
    law_moments_m := PySem.W.mg_of X G g_law_moments
    law_drawn_course_a := law_drawn_course_a
    law_drawn_course_d := _
    law_drawn_course_F := fun_mk (st := s_law_drawn_course) l_law_drawn_course c_law_drawn_course k_law_drawn_course
    law_drawn_course_b := (fun_mk (st := s_law_drawn_course) l_law_drawn_course c_law_drawn_course k_law_drawn_course).binds (ps := ["_law_state", "_law_a", "_law_b"]) fun _ _ _ _ _ _ us hl => match us, hl with | [_, _, _], _ => rfl
    law_drawn_course_m := PySem.W.mg_of X G g_law_drawn_course
    law_as_line_a := law_as_line_a
    law_as_line_d := _
    law_as_line_F := fun_mk (st := s_law_as_line) l_law_as_line c_law_as_line k_law_as_line
    law_as_line_b := (fun_mk (st := s_law_as_line) l_law_as_line c_law_as_line k_law_as_line).binds (ps := ["_law_course"]) fun _ _ _ _ _ _ us hl => match us, hl with | [_], _ => rfl
    law_as_line_m := PySem.W.mg_of X G g_law_as_line
    law_lower_a := law_lower_a
    law_lower_d := _
    law_lower_F := fun_mk (st := s_law_lower) l_law_lower c_law_lower k_law_lower
    law_lower_b := (fun_mk (st := s_law_lower) l_law_lower c_law_lower k_law_lower).binds (ps := ["_law_one_here", "_law_other"]) fun _ _ _ _ _ _ us hl => match us, hl with | [_, _], _ => rfl
    law_lower_m := PySem.W.mg_of X G g_law_lower
    law_under_a := law_under_a
    law_under_d := _
    law_under_F := fun_mk (st := s_law_under) l_law_under c_law_under k_law_under
    law_under_b := (fun_mk (st := s_law_under) l_law_under c_law_under k_law_under).binds (ps := ["_law_course"]) fun _ _ _ _ _ _ us hl => match us, hl with | [_], _ => rfl
    law_under_m := PySem.W.mg_of X G g_law_under
    law_a := fa
    law_d := _
    law_F := fun_mk (st := s_law) l_law c_law k_law
    law_b := (fun_mk (st := s_law) l_law c_law k_law).binds (ps := ["_law_script"]) fun _ _ _ _ _ _ us hl => match us, hl with | [_], _ => rfl
    law_m := PySem.W.mg_of X G g_law
    z_abs := PySem.W.mg_none_of X G hz_abs
    z_all := PySem.W.mg_none_of X G hz_all
    z_bool := PySem.W.mg_none_of X G hz_bool
    z_enumerate := PySem.W.mg_none_of X G hz_enumerate
    z_int := PySem.W.mg_none_of X G hz_int
    z_isinstance := PySem.W.mg_none_of X G hz_isinstance
    z_len := PySem.W.mg_none_of X G hz_len
    z_list := PySem.W.mg_none_of X G hz_list
    z_range := PySem.W.mg_none_of X G hz_range
    z_tuple := PySem.W.mg_none_of X G hz_tuple
    z_zip := PySem.W.mg_none_of X G hz_zip }
  exact ⟨T.law_d, fun s v => .of_eq rfl, fun base _ _ => ok_law T⟩
theorem walk {l : PySem.W.OpenLaw} {q : Program} {loose : List Str} {XP : (Str → Option Value) → Heap → Prop} {YP : World → Heap → Prop} {d : DefRec} {K : Params → PySem.W.Frag} (hn : l.most = some 63) (hdf : d.params.defaults = [])
    (hY : ∀ (w : World) (h : Heap), YP w h → (K w.params).In h)
    (F : ∀ (w : World) (mg : Str → Option Value) (fa : Addr) (h : Heap), (K w.params).In h → h.Ns mainGlobals mg → mg d.name = some (.ref fa) →
      ∃ fd : FuncData, (∀ (s : Shared) (u : Value), BindsTo s fd ⟨[u], []⟩ [("_law_script", u)]) ∧ ∀ base : Heap, (K w.params).In base → base.Ns mainGlobals mg → FnOk l.prog w (K w.params) mg base CX0 30 fa fd ["_law_script"] (spLaw (K w.params))) :
    PySem.W.WalkO q loose XP YP l.row.toRowW d [] (fun f vs => PySem.call f vs) :=
  L2.walk_of (n := 63) (k := 30) (x := "_law_script") (CX := fun _ => CX0) (sp := fun w => spLaw (K w.params)) hn (by decide) hdf ⟨rfl, by decide, by decide⟩ hY F (fun _ _ a ns hl _ hS => ⟨a, ns, rfl, hS, hl, fun _ => rfl⟩) fun _ _ _ _ _ z => z
end Gy
open PySem PySem.W PyProof.Rows
set_option maxRecDepth 100000 in
set_option maxHeartbeats 0 in
theorem PySem.Challenge.cw_surelevels_k12_lines_joined_holds : PySem.Challenge.rw_surelevels_k12_lines_joined.Holds := by
  w_on; o_law; k_head; (case hw => w_witness2)
  k_fill
  refine Gy.walk (l := PySem.Challenge.rw_surelevels_k12_lines_joined) rfl rfl (fun w h Y => PySem.W.kIn_of Y) ?F
  case F =>
    intro w mg fa h KX G hmg
    refine' Gy.all_mk KX G hmg ?g_LevelError ?xl_LevelError ?sa_LevelError ?ga_LevelError ?ca_LevelError ?gg_LevelError ?ty_LevelError ?kp_LevelError ?g_BadPoint ?xl_BadPoint ?sa_BadPoint ?ga_BadPoint ?ca_BadPoint ?gg_BadPoint ?ty_BadPoint ?kp_BadPoint ?n_BadPoint_index ?g_BadMoment ?xl_BadMoment ?sa_BadMoment ?ga_BadMoment ?ca_BadMoment ?gg_BadMoment ?ty_BadMoment ?kp_BadMoment ?n_BadMoment_moment ?g_BadLine ?xl_BadLine ?sa_BadLine ?ga_BadLine ?ca_BadLine ?gg_BadLine ?ty_BadLine ?kp_BadLine ?n_BadLine_line ?eg1 ?eg2 ?ev ?e_nd ?g_Exact ?pg_Exact ?hd_Exact ?po_Exact ?sa_Exact ?n_Exact_over ?n_Exact_under ?i1_Exact ?i2_Exact ?i3_Exact ?i4_Exact ?ic_Exact ?ty_Exact ?u_int_Exact ?d_int_Exact ?up_int_Exact ?dn_int_Exact ?od_add ?or_add ?o1_add ?o2_add ?osf_add ?oup_add ?odn_add ?od_sub ?or_sub ?o1_sub ?o2_sub ?osf_sub ?oup_sub ?odn_sub ?od_mul ?or_mul ?o1_mul ?o2_mul ?osf_mul ?oup_mul ?odn_mul ?g_Line ?pg_Line ?hd_Line ?po_Line ?sa_Line ?n_Line_spots ?i1_Line ?i2_Line ?i3_Line ?i4_Line ?ne_Line ?ne9_Line_Exact ?g_BadPoint_init ?i_BadPoint_init ?l_BadPoint_init ?c_BadPoint_init ?k_BadPoint_init ?g_BadMoment_init ?i_BadMoment_init ?l_BadMoment_init ?c_BadMoment_init ?k_BadMoment_init ?g_BadLine_init ?i_BadLine_init ?l_BadLine_init ?c_BadLine_init ?k_BadLine_init ?g_is_whole ?l_is_whole ?c_is_whole ?k_is_whole ?g_is_list ?l_is_list ?c_is_list ?k_is_list ?g_Exact_init ?i_Exact_init ?l_Exact_init ?c_Exact_init ?k_Exact_init ?t_Exact_init ?mk_Exact ?kc_Exact ?g_Exact_add ?i_Exact_add ?l_Exact_add ?c_Exact_add ?k_Exact_add ?g_Exact_radd ?i_Exact_radd ?l_Exact_radd ?c_Exact_radd ?k_Exact_radd ?g_Exact_sub ?i_Exact_sub ?l_Exact_sub ?c_Exact_sub ?k_Exact_sub ?g_Exact_rsub ?i_Exact_rsub ?l_Exact_rsub ?c_Exact_rsub ?k_Exact_rsub ?g_Exact_mul ?i_Exact_mul ?l_Exact_mul ?c_Exact_mul ?k_Exact_mul ?g_Exact_rmul ?i_Exact_rmul ?l_Exact_rmul ?c_Exact_rmul ?k_Exact_rmul ?g_Exact_neg ?i_Exact_neg ?l_Exact_neg ?c_Exact_neg ?k_Exact_neg ?g_Exact_eq ?i_Exact_eq ?l_Exact_eq ?c_Exact_eq ?k_Exact_eq ?g_Exact_lt ?i_Exact_lt ?l_Exact_lt ?c_Exact_lt ?k_Exact_lt ?g_Exact_le ?i_Exact_le ?l_Exact_le ?c_Exact_le ?k_Exact_le ?g_Exact_gt ?i_Exact_gt ?l_Exact_gt ?c_Exact_gt ?k_Exact_gt ?g_Exact_ge ?i_Exact_ge ?l_Exact_ge ?c_Exact_ge ?k_Exact_ge ?g_divisor ?l_divisor ?c_divisor ?k_divisor ?g_is_number ?l_is_number ?c_is_number ?k_is_number ?g_parts ?l_parts ?c_parts ?k_parts ?g_plain ?l_plain ?c_plain ?k_plain ?g_quotient ?l_quotient ?c_quotient ?k_quotient ?g_copied ?l_copied ?c_copied ?k_copied ?g_lesser ?l_lesser ?c_lesser ?k_lesser ?g_greater ?l_greater ?c_greater ?k_greater ?g_merged ?l_merged ?c_merged ?k_merged ?g_Line_init ?i_Line_init ?l_Line_init ?c_Line_init ?k_Line_init ?mk_Line ?kc_Line ?g_Line_eq ?i_Line_eq ?l_Line_eq ?c_Line_eq ?k_Line_eq ?g_Line_is_below ?i_Line_is_below ?l_Line_is_below ?c_Line_is_below ?k_Line_is_below ?g_Line_lower ?i_Line_lower ?l_Line_lower ?c_Line_lower ?k_Line_lower ?g_Line_upper ?i_Line_upper ?l_Line_upper ?c_Line_upper ?k_Line_upper ?g_checked_points ?l_checked_points ?c_checked_points ?k_checked_points ?g_is_point ?l_is_point ?c_is_point ?k_is_point ?g_bent ?l_bent ?c_bent ?k_bent ?g_is_straight ?l_is_straight ?c_is_straight ?k_is_straight ?g_heights_at ?l_heights_at ?c_heights_at ?k_heights_at ?g_height_between ?l_height_between ?c_height_between ?k_height_between ?g_beside ?l_beside ?c_beside ?k_beside ?g_is_match ?l_is_match ?c_is_match ?k_is_match ?g_spans ?l_spans ?c_spans ?k_spans ?g_moments_of ?l_moments_of ?c_moments_of ?k_moments_of ?g_crossings ?l_crossings ?c_crossings ?k_crossings ?g_law_fresh ?l_law_fresh ?c_law_fresh ?k_law_fresh ?g_law_fill ?l_law_fill ?c_law_fill ?k_law_fill ?g_law_take ?l_law_take ?c_law_take ?k_law_take ?g_law_one ?l_law_one ?c_law_one ?k_law_one ?g_law_same ?l_law_same ?c_law_same ?k_law_same ?g_law_gcd ?l_law_gcd ?c_law_gcd ?k_law_gcd ?g_law_frac ?l_law_frac ?c_law_frac ?k_law_frac ?g_law_add ?l_law_add ?c_law_add ?k_law_add ?g_law_mul ?l_law_mul ?c_law_mul ?k_law_mul ?g_law_less ?l_law_less ?c_law_less ?k_law_less ?g_law_plain ?l_law_plain ?c_law_plain ?k_law_plain ?g_law_on ?l_law_on ?c_law_on ?k_law_on ?g_law_over ?l_law_over ?c_law_over ?k_law_over ?g_law_moments ?l_law_moments ?c_law_moments ?k_law_moments ?g_law_drawn_course ?l_law_drawn_course ?c_law_drawn_course ?k_law_drawn_course ?g_law_as_line ?l_law_as_line ?c_law_as_line ?k_law_as_line ?g_law_lower ?l_law_lower ?c_law_lower ?k_law_lower ?g_law_under ?l_law_under ?c_law_under ?k_law_under ?g_law ?l_law ?c_law ?k_law ?hz_abs ?hz_all ?hz_bool ?hz_enumerate ?hz_int ?hz_isinstance ?hz_len ?hz_list ?hz_range ?hz_tuple ?hz_zip
    (case g_LevelError => k_is); (case xl_LevelError => k_is); (case sa_LevelError => k_is); (case ga_LevelError => k_is); (case ca_LevelError => k_is); (case gg_LevelError => k_is); (case ty_LevelError => k_is); (case kp_LevelError => k_is)
    (case g_BadPoint => k_is); (case xl_BadPoint => k_is); (case sa_BadPoint => k_is); (case ga_BadPoint => k_is); (case ca_BadPoint => k_is); (case gg_BadPoint => k_is); (case ty_BadPoint => k_is); (case kp_BadPoint => k_is)
    (case n_BadPoint_index => k_is); (case g_BadMoment => k_is); (case xl_BadMoment => k_is); (case sa_BadMoment => k_is); (case ga_BadMoment => k_is); (case ca_BadMoment => k_is); (case gg_BadMoment => k_is); (case ty_BadMoment => k_is)
    (case kp_BadMoment => k_is); (case n_BadMoment_moment => k_is); (case g_BadLine => k_is); (case xl_BadLine => k_is); (case sa_BadLine => k_is); (case ga_BadLine => k_is); (case ca_BadLine => k_is); (case gg_BadLine => k_is)
    (case ty_BadLine => k_is); (case kp_BadLine => k_is); (case n_BadLine_line => k_is); (case eg1 => k_is); (case eg2 => k_is); (case ev => k_is); (case g_Exact => k_is); (case pg_Exact => k_is)
    (case hd_Exact => k_is); (case po_Exact => k_is); (case sa_Exact => k_is); (case n_Exact_over => k_is); (case n_Exact_under => k_is); (case i1_Exact => k_is); (case i2_Exact => k_is); (case i3_Exact => k_is)
    (case i4_Exact => k_is); (case ic_Exact => k_is); (case ty_Exact => k_is); (case u_int_Exact => k_is); (case d_int_Exact => k_is); (case up_int_Exact => k_is); (case dn_int_Exact => k_is); (case od_add => k_is)
    (case or_add => k_is); (case o1_add => k_is); (case o2_add => k_is); (case osf_add => k_is); (case oup_add => k_is); (case odn_add => k_is); (case od_sub => k_is); (case or_sub => k_is)
    (case o1_sub => k_is); (case o2_sub => k_is); (case osf_sub => k_is); (case oup_sub => k_is); (case odn_sub => k_is); (case od_mul => k_is); (case or_mul => k_is); (case o1_mul => k_is)
    (case o2_mul => k_is); (case osf_mul => k_is); (case oup_mul => k_is); (case odn_mul => k_is); (case g_Line => k_is); (case pg_Line => k_is); (case hd_Line => k_is); (case po_Line => k_is)
    (case sa_Line => k_is); (case n_Line_spots => k_is); (case i1_Line => k_is); (case i2_Line => k_is); (case i3_Line => k_is); (case i4_Line => k_is); (case ne_Line => k_is); (case g_BadPoint_init => k_is)
    (case i_BadPoint_init => k_is); (case l_BadPoint_init => k_is); (case c_BadPoint_init => k_is); (case k_BadPoint_init => k_is); (case g_BadMoment_init => k_is); (case i_BadMoment_init => k_is); (case l_BadMoment_init => k_is); (case c_BadMoment_init => k_is)
    (case k_BadMoment_init => k_is); (case g_BadLine_init => k_is); (case i_BadLine_init => k_is); (case l_BadLine_init => k_is); (case c_BadLine_init => k_is); (case k_BadLine_init => k_is); (case g_is_whole => k_is); (case l_is_whole => k_is)
    (case c_is_whole => k_is); (case k_is_whole => k_is); (case g_is_list => k_is); (case l_is_list => k_is); (case c_is_list => k_is); (case k_is_list => k_is); (case g_Exact_init => k_is); (case i_Exact_init => k_is)
    (case l_Exact_init => k_is); (case c_Exact_init => k_is); (case k_Exact_init => k_is); (case t_Exact_init => k_is); (case mk_Exact => k_is); (case kc_Exact => k_is); (case g_Exact_add => k_is); (case i_Exact_add => k_is)
    (case l_Exact_add => k_is); (case c_Exact_add => k_is); (case k_Exact_add => k_is); (case g_Exact_radd => k_is); (case i_Exact_radd => k_is); (case l_Exact_radd => k_is); (case c_Exact_radd => k_is); (case k_Exact_radd => k_is)
    (case g_Exact_sub => k_is); (case i_Exact_sub => k_is); (case l_Exact_sub => k_is); (case c_Exact_sub => k_is); (case k_Exact_sub => k_is); (case g_Exact_rsub => k_is); (case i_Exact_rsub => k_is); (case l_Exact_rsub => k_is)
    (case c_Exact_rsub => k_is); (case k_Exact_rsub => k_is); (case g_Exact_mul => k_is); (case i_Exact_mul => k_is); (case l_Exact_mul => k_is); (case c_Exact_mul => k_is); (case k_Exact_mul => k_is); (case g_Exact_rmul => k_is)
    (case i_Exact_rmul => k_is); (case l_Exact_rmul => k_is); (case c_Exact_rmul => k_is); (case k_Exact_rmul => k_is); (case g_Exact_neg => k_is); (case i_Exact_neg => k_is); (case l_Exact_neg => k_is); (case c_Exact_neg => k_is)
    (case k_Exact_neg => k_is); (case g_Exact_eq => k_is); (case i_Exact_eq => k_is); (case l_Exact_eq => k_is); (case c_Exact_eq => k_is); (case k_Exact_eq => k_is); (case g_Exact_lt => k_is); (case i_Exact_lt => k_is)
    (case l_Exact_lt => k_is); (case c_Exact_lt => k_is); (case k_Exact_lt => k_is); (case g_Exact_le => k_is); (case i_Exact_le => k_is); (case l_Exact_le => k_is); (case c_Exact_le => k_is); (case k_Exact_le => k_is)
    (case g_Exact_gt => k_is); (case i_Exact_gt => k_is); (case l_Exact_gt => k_is); (case c_Exact_gt => k_is); (case k_Exact_gt => k_is); (case g_Exact_ge => k_is); (case i_Exact_ge => k_is); (case l_Exact_ge => k_is)
    (case c_Exact_ge => k_is); (case k_Exact_ge => k_is); (case g_divisor => k_is); (case l_divisor => k_is); (case c_divisor => k_is); (case k_divisor => k_is); (case g_is_number => k_is); (case l_is_number => k_is)
    (case c_is_number => k_is); (case k_is_number => k_is); (case g_parts => k_is); (case l_parts => k_is); (case c_parts => k_is); (case k_parts => k_is); (case g_plain => k_is); (case l_plain => k_is)
    (case c_plain => k_is); (case k_plain => k_is); (case g_quotient => k_is); (case l_quotient => k_is); (case c_quotient => k_is); (case k_quotient => k_is); (case g_copied => k_is); (case l_copied => k_is)
    (case c_copied => k_is); (case k_copied => k_is); (case g_lesser => k_is); (case l_lesser => k_is); (case c_lesser => k_is); (case k_lesser => k_is); (case g_greater => k_is); (case l_greater => k_is)
    (case c_greater => k_is); (case k_greater => k_is); (case g_merged => k_is); (case l_merged => k_is); (case c_merged => k_is); (case k_merged => k_is); (case g_Line_init => k_is); (case i_Line_init => k_is)
    (case l_Line_init => k_is); (case c_Line_init => k_is); (case k_Line_init => k_is); (case mk_Line => k_is); (case kc_Line => k_is); (case g_Line_eq => k_is); (case i_Line_eq => k_is); (case l_Line_eq => k_is)
    (case c_Line_eq => k_is); (case k_Line_eq => k_is); (case g_Line_is_below => k_is); (case i_Line_is_below => k_is); (case l_Line_is_below => k_is); (case c_Line_is_below => k_is); (case k_Line_is_below => k_is); (case g_Line_lower => k_is)
    (case i_Line_lower => k_is); (case l_Line_lower => k_is); (case c_Line_lower => k_is); (case k_Line_lower => k_is); (case g_Line_upper => k_is); (case i_Line_upper => k_is); (case l_Line_upper => k_is); (case c_Line_upper => k_is)
    (case k_Line_upper => k_is); (case g_checked_points => k_is); (case l_checked_points => k_is); (case c_checked_points => k_is); (case k_checked_points => k_is); (case g_is_point => k_is); (case l_is_point => k_is); (case c_is_point => k_is)
    (case k_is_point => k_is); (case g_bent => k_is); (case l_bent => k_is); (case c_bent => k_is); (case k_bent => k_is); (case g_is_straight => k_is); (case l_is_straight => k_is); (case c_is_straight => k_is)
    (case k_is_straight => k_is); (case g_heights_at => k_is); (case l_heights_at => k_is); (case c_heights_at => k_is); (case k_heights_at => k_is); (case g_height_between => k_is); (case l_height_between => k_is); (case c_height_between => k_is)
    (case k_height_between => k_is); (case g_beside => k_is); (case l_beside => k_is); (case c_beside => k_is); (case k_beside => k_is); (case g_is_match => k_is); (case l_is_match => k_is); (case c_is_match => k_is)
    (case k_is_match => k_is); (case g_spans => k_is); (case l_spans => k_is); (case c_spans => k_is); (case k_spans => k_is); (case g_moments_of => k_is); (case l_moments_of => k_is); (case c_moments_of => k_is)
    (case k_moments_of => k_is); (case g_crossings => k_is); (case l_crossings => k_is); (case c_crossings => k_is); (case k_crossings => k_is); (case g_law_fresh => k_is); (case l_law_fresh => k_is); (case c_law_fresh => k_is)
    (case k_law_fresh => k_is); (case g_law_fill => k_is); (case l_law_fill => k_is); (case c_law_fill => k_is); (case k_law_fill => k_is); (case g_law_take => k_is); (case l_law_take => k_is); (case c_law_take => k_is)
    (case k_law_take => k_is); (case g_law_one => k_is); (case l_law_one => k_is); (case c_law_one => k_is); (case k_law_one => k_is); (case g_law_same => k_is); (case l_law_same => k_is); (case c_law_same => k_is)
    (case k_law_same => k_is); (case g_law_gcd => k_is); (case l_law_gcd => k_is); (case c_law_gcd => k_is); (case k_law_gcd => k_is); (case g_law_frac => k_is); (case l_law_frac => k_is); (case c_law_frac => k_is)
    (case k_law_frac => k_is); (case g_law_add => k_is); (case l_law_add => k_is); (case c_law_add => k_is); (case k_law_add => k_is); (case g_law_mul => k_is); (case l_law_mul => k_is); (case c_law_mul => k_is)
    (case k_law_mul => k_is); (case g_law_less => k_is); (case l_law_less => k_is); (case c_law_less => k_is); (case k_law_less => k_is); (case g_law_plain => k_is); (case l_law_plain => k_is); (case c_law_plain => k_is)
    (case k_law_plain => k_is); (case g_law_on => k_is); (case l_law_on => k_is); (case c_law_on => k_is); (case k_law_on => k_is); (case g_law_over => k_is); (case l_law_over => k_is); (case c_law_over => k_is)
    (case k_law_over => k_is); (case g_law_moments => k_is); (case l_law_moments => k_is); (case c_law_moments => k_is); (case k_law_moments => k_is); (case g_law_drawn_course => k_is); (case l_law_drawn_course => k_is); (case c_law_drawn_course => k_is)
    (case k_law_drawn_course => k_is); (case g_law_as_line => k_is); (case l_law_as_line => k_is); (case c_law_as_line => k_is); (case k_law_as_line => k_is); (case g_law_lower => k_is); (case l_law_lower => k_is); (case c_law_lower => k_is)
    (case k_law_lower => k_is); (case g_law_under => k_is); (case l_law_under => k_is); (case c_law_under => k_is); (case k_law_under => k_is); (case g_law => k_is); (case l_law => k_is); (case c_law => k_is)
    (case k_law => k_is); (case hz_abs => k_is); (case hz_all => k_is); (case hz_bool => k_is); (case hz_enumerate => k_is); (case hz_int => k_is); (case hz_isinstance => k_is); (case hz_len => k_is)
    (case hz_list => k_is); (case hz_range => k_is); (case hz_tuple => k_is); (case hz_zip => k_is); (case e_nd => decide); (case ne9_Line_Exact => decide)

