import PyProof.Rows.All
import Wide.All
import OpenK.AllK
import Wide.FinOn
import KE.KExcIs
import KE.KExcInit
import HandS.ForMost
import HandS.Exc
import HandS.ExcOwn
import HandS.ExcValue
import HandS.ExcInit
import HandS.IsInst
import PyProof.ReprRoads
import HandS.RaiseMore
import HandS.Defaults
import HandS.Ends
import HandS.HeadEnd
import HandS.EndTab
import KE.KStateDown
import HandS.Head0
import HandS.Head1
import HandS.Head2
import HandS.HeadHook1
import HandS.HeadHook2
import HandS.Wide
import PyProof.ReprLen
import PyProof.CallFns
import HandS.HeadHook4
import HandS.NestedK
import KE.GoesMore
import HandS.Iter
import HandS.List
import HandS.SetBool
import HandS.Strs
import HandS.TupMul
import PyProof.NeKinds
import PyProof.FactsAll.dict_2
import PyProof.FactsAll.subtypes_4
import HandS.TupAny
import HandS.TryMany
import HandS.Lambda
import HandS.Zip
import HandS.Walk
import HandS.Star
import HandS.Conv
import HandS.Flow
import HandS.WordsExc
import PySem.Challenge.RW_pagewise_k02_errors_of_rows
set_option Elab.async false
set_option linter.all false
set_option maxRecDepth 100000
set_option maxHeartbeats 0
/-! Own exceptions over any built-in base, as values: made by their own __init__, their fields read, asked by isinstance. -/
namespace Ex
open PySem PySem.Spec PySem.Calls PyProof.Rows L2

/-- what a built-in base tells: its mro, who makes, who fills -/
structure Base (B nid iid : String) (ml : List Value) : Prop where
  mak : ∃ (Bn inN : String) (mN : List Value), ExcBaseFacts Bn nid inN mN ∧ ml.contains (.type Bn) = true
  noA : ml.contains (.type "AttributeError") = false
  noN : ml.contains (.type "NameError") = false
  hasB : ml.contains (.type B) = true
  hasO : ml.contains (.type "object") = true
  pass : ∀ self : Value, refuseLoop self "__setattr__" ml = pure ()
  iPlain : plainId iid = true
  iEntry : entryFor table iid = some Builtin.«BaseException.__init__»
  iSplit : splitId iid = some (B, "__init__")
  iKind : builtinKind iid = some .slot
  iRow : Manifest.signature? iid = some ⟨.positional, "*", B, .self, [⟨"args", .varPos, false⟩]⟩
  star : (B != "*") = true
theorem base_of {B nid iid : String} {ml : List Value} (F : ExcBaseFacts B nid iid ml) (ho : ml.contains (.type "object") = true) (hp : ∀ self : Value, refuseLoop self "__setattr__" ml = pure ()) : Base B nid iid ml where
  mak := ⟨B, iid, ml, F, F.hasB⟩
  noA := F.noAttr
  noN := F.noName
  hasB := F.hasB
  hasO := ho
  pass := hp
  iPlain := F.init.plain
  iEntry := F.initEntry
  iSplit := F.initSplit
  iKind := F.initKind
  iRow := F.initRow
  star := F.noStar

/-- an exception object, fresh -/
abbrev eob (C t : Addr) : Obj := { cls := .ref C, data := .fields #[.ref t, .none, .none, .none, .bool false, .none] }
section
variable {M : Model} {A : Around} {E : Value → Shared → Prop} {h : Heap} {g : Array GenState} {d : Drawn} {t : Nat} {os : OsState}
variable {nm q : Str} {C N : Addr} {bs ml : List Value} {hy : Bool} {sn : List Str} {sub : List Value} {ab : Bool} {col : Option Bool} {dd : Option Addr} {k0 k1 k2 k3 k5 : Option Value} {B nid iid Bn inN : String} {mN : List Value}
theorem look_new (F : ExcBaseFacts Bn nid inN mN) (hb : ml.contains (.type Bn) = true) {us : List Value} {Q : Unit → Shared → Prop}
    (oC : h.get? C = some (excClassObj nm q C N bs ml hy sn sub ab col dd k0 k1 k2 k3 k5 nid)) (hq : Q () ⟨h, g, d, t, os⟩) : wpAny M A (checkBuiltinCall nid ⟨.ref C :: us, []⟩) Q E ⟨h, g, d, t, os⟩ := by
  have c1 : (Value.ref C :: ml).contains (.type Bn) = true := by
    rw [List.contains_cons, hb, Bool.or_true]
  have c2 := F.noStar
  simp only [checkBuiltinCall, F.newKind, F.newSplit,
    F.newRow]
  repeat (first
    | refine wpAny_loadPart_at oC ?_
    | (refine wpAny_isSubtype_exc oC ?_; rw [c1])
    | refine wpAny_staticBase_exc oC ?_
    | refine wpAny_madeBy_exc oC ?_
    | simp only [bne_self_eq_false, Bool.false_eq_true, if_false]
    | wp_step)
  exact hq
theorem look_init (Y : Base B nid iid ml) {e : Addr} {oe : Obj} {us : List Value} {nw : String} {Q : Unit → Shared → Prop}
    (oC : h.get? C = some (excClassObj nm q C N bs ml hy sn sub ab col dd k0 k1 k2 k3 k5 nw)) (he : h.get? e = some oe) (hc : oe.cls = .ref C) (hq : Q () ⟨h, g, d, t, os⟩) :
    wpAny M A (checkBuiltinCall iid ⟨.ref e :: us, []⟩) Q E ⟨h, g, d, t, os⟩ := by
  have c1 : (Value.ref C :: ml).contains (.type B) = true := by
    rw [List.contains_cons, Y.hasB, Bool.or_true]
  have c2 := Y.star
  simp only [checkBuiltinCall, Y.iKind, Y.iSplit,
    Y.iRow]
  repeat (first
    | (with_reducible refine wpAny_loadPart_at he ?_; rw [hc])
    | with_reducible refine wpAny_loadPart_at oC ?_
    | (with_reducible refine wpAny_isSubtype_exc oC ?_; rw [c1])
    | wp_step)
  refine wpAny_onRaise ?_
  rw [show ∀ (x y : String) (n : Nat), Bind.check ⟨.positional, "*", B, .self, [⟨"args", .varPos, false⟩]⟩ x y n (List.map (fun z => z.fst) ({ pos := Value.ref e :: us } : Args).kw) = pure () from
    fun x y n => check_star_args _ _ _ _ _ _]
  exact wpAny_pure hq
end
section
variable {prog : Program} {w : World} {A : Around} {E : Value → Shared → Prop} {R : Result → Shared → Prop} {h : Heap} {g : Array GenState} {d : Drawn} {t : Nat} {os : OsState}
variable {nm q : Str} {C N : Addr} {bs ml : List Value} {hy : Bool} {sn : List Str} {sub : List Value} {ab : Bool} {col : Option Bool} {dd : Option Addr} {k0 k1 k2 k3 k5 : Option Value} {B nid iid Bn inN : String} {mN : List Value}
theorem run_new (F : ExcBaseFacts Bn nid inN mN) (hb : ml.contains (.type Bn) = true) (ha : ml.contains (.type "AttributeError") = false) (hn : ml.contains (.type "NameError") = false) {us : List Value}
    (oC : h.get? C = some (excClassObj nm q C N bs ml hy sn sub ab col dd k0 k1 k2 k3 k5 nid))
    (hq : R (.ok (.ret (.ref (h.objs.size + 1)))) ⟨(h.push { cls := .type "tuple", data := .seq us.toArray }).push (eob C h.objs.size), g, d, t, os⟩) (hl : us.length ≤ sizeLine) :
    codeAny (model prog w) A (.builtin nid ⟨.ref C :: us, []⟩) R ⟨h, g, d, t, os⟩ := by
  have c0 := F.ends
  have c1 : (Value.ref C :: ml).contains (.type Bn) = true := by
    rw [List.contains_cons, hb, Bool.or_true]
  have c2 : (Value.ref C :: ml).contains (.type "AttributeError") = false := by
    rw [List.contains_cons, ha]; rfl
  have c3 : (Value.ref C :: ml).contains (.type "NameError") = false := by
    rw [List.contains_cons, hn]; rfl
  have hrest : us.length ≤ sizeLine := hl
  refine codeAny_builtinAt F.entry ?_
  unfold Builtin.«BaseException.__new__»
  refine PySem.wpAt_bind ?_
  show PySem.wpAt _ _ _ (stack >>= _) _ _ _
  refine PySem.wpAt_bind (PySem.wpAt_stack fun p under => PySem.wpAt_of_wpAny ?_)
  wp_walk
  refine PySem.wpAt_of_wpAny ?_
  rw [F.owner]
  repeat (first
    | with_reducible refine wpAny_madeHere_exc F.canon oC ?_
    | with_reducible refine wpAny_loadPart_at oC ?_
    | (with_reducible refine wpAny_isSubtype_exc oC ?_; first | rw [c1] | rw [c2] | rw [c3])
    | wp_step)
  show R _ _
  rw [Heap.size_push]
  exact hq
theorem run_type_call (Y : Base B nid iid ml) {us : List Value} {fI : Addr} {Q : Fin → Shared → Prop}
    (oC : h.get? C = some (excClassObj nm q C N bs ml hy sn sub ab col dd k0 k1 k2 k3 k5 nid))
    (hi : W.Looks (model prog w) h (typeLookup (.ref C) "__init__") (some (.ref fI))) (hf : ∀ self, W.Looks (model prog w) h (bindSpecial (.ref fI) self) (.ref fI, [self])) (hl : us.length ≤ sizeLine)
    (hq : codeAny (model prog w) A (.call (.ref fI) ⟨.ref (h.objs.size + 1) :: us, []⟩)
      (fun r s' => match r with | .ok (.ret v) => v = .none ∧ Q (.done (.ret (.ref (h.objs.size + 1)))) s' | .ok _ => False | .error e => E e s')
      ⟨(h.push (W.kdv_tup us)).push (eob C h.objs.size), g, d, t, os⟩) :
    wpAny (model prog w) A (Builtin.«type.__call__» ⟨.ref C :: us, []⟩) Q E ⟨h, g, d, t, os⟩ := by
  obtain ⟨Bn, inN, mN, F, hb⟩ := Y.mak
  repeat (first
    | with_reducible refine wpAny_loadPart_at oC ?_
    | with_reducible refine wpAny_madeBy_exc oC ?_
    | wp_step)
  refine codeAny_call_builtin_code (Code.quiet_builtin _ F.quiet) (look_new F hb oC ?_)
  refine run_new F hb Y.noA Y.noN oC ?_ hl
  show wpAny _ _ _ _ _ _
  have k : ∀ b o, h.get? b = some o → ((h.push (W.kdv_tup us)).push (eob C h.objs.size)).get? b = some o :=
    fun b o e => Heap.get?_push_of_some _ (Heap.get?_push_of_some _ e)
  have oC1 := k _ _ oC
  have hg1 : ((h.push (W.kdv_tup us)).push (eob C h.objs.size)).get? (h.objs.size + 1) = some (eob C h.objs.size) := by
    heap_get
  have cC : (Value.ref C :: ml).contains (.ref C) = true := by simp
  have i1 := hi.keeps k
  have b1 := (hf (.ref (h.objs.size + 1))).keeps k
  unfold isInstance
  repeat (first
    | with_reducible refine wpAny_loadPart_at hg1 ?_
    | (with_reducible refine wpAny_isSubtype_exc oC1 ?_; rw [cC])
    | wp_step)
  show wpAny _ _ (typeLookup (.ref C) _) _ _ _
  refine i1.at ?_
  refine wpAny_holding (wpAny_bind (b1.at ?_))
  refine wpAny_bind (wpAny_call (codeAny_mono hq fun r s' z => ?_))
  rcases r with e | (v | _ | _ | _)
  all_goals first
    | exact z
    | exact z.elim
    | skip
  obtain ⟨rfl, z⟩ := z
  first
    | exact wpAny_pure (wpAny_pure z)
    | (wp_walk; exact z)
/-- C(..), C's own __init__ -/
theorem run_call (Y : Base B nid iid ml) {us : List Value} {fI : Addr}
    (oC : h.get? C = some (excClassObj nm q C N bs ml hy sn sub ab col dd k0 k1 k2 k3 k5 nid))
    (hi : W.Looks (model prog w) h (typeLookup (.ref C) "__init__") (some (.ref fI))) (hf : ∀ self, W.Looks (model prog w) h (bindSpecial (.ref fI) self) (.ref fI, [self])) (hl : us.length ≤ sizeLine)
    (hq : codeAny (model prog w) (A.under (.builtin "type.__call__" ⟨.ref C :: us, []⟩)) (.call (.ref fI) ⟨.ref (h.objs.size + 1) :: us, []⟩) (W.InitBack (h.objs.size + 1) R)
      ⟨(h.push (W.kdv_tup us)).push (eob C h.objs.size), g, d, t, os⟩) :
    codeAny (model prog w) A (.call (.ref C) ⟨us, []⟩) R ⟨h, g, d, t, os⟩ := by
  have f1 := tc_lookup
  have f2 := tc_bind (.ref C)
  have hTy : (⟨h, g, d, t, os⟩ : Shared).TypeIs (.ref C) "type" := ⟨_, oC, rfl⟩
  refine codeAny_of_tree ?_
  show wpAny _ _ (callAny (.ref C) _) _ _ _
  repeat (any_goals (first
    | assumption
    | with_reducible refine wpAny_loadPart_at oC ?_
    | wp_step))
  refine ⟨rfl, ?_⟩
  refine codeAny_call_builtin_at (Code.quiet_builtin _ (by decide +kernel)) entry_typeCall (wpAny_check_type_call_sub oC (run_type_call Y oC hi hf hl ?_))
  refine codeAny_mono hq fun r s' z => ?_
  rcases r with e | (v | _ | _ | _) <;> exact z
/-- B.__init__(e, ..) -/
theorem run_init (Y : Base B nid iid ml) {e t0 : Addr} {us : List Value} {nw : String}
    (oC : h.get? C = some (excClassObj nm q C N bs ml hy sn sub ab col dd k0 k1 k2 k3 k5 nw)) (he : h.get? e = some (eob C t0)) (hl : us.length ≤ sizeLine)
    (hq : ∀ h' t1, (∀ b o, b ≠ e → h.get? b = some o → h'.get? b = some o) → h'.get? e = some (eob C t1) → R (.ok (.ret .none)) ⟨h', g, d, t, os⟩) :
    codeAny (model prog w) A (.call (.builtin iid) ⟨.ref e :: us, []⟩) R ⟨h, g, d, t, os⟩ := by
  have hrest : us.length ≤ sizeLine := hl
  refine codeAny_call_builtin Y.iPlain Y.iEntry (look_init Y oC he rfl ?_)
  wp_walk
  refine hq _ h.objs.size (fun b o nb ho => ?_) ?_
  · rw [Heap.get?_update_other _ _ (Ne.symm nb)]
    exact Heap.get?_push_of_some _ ho
  · rw [Heap.get?_update_self _ (Heap.get?_push_of_some _ he) rfl]
    rfl
end
end Ex

namespace Ex
open PySem PySem.Spec PySem.Calls PyProof.Rows L2
/-! ### the five bases -/
abbrev mlI : List Value := [.type "IndexError", .type "LookupError", .type "Exception", .type "BaseException", .type "object"]
abbrev mlK : List Value := [.type "KeyError", .type "LookupError", .type "Exception", .type "BaseException", .type "object"]
abbrev mlO : List Value := [.type "OverflowError", .type "ArithmeticError", .type "Exception", .type "BaseException", .type "object"]
abbrev mlA : List Value := [.type "ArithmeticError", .type "Exception", .type "BaseException", .type "object"]
abbrev mlL : List Value := [.type "LookupError", .type "Exception", .type "BaseException", .type "object"]
theorem bI : Base "IndexError" "IndexError.__new__" "IndexError.__init__" mlI :=
  base_of F.excBase_IndexError (by decide +kernel) fun self => by kernel_rfl
theorem bO : Base "OverflowError" "OverflowError.__new__" "OverflowError.__init__" mlO :=
  base_of F.excBase_OverflowError (by decide +kernel) fun self => by kernel_rfl
theorem bA : Base "ArithmeticError" "ArithmeticError.__new__" "ArithmeticError.__init__" mlA :=
  base_of F.excBase_ArithmeticError (by decide +kernel) fun self => by kernel_rfl
theorem bL : Base "LookupError" "LookupError.__new__" "LookupError.__init__" mlL :=
  base_of F.excBase_LookupError (by decide +kernel) fun self => by kernel_rfl
theorem bK : Base "KeyError" "LookupError.__new__" "KeyError.__init__" mlK where
  mak := ⟨_, _, _, F.excBase_LookupError, by decide +kernel⟩
  noA := by decide +kernel
  noN := by decide +kernel
  hasB := by decide +kernel
  hasO := by decide +kernel
  pass := fun self => by kernel_rfl
  iPlain := by decide +kernel
  iEntry := excClass_KeyError.initEntry
  iSplit := by kernel_rfl
  iKind := by kernel_rfl
  iRow := by kernel_rfl
  star := by decide +kernel

section
open Builtin Builtin.ObjectAttr
variable {prog : Program} {w : World} {A : Around} {E : Value → Shared → Prop} {R : Result → Shared → Prop} {hp : Heap} {g : Array GenState} {d : Drawn} {t : Nat} {os : OsState}
/-- self.name = v on an exception without a dict -/
theorem osa_first {K : W.Frag} {name : Str} {tk : Tok} {v : Value} {x C : Addr} {fv : Array Value} {cd : ClassData} {B nid iid : String} {ml : List Value} (Y : Base B nid iid ml)
    (X : K.In hp) (hx : hp.get? x = some { cls := .ref C, data := .fields fv }) (hcd : W.clsIn K C = some cd) (hm : cd.mro = .ref C :: ml) (hh : cd.hasDict = true) (ha : W.findIn K (.ref C) name = some none)
    (hq : ∀ h' tk' dx, (∀ b o, b ≠ x → hp.get? b = some o → h'.get? b = some o) → hp.objs.size ≤ dx → dx ≠ x → h'.get? x = some { cls := .ref C, dict := some dx, data := .fields fv } →
      h'.Ns1 dx (fun y => if y = name then some v else none) → R (.ok (.ret .none)) ⟨h', g, d, tk', os⟩) :
    codeAny (model prog w) A (.call (.builtin "object.__setattr__") ⟨[.ref x, .str name tk, v], []⟩) R ⟨hp, g, d, t, os⟩ := by
  have J : W.InstAt hp x { cls := .ref C, data := .fields fv } C none := ⟨hx, rfl, rfl, trivial⟩
  have SF := F.store_object
  have ne : cd.mro.isEmpty = false := by rw [hm]; rfl
  have hob : cd.mro.contains (.type "object") = true := by
    rw [hm, List.contains_cons, Y.hasO, Bool.or_true]
  have hxs : x ≠ hp.objs.size := Nat.ne_of_lt (Heap.lt_size hx)
  have sub : W.Looks (model prog w) hp (isInstance (.ref x) (.type "object")) true :=
    J.type.andThen (W.looks_mroIn X (by unfold W.mroIn; rw [hcd, Option.bind_some, if_neg (by rw [ne]; decide), hob]))
  refine codeAny_call_builtin SF.slot.plain SF.entry
    (@W.check_slot (model prog w) _ _ ⟨hp, g, d, t, os⟩ "object.__setattr__" "object" "__setattr__" (.ref x) [.str name tk, v] [] _ SF.kind SF.split sub (SF.args (.ref x) (.str name tk) v) ?_)
  have l1 : W.Looks (model prog w) hp (mroOf (.ref C)) cd.mro := (W.looks_clsIn X hcd).andThen .now
  have l2 : W.Looks (model prog w) hp (storeTaker? none) none := .now
  have l3 : W.Looks (model prog w) hp (classData C) cd := W.looks_clsIn X hcd
  rw [W.osa_eq,
    refuse_eq]
  refine wpAny_bind (wpAny_bind (J.type.at (wpAny_bind (l1.at ?_))))
  rw [hm, refuseLoop_ref, Y.pass]
  refine wpAny_pure (wpAny_bind (J.type.at (wpAny_bind ((W.looks_findIn X ha).at (wpAny_bind (l2.at ?_))))))
  show wpAny _ _ (storeInOwnDict (.ref x) (.ref C) (.str name tk) name v false) _ _ _
  obtain ⟨nm, bs, mr, ns, qn, hd, sn, sb, ab, col, del⟩ := cd
  dsimp only at hh
  subst hh
  unfold storeInOwnDict ownDictForStores
  repeat (first
    | with_reducible refine HandSPX.store_in_new ?_ ?_
    | with_reducible refine wpAny_loadPart_at hx ?_
    | with_reducible refine l3.at ?_
    | wp_step)
  · exact ⟨_, #[], _, (Heap.get?_update_ne _ _ _ _ hxs.symm).trans (Heap.get?_push_at rfl rfl), rfl, fun e he => absurd he (by simp), fun _ => rfl⟩
  · intro h' tk' hn' hs
    have hx1 : (hp.push { cls := .type "dict", data := .dict #[] }).get? x = some { cls := .ref C, data := .fields fv } :=
      Heap.get?_push_of_some _ hx
    refine hq h' tk' hp.objs.size (fun b o hb ho => ?_) (Nat.le_refl _) hxs.symm ?_ hn'
    · exact (hs.2 b (Nat.ne_of_lt (Heap.lt_size ho))).trans
        ((Heap.get?_update_ne _ _ _ _ hb).trans (Heap.get?_push_of_some _ ho))
    · exact (hs.2 x hxs).trans (Heap.get?_update_self _ hx1 rfl)
end

/-! ### what the written part says of a class with its own __init__ that keeps one field f -/
structure XC (K : PySem.W.Frag) (C : Addr) (nid : String) (ml : List Value) (f : Str) (fI : Addr) : Prop where
  cls : ∃ nm q N bs sn sub ab col dd k0 k1 k2 k3 k5, K.lookup C = some (excClassObj nm q C N bs ml true sn sub ab col dd k0 k1 k2 k3 k5 nid)
  sa : PySem.W.findIn K (.ref C) "__setattr__" = some (some (.builtin "object.__setattr__"))
  ga : PySem.W.findIn K (.ref C) "__getattribute__" = some (some (.builtin "BaseException.__getattribute__"))
  gg : PySem.W.findIn K (.ref C) "__getattr__" = some none
  noF : PySem.W.findIn K (.ref C) f = some none
  iC : PySem.W.findIn K (.ref C) "__init__" = some (some (.ref fI))
  tI : PySem.W.typeIn K (.ref fI) = some (.type "function")
  kC : PySem.W.keepIn K (.ref C) = true
  exC : PySem.W.subIn K (.ref C) (.type "BaseException") = some true
  tyC : PySem.W.typeIn K (.ref C) = some (.type "type")
  hdC : PySem.W.hasDictIn K C = true
/-- what isinstance asks of an exception class -/
structure IC (K : PySem.W.Frag) (C : Addr) : Prop where
  cl : (PySem.W.clsIn K C).isSome = true
  ga : PySem.W.findIn K (.ref C) "__getattribute__" = some (some (.builtin "BaseException.__getattribute__"))
  gg : PySem.W.findIn K (.ref C) "__getattr__" = some none
  sub : PySem.W.subIn K (.ref C) (.type "BaseException") = some true
  kl : PySem.W.findIn K (.ref C) "__class__" = some (some (.builtin "object.__class__"))
  gt : PySem.W.specialIn K (.builtin "object.__class__") "__get__" = some (some (.builtin "getset_descriptor.__get__"))
  tk : PySem.W.takesIn K (.builtin "object.__class__") = some true
  mo : PySem.W.mroIn K C (.type "object") = some true

/-- at e: an exception of the class at C that keeps v as f -/
def ExcAt (H : Hp) (e C : Addr) (f : Str) (v : V) : Prop := ∃ dx, H e = some (exo e C (some dx)) ∧ H dx = some (exd dx [(f, v)])

section
variable {X : Cx} {pins : List (Addr × Obj)} {σ : L2.St} {H : Hp} {s : Shared} {a C dx fI : Addr} {f : Str} {y : V} {u : Value} {Q : Unit → Shared → Prop} {E : Value → Shared → Prop} {A : Around} {B nid iid : String} {ml : List Value}
theorem cls_data (T : XC X.K C nid ml f fI) : ∃ cd, PySem.W.clsIn X.K C = some cd ∧ cd.mro = .ref C :: ml ∧ cd.hasDict = true := by
  obtain ⟨nm, q, N, bs, sn, sub, ab, col, dd, k0, k1, k2, k3, k5, hC⟩ := T.cls
  have e : PySem.W.clsIn X.K C = some { name := nm, bases := bs, mro := .ref C :: ml, ns := N, qualname := q, hasDict := true, slotNames := sn, subclasses := sub, abstract := ab, collection := col, hasDel := false } := by
    unfold PySem.W.clsIn
    rw [hC] <;> rfl
  exact ⟨_, e, rfl, rfl⟩
/-- self.f = y, the first one -/
theorem ost_first (Y : Base B nid iid ml) (T : XC X.K C nid ml f fI) (I : Inv X pins σ H s) (e : H a = some (exo a C none)) (ry : RelV y u)
    (h : ∀ dx s', H dx = none → dx ≠ a → Inv X pins σ (upd (upd H dx (exd dx [(f, y)])) a (exo a C (some dx))) s' → Q () s') : wpAny (model X.prog X.w) A (setAttr (.ref a) f u) Q E s := by
  obtain ⟨cd, hcl, hm, hh⟩ := cls_data T
  obtain ⟨t1, ho⟩ := exo_at I.hok e
  obtain ⟨hp, g, d, t, os⟩ := s
  refine PySem.W.set_plain I.kIn (ox := { cls := .ref C, dict := none, data := .fields #[.ref t1, .none, .none, .none, .bool false, .none] }) (od := none) ⟨ho, rfl, rfl, trivial⟩ T.sa ?_
  refine osa_first Y I.kIn ho hcl hm hh T.noF (fun h' tk' dx k dn dne hx hn => ?_)
  have hnd : H dx = none := I.hok.fresh dn
  have nd : ∀ {b : Addr} {o : Obj}, hp.get? b = some o → b ≠ dx :=
    fun {b o} q => Nat.ne_of_lt (Nat.lt_of_lt_of_le (Heap.lt_size q) dn)
  have na : ∀ {b : Addr}, H b = none → b ≠ a := fun {b} n z => by
    rw [z, e] at n
    cases n
  have U1 : Un X.fs [] H (upd (upd H dx (exd dx [(f, y)])) a (exo a C (some dx))) hp h' := {
    keep := fun b o q n _ _ => k b o (na n) q
    slot := fun b o q n _ _ => ⟨o.slots, k b o (na n) q⟩
    free := fun b o q n _ => by
      rw [upd_ne (na n), upd_ne (nd q)]
      exact n
    there := fun b o q _ => by
      by_cases hb : b = a
      · exact ⟨_, by rw [hb]; exact hx⟩
      · exact ⟨o, k b o hb q⟩
    tups := fun b xs q => by
      rw [upd_ne (at_ne e q exo_tup), upd_ne (ne_of_none q hnd)]
      exact q
    frzs := fun b o v q => by
      rw [upd_ne (at_ne e q exo_frz), upd_ne (ne_of_none q hnd)]
      exact q
    tbls := fun b ps q => ⟨#[], by
      rw [upd_ne (at_ne e q exo_tbl), upd_ne (ne_of_none q hnd), q]
      simp⟩ }
  refine h dx _ hnd dne (I.un (t' := tk') U1 fun b o q => ?_)
  by_cases hb : b = a
  · subst hb
    rw [upd_same] at q
    cases q
    exact exo_ok hx
  · rw [upd_ne hb] at q
    by_cases hd : b = dx
    · subst hd
      rw [upd_same] at q
      cases q
      exact exd_ok hn (relO_put (fs := []) ry fun g => True.intro)
    · rw [upd_ne hd] at q
      refine (I.hok b o q).stay (fun c v hc r => k c v ?_ r) (fun c hc => ?_) fun c xs hc => ?_
      · rcases hc with z | z
        · rw [z]
          exact hb
        · exact at_ne e z exo_own
      · rw [upd_ne (at_ne e hc exo_own), upd_ne (ne_of_none hc hnd)]
        exact hc
      · rw [upd_ne (at_ne e hc exo_tup), upd_ne (ne_of_none hc hnd)]
        exact hc
/-- B.__init__(self, ..): the args are laid anew, nothing else -/
theorem binit_ok {us : List Value} {Q : Value → Shared → Prop} (Y : Base B nid iid ml) (T : XC X.K C nid ml f fI) (I : Inv X pins σ H s) (e : H a = some (exo a C none)) (hl : us.length ≤ sizeLine) (h : ∀ s', Inv X pins σ H s' → Q .none s') :
    wpAny (model X.prog X.w) A (call (.builtin iid) (.ref a :: us)) Q E s := by
  obtain ⟨nm, q, N, bs, sn, sub, ab, col, dd, k0, k1, k2, k3, k5, hC⟩ := T.cls
  obtain ⟨t1, ho⟩ := exo_at I.hok e
  obtain ⟨hp, g, d, t, os⟩ := s
  refine wpAny_call (run_init Y (I.kIn _ _ hC) ho hl fun h' t2 k hx => ?_)
  have J := I.write (t' := t) (x := a) (e := a) (o := exo a C none) (by rw [e]; exact True.intro) (.inl rfl) k ⟨_, hx⟩ (exo_ok hx)
  have eu : upd H a (exo a C none) = H := by
    funext b
    by_cases hb : b = a
    · rw [hb, upd_same, e]
    · rw [upd_ne hb]
  rw [eu] at J
  exact h _ J
end
end Ex

namespace Ex
open PySem PySem.Spec PySem.Calls PyProof.Rows L2
/-! ### readings -/
/-- B.__init__(self, ..) -/
def tBI (C : Addr) (ta : TA) : TE := fun σ H Q => ta σ H fun vs H1 => ∃ (a : Addr) (ws : List V), vs = .ref a :: ws ∧ ws.length ≤ 1000 ∧ H1 a = some (exo a C none) ∧ Q .non H1
/-- self.f = e -/
def tXst (C : Addr) (f : Str) (to te : TE) : TS := fun D σ H => te σ H fun y H1 => to σ H1 fun x H2 => ∃ a : Addr, x = .ref a ∧ H2 a = some (exo a C none) ∧
  ∀ dx, H2 dx = none → dx ≠ a → D.nx σ (upd (upd H2 dx (exd dx [(f, y)])) a (exo a C (some dx)))
/-- C(e, ..), a value -/
def tXmk (C : Addr) (sp : Sp) (ta : TA) : TE := fun σ H Q => ta σ H fun vs H1 => vs.length ≤ 1000 ∧ ∀ a, H1 a = none → sp (.ref a :: vs) (upd H1 a (exo a C none)) (fun v H2 => v = .non ∧ Q (.ref a) H2) (fun _ _ _ => False)
/-- o.f of such an exception -/
def tXfld (C : Addr) (f : Str) (to : TE) : TE := fun σ H Q => to σ H fun x H1 => ∃ (a : Addr) (v : V), x = .ref a ∧ ExcAt H1 a C f v ∧ Q v H1
/-- isinstance(e, c), e an exception that is tracked -/
inductive IsEx (K : PySem.W.Frag) (H : Hp) : Addr → Addr → Prop where
  | own {a C dx : Addr} {fs : List (Str × V)} (h : H a = some (exo a C (some dx))) (hd : H dx = some (exd dx fs)) : IsEx K H a C
  | msg {a C : Addr} (h : H a = some (ExO (.ref C) a)) : IsEx K H a C
def rIE (K : PySem.W.Frag) : List V → Hp → VK → Prop := fun xs H Q => ∃ (a C : Addr) (c : V) (u : Value) (b : Bool), xs = [.ref a, c] ∧ ClsV c u ∧ IC K C ∧ IsEx K H a C ∧ PySem.W.kitOne K (.ref C) u = some b ∧ Q (.bl b) H
section
variable {X : Cx} {o e : Expr} {es : List Expr} {to te : TE} {ta : TA} {f : Str} {p p' p1 p2 pos : Pos} {C fI : Addr} {B nid iid : String} {ml : List Value}
theorem pe_binit {pl : Sem Bool} {n : Str} (Y : Base B nid iid ml) (T : XC X.K C nid ml f fI) (hg : Gl X n) (hm : X.mg n = none) (hv : bootBuiltins n = some (.type B)) (ht : typeOf (.type B) = pure (.type "type")) (hs : Manifest.isStub B = false) (hh : PySem.W.handedIn (.builtin iid) = true)
    (vV : PySem.W.findCls X.K (.type B) (.type "type") "__init__" = some (.val (.builtin iid))) (ha : PA X (e :: es) ta)
    (hn : n ≠ "__name__" := by decide) (hd : (n == ("__debug__" : Str)) = false := by decide)
    (hc : eval (.Call (.Attribute (.Name n p1) "__init__" p2) (e :: es) [] pos) X.env = (do
      let ov ← eval (.Name n p1) X.env
      standAt p2.atName
      let (f, first) ← holding [ov] (getMethod ov "__init__" pl)
      callWith pos f first (backTo pos (starEach (e :: es) X.env)) (backToKw pos (keywordEach [] X.env))) := by rfl)
    (he : starEach (e :: es) X.env = (false, eval e X.env) :: starEach es X.env := by rfl) (hpl : (backTo pos (starEach es X.env)).any (·.1) = false := by rfl) :
    PE X (.Call (.Attribute (.Name n p1) "__init__" p2) (e :: es) [] pos) (tBI C ta) := by
  refine ⟨fun pins s σ H Q I h => ?_⟩
  refine PySem.W.methodCall_KW (ld_blt I hg hm hv ?_ hn hd) hc
  obtain ⟨m, fr⟩ := I.fr
  refine PySem.W.method_type fr I.ok.mod.kin ht hs vV hh ?_
  show wpAny _ _ (callWith pos (Value.builtin iid) [] (backTo pos (starEach (e :: es) X.env)) []) _ _ _
  refine PyProof.Rows.callWith_method1 (thn (ha.run pos pins _ σ H _ (I.tok _) h) fun us s1 hx => ?_) he hpl
  obtain ⟨vs, H1, I1, r1, a, ws, ev, hl, ea, q⟩ := hx
  subst ev
  cases r1 with
  | @cons _ u0 _ ur ra rw' =>
    obtain rfl : u0 = Value.ref a := ra
    have hlen : ur.length ≤ sizeLine := by
      rw [← Paired.length rw', sizeLine_eq]
      omega
    exact binit_ok Y T I1 ea hlen fun s' J => ⟨.non, H1, J, rfl, q⟩
theorem ps_xst (Y : Base B nid iid ml) (T : XC X.K C nid ml f fI) (ho : PE X o to) (he : PE X e te) (hs : swapsWith e (some (.Attribute o f p')) pos.line X.env = pure false := by rfl) : PS X (.Assign [.Attribute o f p'] e pos) (tXst C f to te) := by
  refine ⟨fun pins s σ H D I h => ?_⟩
  refine plainObj_wpAny_Assign_Attribute (thn (he.run pins s σ H _ I h) fun v s1 h1 => ?_) hs
  obtain ⟨y, H1, I1, r1, q1⟩ := h1
  refine thn (ho.run pins s1 σ H1 _ I1 q1) fun u s2 h2 => ?_
  obtain ⟨x, H2, I2, r2, a, ex, ea, q⟩ := h2
  subst ex
  obtain rfl : u = Value.ref a := r2
  exact ost_first Y T I2 ea r1 fun dx s' n ne J => ⟨σ, _, J, q dx n ne⟩
theorem pe_xmk {x : Str} {CX : CXT} {k : Nat} {fd : FuncData} {ps : List Str} {sp : Sp} (Y : Base B nid iid ml) (T : XC X.K C nid ml f fI) (F : FnOk X.prog X.w X.K X.mg X.base CX k fI fd ps sp) (hr : Room (k + 1) X.A) (hb : Binds X.K fd ps []) (hx : Passes CX X (fun _ _ _ => False))
    (hg : Gl X x) (hm : X.mg x = some (.ref C)) (ha : PA X (e :: es) ta)
    (hdb : (x == ("__debug__" : Str)) = false := by decide) (he : starEach (e :: es) X.env = (false, eval e X.env) :: starEach es X.env := by rfl) (hpl : (backTo pos (starEach es X.env)).any (·.1) = false := by rfl) :
    PE X (.Call (.Name x p) (e :: es) [] pos) (tXmk C sp ta) := by
  refine ⟨fun pins s σ H Q I h => ?_⟩
  obtain ⟨nm, q, N, bs, sn, sub, ab, col, dd, k0, k1, k2, k3, k5, hC⟩ := T.cls
  refine wpAny_Call_Name_kw (ld_glob I hg hm ?_ hdb)
  refine PySem.W.callWith_K (h₀ := X.base) I.ok.mod.kin T.kC (thn (ha.run pos pins s σ H _ I h) fun us s1 h1 => ?_) he hpl
  obtain ⟨vs, H1, I1, r1, hz, q1⟩ := h1
  refine ⟨I1.kIn, ?_⟩
  show wpAny _ _ (call (.ref C) us) _ _ _
  obtain ⟨hp, g, dr, tk, os⟩ := s1
  have hsz : hp.objs.size ≤ hp.objs.size + 1 := Nat.le_succ _
  have hn : H1 (hp.objs.size + 1) = none := I1.hok.fresh hsz
  have hq := q1 (hp.objs.size + 1) hn
  have kk : ∀ b o, hp.get? b = some o → ((hp.push (PySem.W.kdv_tup us)).push (eob C hp.objs.size)).get? b = some o :=
    fun b o e => Heap.get?_push_of_some _ (Heap.get?_push_of_some _ e)
  have hget : ((hp.push (PySem.W.kdv_tup us)).push (eob C hp.objs.size)).get? (hp.objs.size + 1) = some (eob C hp.objs.size) := by
    heap_get
  have I2 : Inv X pins σ (upd H1 (hp.objs.size + 1) (exo (hp.objs.size + 1) C none)) ⟨(hp.push (PySem.W.kdv_tup us)).push (eob C hp.objs.size), g, dr, tk, os⟩ :=
    I1.laid (t' := tk) (a := hp.objs.size + 1) (o := exo (hp.objs.size + 1) C none) (h' := (hp.push (PySem.W.kdv_tup us)).push (eob C hp.objs.size)) kk hsz (exo_ok hget)
  have r2 : Vals (V.ref (hp.objs.size + 1) :: vs) (Value.ref (hp.objs.size + 1) :: us) := .cons rfl r1
  have hl : (Value.ref (hp.objs.size + 1) :: us).length = ps.length := by
    have e := r2.length
    rw [F.len _ _ _ _ hq] at e
    exact e.symm
  have hus : us.length ≤ sizeLine := by
    rw [← Paired.length r1, sizeLine_eq]
    omega
  have hbb := hb (⟨(hp.push (PySem.W.kdv_tup us)).push (eob C hp.objs.size), g, dr, tk, os⟩ : Shared) (Value.ref (hp.objs.size + 1) :: us) I2.kIn (by rw [List.append_nil]; exact hl)
  rw [List.append_nil] at hbb
  refine wpAny_call (run_call Y (I1.kIn _ _ hC) (PySem.W.looks_findIn I1.kIn T.iC) (fun self => PySem.W.bind_fn I1.kIn self T.tI) hus
    (codeAny_mono (F.run _ X.stack _ _ ⟨Value.ref (hp.objs.size + 1) :: us, []⟩ (Value.ref (hp.objs.size + 1) :: us) _ _ (fun _ _ _ => False) (hr.make C us []) (I2.env0.make C us []) hbb r2 hq) fun r s' hq' => ?_))
  cases r with
  | error er => exact hx pins σ _ _ er s' I2 hq'
  | ok fl =>
    cases fl with
    | ret u =>
      obtain ⟨v, H2, I3, rv, ev, q3⟩ := I2.after hq'
      subst ev
      exact ⟨rv, ⟨V.ref (hp.objs.size + 1), H2, I3, rfl, q3⟩⟩
    | next => exact False.elim hq'
    | brk => exact False.elim hq'
    | cont => exact False.elim hq'
theorem pe_xfld (T : XC X.K C nid ml f fI) (ho : PE X o to) (hb : attributeBase o f X.env (eval o X.env) = eval o X.env := by rfl) : PE X (.Attribute o f pos) (tXfld C f to) := by
  refine ⟨fun pins s σ H Q I h => ?_⟩
  refine attr_of hb (thn (ho.run pins s σ H _ I h) fun u s1 hh => ?_)
  obtain ⟨x, H1, I1, rx, a, v, ex, ⟨dx, ea, ed⟩, q⟩ := hh
  subst ex
  obtain rfl : u = Value.ref a := rx
  obtain ⟨t1, hx⟩ := exo_at I1.hok ea
  obtain ⟨mA, hns, rel⟩ := exd_at I1.hok ed
  obtain ⟨od, hod, hl⟩ := lookIn_ns hns
  have l : List.lookup f [(f, v)] = some v := by simp [List.lookup]
  obtain ⟨u, hu, ru⟩ := RelO.some_of (v := v) (o := mA f) (by rw [← l]; exact rel f)
  have J : PySem.W.InstAt s1.heap a { cls := .ref C, dict := some dx, data := .fields #[.ref t1, .none, .none, .none, .bool false, .none] } C (some od) := ⟨hx, rfl, rfl, hod⟩
  exact HandSPX.exc_get I1.kIn J T.ga T.gg T.exC (PySem.W.findObj_own T.hdC T.noF rfl (by rw [hl, hu])) (handed_of ru) ⟨v, H1, I1.tok _, ru, q⟩
theorem call_isX : CallR X (.builtin "isinstance") (rIE X.K) := by
  intro pins s σ H xs us Q I r h
  obtain ⟨a, C, c, cv, b, rfl, hc, T, hx, e, q⟩ := h
  obtain ⟨u1, u2, rfl, r1, r2⟩ := vals2 r
  have e2 := hc.eq r2
  subst e2
  obtain rfl : u1 = Value.ref a := r1
  have fin : ∀ {ox : Obj} {od : Option Obj}, PySem.W.InstAt s.heap a ox C od → wpAny (model X.prog X.w) X.A (call (.builtin "isinstance") [.ref a, u2]) (EP X pins σ Q) X.xe s := fun J =>
    PySem.W.kia_one (PySem.W.kitx_exc T.cl T.ga T.gg T.sub T.kl T.gt T.tk T.mo) I.kIn J e (fun z => nomatch z) fun tk => ⟨.bl b, H, I.tok tk, rfl, q⟩
  cases hx with
  | @own dx fs ea ed =>
    obtain ⟨t1, ho⟩ := exo_at I.hok ea
    obtain ⟨mA, hns, rel⟩ := exd_at I.hok ed
    obtain ⟨od, hod, hl⟩ := lookIn_ns hns
    exact fin (ox := { cls := .ref C, dict := some dx, data := .fields #[.ref t1, .none, .none, .none, .bool false, .none] }) (od := some od) ⟨ho, rfl, rfl, hod⟩
  | msg ea =>
    have z : ObjOk X.prog X.w H s.heap a (ExO (.ref C) a) := I.hok a _ ea
    obtain ⟨⟨oe, vs, ho, hz, hd, _⟩, _⟩ := z
    have J : PySem.W.InstAt s.heap a oe C none := by
      obtain ⟨oc, od, oda, osl⟩ := oe
      obtain ⟨h1, h2⟩ := hz
      dsimp only at h1 h2 hd
      subst h1 h2 hd
      exact ⟨ho, rfl, rfl, trivial⟩
    exact fin J
end
end Ex

/-! repr of data at any depth; defs that are called where no repr runs. -/
namespace Rp
open PySem PySem.Spec PySem.Calls PyProof.Rows L2
def kD : Key → PyData
  | .inl i => .int i
  | .inr x => .str x
mutual
/-- v is data, told by d: lists, tuples, dicts with int and text keys -/
inductive Dt (K : PySem.W.Frag) (H : Hp) : V → PyData → Prop
  | non : Dt K H .non .none
  | bl (b : Bool) : Dt K H (.bl b) (.bool b)
  | int (i : Int) : Dt K H (.int i) (.int i)
  | str (x : Str) : Dt K H (.str x) (.str x)
  | lst {a : Addr} {xs : List V} {ds : List PyData} : SqL K H a xs → DtAll K H xs ds → Dt K H (.ref a) (.list ds)
  | tup {a : Addr} {xs : List V} {ds : List PyData} : SqT K H a xs → DtAll K H xs ds → Dt K H (.ref a) (.tuple ds)
  | dic {a : Addr} {kvs : List (Key × V)} {ds : List (PyData × PyData)} : H a = some (.dK kvs) → DtKv K H kvs ds → Dt K H (.ref a) (.dict ds)
inductive DtAll (K : PySem.W.Frag) (H : Hp) : List V → List PyData → Prop
  | nil : DtAll K H [] []
  | cons {v : V} {vs : List V} {d : PyData} {ds : List PyData} : Dt K H v d → DtAll K H vs ds → DtAll K H (v :: vs) (d :: ds)
inductive DtKv (K : PySem.W.Frag) (H : Hp) : List (Key × V) → List (PyData × PyData) → Prop
  | nil : DtKv K H [] []
  | cons {k : Key} {v : V} {kvs : List (Key × V)} {d : PyData} {ds : List (PyData × PyData)} : Dt K H v d → DtKv K H kvs ds → DtKv K H ((k, v) :: kvs) ((kD k, d) :: ds)
end
/-- the written part shows the dict of the modules -/
def SysD (K : PySem.W.Frag) : Prop := ∃ o, K.lookup sysModules = some o ∧ o.cls = .type "dict"
section
variable {X : Cx} {pins : List (Addr × Obj)} {σ : L2.St} {H : Hp} {s : Shared}
theorem key_reads {h : Heap} {P : Program} {w : World} {k : Key} {v : Value} (e : (mixKind P w).is k v = true) : Reads h v (kD k) [] := by
  rcases keyIs_shape (k := k) (v := v) e with ⟨i, t, rfl, rfl⟩ | ⟨x, t, rfl, rfl⟩
  · exact Reads.int i t
  · exact Reads.str x t
mutual
theorem Dt.reads (hk : SysD X.K) (I : Inv X pins σ H s) : ∀ (d : PyData) (v : V) (u : Value), Dt X.K H v d → RelV v u → ∃ as, Reads s.heap u d as ∧ sysModules ∉ as
  | .none, _, _, h, r => by
    cases h
    cases r
    exact ⟨_, Reads.none, by simp⟩
  | .bool b, _, _, h, r => by
    cases h
    cases r
    exact ⟨_, Reads.bool b, by simp⟩
  | .int i, _, _, h, r => by
    cases h
    obtain ⟨t, rfl⟩ := r
    exact ⟨_, Reads.int i t, by simp⟩
  | .str x, _, _, h, r => by
    cases h
    obtain ⟨t, rfl⟩ := r
    exact ⟨_, Reads.str x t, by simp⟩
  | .list ds, _, _, h, r => by
    cases h with
    | lst hs ha =>
      cases r
      obtain ⟨its, rv, ⟨o, n, ho, hc, _, hd⟩, _⟩ := I.list hs
      obtain ⟨as, hr, hn⟩ := Dt.readsAll hk I ds _ its ha rv
      refine ⟨_, Reads.list ho hc hd hr, fun z => ?_⟩
      rcases List.mem_cons.mp z with z | z
      · obtain ⟨ob, lk, oc⟩ := hk
        have e1 := I.kIn _ _ lk
        rw [z, ho] at e1
        cases e1
        rw [hc] at oc
        exact absurd (Value.type.inj oc) (by decide)
      · exact hn z
  | .tuple ds, _, _, h, r => by
    cases h with
    | tup hs ha =>
      cases r
      obtain ⟨its, rv, ⟨o, ho, hc, n, hd⟩, _⟩ := I.tuple hs
      obtain ⟨as, hr, hn⟩ := Dt.readsAll hk I ds _ its ha rv
      exact ⟨_, Reads.tuple ho hc hd hr, hn⟩
  | .dict ds, _, _, h, r => by
    cases h with
    | @dic a kvs _ hs ha =>
      cases r
      obtain ⟨_, hsy, vs, rk, o, es, ep, ho, hx, hd, _, hp, _⟩ := dk_of I.hok hs
      obtain ⟨as, bs, h1, h2, n1, n2⟩ := Dt.readsKv hk I ds kvs vs es.toList ha rk hp
      refine ⟨_, Reads.dict ho hx.1 hd h1 h2, fun z => ?_⟩
      rcases List.mem_append.mp z with z | z
      · rcases List.mem_cons.mp z with z | z
        · rw [← z] at hsy
          simp at hsy
        · exact n1 z
      · exact n2 z
theorem Dt.readsAll (hk : SysD X.K) (I : Inv X pins σ H s) : ∀ (ds : List PyData) (vs : List V) (us : List Value), DtAll X.K H vs ds → Vals vs us → ∃ as, ReadsAll s.heap us ds as ∧ sysModules ∉ as
  | [], _, _, h, r => by
    cases h
    cases r
    exact ⟨_, ReadsAll.nil, by simp⟩
  | d :: ds, _, _, h, r => by
    cases h with
    | cons h1 h2 =>
      cases r with
      | cons r1 r2 =>
        obtain ⟨as, q1, n1⟩ := Dt.reads hk I d _ _ h1 r1
        obtain ⟨bs, q2, n2⟩ := Dt.readsAll hk I ds _ _ h2 r2
        exact ⟨_, ReadsAll.cons q1 q2, fun z => (List.mem_append.mp z).elim n1 n2⟩
theorem Dt.readsKv (hk : SysD X.K) (I : Inv X pins σ H s) : ∀ (ds : List (PyData × PyData)) (kvs : List (Key × V)) (vs : List (Key × Value)) (es : List DictEntry), DtKv X.K H kvs ds → KV kvs vs → Pairs (mixKind X.prog X.w) es vs →
    ∃ as bs, ReadsAll s.heap (es.map (·.key)) (ds.map (·.1)) as ∧ ReadsAll s.heap (es.map (·.val)) (ds.map (·.2)) bs ∧ sysModules ∉ as ∧ sysModules ∉ bs
  | [], _, _, _, h, r, p => by
    cases h
    cases r
    cases p
    exact ⟨_, _, ReadsAll.nil, ReadsAll.nil, by simp, by simp⟩
  | (kd, d) :: ds, _, _, _, h, r, p => by
    cases h with
    | cons h1 h2 =>
      cases r with
      | cons r1 r2 =>
        cases p with
        | cons p1 p2 p3 =>
          obtain ⟨e1, rv⟩ := r1
          obtain ⟨as, q1, n1⟩ := Dt.reads hk I d _ _ h1 rv
          obtain ⟨as', bs', q2, q3, n2, n3⟩ := Dt.readsKv hk I ds _ _ _ h2 r2 p3
          rw [← p2] at q1
          have e1' := e1
          dsimp only at e1'
          rw [← e1'] at p1
          exact ⟨_, _, ReadsAll.cons (key_reads p1) q2, ReadsAll.cons q1 q3, fun z => (List.mem_append.mp z).elim (by simp) n2, fun z => (List.mem_append.mp z).elim n1 n3⟩
end
/-- repr(x), x a list, a tuple or a dict -/
def rRep (K : PySem.W.Frag) : List V → Hp → VK → Prop := fun xs H Q => ∃ (a : Addr) (d : PyData), xs = [.ref a] ∧ Dt K H (.ref a) d ∧ d.showable = true ∧ d.depth ≤ 60 ∧ d.shown.length ≤ sizeLine ∧ Q (.str d.shown) H
theorem call_repr_data (hk : SysD X.K) (hg : X.A.guards = some []) (hu : X.A.units + 64 < cLine) : CallR X (.builtin "repr") (rRep X.K) := by
  intro pins s σ H xs us Q I r h
  obtain ⟨a, d, rfl, hd, hs, hdep, hz, q⟩ := h
  obtain ⟨u, rfl, hr⟩ := vals1 r
  obtain rfl : u = Value.ref a := hr
  obtain ⟨as, rd, hn⟩ := Dt.reads hk I d _ _ hd rfl
  exact repr_of_reads' rd hs (fun _ => hn) hg (by omega) (fun _ _ e => e) (fun h' u tk k => ⟨.str _, H, I.kept (t' := tk) k, ⟨u, rfl⟩, q⟩) hz
end
end Rp

namespace Rp
open PySem PySem.Spec PySem.Calls PyProof.Rows L2
/-- a def's promise, where no repr runs around the call -/
structure FnG (P : Program) (w : World) (K : PySem.W.Frag) (mg : Str → Option Value) (base : Heap) (CX : CXT) (k : Nat) (f : Addr) (fd : FuncData) (ps : List Str) (sp : Sp) : Prop where
  len : ∀ vs H Q E, sp vs H Q E → vs.length = ps.length
  run : ∀ (A : Around) (outer : List Env) (s : Shared) (H : Hp) (args : Args) (us : List Value) (vs : List V) (Q : VK) (E : XK), Room k A → A.guards = some [] →
    Env0 P w K mg base A outer s H → BindsTo s fd args (ps.zip us) → Vals vs us → sp vs H Q E → codeAny (model P w) A (.call (.ref f) args) (CR CX outer P w H s Q E) s
theorem FnG.of {P : Program} {w : World} {K : PySem.W.Frag} {mg : Str → Option Value} {base : Heap} {CX : CXT} {k : Nat} {f : Addr} {fd : FuncData} {ps : List Str} {sp : Sp} (F : FnOk P w K mg base CX k f fd ps sp) : FnG P w K mg base CX k f fd ps sp :=
  ⟨F.len, fun A outer s H args us vs Q E hr _ => F.run A outer s H args us vs Q E hr⟩
theorem fng_of {CX : CXT} {P : Program} {w : World} {K : PySem.W.Frag} {mg : Str → Option Value} {base : Heap} {k : Nat} {f : Addr} {name qual : Str} {params : Arguments} {body : List Stmt} {scope : Scope} {dV kV doc pm cdv ct oc : Value} {an od : Option Addr}
    {osl : Array (Option Value)} {N ps : List Str} {sp : Sp} (lk : K.lookup f = some ⟨oc, od, .func (PySem.W.fnOf name qual params body scope dV kV doc pm an cdv ct), osl⟩) (hcd : PySem.W.codeIn K cdv qual = true) (S : FnScope N ps scope)
    (len : ∀ vs H Q E, sp vs H Q E → vs.length = ps.length)
    (hb : ∀ (A : Around) (outer : List Env) (s : Shared) (H : Hp) (vs : List V) (Q : VK) (E : XK), Room k (A.deeper (envOfC qual scope s.heap.objs.size f cdv)) → (A.deeper (envOfC qual scope s.heap.objs.size f cdv)).guards = some [] → sp vs H Q E →
      ∃ t, PSs (cxOf CX P w K mg base N qual scope f cdv A outer s H E) body t ∧ t { nx := fun _ H' => Q .non H', rt := Q } (start N vs) H) :
    FnG P w K mg base CX (k + 1) f (PySem.W.fnOf name qual params body scope dV kV doc pm an cdv ct) ps sp := by
  refine ⟨len, fun A outer s H args us vs Q E hr hgd e0 bd r hsp => ?_⟩
  have hl := len _ _ _ _ hsp
  have kx : K.In s.heap := e0.mod.kin.keeps fun b o e => (e0.bs b o e).1
  have nl : s.heap.NoLimit := e0.mod.nolimit.keeps fun b o e => (e0.bs b o e).1
  have kd : ∀ y ∈ ps.zip us, scope.names.lookup y.1 = some .local ∨ (scope.names.lookup y.1 = some .cell ∧ ((cellsFrom (s.heap.objs.size + 1) scope.names []).lookup y.1).isSome = true) := by
    intro ⟨n, v⟩ hy
    rcases S.par n (List.of_mem_zip hy).1 with q | q
    · exact .inl q
    · exact .inr ⟨q, PySem.W.cellsFrom_some _ _ _ (.inl q)⟩
  refine codeAny_call_function hr.depth (kx _ _ lk) rfl S.co S.gen rfl (PySem.W.codeRec_of kx hcd) (bd _ _ _ _ ?_)
  refine wpAny_newFunctionEnv_cells S.kind kd fun env he s1 x => ?_
  subst he
  refine ⟨nl.keeps x.toInCall.keep, codeAny_func ?_⟩
  obtain ⟨t, ht, hq⟩ := hb A outer s H vs Q E (hr.deeper _) hgd hsp
  have I : Inv (cxOf CX P w K mg base N qual scope f cdv A outer s H E) [] (start N vs) H s1 := inv_start S hr.hd e0 hl r x
  refine wpAny_mono (ht.run [] s1 (start N vs) H _ I hq) (fun fl s' hs => ?_) fun e s' hs => hs
  have out : ∀ {σ' : L2.St} {H' : Hp} {v : V} {u : Value}, Inv (cxOf CX P w K mg base N qual scope f cdv A outer s H E) [] σ' H' s' → RelV v u → Q v H' → CE outer P w H s Q u s' :=
    fun {σ' H' v u} J rv q => ⟨v, H', J.os, J.bare, J.base, J.hok, rv, q⟩
  cases fl with
  | ret u =>
    obtain ⟨v, σ', H', J, rv, q⟩ := hs
    exact out J rv q
  | next =>
    obtain ⟨σ', H', J, q⟩ := hs
    exact out (v := V.non) (u := Value.none) J rfl q
  | brk =>
    obtain ⟨_, _, _, q⟩ := hs
    exact q.elim
  | cont =>
    obtain ⟨_, _, _, q⟩ := hs
    exact q.elim
section
variable {P : Program} {w : World} {K : PySem.W.Frag} {mg : Str → Option Value} {base : Heap} {x qual : Str} {params : Arguments} {body : List Stmt} {scope : Scope} {dvs : List V} {kws : List (Str × V)} {f : Addr} {fd : FuncData}
theorem FunD.okG {CX : CXT} {N ps : List Str} {k : Nat} {sp : Sp} (F : FunD K x qual params body scope dvs kws f fd) (S : FnScope N ps scope) (len : ∀ vs H Q E, sp vs H Q E → vs.length = ps.length)
    (hb : ∀ (cdv : Value) (A : Around) (outer : List Env) (s : Shared) (H : Hp) (vs : List V) (Q : VK) (E : XK), Room k (A.deeper (envOfC qual scope s.heap.objs.size f cdv)) → (A.deeper (envOfC qual scope s.heap.objs.size f cdv)).guards = some [] → sp vs H Q E →
      ∃ t, PSs (cxOf CX P w K mg base N qual scope f cdv A outer s H E) body t ∧ t { nx := fun _ H' => Q .non H', rt := Q } (start N vs) H) : FnG P w K mg base CX (k + 1) f fd ps sp := by
  obtain ⟨oc, od, dV, kV, doc, pm, an, cdv, ct, osl, rfl, lk, hcd, _, _⟩ := F.ex
  exact fng_of lk hcd S len fun A outer s H vs Q E hr hg hsp => hb cdv A outer s H vs Q E hr hg hsp
end
section
variable {X : Cx} {pins : List (Addr × Obj)} {σ : L2.St} {H : Hp} {s : Shared} {CX : CXT} {k : Nat} {f : Addr} {fd : FuncData} {ps : List Str} {sp : Sp} {E : XK} {x : Str} {p pos : Pos} {e : Expr} {es : List Expr} {t : TA} {ds : List Value} {dvs : List V}
theorem run_fng {Q : VK} {us : List Value} {vs : List V} (F : FnG X.prog X.w X.K X.mg X.base CX k f fd ps sp) (hr : Room k X.A) (hg : X.A.guards = some []) (hb : Binds X.K fd ps ds) (hd : Vals dvs ds) (hx : Passes CX X E)
    (I : Inv X pins σ H s) (r : Vals vs us) (h : sp (vs ++ dvs) H Q E) : wpAny (model X.prog X.w) X.A (call (.ref f) us) (EP X pins σ Q) X.xe s := by
  have r2 : Vals (vs ++ dvs) (us ++ ds) := r.append hd
  have hl : (us ++ ds).length = ps.length := by
    rw [← r2.length]
    exact F.len _ _ _ _ h
  refine wpAny_call (codeAny_mono (F.run X.A X.stack s H ⟨us, []⟩ (us ++ ds) (vs ++ dvs) Q E hr hg I.env0 (hb s us I.kIn hl) r2 h) fun r s' hq => ?_)
  cases r with
  | error e => exact hx pins σ H s e s' I hq
  | ok fl =>
    cases fl with
    | ret u => exact I.after hq
    | next => exact hq.elim
    | brk => exact hq.elim
    | cont => exact hq.elim
theorem pe_callG (F : FnG X.prog X.w X.K X.mg X.base CX k f fd ps sp) (hr : Room k X.A) (hgd : X.A.guards = some []) (hg : Gl X x) (hm : X.mg x = some (.ref f)) (hk : PySem.W.keepIn X.K (.ref f) = true) (hb : Binds X.K fd ps ds) (hd : Vals dvs ds) (hx : Passes CX X E)
    (ha : PA X (e :: es) t) (hdb : (x == ("__debug__" : Str)) = false := by decide) (he : starEach (e :: es) X.env = (false, eval e X.env) :: starEach es X.env := by rfl) (hpl : (backTo pos (starEach es X.env)).any (·.1) = false := by rfl) :
    PE X (.Call (.Name x p) (e :: es) [] pos) (tCall sp dvs E t) := by
  refine ⟨fun pins s σ H Q I h => ?_⟩
  refine wpAny_Call_Name_kw (ld_glob I hg hm ?_ hdb)
  refine PySem.W.callWith_K (h₀ := X.base) I.ok.mod.kin hk (thn (ha.run pos pins s σ H _ I h) fun us s1 h1 => ?_) he hpl
  obtain ⟨vs, H1, I1, r, q⟩ := h1
  exact ⟨I1.kIn, run_fng F hr hgd hb hd hx I1 r q⟩
end
end Rp

namespace Rp
open PySem PySem.Spec PySem.Calls PyProof.Rows L2
/-- the law's call, from a promise that wants no repr around -/
theorem law_callG {P : Program} {w : World} {K : PySem.W.Frag} {mg mb : Str → Option Value} {CX : CXT} {k : Nat} {fa a : Addr} {fd : FuncData} {x : Str} {sp : Sp} {s1 : Shared} {vs : List Value} {ns : List Int}
    (kx : K.In s1.heap) (hns : s1.heap.Ns mainGlobals mg) (hb : s1.heap.Ns builtinsNs mb) (hbb : ∀ x : Str, x ≠ "__name__" → mb x = bootBuiltins x) (nl : s1.heap.NoLimit) (hg : s1.gens = #[])
    (ha : s1.heap.get? a = some { cls := .type "list", data := .seq vs.toArray }) (hi : IntsAre vs ns) (hl : ns.length ≤ sizeLine) (hr : Room k callerA)
    (F : ∀ base : Heap, K.In base → base.Ns mainGlobals mg → FnG P w K mg base CX k fa fd [x] sp) (bd : ∀ (s : Shared) (u : Value), BindsTo s fd ⟨[u], []⟩ [(x, u)])
    (hsp : ∀ H : Hp, Only H → SqL K H a (ns.map V.int) → sp [.ref a] H (fun v _ => v = .bl true) fun _ _ _ => False)
    (hx : ∀ H e s', CX [] H s1 (fun _ _ _ => False) e s' → False) :
    codeAny (model P w) callerA (.call (.ref fa) ⟨[.ref a], []⟩) (fun r s' => r = .ok (.ret (.bool true)) ∧ OldK s1.heap s'.heap ∧ s'.os = s1.os ∧ AllBare s'.gens) s1 := by
  have rv := vals_ints hi
  have ln := hi.length
  have core : ∀ H : Hp, Only H → SqL K H a (ns.map V.int) → HOk P w H s1.heap → (∀ b, H b ≠ none → b = a) → (H a ≠ none → K.lookup a = none) →
      codeAny (model P w) callerA (.call (.ref fa) ⟨[.ref a], []⟩) (fun r s' => r = .ok (.ret (.bool true)) ∧ OldK s1.heap s'.heap ∧ s'.os = s1.os ∧ AllBare s'.gens) s1 := by
    intro H hO hS hok hA hK
    have base_of : ∀ {b : Addr} {o : Obj}, s1.heap.get? b = some o → H b = none → (hidT s1.heap H).get? b = some o :=
      fun e n => hidT_get e n
    have noA : ∀ {b : Addr} {o : Obj} {es : Array DictEntry} {ep : Nat}, s1.heap.get? b = some o → o.data = .dict es ep → H b = none := by
      intro b o es ep e d
      cases q : H b with
      | none => rfl
      | some u =>
        have e' : b = a := hA b (by rw [q]; simp)
        subst e'
        rw [ha] at e
        cases e
        have d' : Data.seq vs.toArray _ = Data.dict es ep := d
        cases d'
    have nsK : ∀ {b : Addr} {m : Str → Option Value}, s1.heap.Ns b m → (hidT s1.heap H).Ns b m := by
      rintro b m ⟨o, es, ep, e, d, r⟩
      exact ⟨o, es, ep, base_of e (noA e d), d, r⟩
    have hKb : K.In (hidT s1.heap H) := by
      intro b o e
      refine base_of (kx b o e) ?_
      cases q : H b with
      | none => rfl
      | some u =>
        have e' : b = a := hA b (by rw [q]; simp)
        subst e'
        rw [hK (by rw [q]; simp)] at e
        cases e
    have hM : Mod K mg (hidT s1.heap H) := by
      obtain ⟨mc, h1, h2⟩ := nl
      exact ⟨hKb, nsK hns, ⟨mb, nsK hb, hbb⟩, ⟨mc, nsK h1, h2⟩⟩
    have e0 : Env0 P w K mg (hidT s1.heap H) callerA [] s1 H :=
      ⟨rfl, hM, fun b o e => of_hidT e, Nat.le_of_eq (hidT_size _ _), trivial, fun b hb => absurd (show b ∈ ([] : List Addr) from hb) (by simp), hok, .of_eq hg⟩
    refine codeAny_mono ((F _ hKb (nsK hns)).run callerA [] s1 H ⟨[.ref a], []⟩ [.ref a] [.ref a] _ _ hr rfl e0 (bd s1 (.ref a)) (.cons rfl .nil) (hsp H hO hS)) fun r s' h => ?_
    cases r with
    | error e => exact (hx H e s' h).elim
    | ok fl =>
      cases fl with
      | next => exact h.elim
      | brk => exact h.elim
      | cont => exact h.elim
      | ret u =>
        obtain ⟨v, H', os, bare, un, hok', r', q⟩ := h
        have q' : v = .bl true := q
        subst q'
        obtain rfl : u = Value.bool true := r'
        refine ⟨rfl, OldK.of_keep fun b o e => ?_, os, bare⟩
        cases q : H b with
        | none => exact un.keep b o e q (by intro z; exact absurd (show b ∈ ([] : List Addr) from z) (by simp)) (by simp)
        | some u =>
          rcases hO b with z | ⟨ob, xs, z⟩
          · rw [q] at z
            cases z
          · have z2 := un.frzs b ob _ z
            obtain ⟨e1, _⟩ := hok b _ z
            obtain ⟨e2, _⟩ := hok' b _ z2
            rw [e] at e1
            cases e1
            exact e2
  cases hk : K.lookup a with
  | some o =>
    have e := kx a o hk
    rw [ha] at e
    cases e
    refine core (fun _ => none) (fun _ => .inl rfl) ?_ (fun b u z => ?_) (fun b z => absurd rfl z) fun z => absurd rfl z
    · exact .inr ⟨_, vs.toArray, _, hk, rfl, rfl, rfl, by rw [List.size_toArray, ln]; exact hl, by simpa using rv⟩
    · have z' : (none : Option HO) = some u := z
      cases z'
  | none =>
    refine core (fun b => if b = a then some (.frz { cls := .type "list", data := .seq vs.toArray } (.lst (ns.map V.int))) else none)
      (fun b => ?_) (.inl (.inr ⟨{ cls := .type "list", data := .seq vs.toArray }, if_pos rfl⟩)) (fun b u z => ?_) (fun b z => ?_) fun _ => hk
    · by_cases hb : b = a
      · exact .inr ⟨_, _, if_pos hb⟩
      · exact .inl (if_neg hb)
    · by_cases hb : b = a
      · have z' := (if_pos hb).symm.trans z
        cases z'
        subst hb
        exact ⟨ha, by rw [List.length_map]; exact hl, vs, _, rv, ha⟩
      · have z' := (if_neg hb).symm.trans z
        cases z'
    · by_cases hb : b = a
      · exact hb
      · exact absurd (if_neg hb) z
/-- a law over a head by facts, its promise wanting no repr around -/
theorem walk_G {l : PySem.W.OpenLaw} {n k : Nat} {q : Program} {loose : List Str} {XP : (Str → Option Value) → Heap → Prop} {YP : World → Heap → Prop} {d : DefRec} {CX : CXT} {x : Str}
    (hn : l.most = some n) (hn2 : n ≤ sizeLine) (hdf : d.params.defaults = []) (hr : Room k callerA)
    (F : ∀ (w : World) (mg : Str → Option Value) (fa : Addr) (h : Heap), YP w h → h.Ns mainGlobals mg → mg d.name = some (.ref fa) →
      ∃ (K : PySem.W.Frag) (fd : FuncData) (sp : Sp), K.In h ∧ (∀ (s : Shared) (u : Value), BindsTo s fd ⟨[u], []⟩ [(x, u)]) ∧
        (∀ (H : Hp) (a : Addr) (ns : List Int), ns.length ≤ n → Only H → SqL K H a (ns.map V.int) → sp [.ref a] H (fun v _ => v = .bl true) fun _ _ _ => False) ∧
        ∀ base : Heap, K.In base → base.Ns mainGlobals mg → FnG l.prog w K mg base CX k fa fd [x] sp)
    (hx : ∀ (H : Hp) (s : Shared) (e : Value) (s' : Shared), CX [] H s (fun _ _ _ => False) e s' → False) :
    PySem.W.WalkO q loose XP YP l.row.toRowW d [] (fun f vs => PySem.call f vs) := by
  refine Att.attach_call hn hdf fun w s₀ s1 mg mb fa o pm cd doc a vs ns G Y ho hd hcd hmg hobj hints hlen hg => ?_
  obtain ⟨K, fd, sp, kx, hb, hsp, hF⟩ := F w mg fa _ Y G.T.g hmg
  exact law_callG kx G.T.g G.T.b G.T.builtins G.T.nolimit hg hobj hints (Nat.le_trans hlen hn2) hr hF hb
    (fun H hO hS => hsp H a ns hlen hO hS) fun H e s' => hx H s1 e s'
end Rp

/-! The end of a law that makes lambdas, its promise wanting no repr around. -/
namespace Rp
open PySem PySem.Spec PySem.Calls PyProof.Rows L2
open LamX (TabB)
abbrev oTab : Obj := { cls := .none, data := .fields #[] }
/-- the abstract heap where the law begins: the script (if it is not written), the tables -/
def H0T (T : List Addr) (a : Addr) (so : Option HO) : Hp := fun b => if b = a then so else if b ∈ T then some (.tbl #[]) else none
theorem law_callGT {P : Program} {w : World} {K : PySem.W.Frag} {mg mb : Str → Option Value} {CX : CXT} {k : Nat} {fa a : Addr} {cs : List (Addr × Addr)} {fd : FuncData} {x : Str} {sp : Sp} {s1 : Shared} {vs : List Value} {ns : List Int}
    (kx : K.In s1.heap) (hns : s1.heap.Ns mainGlobals mg) (hb : s1.heap.Ns builtinsNs mb) (hbb : ∀ x : Str, x ≠ "__name__" → mb x = bootBuiltins x) (nl : s1.heap.NoLimit) (hg : s1.gens = #[])
    (hT : ∀ p ∈ cs, s1.heap.get? p.2 = some oTab) (nT : ∀ p ∈ cs, K.lookup p.2 = none) (hC : ∀ p ∈ cs, PySem.W.CodeHd s1.heap p.1 p.2)
    (hbm : ∃ (bm : Addr) (ob : Obj), mg "__builtins__" = some (.ref bm) ∧ bm ≠ builtinsNs ∧ s1.heap.get? bm = some ob ∧ ob.cls = .type "module" ∧ ob.dict = some builtinsNs ∧ ob.data = .plain)
    (ha : s1.heap.get? a = some { cls := .type "list", data := .seq vs.toArray }) (hi : IntsAre vs ns) (hl : ns.length ≤ sizeLine) (hr : Room k callerA)
    (F : ∀ base : Heap, K.In base → base.Ns mainGlobals mg → (∀ p ∈ cs, TabB base mg p.1 p.2) → FnG P w K mg base CX k fa fd [x] sp) (bd : ∀ (s : Shared) (u : Value), BindsTo s fd ⟨[u], []⟩ [(x, u)])
    (hsp : ∀ H : Hp, (∀ p ∈ cs, H p.2 = some (.tbl #[])) → SqL K H a (ns.map V.int) → sp [.ref a] H (fun v _ => v = .bl true) fun _ _ _ => False)
    (hx : ∀ H e s', CX [] H s1 (fun _ _ _ => False) e s' → False) :
    codeAny (model P w) callerA (.call (.ref fa) ⟨[.ref a], []⟩) (fun r s' => r = .ok (.ret (.bool true)) ∧ OldK s1.heap s'.heap ∧ s'.os = s1.os ∧ AllBare s'.gens) s1 := by
  have rv := vals_ints hi
  have ln := hi.length
  have tab : ∀ {b : Addr}, b ∈ cs.map (·.2) → s1.heap.get? b = some oTab ∧ K.lookup b = none ∧ ∃ c, PySem.W.CodeHd s1.heap c b := fun {b} m => by
    obtain ⟨p, hp, rfl⟩ := List.mem_map.mp m
    exact ⟨hT p hp, nT p hp, _, hC p hp⟩
  have aT : a ∉ cs.map (·.2) := fun z => by
    have e := (tab z).1
    rw [ha] at e
    exact absurd (congrArg Obj.data (Option.some.inj e)) (by simp)
  -- the script: tracked, if it is not written
  obtain ⟨so, hso, hKa, hSq, hOb⟩ : ∃ so : Option HO, (so = none ∨ so = some (.frz { cls := .type "list", data := .seq vs.toArray } (.lst (ns.map V.int)))) ∧ (so ≠ none → K.lookup a = none) ∧
      (∀ H : Hp, H a = so → SqL K H a (ns.map V.int)) ∧ ∀ H : Hp, ∀ u, so = some u → ObjOk P w H s1.heap a u := by
    cases hk : K.lookup a with
    | some o =>
      have e := kx a o hk
      rw [ha] at e
      cases e
      exact ⟨none, .inl rfl, fun z => absurd rfl z, fun H _ => .inr ⟨_, vs.toArray, _, hk, rfl, rfl, rfl, by rw [List.size_toArray, ln]; exact hl, by simpa using rv⟩, fun H u z => nomatch z⟩
    | none =>
      refine ⟨_, .inr rfl, fun _ => rfl, fun H e => .inl (.inr ⟨_, e⟩), fun H u z => ?_⟩
      cases z
      exact ⟨ha, by rw [List.length_map]; exact hl, vs, _, rv, ha⟩
  generalize hHd : H0T (cs.map (·.2)) a so = H
  have atA : H a = so := by
    rw [← hHd]
    exact if_pos rfl
  have atT : ∀ {b : Addr}, b ∈ cs.map (·.2) → H b = some (.tbl #[]) := fun {b} m => by
    rw [← hHd]
    exact (if_neg (show ¬ b = a from fun z => aT (z ▸ m))).trans (if_pos m)
  have only : ∀ {b : Addr} {u : HO}, H b = some u → (b = a ∧ so = some u) ∨ (b ∈ cs.map (·.2) ∧ u = .tbl #[]) := fun {b u} e => by
    rw [← hHd] at e
    unfold H0T at e
    by_cases h1 : b = a
    · rw [if_pos h1] at e
      exact .inl ⟨h1, e⟩
    · rw [if_neg h1] at e
      by_cases h2 : b ∈ cs.map (·.2)
      · rw [if_pos h2] at e
        cases e
        exact .inr ⟨h2, rfl⟩
      · rw [if_neg h2] at e
        cases e
  have hok : HOk P w H s1.heap := fun b u e => by
    rcases only e with ⟨rfl, h2⟩ | ⟨h1, rfl⟩
    · exact hOb H u h2
    · exact (tab h1).1
  -- what is no list and no table is not tracked
  have loose : ∀ {b : Addr} {o : Obj}, s1.heap.get? b = some o → (∀ ws n, o.data ≠ .seq ws n) → o ≠ oTab → H b = none := fun {b o} e h1 h2 => by
    cases q : H b with
    | none => rfl
    | some u =>
      rcases only q with ⟨rfl, _⟩ | ⟨m, _⟩
      · rw [ha] at e
        cases e
        exact absurd rfl (h1 _ _)
      · rw [(tab m).1] at e
        exact absurd (Option.some.inj e).symm h2
  have nsK : ∀ {b : Addr} {m : Str → Option Value}, s1.heap.Ns b m → (hidT s1.heap H).Ns b m := by
    rintro b m ⟨o, es, ep, e, d, r⟩
    refine ⟨o, es, ep, hidT_get e (loose e (fun ws n z => ?_) fun z => ?_), d, r⟩
    · rw [d] at z
      cases z
    · rw [z] at d
      cases d
  have hKb : K.In (hidT s1.heap H) := fun b o e => by
    refine hidT_get (kx b o e) ?_
    cases q : H b with
    | none => rfl
    | some u =>
      rcases only q with ⟨rfl, h2⟩ | ⟨m, _⟩
      · rw [hKa (by rw [h2]; simp)] at e
        cases e
      · rw [(tab m).2.1] at e
        cases e
  have hM : Mod K mg (hidT s1.heap H) := by
    obtain ⟨mc, h1, h2⟩ := nl
    exact ⟨hKb, nsK hns, ⟨mb, nsK hb, hbb⟩, ⟨mc, nsK h1, h2⟩⟩
  have nM : ∀ {b : Addr}, s1.heap.get? b = some oTab → mainGlobals ≠ b := fun {b} e z => by
    obtain ⟨o, es, ep, e2, d, _⟩ := hns
    rw [z, e] at e2
    cases e2
    cases d
  have TB : ∀ p ∈ cs, TabB (hidT s1.heap H) mg p.1 p.2 := fun p hp => by
    refine ⟨?_, ?_, nM (hT p hp)⟩
    · obtain ⟨o, us, file, tf, flags, tg, inF, text, tt, e1, r1, r2, r3, r⟩ := hC p hp
      refine ⟨o, us, file, tf, flags, tg, inF, text, tt, hidT_get e1 (loose e1 (fun ws n z => ?_) fun z => ?_), r1, r2, r3, r⟩
      · rw [r2] at z
        cases z
      · rw [z] at r2
        cases r2
        simp at r3
    · obtain ⟨bm, ob, b1, b2, b3, b4, b5, b6⟩ := hbm
      refine ⟨bm, ob, b1, b2, fun q => ?_, fun q => ?_, hidT_get b3 (loose b3 (fun ws n z => ?_) fun z => ?_), b4, b5, b6⟩
      · obtain ⟨o, es, ep, e, d, _⟩ := hns
        rw [q, e] at b3
        cases b3
        rw [d] at b6
        cases b6
      · rw [q, hT p hp] at b3
        cases b3
        cases b6
      · rw [b6] at z
        cases z
      · rw [z] at b6
        cases b6
  have e0 : Env0 P w K mg (hidT s1.heap H) callerA [] s1 H :=
    ⟨rfl, hM, fun b o e => of_hidT e, Nat.le_of_eq (hidT_size _ _), trivial, fun b hb => absurd (show b ∈ ([] : List Addr) from hb) (by simp), hok, .of_eq hg⟩
  refine codeAny_mono ((F _ hKb (nsK hns) TB).run callerA [] s1 H ⟨[.ref a], []⟩ [.ref a] [.ref a] _ _ hr rfl e0 (bd s1 (.ref a)) (.cons rfl .nil) (hsp H (fun p hp => atT (List.mem_map.mpr ⟨p, hp, rfl⟩)) (hSq H atA))) fun r s' h => ?_
  cases r with
  | error e => exact (hx H e s' h).elim
  | ok fl =>
    cases fl with
    | next => exact h.elim
    | brk => exact h.elim
    | cont => exact h.elim
    | ret u =>
      obtain ⟨v, H', os, bare, un, hok', r', q⟩ := h
      have q' : v = .bl true := q
      subst q'
      obtain rfl : u = Value.bool true := r'
      have key : ∀ b o, b ∉ cs.map (·.2) → s1.heap.get? b = some o → s'.heap.get? b = some o := fun b o nb e => by
        cases q : H b with
        | none => exact un.keep b o e q (by intro z; exact absurd (show b ∈ ([] : List Addr) from z) (by simp)) (by simp)
        | some u =>
          rcases only q with ⟨rfl, h2⟩ | ⟨m, _⟩
          · rcases hso with z | z
            · rw [h2] at z
              cases z
            · rw [h2] at z
              cases z
              obtain ⟨e2, _⟩ := hok' b _ (un.frzs b _ _ q)
              rw [ha] at e
              cases e
              exact e2
          · exact absurd m nb
      have grown : ∀ {b : Addr}, b ∈ cs.map (·.2) → ∃ more : Array Value, s'.heap.get? b = some { cls := .none, data := .fields more } := fun {b} m => by
        obtain ⟨more, z⟩ := un.tbls b #[] (atT m)
        exact ⟨_, hok' b _ z⟩
      refine ⟨rfl, ⟨fun b o e => ?_, fun b o e => ?_⟩, os, bare⟩
      · by_cases m : b ∈ cs.map (·.2)
        · obtain ⟨t1, _, c, t3⟩ := tab m
          obtain ⟨more, hm⟩ := grown m
          rw [t1] at e
          cases e
          exact .inr (.inl ⟨(t3.tab t1).isCodeTable, rfl, #[], more, rfl, by rw [Array.empty_append]; exact hm⟩)
        · exact .inl (key b o m e)
      · by_cases m : b ∈ cs.map (·.2)
        · obtain ⟨more, hm⟩ := grown m
          exact ⟨_, hm⟩
        · exact ⟨o, key b o m e⟩
/-- a law that makes lambdas, over a head by facts -/
theorem walk_GT {l : PySem.W.OpenLaw} {n k : Nat} {q : Program} {loose : List Str} {XP : (Str → Option Value) → Heap → Prop} {YP : World → Heap → Prop} {d : DefRec} {CX : CXT} {x : Str}
    (hn : l.most = some n) (hn2 : n ≤ sizeLine) (hdf : d.params.defaults = []) (hr : Room k callerA)
    (F : ∀ (w : World) (mg : Str → Option Value) (fa : Addr) (h : Heap), YP w h → h.Ns mainGlobals mg → mg d.name = some (.ref fa) →
      ∃ (K : PySem.W.Frag) (fd : FuncData) (cs : List (Addr × Addr)) (sp : Sp), K.In h ∧ (∀ p ∈ cs, h.get? p.2 = some oTab) ∧ (∀ p ∈ cs, K.lookup p.2 = none) ∧ (∀ p ∈ cs, PySem.W.CodeHd h p.1 p.2) ∧ (∀ (s : Shared) (u : Value), BindsTo s fd ⟨[u], []⟩ [(x, u)]) ∧
        (∀ (H : Hp) (a : Addr) (ns : List Int), ns.length ≤ n → (∀ p ∈ cs, H p.2 = some (.tbl #[])) → SqL K H a (ns.map V.int) → sp [.ref a] H (fun v _ => v = .bl true) fun _ _ _ => False) ∧
        ∀ base : Heap, K.In base → base.Ns mainGlobals mg → (∀ p ∈ cs, TabB base mg p.1 p.2) → FnG l.prog w K mg base CX k fa fd [x] sp)
    (hx : ∀ (H : Hp) (s : Shared) (e : Value) (s' : Shared), CX [] H s (fun _ _ _ => False) e s' → False) :
    PySem.W.WalkO q loose XP YP l.row.toRowW d [] (fun f vs => PySem.call f vs) := by
  refine Att.attach_call hn hdf fun w s₀ s1 mg mb fa o pm cd doc a vs ns G Y ho hd hcd hmg hobj hints hlen hg => ?_
  obtain ⟨K, fd, cs, sp, kx, hT, nT, hC, hb, hsp, hF⟩ := F w mg fa _ Y G.T.g hmg
  exact law_callGT kx G.T.g G.T.b G.T.builtins G.T.nolimit hg hT nT hC G.T.bmain hobj hints (Nat.le_trans hlen hn2) hr hF hb
    (fun H hH hS => hsp H a ns hlen hH hS) fun H e s' => hx H s1 e s'
end Rp

/-! The head's facts by tests of one's own. -/
namespace Hx
open PySem PySem.Spec PyProof.Rows L2
open He (ga ma)
/-- from the module's names and the dict of the modules -/
def asX (g : Addr → Option Obj) : Nat → List Addr
  | 0 => [mainGlobals, sysModules]
  | n + 1 => He.growD g (asX g n)
def obsX (ts : PySem.W.Frag → Bool) (fn : List He.DefD) (K : PySem.W.Frag) : He.AlD := (ts K && fn.all fun d => d.ok K, fn.map fun d => He.fnW K d.at_)
def SaysX (ts : PySem.W.Frag → Bool) (fn : List He.DefD) (K : PySem.W.Frag) : Prop := obsX ts fn K = He.valD fn
def obsXG (n : Nat) (ts : PySem.W.Frag → Bool) (fn : List He.DefD) (g : Addr → Option Obj) : He.AlD := obsX ts fn (He.frG g (asX g n))
def hookX (n : Nat) (ts : PySem.W.Frag → Bool) (fn : List He.DefD) : PySem.W.Hook where
  α := He.AlD
  obs := fun s => obsXG n ts fn s.heap.get?
  val := fun _ => He.valD fn
  says := fun _ h => ∃ K : PySem.W.Frag, K.In h ∧ SaysX ts fn K
  of := fun _ _ e => ⟨_, He.frG_in, e⟩
  keeps := fun _ _ _ ⟨K, hK, c⟩ k => ⟨K, PySem.W.Frag.In.keeps hK k, c⟩
theorem obsXG_eq {n : Nat} {ts : PySem.W.Frag → Bool} {fn : List He.DefD} {g : Addr → Option Obj} {s : Shared} (h : ∀ a, g a = s.heap.get? a) : obsXG n ts fn g = (hookX n ts fn).obs s := by
  have e : g = s.heap.get? := funext h
  rw [e] <;> rfl
section
variable {ts : PySem.W.Frag → Bool} {fn : List He.DefD} {K : PySem.W.Frag}
theorem SaysX.test (c : SaysX ts fn K) : ts K = true :=
  (He.ba (show (ts K && fn.all fun d => d.ok K) = true from congrArg (fun z : He.AlD => z.1) c)).1
theorem SaysX.def_ (c : SaysX ts fn K) (i : Nat) {d : He.DefD} (h : fn[i]? = some d := by rfl) : ∃ fd, FunD K d.name d.qual d.params d.body d.scope (d.dvs K) (d.kws K) (He.fAd K d.at_) fd := by
  have c2 := (He.ba (show (ts K && fn.all fun d => d.ok K) = true from congrArg (fun z : He.AlD => z.1) c)).2
  have e : fn.map (fun d => He.fnW K d.at_) = fn.map He.DefD.val := congrArg (fun z : He.AlD => z.2) c
  have e2 : (fn.map fun d => He.fnW K d.at_)[i]? = (fn.map He.DefD.val)[i]? := by
    rw [e]
  rw [List.getElem?_map, List.getElem?_map, h] at e2
  exact He.DefD.funD (Option.some.inj e2) (List.all_eq_true.mp c2 d (List.mem_of_getElem? h))
end
/-! ### tests -/
def eqF (K : PySem.W.Frag) (C : Addr) (f : Str) (v : Option Value) : Bool := decide (PySem.W.findIn K (.ref C) f = some v)
/-- the class named x: an exception class whose instances isinstance may be asked of -/
def icB (K : PySem.W.Frag) (x : Str) : Bool :=
  (PySem.W.clsIn K (ga K x)).isSome && (eqF K (ga K x) "__getattribute__" (some (.builtin "BaseException.__getattribute__")) && (eqF K (ga K x) "__getattr__" none && (decide (PySem.W.subIn K (.ref (ga K x)) (.type "BaseException") = some true) &&
    (eqF K (ga K x) "__class__" (some (.builtin "object.__class__")) && (decide (PySem.W.specialIn K (.builtin "object.__class__") "__get__" = some (some (.builtin "getset_descriptor.__get__"))) &&
      (decide (PySem.W.takesIn K (.builtin "object.__class__") = some true) && decide (PySem.W.mroIn K (ga K x) (.type "object") = some true)))))))
theorem icB_ok {K : PySem.W.Frag} {x : Str} (h : icB K x = true) : Ex.IC K (ga K x) := by
  obtain ⟨h1, h⟩ := He.ba h
  obtain ⟨h2, h⟩ := He.ba h
  obtain ⟨h3, h⟩ := He.ba h
  obtain ⟨h4, h⟩ := He.ba h
  obtain ⟨h5, h⟩ := He.ba h
  obtain ⟨h6, h⟩ := He.ba h
  obtain ⟨h7, h8⟩ := He.ba h
  exact ⟨h1, of_decide_eq_true h2, of_decide_eq_true h3, of_decide_eq_true h4, of_decide_eq_true h5, of_decide_eq_true h6, of_decide_eq_true h7, of_decide_eq_true h8⟩
/-- the class object at C: its mro, its maker -/
def clsB (K : PySem.W.Frag) (C : Addr) (nid : String) (ml : List Value) : Bool := match K.lookup C with
  | some ⟨.type "type", _, .cls cd, sl⟩ => (match sl.toList with
    | [_, _, _, _, some (.builtin n), _] => decide (cd.mro = .ref C :: ml) && (n == nid && (!cd.hasDel && cd.hasDict))
    | _ => false)
  | _ => false
theorem clsB_ok {K : PySem.W.Frag} {C : Addr} {nid : String} {ml : List Value} (q : clsB K C nid ml = true) :
    ∃ nm qn N bs sn sub ab col dd k0 k1 k2 k3 k5, K.lookup C = some (excClassObj nm qn C N bs ml true sn sub ab col dd k0 k1 k2 k3 k5 nid) := by
  unfold clsB at q
  split at q
  · rename_i dd cd sl ho
    split at q
    · rename_i k0 k1 k2 k3 n k5 hs
      obtain ⟨h1, q⟩ := He.ba q
      obtain ⟨h2, q⟩ := He.ba q
      obtain ⟨h3, h4⟩ := He.ba q
      obtain ⟨nm, bs, mro, ns, qn, hd, sn, sub, ab, col, del⟩ := cd
      have hm := of_decide_eq_true h1
      have hn := beq_iff_eq.mp h2
      have hdel : del = false := by simpa using h3
      dsimp only at hm h4
      subst hm hn hdel h4
      have hsl : sl = #[k0, k1, k2, k3, some (.builtin n), k5] := by
        obtain ⟨l⟩ := sl
        simp only at hs
        rw [hs]
      subst hsl
      exact ⟨nm, qn, ns, bs, sn, sub, ab, col, dd, k0, k1, k2, k3, k5, ho⟩
    · cases q
  · cases q
/-- the class named x, with its own __init__, that keeps f -/
def xcB (K : PySem.W.Frag) (x : Str) (nid : String) (ml : List Value) (f : Str) : Bool :=
  clsB K (ga K x) nid ml && (eqF K (ga K x) "__setattr__" (some (.builtin "object.__setattr__")) && (eqF K (ga K x) "__getattribute__" (some (.builtin "BaseException.__getattribute__")) && (eqF K (ga K x) "__getattr__" none && (eqF K (ga K x) f none &&
    (eqF K (ga K x) "__init__" (some (.ref (ma K (ga K x) "__init__"))) && (decide (PySem.W.typeIn K (.ref (ma K (ga K x) "__init__")) = some (.type "function")) && (PySem.W.keepIn K (.ref (ga K x)) &&
      (decide (PySem.W.subIn K (.ref (ga K x)) (.type "BaseException") = some true) && (decide (PySem.W.typeIn K (.ref (ga K x)) = some (.type "type")) && PySem.W.hasDictIn K (ga K x))))))))))
theorem xcB_ok {K : PySem.W.Frag} {x f : Str} {nid : String} {ml : List Value} (h : xcB K x nid ml f = true) : Ex.XC K (ga K x) nid ml f (ma K (ga K x) "__init__") := by
  obtain ⟨h1, h⟩ := He.ba h
  obtain ⟨h2, h⟩ := He.ba h
  obtain ⟨h3, h⟩ := He.ba h
  obtain ⟨h4, h⟩ := He.ba h
  obtain ⟨h5, h⟩ := He.ba h
  obtain ⟨h6, h⟩ := He.ba h
  obtain ⟨h7, h⟩ := He.ba h
  obtain ⟨h8, h⟩ := He.ba h
  obtain ⟨h9, h⟩ := He.ba h
  obtain ⟨h10, h11⟩ := He.ba h
  exact ⟨clsB_ok h1, of_decide_eq_true h2, of_decide_eq_true h3, of_decide_eq_true h4, of_decide_eq_true h5, of_decide_eq_true h6, of_decide_eq_true h7, h8, of_decide_eq_true h9, of_decide_eq_true h10, h11⟩
def gloB (K : PySem.W.Frag) (xs : List Str) : Bool := xs.all fun x => (He.Fa.glo x).ok K
def freeB (K : PySem.W.Frag) (xs : List Str) : Bool := xs.all fun x => (He.Fa.free x).ok K
theorem gloB_ok {K : PySem.W.Frag} {h : Heap} {mg : Str → Option Value} (X : K.In h) (G : h.Ns mainGlobals mg) {xs : List Str} (c : gloB K xs = true) {x : Str} (hx : x ∈ xs) : mg x = some (.ref (ga K x)) :=
  He.glo_ok X G (List.all_eq_true.mp c x hx)
theorem freeB_ok {K : PySem.W.Frag} {h : Heap} {mg : Str → Option Value} (X : K.In h) (G : h.Ns mainGlobals mg) {xs : List Str} (c : freeB K xs = true) {x : Str} (hx : x ∈ xs) : mg x = none :=
  He.free_ok X G (List.all_eq_true.mp c x hx)
def sysB (K : PySem.W.Frag) : Bool := match K.lookup sysModules with
  | some o => decide (o.cls = .type "dict")
  | none => false
theorem sysB_ok {K : PySem.W.Frag} (h : sysB K = true) : Rp.SysD K := by
  unfold sysB at h
  split at h
  · rename_i o ho
    exact ⟨o, ho, of_decide_eq_true h⟩
  · cases h
end Hx

/-! The streams of draws: what a stream holds, what each draw leaves. -/
namespace Dr
open PySem PySem.Spec PyProof.Rows L2
/-- a power whose size stays below the line -/
theorem op_powW {X : Cx} : OpR X (binaryOp .Pow) (rI (fun i j => 0 ≤ j ∧ (Builtin.Int.intBits i : Int) * j ≤ 2 ^ 27) fun i j => .int (i ^ j.toNat)) :=
  opI fun _ _ _ _ _ _ _ hc q => pow_int hc.1 hc.2 q
/-- all but p is as it was -/
def But (p : Addr) (H H' : Hp) : Prop := ∀ b o, b ≠ p → H b = some o → H' b = some o
theorem But.refl (p : Addr) (H : Hp) : But p H H := fun _ _ _ h => h
theorem But.trans {p : Addr} {H H1 H2 : Hp} (a : But p H H1) (b : But p H1 H2) : But p H H2 := fun c o n h => b c o n (a c o n h)
theorem But.upd (p : Addr) (H : Hp) (o : HO) : But p H (upd H p o) := fun b u n h => by
  rw [upd_ne n]
  exact h
theorem But.new {p q : Addr} {H H1 : Hp} {o : HO} (a : But p H H1) (hq : H1 q = none) : But p H (L2.upd H1 q o) := fun b u n h => by
  have h1 := a b u n h
  rw [upd_ne (ne_of_none h1 hq)]
  exact h1
theorem But.same {p : Addr} {H H1 H2 : Hp} (a : But p H H1) (b : Same H1 H2) : But p H H2 := fun c o n h => b c o (a c o n h)
theorem But.free {p q : Addr} {H H1 : Hp} (a : But p H H1) (n : q ≠ p) (h : H1 q = none) : H q = none := by
  cases e : H q with
  | none => rfl
  | some o =>
    rw [a q o n e] at h
    cases h
/-- at p: a stream, at most m draws behind its first digits -/
def StrAt (H : Hp) (p : Addr) (m : Nat) : Prop := ∃ a b c : Int, H p = some (.lst [.int a, .int b, .int c]) ∧ 0 ≤ a ∧ a.natAbs < 2 ^ 2000 ∧ 0 ≤ b ∧ b < 2147483648 ∧ 0 ≤ c ∧ c ≤ m
theorem StrAt.mono {H : Hp} {p : Addr} {m n : Nat} (s : StrAt H p m) (h : m ≤ n) : StrAt H p n := by
  obtain ⟨a, b, c, h1, h2, h3, h4, h5, h6, h7⟩ := s
  exact ⟨a, b, c, h1, h2, h3, h4, h5, h6, by omega⟩
theorem StrAt.keep {H H' : Hp} {p : Addr} {m : Nat} (s : StrAt H p m) (h : ∀ o, H p = some o → H' p = some o) : StrAt H' p m := by
  obtain ⟨a, b, c, h1, r⟩ := s
  exact ⟨a, b, c, h _ h1, r⟩
theorem StrAt.same {H H' : Hp} {p : Addr} {m : Nat} (s : StrAt H p m) (h : Same H H') : StrAt H' p m := s.keep fun o => h p o
theorem StrAt.some {H : Hp} {p : Addr} {m : Nat} (s : StrAt H p m) : ∃ xs, H p = some (.lst xs) := by
  obtain ⟨a, b, c, h1, _⟩ := s
  exact ⟨_, h1⟩
/-- _law_stream(script, at) -/
def spStream (K : PySem.W.Frag) : Sp := fun vs H Q _ => ∃ (a : Addr) (ns : List Int) (i : Nat), vs = [.ref a, .int i] ∧ SqL K H a (ns.map V.int) ∧ ns.length ≤ 63 ∧ i ≤ 100 ∧
  ∀ H' p, Same H H' → H p = none → StrAt H' p 0 → Q (.ref p) H'
/-- _law_draw(stream, high) -/
def spDraw : Sp := fun vs H Q _ => ∃ (p : Addr) (n : Int) (m : Nat), vs = [.ref p, .int n] ∧ StrAt H p m ∧ m ≤ 100000 ∧ 0 < n ∧ n < 1000000 ∧
  ∀ H' v, 0 ≤ v → v < n → But p H H' → StrAt H' p (m + 1) → Q (.int v) H'
/-- _law_pick(stream, items), items a list -/
def spPick (K : PySem.W.Frag) : Sp := fun vs H Q _ => ∃ (p q : Addr) (xs : List V) (m : Nat), vs = [.ref p, .ref q] ∧ StrAt H p m ∧ m ≤ 100000 ∧ p ≠ q ∧ SqL K H q xs ∧ 0 < xs.length ∧ xs.length < 1000000 ∧
  ∀ H' (i : Nat) x, xs[i]? = some x → But p H H' → StrAt H' p (m + 1) → Q x H'
end Dr

namespace Rp
open PySem PySem.Spec PyProof.Rows L2
/-- for i, x in enumerate(list) -/
theorem for_enum {K : PySem.W.Frag} {a : Addr} {xs : List V} {g : TG} {tb : TS} {D : Ends} {σ : L2.St} {H : Hp} (Pv : Nat → L2.St → Hp → Prop) (h0 : Pv 0 σ H) (hl : ∀ i σ H, i ≤ xs.length → Pv i σ H → SqL K H a xs)
    (hs : ∀ i x σ H T, xs[i]? = some x → Pv i σ H → H T = none → g (.ref T) σ (upd H T (.tup [.int (i : Nat), x])) fun σ2 H2 => tb { D with nx := Pv (i + 1), ct := Pv (i + 1), bk := D.nx } σ2 H2) (hd : ∀ σ H, Pv xs.length σ H → D.nx σ H) :
    ∃ W : Nat → Nat → L2.St → Hp → Prop, (∃ m, W 0 m σ H) ∧ ∀ i m σ H, W i m σ H →
      ((Ite K a).stop i H ∧ D.nx σ H) ∨ ((Ite K a).go i H ∧ ∃ N : L2.St → Hp → Prop, (∀ σ' H', N σ' H' → ∃ m', m' < m ∧ W (i + 1) m' σ' H') ∧ ∀ x H', (Ite K a).yld i H x H' → g x σ H' fun σ2 H2 => tb { D with nx := N, ct := N, bk := D.nx } σ2 H2) := by
  refine ⟨fun i m σ H => m = xs.length - i ∧ i ≤ xs.length ∧ Pv i σ H, ⟨xs.length, by simp, Nat.zero_le _, h0⟩, ?_⟩
  rintro i m σ H ⟨rfl, hi, p⟩
  have q := hl i σ H hi p
  by_cases hlt : i < xs.length
  · refine .inr ⟨⟨xs, xs[i], q, by simp [hlt]⟩, Pv (i + 1), fun σ' H' p' => ⟨xs.length - (i + 1), by omega, rfl, hlt, p'⟩, fun x H' y => ?_⟩
    obtain ⟨T, z, rfl, hT, rfl, hz⟩ := y
    exact hs i z σ H T (hz xs q) p hT
  · refine .inl ⟨⟨xs, q, by omega⟩, hd σ H ?_⟩
    have e : i = xs.length := by omega
    rw [← e]
    exact p
/-- lists of truths as data -/
theorem dp_bools {K : PySem.W.Frag} {H : Hp} : ∀ bs : List Bool, DpAll K H (bs.map V.bl) (bs.map PyData.bool)
  | [] => .nil
  | b :: r => .cons (.bl b) (dp_bools r)
theorem ite_f {c : Bool} {A B : Prop} (hc : c = false) (h : B) : if c = true then A else B := by
  rw [hc, if_neg Bool.false_ne_true]
  exact h
theorem ite_t {c : Bool} {A B : Prop} (hc : c = true) (h : A) : if c = true then A else B := by
  rw [if_pos hc]
  exact h
theorem ne_self {d : PyData} (h : SeqAt.shaped d = true) : (!PyData.eqv d d) = false := by
  rw [SeqAt.eqv_refl d (SeqAt.canLay_of_shaped h)]
  rfl
theorem eq_self {d : PyData} (h : SeqAt.shaped d = true) : PyData.eqv d d = true := SeqAt.eqv_refl d (SeqAt.canLay_of_shaped h)
end Rp

namespace Rp
open PySem PySem.Spec PyProof.Rows L2 Ex
theorem sqt_same {K : PySem.W.Frag} {H H' : Hp} {a : Addr} {xs : List V} (e : Same H H') (h : SqT K H a xs) : SqT K H' a xs := by
  rcases h with (h | ⟨o, h⟩) | h
  · exact .inl (.inl (e _ _ h))
  · exact .inl (.inr ⟨o, e _ _ h⟩)
  · exact .inr h
mutual
/-- data stays data where nothing tracked is lost -/
theorem Dt.same {K : PySem.W.Frag} {H H' : Hp} (s : Same H H') : ∀ (d : PyData) (v : V), Dt K H v d → Dt K H' v d
  | .none, _, h => by cases h; exact .non
  | .bool b, _, h => by cases h; exact .bl b
  | .int i, _, h => by cases h; exact .int i
  | .str x, _, h => by cases h; exact .str x
  | .list ds, _, h => by
    cases h with
    | lst h1 h2 => exact .lst (s.seq h1) (Dt.sameAll s ds _ h2)
  | .tuple ds, _, h => by
    cases h with
    | tup h1 h2 => exact .tup (sqt_same s h1) (Dt.sameAll s ds _ h2)
  | .dict ds, _, h => by
    cases h with
    | dic h1 h2 => exact .dic (s _ _ h1) (Dt.sameKv s ds _ h2)
theorem Dt.sameAll {K : PySem.W.Frag} {H H' : Hp} (s : Same H H') : ∀ (ds : List PyData) (vs : List V), DtAll K H vs ds → DtAll K H' vs ds
  | [], _, h => by cases h; exact .nil
  | d :: ds, _, h => by
    cases h with
    | cons h1 h2 => exact .cons (Dt.same s d _ h1) (Dt.sameAll s ds _ h2)
theorem Dt.sameKv {K : PySem.W.Frag} {H H' : Hp} (s : Same H H') : ∀ (ds : List (PyData × PyData)) (kvs : List (Key × V)), DtKv K H kvs ds → DtKv K H' kvs ds
  | [], _, h => by cases h; exact .nil
  | (k, d) :: ds, _, h => by
    cases h with
    | cons h1 h2 => exact .cons (Dt.same s d _ h1) (Dt.sameKv s ds _ h2)
end
theorem ExcAt.same {H H' : Hp} {e C : Addr} {f : Str} {v : V} (h : ExcAt H e C f v) (s : Same H H') : ExcAt H' e C f v := by
  obtain ⟨dx, h1, h2⟩ := h
  exact ⟨dx, s _ _ h1, s _ _ h2⟩
theorem ExcAt.is {K : PySem.W.Frag} {H : Hp} {e C : Addr} {f : Str} {v : V} (h : ExcAt H e C f v) : IsEx K H e C := by
  obtain ⟨dx, h1, h2⟩ := h
  exact .own h1 h2
/-- the heap behind C(v) -/
theorem made {H : Hp} {a dx C : Addr} {f : Str} {v : V} (ha : H a = none) (hd : upd H a (exo a C none) dx = none) (ne : dx ≠ a) :
    Same H (upd (upd (upd H a (exo a C none)) dx (exd dx [(f, v)])) a (exo a C (some dx))) ∧ ExcAt (upd (upd (upd H a (exo a C none)) dx (exd dx [(f, v)])) a (exo a C (some dx))) a C f v := by
  have hd' : H dx = none := by
    rw [upd_ne ne] at hd
    exact hd
  refine ⟨fun b o e => ?_, dx, upd_same, ?_⟩
  · rw [upd_ne (ne_of_none e ha), upd_ne (ne_of_none e hd'), upd_ne (ne_of_none e ha)]
    exact e
  · rw [upd_ne ne, upd_same]
end Rp

/-! Data that does not reach some addresses; small data. -/
namespace Rp
open PySem PySem.Spec PyProof.Rows L2 Ex Dr
/-- the abstract heap without some addresses -/
def cut (ex : List Addr) (H : Hp) : Hp := fun b => if b ∈ ex then none else H b
theorem cut_at {ex : List Addr} {H : Hp} {b : Addr} {o : HO} (h : H b = some o) (n : b ∉ ex) : cut ex H b = some o := by
  unfold cut
  rw [if_neg n]
  exact h
theorem cut_of {ex : List Addr} {H : Hp} {b : Addr} {o : HO} (h : cut ex H b = some o) : b ∉ ex ∧ H b = some o := by
  unfold cut at h
  by_cases n : b ∈ ex
  · rw [if_pos n] at h
    cases h
  · rw [if_neg n] at h
    exact ⟨n, h⟩
theorem cut_same {ex ex' : List Addr} {H H' : Hp} (k : ∀ b o, b ∉ ex → H b = some o → b ∉ ex' ∧ H' b = some o) : Same (cut ex H) (cut ex' H') := fun b o e => by
  obtain ⟨n, h⟩ := cut_of e
  obtain ⟨n', h'⟩ := k b o n h
  exact cut_at h' n'
theorem cut_all {ex : List Addr} {H : Hp} : Same (cut ex H) H := fun b o e => (cut_of e).2
/-- small data -/
def Sm (d : PyData) : Prop := d.showable = true ∧ d.depth ≤ 5 ∧ d.shown.length ≤ 1000
theorem smAll : ∀ ds : List PyData, (∀ d, d ∈ ds → Sm d) → PyData.showableAll ds = true ∧ PyData.depthAll ds ≤ 5 ∧ ((PyData.shownAll ds).map (·.length)).sum ≤ 1000 * ds.length ∧ (PyData.shownAll ds).length = ds.length
  | [], _ => ⟨rfl, Nat.zero_le _, Nat.le_refl _, rfl⟩
  | d :: r, h => by
    obtain ⟨h1, h2, h3⟩ := h d List.mem_cons_self
    obtain ⟨r1, r2, r3, r4⟩ := smAll r fun x hx => h x (List.mem_cons_of_mem _ hx)
    refine ⟨?_, ?_, ?_, ?_⟩
    · simp only [PyData.showableAll, h1, r1, Bool.and_self]
    · simp only [PyData.depthAll]
      omega
    · simp only [PyData.shownAll, List.map_cons, List.sum_cons, List.length_cons]
      omega
    · simp only [PyData.shownAll, List.length_cons, r4]
theorem sm_list {ds : List PyData} (h : ∀ d, d ∈ ds → Sm d) (hl : ds.length ≤ 100) : (PyData.list ds).showable = true ∧ (PyData.list ds).depth ≤ 60 ∧ (PyData.list ds).shown.length ≤ sizeLine := by
  obtain ⟨r1, r2, r3, r4⟩ := smAll ds h
  refine ⟨?_, ?_, ?_⟩
  · simp only [PyData.showable, r1]
  · simp only [PyData.depth]
    omega
  · have z := listText_len_le (PyData.shownAll ds)
    have e : (PyData.list ds).shown = listText (PyData.shownAll ds) := by simp only [PyData.shown]
    rw [e, sizeLine_eq]
    omega
/-- an item of a menu of small data -/
theorem DtAll.get {K : PySem.W.Frag} {H : Hp} : ∀ {xs : List V} {ds : List PyData} {i : Nat} {x : V}, DtAll K H xs ds → (∀ d, d ∈ ds → Sm d) → xs[i]? = some x → ∃ d, Dt K H x d ∧ Sm d
  | _, _, _, _, .nil, _, e => by simp at e
  | _, _, 0, _, .cons h _, s, e => by
    simp at e
    subst e
    exact ⟨_, h, s _ List.mem_cons_self⟩
  | _, _, i + 1, _, .cons _ t, s, e => DtAll.get (i := i) t (fun d hd => s d (List.mem_cons_of_mem _ hd)) (by simpa using e)
theorem DtAll.len {K : PySem.W.Frag} {H : Hp} : ∀ {xs : List V} {ds : List PyData}, DtAll K H xs ds → ds.length = xs.length
  | _, _, .nil => rfl
  | _, _, .cons _ t => by rw [List.length_cons, List.length_cons, DtAll.len t]
theorem dt_strs {K : PySem.W.Frag} {H : Hp} : ∀ xs : List Str, DtAll K H (xs.map V.str) (xs.map PyData.str)
  | [] => .nil
  | x :: r => .cons (.str x) (dt_strs r)
theorem dt_ints {K : PySem.W.Frag} {H : Hp} : ∀ xs : List Int, DtAll K H (xs.map V.int) (xs.map PyData.int)
  | [] => .nil
  | x :: r => .cons (.int x) (dt_ints r)
theorem str_item {zs : List Str} {j : Nat} {x : V} (h : (zs.map V.str)[j]? = some x) : ∃ z, z ∈ zs ∧ x = .str z := by
  rw [List.getElem?_map] at h
  cases e : zs[j]? with
  | none =>
    rw [e] at h
    cases h
  | some z =>
    rw [e] at h
    exact ⟨z, List.mem_of_getElem? e, (Option.some.inj h).symm⟩
theorem int_item {zs : List Int} {j : Nat} {x : V} (h : (zs.map V.int)[j]? = some x) : ∃ z, z ∈ zs ∧ x = .int z := by
  rw [List.getElem?_map] at h
  cases e : zs[j]? with
  | none =>
    rw [e] at h
    cases h
  | some z =>
    rw [e] at h
    exact ⟨z, List.mem_of_getElem? e, (Option.some.inj h).symm⟩
/-- all but p and f is as it was -/
def By (p f : Addr) (A B : Hp) : Prop := ∀ b o, b ≠ p → b ≠ f → A b = some o → B b = some o
theorem By.of {p f : Addr} {A B : Hp} (h : But p A B) : By p f A B := fun b o n _ e => h b o n e
theorem By.sm {p f : Addr} {A B : Hp} (h : Same A B) : By p f A B := fun b o _ _ e => h b o e
theorem By.trans {p f : Addr} {A B C : Hp} (h : By p f A B) (g : By p f B C) : By p f A C := fun b o n m e => g b o n m (h b o n m e)
theorem By.upd (p f : Addr) (A : Hp) (o : HO) : By p f A (L2.upd A f o) := fun b u _ m e => by
  rw [upd_ne m]
  exact e
theorem But.sm {p : Addr} {A B : Hp} (h : Same A B) : But p A B := fun b o _ e => h b o e
/-- data of a tuple of small names -/
theorem sm_names {zs : List Str} (h : ∀ z, z ∈ zs → z = "a" ∨ z = "b" ∨ z = "xx") (hl : zs.length ≤ 5) : (PyData.tuple (zs.map PyData.str)).showable = true ∧ (PyData.tuple (zs.map PyData.str)).depth ≤ 1 ∧ (PyData.tuple (zs.map PyData.str)).shown.length ≤ 300 := by
  have hz : ∀ d, d ∈ zs.map PyData.str → d.showable = true ∧ d.depth = 0 ∧ d.shown.length ≤ 10 := by
    intro d hd
    obtain ⟨z, hz, rfl⟩ := List.mem_map.mp hd
    rcases h z hz with rfl | rfl | rfl <;> exact ⟨rfl, rfl, by decide +kernel⟩
  have all : ∀ ds : List PyData, (∀ d, d ∈ ds → d.showable = true ∧ d.depth = 0 ∧ d.shown.length ≤ 10) → PyData.showableAll ds = true ∧ PyData.depthAll ds = 0 ∧ ((PyData.shownAll ds).map (·.length)).sum ≤ 10 * ds.length ∧ (PyData.shownAll ds).length = ds.length := by
    intro ds
    induction ds with
    | nil => intro _; exact ⟨rfl, rfl, Nat.le_refl _, rfl⟩
    | cons d r ih =>
      intro q
      obtain ⟨h1, h2, h3⟩ := q d List.mem_cons_self
      obtain ⟨r1, r2, r3, r4⟩ := ih fun x hx => q x (List.mem_cons_of_mem _ hx)
      refine ⟨?_, ?_, ?_, ?_⟩
      · simp only [PyData.showableAll, h1, r1, Bool.and_self]
      · simp only [PyData.depthAll, h2, r2]
        rfl
      · simp only [PyData.shownAll, List.map_cons, List.sum_cons, List.length_cons]
        omega
      · simp only [PyData.shownAll, List.length_cons, r4]
  obtain ⟨r1, r2, r3, r4⟩ := all _ hz
  rw [List.length_map] at r3 r4
  refine ⟨?_, ?_, ?_⟩
  · simp only [PyData.showable, r1]
  · simp only [PyData.depth, r2]
    omega
  · have z := tupleText_len_le (PyData.shownAll (zs.map PyData.str))
    have e : (PyData.tuple (zs.map PyData.str)).shown = tupleText (PyData.shownAll (zs.map PyData.str)) := by simp only [PyData.shown]
    rw [e]
    omega
/-- a pair of a short text and small data -/
theorem sm_pair {x : Str} {d : PyData} (hx : (PyData.str x).shown.length ≤ 50) (h : d.showable = true ∧ d.depth ≤ 1 ∧ d.shown.length ≤ 300) : Sm (.tuple [.str x, d]) := by
  obtain ⟨h1, h2, h3⟩ := h
  refine ⟨?_, ?_, ?_⟩
  · simp only [PyData.showable, PyData.showableAll, h1, Bool.and_self]
  · simp only [PyData.depth, PyData.depthAll]
    omega
  · have z := tupleText_len_le (PyData.shownAll [.str x, d])
    have e : (PyData.tuple [.str x, d]).shown = tupleText (PyData.shownAll [.str x, d]) := by simp only [PyData.shown]
    rw [e]
    simp only [PyData.shownAll, List.map_cons, List.map_nil, List.sum_cons, List.sum_nil, List.length_cons, List.length_nil] at z ⊢
    omega
end Rp

/-! Such exceptions raised and caught in one def. -/
namespace Ex
open PySem PySem.Spec PySem.Calls PyProof.Rows L2
section
variable {X : Cx} {e : Expr} {te : TE} {f : Str} {pos : Pos} {C fI : Addr} {nid : String} {ml : List Value}
/-- raise e, e a new exception of such a class -/
theorem pmk_val (T : XC X.K C nid ml f fI) (hx : X.ex = []) (he : PE X e te) :
    PMk X e (fun σ H Q => te σ H fun x H1 => ∃ (a dx : Addr) (v : V), x = .ref a ∧ H1 a = some (exo a C (some dx)) ∧ H1 dx = some (exd dx [(f, v)]) ∧ Fr0 X.H_0 a ∧ Q (.ref C) (some dx) (delH H1 a)) := by
  intro pins s σ H Q I h
  refine wpAny_mono (he.run pins s σ H _ I h) (fun u s1 hu => ?_) fun _ _ x => x
  obtain ⟨v, H1, I1, r1, a, dx, y, rfl, ha, hd, h0, q⟩ := hu
  cases r1
  obtain ⟨t1, ho⟩ := exo_at I1.hok ha
  obtain ⟨G, gs, gn, J⟩ := I1.untrack ha h0 hx
  exact ⟨a, _, _, { s1 with heap := G }, delH H1 a, .ref C, some dx, rfl, J, gs, gn, ho, ⟨rfl, rfl⟩, rfl, rfl, delH_same, rfl, I1.bare, raises_own T.exC T.tyC, q⟩
/-- n.f, n the exception that the suite holds -/
def tSfld (C a : Addr) (f : Str) (cls : Value) (d : Option Addr) (te : TE) : TE := fun σ H Q => te σ H fun x H1 => x = .ref a ∧ cls = .ref C ∧ ∃ (dd : Addr) (v : V), d = some dd ∧ H1 dd = some (exd dd [(f, v)]) ∧ Q v H1
theorem pe_sfld {a : Addr} {oe : Obj} {cls : Value} {d : Option Addr} {pn : List (Addr × Obj)} (T : XC X.K C nid ml f fI) (hz : Zc cls d oe) (hf : ∃ vs, oe.data = .fields vs) (he : PE (X.suite a ((a, oe) :: pn)) e te)
    (hb : attributeBase e f X.env (eval e X.env) = eval e X.env := by rfl) : PE (X.suite a ((a, oe) :: pn)) (.Attribute e f pos) (tSfld C a f cls d te) := by
  refine ⟨fun pins s σ H Q I h => ?_⟩
  refine attr_of hb (thn (he.run pins s σ H _ I h) fun u s1 hh => ?_)
  obtain ⟨x, H1, I1, rx, ex, ec, dd, v, ed, ea, q⟩ := hh
  subst ex
  obtain rfl : u = Value.ref a := rx
  subst ec
  subst ed
  obtain ⟨ha, _⟩ := I1.pin (a, oe) (List.mem_append_left _ List.mem_cons_self)
  obtain ⟨vs, hd⟩ := hf
  obtain ⟨mA, hns, rel⟩ := exd_at I1.hok ea
  obtain ⟨od, hod, hl⟩ := lookIn_ns hns
  have l : List.lookup f [(f, v)] = some v := by simp [List.lookup]
  obtain ⟨w, hw, rw'⟩ := RelO.some_of (v := v) (o := mA f) (by rw [← l]; exact rel f)
  have J : PySem.W.InstAt s1.heap a oe C (some od) := by
    refine ⟨ha, hz.1, ?_, ?_⟩
    · unfold PySem.W.notCls
      rw [hd] <;> rfl
    · rw [hz.2]
      exact hod
  exact HandSPX.exc_get I1.kIn J T.ga T.gg T.exC (PySem.W.findObj_own T.hdC T.noF rfl (by rw [hl, hw])) (handed_of rw') ⟨v, H1, I1.tok _, rw', q⟩
/-- isinstance(n, c), n the exception that the suite holds, without a dict -/
def rIS (K : PySem.W.Frag) (a : Addr) (cls : Value) (d : Option Addr) : List V → Hp → VK → Prop := fun xs H Q => ∃ (c : V) (u : Value) (D : Addr) (b : Bool), xs = [.ref a, c] ∧ ClsV c u ∧ cls = .ref D ∧ d = none ∧ IC K D ∧ PySem.W.kitOne K (.ref D) u = some b ∧ Q (.bl b) H
theorem call_isS {a : Addr} {oe : Obj} {cls : Value} {d : Option Addr} {pn : List (Addr × Obj)} (hz : Zc cls d oe) (hf : ∃ vs, oe.data = .fields vs) : CallR (X.suite a ((a, oe) :: pn)) (.builtin "isinstance") (rIS X.K a cls d) := by
  intro pins s σ H xs us Q I r h
  obtain ⟨c, cv, D, b, rfl, hc, ec, ed, T, e, q⟩ := h
  subst ec
  subst ed
  obtain ⟨u1, u2, rfl, r1, r2⟩ := vals2 r
  have e2 := hc.eq r2
  subst e2
  obtain rfl : u1 = Value.ref a := r1
  obtain ⟨hget, _⟩ := I.pin (a, oe) (List.mem_append.mpr (.inl List.mem_cons_self))
  obtain ⟨vs, hv⟩ := hf
  have J : PySem.W.InstAt s.heap a oe D none := by
    obtain ⟨oc, od, oda, osl⟩ := oe
    obtain ⟨h1, h2⟩ := hz
    dsimp only at h1 h2 hv
    subst h1 h2 hv
    exact ⟨hget, rfl, rfl, trivial⟩
  exact PySem.W.kia_one (PySem.W.kitx_exc T.cl T.ga T.gg T.sub T.kl T.gt T.tk T.mo) I.kIn J e (fun z => nomatch z) fun tk => ⟨.bl b, H, I.tok tk, rfl, q⟩
end
end Ex

/-! repr of any data; the data part of a heap (no stream, no table). -/
namespace Rp
open PySem PySem.Spec PyProof.Rows L2 Ex Dr
open LamX (ExtN TabS Tabs CodeO)
def rRepA (K : PySem.W.Frag) : List V → Hp → VK → Prop := fun xs H Q => ∃ (v : V) (d : PyData), xs = [v] ∧ Dt K H v d ∧ d.showable = true ∧ d.depth ≤ 60 ∧ d.shown.length ≤ sizeLine ∧ Q (.str d.shown) H
theorem call_repr_any {X : Cx} (hk : SysD X.K) (hg : X.A.guards = some []) (hu : X.A.units + 64 < cLine) : CallR X (.builtin "repr") (rRepA X.K) := by
  intro pins s σ H xs us Q I r h
  obtain ⟨v, d, rfl, hd, hs, hdep, hz, q⟩ := h
  obtain ⟨u, rfl, hr⟩ := vals1 r
  have go : ∀ {a : Addr}, v = .ref a → wpAny (model X.prog X.w) X.A (call (.builtin "repr") [u]) (EP X pins σ Q) X.xe s := fun {a} e => by
    subst e
    exact call_repr_data hk hg hu pins s σ H [.ref a] [u] Q I (.cons hr .nil) ⟨a, d, rfl, hd, hs, hdep, hz, q⟩
  cases d with
  | none =>
    cases hd
    obtain rfl : u = Value.none := hr
    exact PySem.P.repr_of_none ⟨.str _, H, I.tok _, ⟨_, rfl⟩, q⟩
  | bool b =>
    cases hd
    obtain rfl : u = Value.bool b := hr
    exact PySem.P.repr_of_bool ⟨.str _, H, I.tok _, ⟨_, rfl⟩, q⟩
  | int i =>
    cases hd
    obtain ⟨t, rfl⟩ := hr
    exact PySem.P.repr_of_int (of_decide_eq_true hs) ⟨.str _, H, I.tok _, ⟨_, rfl⟩, q⟩
  | str x =>
    cases hd
    obtain ⟨t, rfl⟩ := hr
    exact PySem.P.repr_of_str ⟨.str _, H, I.tok _, ⟨_, rfl⟩, q⟩ hz
  | list ds =>
    cases hd with
    | lst h1 h2 => exact go rfl
  | tuple ds =>
    cases hd with
    | tup h1 h2 => exact go rfl
  | dict ds =>
    cases hd with
    | dic h1 h2 => exact go rfl
theorem smu {H : Hp} {p : Addr} {o : HO} (h : H p = none) : Same H (upd H p o) := fun b u e => by
  rw [upd_ne (ne_of_none e h)]
  exact e
/-- the heap without the stream at p and without tables -/
def ct (p : Addr) (H : Hp) : Hp := fun b => if b = p then none else match H b with
  | some (.tbl _) => none
  | o => o
theorem ct_at {p b : Addr} {H : Hp} {o : HO} (h : H b = some o) (n : b ≠ p) (nt : ∀ ps, o ≠ .tbl ps) : ct p H b = some o := by
  unfold ct
  rw [if_neg n, h]
  cases o <;> first | rfl | exact absurd rfl (nt _)
theorem ct_of {p b : Addr} {H : Hp} {o : HO} (h : ct p H b = some o) : b ≠ p ∧ H b = some o ∧ ∀ ps, o ≠ .tbl ps := by
  unfold ct at h
  by_cases n : b = p
  · rw [if_pos n] at h
    cases h
  · rw [if_neg n] at h
    refine ⟨n, ?_, fun ps z => ?_⟩
    · cases e : H b with
      | none =>
        rw [e] at h
        cases h
      | some u =>
        rw [e] at h
        cases u <;> first | exact h | cases h
    · subst z
      cases e : H b with
      | none =>
        rw [e] at h
        cases h
      | some u =>
        rw [e] at h
        cases u <;> cases h
theorem ct_all {p : Addr} {H : Hp} : Same (ct p H) H := fun b o e => (ct_of e).2.1
theorem ct_same {p : Addr} {H H' : Hp} (k : ∀ b o, b ≠ p → H b = some o → (∀ ps, o ≠ .tbl ps) → H' b = some o) : Same (ct p H) (ct p H') := fun b o e => by
  obtain ⟨n, h, t⟩ := ct_of e
  exact ct_at (k b o n h t) n t
theorem ct_but {p : Addr} {H H' : Hp} (b : But p H H') : Same (ct p H) (ct p H') := ct_same fun _ _ n h _ => b _ _ n h
theorem ct_sm {p : Addr} {H H' : Hp} (s : Same H H') : Same (ct p H) (ct p H') := ct_same fun _ _ _ h _ => s _ _ h
theorem ct_ext {p : Addr} {H H' : Hp} (e : ExtN H H') : Same (ct p H) (ct p H') := ct_same fun _ _ _ h t => e _ _ h t
/-- a new object -/
theorem ct_new {p q : Addr} {H : Hp} {o : HO} (hp : H p ≠ none) (hq : H q = none) (nt : ∀ ps, o ≠ .tbl ps) : Same (ct p H) (ct p (upd H q o)) ∧ ct p (upd H q o) q = some o :=
  ⟨ct_sm (smu hq), ct_at upd_same (fun z => hp (by rw [← z]; exact hq)) nt⟩
/-- what is free in the data part -/
theorem tabs_sm {T : List (Addr × Str)} {H H' : Hp} (t : Tabs T H) (s : Same H H') : Tabs T H' := t.ext fun b o e => s b o e
theorem tabs_but {T : List (Addr × Str)} {p : Addr} {xs : List V} {H H' : Hp} (t : Tabs T H) (hp : H p = some (.lst xs)) (b : But p H H') : Tabs T H' := fun z hz => by
  obtain ⟨ps, h1, h2, h3⟩ := t z hz
  refine ⟨ps, b _ _ (fun e => ?_) h1, h2, fun pos cv hc => ?_⟩
  · rw [e, hp] at h1
    cases h1
  · obtain ⟨c, e1, e2⟩ := h3 pos cv hc
    refine ⟨c, e1, b _ _ (fun e => ?_) e2⟩
    rw [e, hp] at e2
    cases e2
/-- the type of data -/
def tyD : PyData → String
  | .none => "NoneType"
  | .bool _ => "bool"
  | .int _ => "int"
  | .str _ => "str"
  | .list _ => "list"
  | .tuple _ => "tuple"
  | .dict _ => "dict"
theorem Dt.ty {K : PySem.W.Frag} {H : Hp} {v : V} : ∀ {d : PyData}, Dt K H v d → TyX K H v (.type (tyD d))
  | .none, h => by cases h; exact .base .non
  | .bool b, h => by cases h; exact .base (.bl b)
  | .int i, h => by cases h; exact .base (.int i)
  | .str x, h => by cases h; exact .base (.str x)
  | .list ds, h => by
    cases h with
    | lst h1 h2 =>
      rcases h1 with (h | ⟨o, h⟩) | ⟨o, its, n, h, hc, _⟩
      · exact .base (.lst h)
      · exact .base (.frz h)
      · exact .kList h hc
  | .tuple ds, h => by
    cases h with
    | tup h1 h2 =>
      rcases h1 with (h | ⟨o, h⟩) | ⟨o, its, n, h, hc, _⟩
      · exact .base (.tup h)
      · exact .fTuple h
      · exact .kTuple h hc
  | .dict ds, h => by
    cases h with
    | dic h1 h2 => exact .base (.dK h1)
end Rp

/-! HeadX with defs that make lambdas: their empty tables are left out of what is written. -/
namespace Hx
open PySem PySem.Spec PyProof.Rows L2
open He (ga ma)
def obsT (ts : PySem.W.Frag → Bool) (fn : List He.DefD) (tf : List He.Defn) (g : Addr → Option Obj) (K : PySem.W.Frag) : He.AlD := ((ts K && He.tabsB g tf K) && fn.all fun d => d.ok K, fn.map fun d => He.fnW K d.at_)
def obsTG (n : Nat) (ts : PySem.W.Frag → Bool) (fn : List He.DefD) (tf : List He.Defn) (g : Addr → Option Obj) : He.AlD := obsT ts fn tf g (He.frT g (asX g n))
/-- what is told of the written part K and the heap h -/
structure SaysT (ts : PySem.W.Frag → Bool) (fn : List He.DefD) (tf : List He.Defn) (h : Heap) (K : PySem.W.Frag) : Prop where
  c : SaysX ts fn K
  hd : ∀ p ∈ tf, PySem.W.codeHdIn K (He.cT K p).1 (He.cT K p).2 = true
  out : ∀ p ∈ tf, K.lookup (He.cT K p).2 = none
  empty : ∀ p ∈ tf, h.get? (He.cT K p).2 = some { cls := .none, data := .fields #[] }
theorem saysT_of {n : Nat} {ts : PySem.W.Frag → Bool} {fn : List He.DefD} {tf : List He.Defn} {h : Heap} (e : obsTG n ts fn tf h.get? = He.valD fn) : SaysT ts fn tf h (He.frT h.get? (asX h.get? n)) := by
  unfold obsTG obsT at e
  have e1 := congrArg (fun z : He.AlD => z.1) e
  have e2 := congrArg (fun z : He.AlD => z.2) e
  generalize hK : He.frT h.get? (asX h.get? n) = K at e1 e2 ⊢
  obtain ⟨a1, a2⟩ := He.ba (show ((ts K && He.tabsB h.get? tf K) && fn.all fun d => d.ok K) = true from e1)
  obtain ⟨a3, a4⟩ := He.ba a1
  have key : ∀ p ∈ tf, PySem.W.codeHdIn K (He.cT K p).1 (He.cT K p).2 = true ∧ ∃ o, h.get? (He.cT K p).2 = some o ∧ He.emptyTab o = true := fun p hp => by
    obtain ⟨b1, b2⟩ := He.ba (List.all_eq_true.mp a4 p hp)
    refine ⟨b1, ?_⟩
    cases q : h.get? (He.cT K p).2 with
    | none =>
      rw [q] at b2
      cases b2
    | some o =>
      rw [q] at b2
      exact ⟨o, rfl, b2⟩
  refine ⟨Prod.ext ?_ e2, fun p hp => (key p hp).1, fun p hp => ?_, fun p hp => ?_⟩
  · show (ts K && fn.all fun d => d.ok K) = true
    rw [a3, a2] <;> rfl
  · obtain ⟨_, o, q, z⟩ := key p hp
    rw [← hK] at q ⊢
    exact He.frT_none q z
  · obtain ⟨_, o, q, z⟩ := key p hp
    rw [q, He.emptyTab_eq z]
def hookT (n : Nat) (ts : PySem.W.Frag → Bool) (fn : List He.DefD) (tf : List He.Defn) : PySem.W.Hook where
  α := He.AlD
  obs := fun s => obsTG n ts fn tf s.heap.get?
  val := fun _ => He.valD fn
  says := fun _ h => ∃ K : PySem.W.Frag, K.In h ∧ SaysT ts fn tf h K
  of := fun _ _ e => ⟨_, He.frT_in, saysT_of e⟩
  keeps := fun _ _ _ ⟨K, hK, c⟩ k => ⟨K, PySem.W.Frag.In.keeps hK k, ⟨c.c, c.hd, c.out, fun p hp => k _ _ (c.empty p hp)⟩⟩
theorem obsTG_eq {n : Nat} {ts : PySem.W.Frag → Bool} {fn : List He.DefD} {tf : List He.Defn} {g : Addr → Option Obj} {s : Shared} (h : ∀ a, g a = s.heap.get? a) : obsTG n ts fn tf g = (hookT n ts fn tf).obs s := by
  have e : g = s.heap.get? := funext h
  rw [e] <;> rfl
/-- the keyword-only default y of the def named x, an object -/
def kwA (x y : Str) (K : PySem.W.Frag) : Addr := match K.lookup (ga K x) with
  | some ⟨_, _, .func fd, _⟩ => (match fd.kwdefaults with
    | .ref D => (match PySem.W.nsIn K D y with
      | some (some (.ref a)) => a
      | _ => 0)
    | _ => 0)
  | _ => 0
/-- an empty tuple stands at a -/
def emB (K : PySem.W.Frag) (a : Addr) : Bool := match K.lookup a with
  | some ⟨.type c, _, .seq its _, _⟩ => decide (c = "tuple") && its.isEmpty
  | _ => false
theorem emB_ok {K : PySem.W.Frag} {a : Addr} (h : emB K a = true) (H : Hp) : SqT K H a [] := by
  unfold emB at h
  split at h
  · rename_i c dd its n sl q
    obtain ⟨h1, h2⟩ := He.ba h
    have e := Array.isEmpty_iff.mp h2
    subst e
    exact .inr ⟨_, #[], n, q, congrArg Value.type (of_decide_eq_true h1), rfl, Nat.zero_le _, .nil⟩
  · cases h
def exB (K : PySem.W.Frag) (x y : Str) (b : Bool) : Bool := decide (PySem.W.exmOne K (.ref (ga K x)) (.ref (ga K y)) = some b)
def iniB (K : PySem.W.Frag) (b i : String) : Bool := match PySem.W.findCls K (.type b) (.type "type") "__init__" with
  | some (.val (.builtin j)) => j == i
  | _ => false
/-- the class named x: derived without an own __init__ from ValueError -/
def msgB (K : PySem.W.Frag) (x : Str) : Bool := PySem.W.excIn K (ga K x) He.veBase "ValueError.__new__" && (PySem.W.keepIn K (.ref (ga K x)) && decide (PySem.W.typeIn K (.ref (ga K x)) = some (.type "type")))
end Hx

/-! enumerate(a tuple), walked. -/
namespace Tp
open PySem PySem.Spec PyProof.Rows L2
open AutoSeq1 (wpAny_loadPart')
abbrev oIt (t : Addr) : Obj := { cls := .type "tuple_iterator", data := .fields #[.ref t, .int 0 0] }
abbrev oEn (it : Addr) : Obj := { cls := .type "enumerate", data := .fields #[.none, .bool false, .ref it, rawInt 0, .none, .none] }
theorem newEn (t : Addr) (items : Array Value) (n : Nat) (dct : Option Addr) (sl : Array (Option Value)) :
    Meets (Builtin.«enumerate.__new__» ⟨[.type "enumerate", .ref t], []⟩) (fun _ R s => s.heap.get? t = some { cls := .type "tuple", dict := dct, data := .seq items n, slots := sl } ∧
      R (.ok (.ret (.ref (s.heap.push (oIt t)).objs.size))) { s with heap := (s.heap.push (oIt t)).push (oEn s.heap.objs.size) }) :=
  .of_wp fun prog w A R s h => by
    obtain ⟨hp, g, d, tk, os⟩ := s
    obtain ⟨ho, h⟩ := h
    have hsub := sub_enumerate
    have hT : Heap.IsTuple (Shared.heap ⟨hp, g, d, tk, os⟩) t items := ⟨_, ho, rfl, n, rfl⟩
    wp_walk using wpAny_loadPart' ho
    refine wpAny_stack_any fun st => wpAny_pure ?_
    split
    · rename_i c _ _ _ _ _
      cases (c == Value.type "enumerate")
      all_goals
        wp_walk using wpAny_loadPart' ho, wpAny_pyIter_tuple hT
        exact ⟨_, rfl, h⟩
    · wp_walk using wpAny_loadPart' ho, wpAny_pyIter_tuple hT
      exact ⟨_, rfl, h⟩
theorem call_en {prog : Program} {w : World} {A : Around} {E : Value → Shared → Prop} {s : Shared} {t : Addr} {items : Array Value} {Q : Value → Shared → Prop} (hT : s.heap.IsTuple t items)
    (h : ∀ h', IsEnum h' (s.heap.objs.size + 1) s.heap.objs.size 0 .none → h'.IsTupleIter s.heap.objs.size t 0 → (∀ b o, s.heap.get? b = some o → h'.get? b = some o) → Q (.ref (s.heap.objs.size + 1)) { s with heap := h' }) :
    wpAny (model prog w) A (call (.type "enumerate") [.ref t]) Q E s := by
  obtain ⟨⟨c, dct, dt, sl⟩, ho, hc, n, hd⟩ := hT
  dsimp only at hc hd
  subst hc hd
  have hz : (s.heap.push (oIt t)).objs.size = s.heap.objs.size + 1 := Heap.size_push ..
  have e1 := Heap.get?_push_size (s.heap.push (oIt t)) (o := oEn s.heap.objs.size) rfl
  rw [hz] at e1
  refine callType_new F.called_enumerate (by decide) (F.typeCall_enumerate_1 _) (F.newCall_enumerate_1 _) (fun obj => F.args_object_init_2 obj _) F.entry_enumerate_new (newEn t items n dct sl) ⟨ho, ?_⟩
  show _ ∧ _
  rw [hz]
  exact ⟨⟨_, e1, rfl⟩, h _ e1 ⟨_, Heap.get?_push_of_some _ (Heap.get?_push_size _ rfl), rfl, rfl⟩ fun b o x => Heap.get?_push_of_some _ (Heap.get?_push_of_some _ x)⟩
theorem enum_endT {prog : Program} {w : World} {A : Around} {E : Value → Shared → Prop} {s : Shared} {e it t : Addr} {i : Nat} {k : Int} {old : Value} {items : Array Value} {Q : Option Value → Shared → Prop} (hh : A.handled = none)
    (he : IsEnum s.heap e it k old) (hit : s.heap.IsTupleIter it t i) (hT : s.heap.IsTuple t items) (hx : items[i]? = none)
    (hQ : ∀ h', Heap.ExtBut it s.heap h' → Q none { s with heap := h' }) : wpAny (model prog w) A (pyNext (.ref e)) Q E s := by
  have hc : s.TypeIs (.ref e) "enumerate" := ⟨_, he, rfl⟩
  unfold pyNext
  refine wpAny_bind (wpAny_attempt (wpAny_callSpecial?_slot (name := Str.ofString "__next__") hc F.slot_enumerate_next
    (wpAny_call_entry F.slot_enumerate_next hc F.entry_enumerate_next ?_ (F.args_enumerate_next_1 _))))
  show wpAny _ _ (field (.ref e) 2 >>= _) _ _ _
  refine wpAny_bind (wpAny_field he rfl (x := .ref it) rfl ?_)
  refine wpAny_bind (wpAny_nextOf_tuple_end (A := A.in1) hh hit hT hx fun h' x hb hs => ?_)
  obtain ⟨o, ho, hk⟩ := hs
  refine wpAny_bind (wpAny_isInstance (T := "StopIteration") (b := true) ⟨o, ho, hk⟩ isSubtype_stop ?_)
  exact wpAny_pure (hQ _ hb)
/-- the tuple at a, each item with its place in a new pair -/
def IteT (K : PySem.W.Frag) (a : Addr) : It :=
  ⟨fun i H => ∃ (xs : List V) (x : V), SqT K H a xs ∧ xs[i]? = some x,
    fun i H v H' => ∃ T x, v = .ref T ∧ H T = none ∧ H' = upd H T (.tup [.int (i : Nat), x]) ∧ ∀ xs, SqT K H a xs → xs[i]? = some x,
    fun i H => ∃ xs : List V, SqT K H a xs ∧ xs.length ≤ i⟩
theorem turn_enT {P : Program} {w : World} {K : PySem.W.Frag} {elts : List Expr} {kk : Nat} {tpos : Pos} (a e it : Addr) :
    Turn P w K (.Tuple elts kk tpos) (IteT K a) [e, it] e (fun i h => (∃ old, IsEnum h e it ((i : Nat) : Int) old) ∧ h.IsTupleIter it a i ∧ e ≠ it) where
  mem := by simp
  obj := fun i h st b hb => by
    obtain ⟨⟨old, he⟩, ⟨o, ho, hc, hd⟩, _⟩ := st
    rcases (show b = e ∨ b = it by simpa using hb) with z | z
    · subst z
      exact ⟨_, he, fun v q => nomatch q⟩
    · subst z
      exact ⟨o, ho, fun v q => by rw [hd] at q; cases q⟩
  keep := fun i h h' st k => by
    obtain ⟨⟨old, he⟩, hi, hne⟩ := st
    exact ⟨⟨old, k e (by simp) _ he⟩, hi.at fun o q => k it (by simp) o q, hne⟩
  item := by
    intro X hP hw hK hc i pins s σ H E I hf st hg
    subst hP hw hK
    obtain ⟨⟨old, he⟩, hit, hne⟩ := st
    obtain ⟨xs, x, hq, hx⟩ := hg
    obtain ⟨its, rv, p, hz⟩ := I.tuple hq
    obtain ⟨u, hu, ru⟩ := rv.get hx
    have hT : s.heap.IsTuple a its.toArray := p
    have hel : e < s.heap.objs.size := Heap.lt_size he
    have hil : it < s.heap.objs.size := by
      obtain ⟨_, q, _⟩ := hit
      exact Heap.lt_size q
    have nae : a ≠ e := fun z => by
      obtain ⟨o, h1, h2, _⟩ := hT
      subst z
      rw [he] at h1
      cases h1
      exact absurd (Value.type.inj h2) (by decide)
    have nai : a ≠ it := fun z => by
      obtain ⟨o, h1, h2, _⟩ := hT
      obtain ⟨o', h3, h4, _⟩ := hit
      subst z
      rw [h3] at h1
      cases h1
      rw [h4] at h2
      exact absurd (Value.type.inj h2) (by decide)
    have hlt : i < its.toArray.size := by
      have := List.getElem?_eq_some_iff.mp hu
      obtain ⟨q, _⟩ := this
      simpa using q
    have D := Draws.tuple (prog := X.prog) (w := X.w) (A := X.A.in1) (I.ok.hd hc) it a nai its.toArray
    refine wpAny_pyNext_enum_itemD D he ⟨hit, hT⟩ hlt hne (by simp [hne, nae.symm]) fun u' h' tk hP ho hs' hT' hsz hk => ?_
    obtain rfl : u' = u := by
      have q : its[i]? = some u' := by simpa using hP
      rw [hu] at q
      exact (Option.some.inj q).symm
    refine ⟨_, rfl, wpAny_letOwnedTupleGo_enum (s := { s with heap := h', toks := tk + 1 }) ho fun h'' he' sb => ?_⟩
    have hT2 : h''.get? s.heap.objs.size = some { cls := .type "tuple", data := .seq #[.int i tk, u'] } := (sb.2 _ (Nat.ne_of_gt hel)).trans hT'
    have kk2 : ∀ b ob, b ∉ [e, it] → s.heap.get? b = some ob → h''.get? b = some ob := fun b ob hb q =>
      (sb.2 b fun z => hb (by simp [z])).trans (hk b ob (fun z => hb (by simp [z])) (fun z => hb (by simp [z])) q)
    have new : ObjOk X.prog X.w (upd H s.heap.objs.size (.tup [.int (i : Nat), x])) h'' s.heap.objs.size (.tup [.int (i : Nat), x]) :=
      ⟨by show 2 ≤ sizeLine; decide, [.int i tk, u'], .cons ⟨_, rfl⟩ (.cons ru .nil), ⟨_, hT2, rfl, _, rfl⟩⟩
    have I1 : Inv X pins σ (upd H s.heap.objs.size (.tup [.int (i : Nat), x])) { s with heap := h'', toks := tk + 1 } := I.turnedNew (ch := [e, it]) kk2 hf (Nat.le_refl _) new
    refine ⟨.ref s.heap.objs.size, _, I1, rfl, ⟨_, x, rfl, I.hok.fresh (Nat.le_refl _), rfl, fun ys hy => by rw [I.tuple_inj hy hq]; exact hx⟩, ⟨⟨u', he'⟩, hs'.1.at fun o q => (sb.2 it (Ne.symm hne)).trans q, hne⟩, fun b hb => ?_⟩
    have hb' : b < s.heap.objs.size := by
      rcases (show b = e ∨ b = it by simpa using hb) with z | z
      · rw [z]; exact hel
      · rw [z]; exact hil
    rw [upd_ne (Nat.ne_of_lt hb')]
    exact (hf b hb).1
  done := by
    intro X hP hw hK hc i pins s σ H E I hf st hg
    subst hP hw hK
    obtain ⟨⟨old, he⟩, hit, hne⟩ := st
    obtain ⟨xs, hq, hx⟩ := hg
    obtain ⟨its, rv, p, hz⟩ := I.tuple hq
    have hT : s.heap.IsTuple a its.toArray := p
    obtain ⟨f0, f1, f2, f3, f4, f5⟩ := hf it (by simp)
    have hl := rv.length
    refine enum_endT (I.ok.hd hc) he hit hT (by simp; omega) fun h' eb => ⟨rfl, I.turned (t' := s.toks) (fun b o hb q => eb b o hb q) f0 f1 f3 f4 f5⟩
  self := fun A i s Q E st h => by
    obtain ⟨⟨_, he⟩, _⟩ := st
    exact wpAny_pyIter_enum he h
def iEnT (K : PySem.W.Frag) (ta : TA) : TI := fun σ H R => ta σ H fun vs H1 => ∃ a xs, vs = [.ref a] ∧ SqT K H1 a xs ∧ R (IteT K a) H1
theorem pi_enT {X : Cx} {e : Expr} {ta : TA} {p pos tpos : Pos} {elts : List Expr} {kk : Nat} (hg : Gl X "enumerate") (hm : X.mg "enumerate" = none) (ha : PA X [e] ta) (hs : starEach [e] X.env = [(false, eval e X.env)] := by rfl) :
    PI X (.Tuple elts kk tpos) (.Call (.Name "enumerate" p) [e] [] pos) (iEnT X.K ta) := by
  refine ⟨fun pins s σ H R I h => Call_ (ld_blt I hg hm boot_enumerate (PyProof.Rows.callWith_type1 (thn (ha.run pos pins s σ H _ I h) fun us s1 ⟨vs, H1, I1, r1, q1⟩ => ?_) hs rfl))⟩
  obtain ⟨a, xs, ex, hq, q⟩ := q1
  subst ex
  obtain ⟨u, rfl, hr⟩ := vals1 r1
  obtain rfl : u = Value.ref a := hr
  obtain ⟨its, rv, p', hz⟩ := I1.tuple hq
  refine call_en (show s1.heap.IsTuple a its.toArray from p') fun h' he hit hk => wpAny_pyIter_enum he ?_
  have I2 : Inv X pins σ H1 { s1 with heap := h' } := I1.kept (t' := s1.toks) hk
  refine ⟨s1.heap.objs.size + 1, [s1.heap.objs.size + 1, s1.heap.objs.size], _, _, H1, rfl, I2, turn_enT a (s1.heap.objs.size + 1) s1.heap.objs.size, ⟨⟨.none, he⟩, hit, Nat.succ_ne_self _⟩, fun b hb => ?_, q⟩
  have hle : s1.heap.objs.size ≤ b := by
    rcases (show b = s1.heap.objs.size + 1 ∨ b = s1.heap.objs.size by simpa using hb) with z | z
    · rw [z]; exact Nat.le_succ _
    · rw [z]; exact Nat.le_refl _
  exact I1.fpOk hle (I1.hok.fresh hle)
end Tp

/-! tuple * int, once or not at all. -/
namespace Tp
open PySem PySem.Spec PyProof.Rows L2
open AutoSeq1 (wpAny_loadPart')
theorem noFillT : fillsNumberSlot (.type "tuple") "mul" = pure false :=
  PySem.fillsNumberSlot_seq (id := "tuple.__mul__") (r := some (.builtin "tuple.__rmul__")) PySem.F.slot_tuple_mul.lookup (by decide +kernel) PySem.F.slot_tuple_rmul.lookup (by decide +kernel)
theorem repT : seqRepeat? (.type "tuple") = pure (some (.builtin "tuple.__mul__")) := by
  unfold seqRepeat?
  rw [PySem.seqSlot_of (T := "tuple") (name := "__mul__") (id := "tuple.__mul__") PySem.F.slot_tuple_mul.lookup (by decide +kernel)]
  rw [PySem.seqSlot_of (T := "tuple") (name := "__rmul__") (id := "tuple.__rmul__") PySem.F.slot_tuple_rmul.lookup (by decide +kernel)]
  rfl
theorem rmulT (k : Int) (u : Tok) (t : Addr) (items : Array Value) (n : Nat) (dd : Option Addr) (sl : Array (Option Value)) :
    Meets (Builtin.«int.__rmul__» ⟨[.int k u, .ref t], []⟩) (fun _ R s => s.heap.get? t = some { cls := .type "tuple", dict := dd, data := .seq items n, slots := sl } ∧ R (.ok (.ret Value.notImplemented)) s) :=
  .of_wp fun prog w A R s h => by
    obtain ⟨hp, g, d, tk, os⟩ := s
    obtain ⟨ht, q⟩ := h
    wp_walk using wpAny_loadPart' ht
    exact ⟨_, rfl, q⟩
/-- once: the tuple itself -/
theorem mulT1 (t : Addr) (items : Array Value) (n : Nat) (dd : Option Addr) (sl : Array (Option Value)) (u : Tok) :
    Meets (Builtin.«tuple.__mul__» ⟨[.ref t, .int 1 u], []⟩) (fun _ R s => s.heap.get? t = some { cls := .type "tuple", dict := dd, data := .seq items n, slots := sl } ∧ R (.ok (.ret (.ref t))) s) :=
  .of_wp fun prog w A R s h => by
    obtain ⟨hp, g, d, tk, os⟩ := s
    obtain ⟨ht, q⟩ := h
    have f1 := AutoSeq1.idx_int
    have c1 : (items.isEmpty || (1 : Int) == 1) = true := by simp
    wp_walk using wpAny_loadPart' ht
    repeat (first
      | (refine wpAny_ite_true (decide_eq_true c1) ?_; wp_walk using wpAny_loadPart' ht)
      | (refine wpAny_ite_true (by simp) ?_; wp_walk using wpAny_loadPart' ht))
    exact ⟨_, rfl, q⟩
/-- not at all: a new empty tuple -/
theorem mulT0 (t : Addr) (items : Array Value) (n : Nat) (dd : Option Addr) (sl : Array (Option Value)) (k : Int) (u : Tok) (hk : k ≤ 0) (hk2 : -(2 ^ 63) ≤ k) (hi : items.isEmpty = false) :
    Meets (Builtin.«tuple.__mul__» ⟨[.ref t, .int k u], []⟩) (fun _ R s => s.heap.get? t = some { cls := .type "tuple", dict := dd, data := .seq items n, slots := sl } ∧
      R (.ok (.ret (.ref s.heap.objs.size))) { s with heap := s.heap.push { cls := .type "tuple", data := .seq #[] } }) :=
  .of_wp fun prog w A R s h => by
    obtain ⟨hp, g, d, tk, os⟩ := s
    obtain ⟨ht, q⟩ := h
    have f1 := AutoSeq1.idx_int
    have c0 : (decide (k < -(2 ^ 63)) || decide (k ≥ 2 ^ 63)) = false := by
      rw [decide_eq_false (by omega), decide_eq_false (by omega)] <;> rfl
    have c1 : (items.isEmpty || k == 1) = false := by
      rw [hi, Bool.false_or]
      exact beq_eq_false_iff_ne.mpr (by omega)
    have c2 : (decide (k ≤ 0) || items.isEmpty) = true := by
      rw [decide_eq_true hk] <;> rfl
    wp_walk using wpAny_loadPart' ht
    repeat (first
      | (refine wpAny_ite_false (decide_eq_false (by rw [c0]; exact Bool.false_ne_true)) ?_; wp_walk using wpAny_loadPart' ht)
      | (refine wpAny_ite_false (decide_eq_false (by rw [c1]; exact Bool.false_ne_true)) ?_; wp_walk using wpAny_loadPart' ht)
      | (refine wpAny_ite_true (decide_eq_true c2) ?_; wp_walk using wpAny_loadPart' ht))
    exact ⟨_, rfl, q⟩
/-- t * k, t of at least one item, k at most 1 -/
def rRep1 (K : PySem.W.Frag) : R2 := fun x y H Q => ∃ t k xs, x = .ref t ∧ y = .int k ∧ SqT K H t xs ∧ xs ≠ [] ∧ -(2 ^ 63) ≤ k ∧ k ≤ 1 ∧ (k = 1 → Q (.ref t) H) ∧ (k ≤ 0 → ∀ p, H p = none → Q (.ref p) (upd H p (.tup [])))
theorem op_rep1 {X : Cx} : OpR X (binaryOp .Mult) (rRep1 X.K) := by
  intro pins s σ H x y v u Q I rx ry h
  obtain ⟨t, k, xs, rfl, rfl, hT, hne, hb, h1, q1, q0⟩ := h
  cases rx
  obtain ⟨tk, rfl⟩ := ry
  obtain ⟨its, r, ⟨⟨cls, dd, data, sl⟩, ho, hc, n, hd⟩, hs⟩ := I.tuple hT
  dsimp only at hc hd
  subst hc hd
  have hi : its.toArray.isEmpty = false := by
    cases its with
    | nil =>
      cases r
      exact absurd rfl hne
    | cons a b => rfl
  have go : ∀ {R : Value → Shared → Prop}, wpAny (model X.prog X.w) X.A (call (.builtin "tuple.__mul__") [.ref t, .int k tk]) R X.xe s → wpAny (model X.prog X.w) X.A (binaryOp .Mult (.ref t) (.int k tk)) R X.xe s := fun z =>
    wpAny_binaryOp_repeat_ref (T := "tuple") (U := "int") (by decide) ⟨_, ho, rfl⟩ (fun s' => typeIs_int s' k tk) noFillT F.fills_int_mul F.slot_int_rmul repT F.slot_int_index.lookup
      (call_meets F.slot_int_rmul (typeIs_int s k tk) F.entry_int_rmul (F.args_int_rmul_2 _ _) (rmulT k tk t its.toArray n dd sl) ⟨ho, rfl, ⟨_, ho, rfl⟩, z⟩)
  by_cases e : k = 1
  · subst e
    exact go (call_meets F.slot_tuple_mul ⟨_, ho, rfl⟩ F.entry_tuple_mul (F.args_tuple_mul_2 _ _) (mulT1 t its.toArray n dd sl tk) ⟨ho, ⟨.ref t, H, I, rfl, q1 rfl⟩⟩)
  · refine go (call_meets F.slot_tuple_mul ⟨_, ho, rfl⟩ F.entry_tuple_mul (F.args_tuple_mul_2 _ _) (mulT0 t its.toArray n dd sl k tk (by omega) hb hi) ⟨ho, ?_⟩)
    have new : ObjOk X.prog X.w (upd H s.heap.objs.size (.tup [])) (s.heap.push { cls := .type "tuple", data := .seq #[] }) s.heap.objs.size (.tup []) :=
      ⟨by show 0 ≤ sizeLine; decide, [], .nil, ⟨_, Heap.get?_push_size _ rfl, rfl, _, rfl⟩⟩
    have I1 := I.laid (t' := s.toks) (fun b o e => Heap.get?_push_of_some _ e) (Nat.le_refl _) new
    exact ⟨.ref s.heap.objs.size, _, I1, rfl, q0 (by omega) _ (I.hok.fresh (Nat.le_refl _))⟩
end Tp

/-! A set comprehension whose items any rule of set.add takes; such of ints. -/
namespace Tp
open PySem PySem.Spec PyProof.Rows L2
open PpSet (compLoopS_any codeAny_compStart_set newSet_ok)
abbrev oSet (w : World) : Obj := { cls := .type "set", dict := none, data := .set #[] 0 (.fresh 0 0 (!w.params.followText "set-order")) }
/-- r: what set.add asks; new: what is known of the new set -/
def tSg (new : Addr → HO) (r : V → List V → Hp → VK → Prop) (wi : TI) (g : TG) (tt : TT) (te : TE) (ow : List Nat) : TE := fun σ H Q => wi σ H fun J H1 => ∀ D, H1 D = none →
  ∃ W : Nat → Nat → Hp → Prop, (∃ m, W 0 m (upd H1 D (new D))) ∧ ∀ i m G, W i m G → (J.stop i G ∧ Q (.ref D) G) ∨
    (J.go i G ∧ ∃ Nx : Hp → Prop, (∀ G', Nx G' → ∃ m', m' < m ∧ W (i + 1) m' G') ∧ ∀ x G', J.yld i G x G' → g x (wipe σ ow) G' fun τ G2 => wipe τ ow = wipe σ ow ∧ tt τ G2 fun b G3 => if b = true then te τ G3 fun y G4 => r (.ref D) [y] G4 fun _ G5 => Nx G5 else Nx G3)
section
variable {X : Cx}
theorem pe_sg {elt tg iter : Expr} {ifs : List Expr} {scope : Scope} {own : List (PySem.Str × Nat)} {pos : Pos} {wi : TI} {g : TG} {tt : TT} {te : TE} {new : Addr → HO} {r : V → List V → Hp → VK → Prop} (hc : X.calm = true) (hN : X.N.Nodup)
    (hnew : ∀ {h : Heap} {H : Hp}, ObjOk X.prog X.w H (h.push (oSet X.w)) h.objs.size (new h.objs.size)) (hadd : ∀ Y : Cx, Y.prog = X.prog → Y.w = X.w → MtR Y "set.add" r) (hi : PI X tg iter wi) (ok : BlkOk X.N X.env.scope scope own)
    (hg : ∀ (s : Shared) (H : Hp) (C : Addr) (cl : List (PySem.Str × Addr)) (fp : List Addr), PG (X.blk s H scope (compEnvC scope cl C X.env) fp) tg g)
    (ht : ∀ (s : Shared) (H : Hp) (C : Addr) (cl : List (PySem.Str × Addr)) (fp : List Addr), PTs (X.blk s H scope (compEnvC scope cl C X.env) fp) ifs tt)
    (he : ∀ (s : Shared) (H : Hp) (C : Addr) (cl : List (PySem.Str × Addr)) (fp : List Addr), PE (X.blk s H scope (compEnvC scope cl C X.env) fp) elt te)
    (hs : ∀ x, foldedSetIterable iter X.env x = pure x := by intro _; rfl) : PE X (.SetComp elt [⟨tg, iter, ifs, 0⟩] scope pos) (tSg new r wi g tt te (own.map (·.2))) := by
  refine ⟨fun pins s σ H Q I h => ?_⟩
  rw [PpSet.eval_SetComp]
  have fr : ∀ y ∈ scope.names, y.2 = .free → ∃ c, X.env.cells.lookup y.1 = some c := fun y hy e => (ok.free y hy e).elim (fun k => I.ok.has _ (.inl k)) fun k => I.ok.has _ (.inr k)
  refine wpAny_comprehension_free (use := none) rfl hs (closure_ok fr) ok.kind (fun y hy e => by rw [ok.uniq y hy, e]) (thn (hi.run pins s σ H _ I h) fun xv s1 hx => thn hx fun itv s2 h2 => ?_)
  obtain ⟨it, fp, tn, J, H2, e, I2, T, st2, f2, q⟩ := h2
  subst e
  refine newSet_ok (newEnv_comp ?_)
  generalize hD : s2.heap.objs.size = D
  have nD : H2 D = none := I2.hok.fresh (Nat.le_of_eq hD)
  obtain ⟨W, ⟨m0, w0⟩, turn⟩ := q D nD
  generalize hs3 : ({ s2 with heap := s2.heap.push (oSet X.w) } : Shared) = s3
  have h3 : s3.heap = s2.heap.push (oSet X.w) := by rw [← hs3]
  have I3 : Inv X pins σ (upd H2 D (new D)) s3 := by
    rw [← hs3]
    refine I2.laid (t' := s2.toks) (fun b o e => Heap.get?_push_of_some _ e) (Nat.le_of_eq hD) ?_
    rw [← hD]
    exact hnew
  have old : ∀ b ∈ fp, b < s2.heap.objs.size := fun b hb => by
    obtain ⟨o, e, _⟩ := T.obj _ _ st2 b hb
    exact Heap.lt_size e
  have f3 : ∀ b ∈ fp, FpOk X pins (upd H2 D (new D)) b ∧ b < s3.heap.objs.size := fun b hb => by
    have lt := old b hb
    refine ⟨⟨?_, (f2 b hb).2⟩, by rw [h3, Heap.size_push]; exact Nat.lt_succ_of_lt lt⟩
    rw [upd_ne (by rw [← hD]; exact Nat.ne_of_lt lt)]
    exact (f2 b hb).1
  have st3 : tn 0 s3.heap := T.keep _ _ _ st2 fun b _ o e => by
    rw [h3]
    exact Heap.get?_push_of_some _ e
  have I4 := block_start I3 ok hN f3
  have pg := hg s3 (upd H2 D (new D)) s3.heap.objs.size (cellsFrom (s3.heap.objs.size + 1) scope.names (cloFrom X.env.cells scope.names [])) fp
  have pt := ht s3 (upd H2 D (new D)) s3.heap.objs.size (cellsFrom (s3.heap.objs.size + 1) scope.names (cloFrom X.env.cells scope.names [])) fp
  have pe := he s3 (upd H2 D (new D)) s3.heap.objs.size (cellsFrom (s3.heap.objs.size + 1) scope.names (cloFrom X.env.cells scope.names [])) fp
  show codeAny _ _ (.compStart (.SetComp elt [⟨tg, iter, ifs, 0⟩] scope pos) 0 (.ref it) (.ref D) (compEnvC scope (cellsFrom (s3.heap.objs.size + 1) scope.names (cloFrom X.env.cells scope.names [])) s3.heap.objs.size X.env)) (compPost (model X.prog X.w) X.A X.xe none (EP X pins σ Q) (.ref D) s3.heap.objs.size) { s3 with heap := pushCells (s3.heap.push { cls := .type "dict", data := .dict #[] }) scope.names }
  have nfp : ∀ b ∈ fp, (upd H2 D (new D)) b = none := fun b hb => (f3 b hb).1.1
  generalize hce : compEnvC scope (cellsFrom (s3.heap.objs.size + 1) scope.names (cloFrom X.env.cells scope.names [])) s3.heap.objs.size X.env = ce at I4 pg pt pe ⊢
  have cL : ce.locals = s3.heap.objs.size := by
    subst hce
    rfl
  generalize hH3 : upd H2 D (new D) = H3 at I3 I4 pg pt pe w0 nfp f3
  generalize hs4 : ({ s3 with heap := pushCells (s3.heap.push { cls := .type "dict", data := .dict #[] }) scope.names } : Shared) = s4 at I4 ⊢
  have st4 : tn 0 s4.heap := T.keep _ _ _ st3 fun b _ o e => by
    rw [← hs4]
    exact pushCells_keeps _ _ _ _ (Heap.get?_push_of_some _ e)
  have stat : ∀ {τ : L2.St} {G : Hp} {t : Shared}, Inv (X.blk s3 H3 scope ce fp) [] τ G t → (∀ b ∈ fp, G b = none) → ∀ b ∈ fp, FpOk (X.blk s3 H3 scope ce fp) [] G b := fun {τ G t} K hn b hb =>
    ⟨hn b hb, (K.ok.exf b hb).1, K.ok.exfs b hb, .inl hb, fun x c e => (K.ok.exf b hb).2 x c e, fun p hp => absurd (show p ∈ ([] : List (Addr × Obj)) ++ [] from hp) (by simp)⟩
  have loop : codeAny (model X.prog X.w) X.A (.compLoop (.SetComp elt [⟨tg, iter, ifs, 0⟩] scope pos) 0 (.ref it) (.ref D) ce) (compPost (model X.prog X.w) X.A X.xe none (EP X pins σ Q) (.ref D) s3.heap.objs.size) s4 := by
    refine compLoopS_any (fun n t => ∃ i G, Inv (X.blk s3 H3 scope ce fp) [] (wipe σ (own.map (·.2))) G t ∧ tn i t.heap ∧ (∀ b ∈ fp, G b = none) ∧ W i n G) ?_ m0 ⟨0, H3, I4, st4, nfp, w0⟩
    rintro n s5 ⟨i, H5, I5, st5, n5, w5⟩
    rcases turn i n H5 w5 with ⟨stop, qq⟩ | ⟨go, Nx, hNx, step⟩
    · refine thnF (T.done (X.blk s3 H3 scope ce fp) rfl rfl rfl hc i [] s5 _ H5 (fun _ _ => False) I5 (stat I5 n5) st5 stop) fun z s6 ⟨hz, I6⟩ => ?_
      subst hz
      have I7 : Inv X pins σ H5 s6 := I3.call' (ch := fp) I6.os I6.base I6.hok I6.bare fun b hb => ⟨(f3 b hb).1.2.2.2.1, (f3 b hb).1.2.1, (f3 b hb).1.2.2.2.2.1, (f3 b hb).1.2.2.2.2.2⟩
      have nC : H5 s3.heap.objs.size = none := by
        rw [← cL]
        exact I6.free
      obtain ⟨m, hn, _⟩ := I6.loc
      have hn2 : s6.heap.Ns s3.heap.objs.size m := by
        rw [← cL]
        exact hn
      obtain ⟨g0, g1, g2, g3, g4, g5⟩ := I3.fpOk (b := s3.heap.objs.size) (Nat.le_refl _) nC
      exact ⟨m, hn2, fun h'' sb => ⟨.ref D, H5, I7.turned (t' := s6.toks) (fun b o hb e => (sb.2 b hb).trans e) g0 g1 g3 g4 g5, rfl, qq⟩⟩
    · refine thnF (T.item (X.blk s3 H3 scope ce fp) rfl rfl rfl hc i [] s5 _ H5 (fun _ _ => False) I5 (stat I5 n5) st5 go) fun z s6 ⟨u, hz, h6⟩ => ?_
      subst hz
      refine thnF h6 fun _ s7 ⟨x, H7, I7, r7, y7, st7, n7⟩ => ?_
      have P7 := I7.pinned (stat I7 n7) (T.obj _ _ st7)
      refine thnF (pg.run _ s7 _ H7 x u _ P7 r7 (step x H7 y7)) fun _ s8 ⟨σ8, H8, I8, hw8, q8⟩ => ?_
      refine thnF (pt.run _ s8 σ8 H8 _ I8 q8) fun b s9 ⟨H9, I9, q9⟩ => ?_
      have fin : ∀ {t : Shared} {G : Hp}, Inv (X.blk s3 H3 scope ce fp) ([] ++ pinsAt fp s7.heap) σ8 G t → Nx G → ∃ m, m < n ∧ ∃ i G, Inv (X.blk s3 H3 scope ce fp) [] (wipe σ (own.map (·.2))) G t ∧ tn i t.heap ∧ (∀ b ∈ fp, G b = none) ∧ W i m G := fun {t G} K nx => by
        obtain ⟨m', hm, w'⟩ := hNx G nx
        have pin2 : ∀ b ∈ fp, ∀ o, s7.heap.get? b = some o → t.heap.get? b = some o ∧ G b = none := fun b hb o e => by
          have z := K.pin (b, o) (List.mem_append_right _ (List.mem_append_right _ (mem_pinsAt hb e)))
          exact ⟨z.1, z.2.1⟩
        have hl : (wipe σ (own.map (·.2))).length = σ8.length := by rw [← hw8, wipe_length]
        refine ⟨m', hm, i + 1, G, (K.unpinned (pins := [])).weak hl (fun j v e => ?_), T.keep _ _ _ st7 fun b hb o e => (pin2 b hb o e).1, fun b hb => ?_, w'⟩
        · rw [← hw8] at e
          exact (wipe_some e).1
        · obtain ⟨o, e, _⟩ := T.obj _ _ st7 b hb
          exact (pin2 b hb o e).2
      cases b with
      | false =>
        rw [if_neg (by simp)] at q9 ⊢
        exact fin I9 q9
      | true =>
        rw [if_pos rfl] at q9 ⊢
        refine thnF (pe.run _ s9 σ8 H9 _ I9 q9) fun z s10 ⟨yv, H10, I10, r10, qa⟩ => ?_
        refine thnF (hadd (X.blk s3 H3 scope ce fp) rfl rfl _ s10 σ8 H10 (.ref D) [yv] (.ref D) [z] (fun _ G5 => Nx G5) I10 rfl (.cons r10 .nil) qa) fun _ s11 ⟨_, H11, I11, _, nx⟩ => ?_
        exact fin I11 nx
  exact codeAny_compStart_set loop (T.self X.A 0 _ _ _ st4 loop)
/-- of ints -/
theorem pe_si {elt tg iter : Expr} {ifs : List Expr} {scope : Scope} {own : List (PySem.Str × Nat)} {pos : Pos} {wi : TI} {g : TG} {tt : TT} {te : TE} (hc : X.calm = true) (hN : X.N.Nodup) (hi : PI X tg iter wi) (ok : BlkOk X.N X.env.scope scope own)
    (hg : ∀ (s : Shared) (H : Hp) (C : Addr) (cl : List (PySem.Str × Addr)) (fp : List Addr), PG (X.blk s H scope (compEnvC scope cl C X.env) fp) tg g)
    (ht : ∀ (s : Shared) (H : Hp) (C : Addr) (cl : List (PySem.Str × Addr)) (fp : List Addr), PTs (X.blk s H scope (compEnvC scope cl C X.env) fp) ifs tt)
    (he : ∀ (s : Shared) (H : Hp) (C : Addr) (cl : List (PySem.Str × Addr)) (fp : List Addr), PE (X.blk s H scope (compEnvC scope cl C X.env) fp) elt te)
    (hs : ∀ x, foldedSetIterable iter X.env x = pure x := by intro _; rfl) : PE X (.SetComp elt [⟨tg, iter, ifs, 0⟩] scope pos) (tSg (fun D => SetO X.w D (fun _ => false) 0) (rSAdd X.w) wi g tt te (own.map (·.2))) :=
  pe_sg hc hN (fun {h H} => setO_new (setR_fresh X.w)) (fun Y hp hw => by
    have z := mt_sadd (X := Y)
    rw [hw] at z
    exact z) hi ok hg ht he hs
end
end Tp

/-! a dict != a tuple; data != data, a dict on the left against a tuple; tuple * int of any number. -/
namespace Tp
open PySem PySem.Spec PyProof.Rows L2 Rp
open AutoSeq1 (wpAny_loadPart')
theorem neDT (d t : Addr) (es : Array DictEntry) (ep : Nat) (items : Array Value) (n : Nat) (dd dd2 : Option Addr) (sl sl2 : Array (Option Value)) :
    Meets (Builtin.«dict.__ne__» ⟨[.ref d, .ref t], []⟩) (fun _ R s => s.heap.get? d = some { cls := .type "dict", dict := dd, data := .dict es ep, slots := sl } ∧ s.heap.get? t = some { cls := .type "tuple", dict := dd2, data := .seq items n, slots := sl2 } ∧ R (.ok (.ret .notImplemented)) s) :=
  .of_wp fun prog w A R s h => by
    obtain ⟨hp, g, dr, tk, os⟩ := s
    obtain ⟨hd, ht, q⟩ := h
    have f1 := F.sub_tuple_dict
    wp_walk using wpAny_loadPart' hd, wpAny_loadPart' ht
    exact ⟨_, rfl, q⟩
theorem neTD (d t : Addr) (es : Array DictEntry) (ep : Nat) (items : Array Value) (n : Nat) (dd dd2 : Option Addr) (sl sl2 : Array (Option Value)) :
    Meets (Builtin.«tuple.__ne__» ⟨[.ref t, .ref d], []⟩) (fun _ R s => s.heap.get? d = some { cls := .type "dict", dict := dd, data := .dict es ep, slots := sl } ∧ s.heap.get? t = some { cls := .type "tuple", dict := dd2, data := .seq items n, slots := sl2 } ∧ R (.ok (.ret .notImplemented)) s) :=
  .of_wp fun prog w A R s h => by
    obtain ⟨hp, g, dr, tk, os⟩ := s
    obtain ⟨hd, ht, q⟩ := h
    have f1 := F.sub_dict_tuple
    wp_walk using wpAny_loadPart' hd, wpAny_loadPart' ht
    exact ⟨_, rfl, q⟩
/-- a tracked dict != a tuple -/
def rNeDT (K : PySem.W.Frag) : R2 := fun x y H Q => ∃ a b kvs ys, x = .ref a ∧ y = .ref b ∧ H a = some (.dK kvs) ∧ SqT K H b ys ∧ Q (.bl true) H
theorem op_neDT {X : Cx} (hu : X.A.units < cLine) : OpR X (compareOp .NotEq) (rNeDT X.K) := by
  intro pins s σ H x y v u Q I rx ry h
  obtain ⟨a, b, kvs, ys, rfl, rfl, ha, hb, q⟩ := h
  cases rx
  cases ry
  obtain ⟨_, hsy, vs, rk, o, es, ep, ho, hx, hd, _⟩ := dk_of I.hok ha
  obtain ⟨its, r, ⟨⟨cls2, dd2, data2, sl2⟩, ho2, hc2, n2, hd2⟩, hz⟩ := I.tuple hb
  obtain ⟨cls, dd, data, sl⟩ := o
  have hc : cls = .type "dict" := hx.1
  dsimp only at hd hc2 hd2
  subst hc hd hc2 hd2
  have ne : a ≠ b := fun e => by
    subst e
    rw [ho] at ho2
    have z : Value.type "dict" = Value.type "tuple" := congrArg Obj.cls (Option.some.inj ho2)
    exact absurd (Value.type.inj z) (by decide)
  exact (SeqAt.rc_ne_decline_or (k := false) ⟨_, ho, rfl⟩ ⟨_, ho2, rfl⟩ (by decide) F.sub_tuple_dict F.slot_dict_ne F.slot_tuple_ne_refl
    (fun _ hq => call_meets F.slot_dict_ne ⟨_, ho, rfl⟩ F.entry_dict_ne (F.args_dict_ne_2 _ _) (neDT a b es ep its.toArray n2 dd dd2 sl sl2) ⟨ho, ho2, hq⟩)
    (fun _ hq => call_meets F.slot_tuple_ne_refl ⟨_, ho2, rfl⟩ F.entry_tuple_ne (F.args_tuple_ne_2 _ _) (neTD a b es ep its.toArray n2 dd dd2 sl sl2) ⟨ho, ho2, hq⟩)
    (fun _ hq => wpAny_isSame_ref_other ne ho ho2 (by simp) hq) (.inr hu) ⟨.bl true, H, I, rfl, q⟩)
/-- data != data where either both can be laid, or a dict stands against a tuple -/
def rNeA (K : PySem.W.Frag) : R2 := fun x y H Q => rNeD K x y H Q ∨ rNeDT K x y H Q
theorem op_neA {X : Cx} (hu : X.A.units + 64 < cLine) : OpR X (compareOp .NotEq) (rNeA X.K) := by
  intro pins s σ H x y v u Q I rx ry h
  rcases h with h | h
  · exact op_neD hu pins s σ H x y v u Q I rx ry h
  · exact op_neDT (by omega) pins s σ H x y v u Q I rx ry h
/-- data != (), where it is not () -/
def rNeE (K : PySem.W.Frag) : R2 := fun x y H Q => ∃ (d : PyData) (b : Addr), y = .ref b ∧ Dt K H x d ∧ SqT K H b [] ∧ d ≠ .tuple [] ∧ Q (.bl true) H
theorem op_neE {X : Cx} (hu : X.A.units < cLine) : OpR X (compareOp .NotEq) (rNeE X.K) := by
  intro pins s σ H x y v u Q I rx ry h
  obtain ⟨d, b, rfl, hd, hb, hne, q⟩ := h
  have ry' := ry
  obtain rfl : u = Value.ref b := ry'
  obtain ⟨its, r, pt, hz⟩ := I.tuple hb
  cases r
  have ht : s.heap.IsTuple b #[] := pt
  have fin : EP X pins σ Q (.bool true) s := ⟨.bl true, H, I, rfl, q⟩
  cases d with
  | none =>
    cases hd
    obtain rfl : v = Value.none := rx
    exact SeqAt.RcNeAt.none_tuple ht hu _ _ _ _ fin
  | bool c =>
    cases hd
    obtain rfl : v = Value.bool c := rx
    exact SeqAt.RcNeAt.bool_tuple c ht hu _ _ _ _ fin
  | int i =>
    cases hd
    obtain ⟨t, rfl⟩ := rx
    exact SeqAt.RcNeAt.int_tuple i t ht hu _ _ _ _ fin
  | str z =>
    cases hd
    obtain ⟨t, rfl⟩ := rx
    exact SeqAt.RcNeAt.str_tuple z t ht hu _ _ _ _ fin
  | list ds =>
    cases hd with
    | lst h1 h2 =>
      rename_i a xs
      obtain rfl : v = Value.ref a := rx
      obtain ⟨js, _, ⟨o, n, ho, hc, _, hd⟩, _⟩ := I.list h1
      exact SeqAt.RcNeAt.list_tuple (items := js.toArray) ⟨o, ho, hc, n, hd⟩ ht hu _ _ _ _ fin
  | dict ds =>
    cases hd with
    | dic h1 h2 => exact op_neDT hu pins s σ H _ _ v _ Q I rx ry ⟨_, b, _, [], rfl, rfl, h1, hb, q⟩
  | tuple ds =>
    cases hd with
    | tup h1 h2 =>
      rename_i a xs
      obtain rfl : v = Value.ref a := rx
      obtain ⟨js, rj, pj, _⟩ := I.tuple h1
      have hj : s.heap.IsTuple a js.toArray := pj
      have hl : js.toArray.size ≠ 0 := fun z => by
        rw [List.size_toArray, ← rj.length] at z
        have z2 := List.eq_nil_of_length_eq_zero z
        subst z2
        cases h2
        exact hne rfl
      refine SeqAt.RcNeAt.tuples (e := fun _ => true) hj ht hu (fun j _ h2 => absurd h2 (by simp)) _ _ _ _ ?_
      have e : (!((List.range (min js.toArray.size (#[] : Array Value).size)).all (fun _ => true) && js.toArray.size == (#[] : Array Value).size)) = true := by
        rw [Bool.not_eq_true', Bool.and_eq_false_iff]
        exact .inr (beq_eq_false_iff_ne.mpr hl)
      rw [e]
      exact fin
/-- t * k, t of at least one item -/
def rRepA (K : PySem.W.Frag) : R2 := fun x y H Q => ∃ t k xs, x = .ref t ∧ y = .int k ∧ SqT K H t xs ∧ xs ≠ [] ∧ -(2 ^ 63) ≤ k ∧ k ≤ 1000 ∧ xs.length ≤ 1000 ∧
  ∀ H' p, Same H H' → SqT K H' p (List.replicate k.toNat xs).flatten → Q (.ref p) H'
theorem op_repA {X : Cx} : OpR X (binaryOp .Mult) (rRepA X.K) := by
  intro pins s σ H x y v u Q I rx ry h
  obtain ⟨t, k, xs, rfl, rfl, hT, hne, hb, h1, hl, q⟩ := h
  by_cases h2 : 2 ≤ k
  · exact op_repT pins s σ H _ _ v u Q I rx ry ⟨t, k, xs, rfl, rfl, hT, hne, h2, h1, hl, fun p np => q _ p (smu np) (SqT.of upd_same)⟩
  · refine op_rep1 pins s σ H _ _ v u Q I rx ry ⟨t, k, xs, rfl, rfl, hT, hne, hb, by omega, fun e => ?_, fun e p np => ?_⟩
    · subst e
      refine q H t (Same.refl H) ?_
      have z : (List.replicate (Int.toNat 1) xs).flatten = xs := by simp
      rw [z]
      exact hT
    · refine q _ p (smu np) ?_
      have z : k.toNat = 0 := by omega
      rw [z]
      exact SqT.of upd_same
theorem rep_flat {α : Type} (n : Nat) (v : α) : (List.replicate n [v]).flatten = List.replicate n v := by
  induction n with
  | zero => rfl
  | succ n ih => rw [List.replicate_succ, List.flatten_cons, ih, List.replicate_succ] <;> rfl
end Tp
namespace Rp
open PySem PySem.Spec PyProof.Rows L2
/-- a tuple that stands in the heap is part of its data, where p is a list -/
theorem sqt_ct {K : PySem.W.Frag} {H : Hp} {p a : Addr} {ys xs : List V} (hp : H p = some (.lst ys)) (h : SqT K H a xs) : SqT K (ct p H) a xs := by
  have ne : ∀ {o : HO}, H a = some o → o ≠ .lst ys → a ≠ p := fun {o} e n z => by
    subst z
    rw [hp] at e
    exact n (Option.some.inj e).symm
  rcases h with (h | ⟨ob, h⟩) | h
  · exact .inl (.inl (ct_at h (ne h (fun z => by cases z)) (fun ps z => by cases z)))
  · exact .inl (.inr ⟨ob, ct_at h (ne h (fun z => by cases z)) (fun ps z => by cases z)⟩)
  · exact .inr h
theorem dt_rep {K : PySem.W.Frag} {H : Hp} {v : V} {d : PyData} (h : Dt K H v d) : ∀ n, DtAll K H (List.replicate n v) (List.replicate n d)
  | 0 => .nil
  | n + 1 => .cons h (dt_rep h n)
/-- data of so many signs, so deep -/
def Sz (e b : Nat) (d : PyData) : Prop := d.showable = true ∧ d.depth ≤ e ∧ d.shown.length ≤ b
theorem Sz.mono {e b e' b' : Nat} {d : PyData} (h : Sz e b d) (he : e ≤ e') (hb : b ≤ b') : Sz e' b' d := ⟨h.1, Nat.le_trans h.2.1 he, Nat.le_trans h.2.2 hb⟩
theorem sz_all {e b : Nat} : ∀ ds : List PyData, (∀ d, d ∈ ds → Sz e b d) → PyData.showableAll ds = true ∧ PyData.depthAll ds ≤ e ∧ ((PyData.shownAll ds).map (·.length)).sum ≤ b * ds.length ∧ (PyData.shownAll ds).length = ds.length
  | [], _ => ⟨rfl, Nat.zero_le _, Nat.zero_le _, rfl⟩
  | d :: r, h => by
    obtain ⟨h1, h2, h3⟩ := h d List.mem_cons_self
    obtain ⟨r1, r2, r3, r4⟩ := sz_all r fun x hx => h x (List.mem_cons_of_mem _ hx)
    refine ⟨?_, ?_, ?_, ?_⟩
    · simp only [PyData.showableAll, h1, r1, Bool.and_self]
    · simp only [PyData.depthAll]
      omega
    · simp only [PyData.shownAll, List.map_cons, List.sum_cons, List.length_cons, Nat.mul_add, Nat.mul_one]
      omega
    · simp only [PyData.shownAll, List.length_cons, r4]
theorem sz_tuple {e b c : Nat} {ds : List PyData} (h : ∀ d, d ∈ ds → Sz e b d) (hc : ds.length ≤ c) : Sz (e + 1) ((b + 2) * c + 3) (.tuple ds) := by
  obtain ⟨r1, r2, r3, r4⟩ := sz_all ds h
  have z := tupleText_len_le (PyData.shownAll ds)
  have m : (b + 2) * ds.length ≤ (b + 2) * c := Nat.mul_le_mul_left _ hc
  rw [Nat.add_mul] at m
  refine ⟨?_, ?_, ?_⟩
  · simp only [PyData.showable, r1]
  · simp only [PyData.depth]
    omega
  · simp only [PyData.shown]
    omega
theorem sz_list {e b c : Nat} {ds : List PyData} (h : ∀ d, d ∈ ds → Sz e b d) (hc : ds.length ≤ c) : Sz (e + 1) ((b + 2) * c + 3) (.list ds) := by
  obtain ⟨r1, r2, r3, r4⟩ := sz_all ds h
  have z := listText_len_le (PyData.shownAll ds)
  have m : (b + 2) * ds.length ≤ (b + 2) * c := Nat.mul_le_mul_left _ hc
  rw [Nat.add_mul] at m
  refine ⟨?_, ?_, ?_⟩
  · simp only [PyData.showable, r1]
  · simp only [PyData.depth]
    omega
  · simp only [PyData.shown]
    omega
end Rp

/-! t[::-1] of a tuple. -/
namespace Tp
open PySem PySem.Spec PyProof.Rows L2
theorem pick_all (l : List Value) : (List.range l.length).filterMap (fun k => l[k]?) = l := by
  have z := congrArg Array.toList (HT.pick_gen l.toArray 0 l.length)
  simp only [List.toList_toArray, List.drop_zero, List.take_length] at z
  have e : (fun (m : Nat) => l.toArray[(((0 : Nat) : Int) + (m : Int) * 1).toNat]?) = fun k => l[k]? := by
    funext m
    rw [show (((0 : Nat) : Int) + (m : Int) * 1).toNat = m by omega]
    simp
  rw [e] at z
  exact z
theorem fm_congr {α β : Type} {f g : α → Option β} : ∀ (l : List α), (∀ x ∈ l, f x = g x) → l.filterMap f = l.filterMap g
  | [], _ => rfl
  | x :: r, h => by rw [List.filterMap_cons, List.filterMap_cons, h x List.mem_cons_self, fm_congr r fun y hy => h y (List.mem_cons_of_mem _ hy)]
theorem pick_rev (xs : Array Value) : ((List.range xs.size).filterMap fun (k : Nat) => xs[(((xs.size : Nat) : Int) - 1 + (k : Int) * (-1)).toNat]?) = xs.toList.reverse := by
  have z := pick_all xs.toList.reverse
  rw [List.length_reverse, Array.length_toList] at z
  refine Eq.trans (fm_congr _ fun k hk => ?_) z
  have hk : k < xs.size := List.mem_range.mp hk
  rw [show (((xs.size : Nat) : Int) - 1 + (k : Int) * (-1)).toNat = xs.size - 1 - k by omega, List.getElem?_reverse (by rw [Array.length_toList]; exact hk), Array.length_toList]
  simp
theorem applied_rev {prog : Program} {w : World} {A : Around} {E : Value → Shared → Prop} {s : Shared} {sl : Addr} {vl vu vs : Value} {n : Nat} {Q : Int × Int × Nat → Shared → Prop} (hs : s.heap.IsSliceOf sl vl vu vs) (pl : IsPart vl none) (pu : IsPart vu none) (ps : IsPart vs (some (-1)))
    (h : Q ((n : Int) - 1, -1, n) s) : wpAny (model prog w) A (Builtin.Slice.sliceApplied (.ref sl) (pure (n : Int))) Q E s := by
  obtain ⟨os, hos, hcs, hds⟩ := id hs
  unfold Builtin.Slice.sliceApplied Builtin.Slice.sliceFields
  refine wpAny_bind (wpAny_bind (wpAny_field hos hds (x := vl) rfl (wpAny_bind (wpAny_field hos hds (x := vu) rfl (wpAny_bind (wpAny_field hos hds (x := vs) rfl (wpAny_pure ?_)))))))
  refine wpAny_bind (HT.slicePart_ ps ?_)
  show wpAny _ _ (if ((-1 : Int) == 0) = true then _ else _) _ _ s
  rw [if_neg (by decide)]
  refine wpAny_bind (HT.slicePart_ pl (wpAny_bind (HT.slicePart_ pu (wpAny_bind (wpAny_pure ?_)))))
  show wpAny _ _ (pure ((n : Int) - 1, (-1 : Int), Builtin.Slice.slicePlaces ((n : Int) - 1) (-1) (-1))) _ _ s
  have e : Builtin.Slice.slicePlaces ((n : Int) - 1) (-1) (-1) = n := by
    unfold Builtin.Slice.slicePlaces
    rw [if_neg (by decide), show -(-1 : Int) = 1 from rfl, Int.ediv_one]
    split <;> omega
  rw [e]
  exact wpAny_pure h
def tRevT (K : PySem.W.Frag) (te : TE) : TE := fun σ H Q => te σ H fun x H1 => ∃ a xs, x = .ref a ∧ SqT K H1 a xs ∧ ∀ p, H1 p = none → Q (.ref p) (upd H1 p (.tup xs.reverse))
section
variable {X : Cx}
theorem pe_revT {e : Expr} {te : TE} {k : Nat} {p1 p2 p3 pos : Pos} (he : PE X e te) : PE X (.Subscript e (.Slice none none (some (.UnaryOp .USub (.Constant (.int 1) k p1) p2)) p3) pos) (tRevT X.K te) := by
  refine ⟨fun pins s σ H Q I h => Subscript_ (thn (he.run pins s σ H _ I h) fun v s1 ⟨x, H1, I1, r1, q1⟩ => ?_)⟩
  obtain ⟨a, xs, ex, hx, q⟩ := q1
  subst ex
  obtain rfl : v = Value.ref a := r1
  have hst : PO X (some (.UnaryOp .USub (.Constant (.int 1) k p1) p2)) (tPart (tUn (rU fun i => .int (-i)) (tC (.int 1)))) := po_some (pe_un un_neg pe_int)
  refine wpAny_Slice (thn (po_none.run pins s1 σ H1 (fun o H2 => o = none ∧ H2 = H1) I1 ⟨rfl, rfl⟩) fun vl s2 ⟨l, H2, I2, pl, el, e2⟩ => ?_)
  subst el e2
  refine thn (po_none.run pins s2 σ H2 (fun o H3 => o = none ∧ H3 = H2) I2 ⟨rfl, rfl⟩) fun vu s3 ⟨u, H3, I3, pu, eu, e3⟩ => ?_
  subst eu e3
  refine thn (hst.run pins s3 σ H3 (fun o H4 => o = some (-1) ∧ H4 = H3) I3 ⟨1, rfl, -1, rfl, rfl, rfl⟩) fun vs s4 ⟨o, H4, I4, ps, eo, e4⟩ => ?_
  subst eo e4
  generalize hs5 : ({ s4 with heap := s4.heap.push { cls := .type "slice", data := .fields #[vl, vu, vs] } } : Shared) = s5
  have I5 : Inv X pins σ H4 s5 := by
    rw [← hs5]
    exact I4.kept (t' := s4.toks) fun b ob q => Heap.get?_push_of_some _ q
  have hsl : s5.heap.IsSliceOf s4.heap.objs.size vl vu vs := by
    rw [← hs5]
    exact Heap.IsSliceOf.new _ vl vu vs
  obtain ⟨its, r, ht, hz⟩ := I5.tuple hx
  obtain ⟨os, hos, hcs, hds⟩ := id hsl
  have hTs : s5.TypeIs (.ref s4.heap.objs.size) "slice" := ⟨os, hos, hcs⟩
  have hlen := r.length
  show wpAny (model X.prog X.w) X.A (subscriptTail e (.Slice none none (some (.UnaryOp .USub (.Constant (.int 1) k p1) p2)) p3) (.ref a) (.ref s4.heap.objs.size)) (EP X pins σ Q) X.xe _
  refine tail_any (ops := [.ref a, .ref s4.heap.objs.size]) ht.typeIs PyProof.Rows.slot_tuple_getitem.lookup ?_ (by with_unfolding_all rfl)
  unfold getItem
  try with_reducible refine wpAny_holding ?_
  first | refine wpAny_bind (wpAny_pure ?_) | skip
  refine wpAny_bind (wpAny_sequenceKey ht.typeIs (by decide) ?_)
  refine wpAny_bind (wpAny_callSpecial?_slot (name := Str.ofString "__getitem__") ht.typeIs PyProof.Rows.slot_tuple_getitem
    (wpAny_call_entry PyProof.Rows.slot_tuple_getitem ht.typeIs entry_tuple_getitem ?_ (args_tuple_getitem _ _)))
  show wpAny _ _ (Builtin.Tuple.tupleItemsOf (.ref a) >>= _) _ _ s5
  refine wpAny_bind (PyProof.Rows.tupleItemsOf_ ht ?_)
  refine wpAny_bind (wpAny_typeOf hTs ?_)
  rw [if_pos (by decide)]
  refine wpAny_bind (applied_rev hsl pl pu ps ?_)
  show wpAny _ _ (if ((((its.toArray.size : Nat) : Int) - 1) == 0 && (-1 : Int) == 1 && its.toArray.size == its.toArray.size) = true then _ else _) _ _ s5
  rw [if_neg (by rw [show ((-1 : Int) == 1) = false from rfl, Bool.and_false, Bool.false_and]; exact Bool.false_ne_true), pick_rev, List.toList_toArray]
  have hsz : sizeOk (.seq its.reverse.toArray) := by
    show its.reverse.toArray.size ≤ sizeLine
    rw [List.size_toArray, List.length_reverse, ← hlen]
    exact hz
  have new : ObjOk X.prog X.w (upd H4 s5.heap.objs.size (.tup xs.reverse)) (s5.heap.push { cls := .type "tuple", data := .seq its.reverse.toArray }) s5.heap.objs.size (.tup xs.reverse) :=
    ⟨by rw [List.length_reverse]; exact hz, its.reverse, r.reverse, ⟨_, Heap.get?_push_size _ rfl, rfl, _, rfl⟩⟩
  have I6 := I5.laid (t' := s5.toks) (fun b ob q => Heap.get?_push_of_some _ q) (Nat.le_refl _) new
  have fin := (⟨.ref s5.heap.objs.size, _, I6, rfl, q _ (I5.hok.fresh (Nat.le_refl _))⟩ : EP X pins σ Q (.ref s5.heap.objs.size) { s5 with heap := s5.heap.push { cls := .type "tuple", data := .seq its.reverse.toArray }, toks := s5.toks })
  first
    | exact wpAny_bind (m := Builtin.Tuple.tupleExact _) (wpAny_newObj_type (wpAny_pure ⟨_, rfl, wpAny_pure fin⟩) hsz)
    | exact wpAny_bind (wpAny_bind (wpAny_newObj_type (wpAny_pure (wpAny_pure ⟨_, rfl, wpAny_pure fin⟩)) hsz))
end
end Tp

/-! try with several except clauses, of which each may name what it holds. -/
namespace Ex
open PySem PySem.Spec PyProof.Rows L2
/-- a clause: its class, the slot of its name if it has one, its suite -/
structure Cl where
  c : Value
  i : Option Nat
  ts : Addr → Value → Option Addr → TS
/-- the ends behind a suite: its name is gone -/
def offN (o : Option Nat) (D : Ends) : Ends := match o with
  | none => D
  | some i => { nx := fun σ H => D.nx (σ.set i none) H, rt := D.rt, bk := fun σ H => D.bk (σ.set i none) H, ct := fun σ H => D.ct (σ.set i none) H }
def onN (o : Option Nat) (a : Addr) (σ : L2.St) : L2.St := match o with
  | none => σ
  | some i => σ.set i (some (.ref a))
/-- what the clauses wish of an exception of the body -/
def wCl (K : PySem.W.Frag) (m : Nat) (Wout : WX) (D : Ends) : List Cl → WX
  | [] => Wout
  | k :: r => fun cls d σ H => ∃ b, PySem.W.exmOne K cls k.c = some b ∧ (b = true → ∀ a, H a = none → σ.length = m → k.ts a cls d (offN k.i D) (onN k.i a σ) H) ∧ (b = false → wCl K m Wout D r cls d σ H)
/-- how a clause names -/
def NameOk (X : Cx) : Option Str → Option Nat → Prop
  | none, none => True
  | some n, some i => X.N[i]? = some n ∧ X.env.kindOf n = some .local
  | _, _ => False
inductive ClsOk (X : Cx) : List ExceptHandler → List Cl → Prop
  | nil : ClsOk X [] []
  | cons {x : Str} {k : Cl} {nm : Option Str} {b0 : Stmt} {suite : List Stmt} {np pos : Pos} {hds : List ExceptHandler} {l : List Cl} (hc : Names X x k.c) (hn : NameOk X nm k.i)
      (hsu : ∀ (a : Addr) (oe : Obj) (cls : Value) (d : Option Addr) (pn : List (Addr × Obj)), Zc cls d oe → (∃ vs, oe.data = .fields vs) → PSs (X.suite a ((a, oe) :: pn)) (b0 :: suite) (k.ts a cls d)) (r : ClsOk X hds l) :
      ClsOk X (.ExceptHandler (some (.Name x np)) nm (b0 :: suite) pos :: hds) (k :: l)
section
variable {X : Cx} {body : List Stmt} {h0 : ExceptHandler} {hds : List ExceptHandler} {l : List Cl} {pos : Pos} {tb : WX → TS} {Wout : WX}
theorem ps_try_cl (hs : X.stack = X.env :: X.outer) (hf : X.env.frame = some X.env.locals) (hN : X.N.Nodup) (tk : Takes X Wout)
    (hb : ∀ (W : WX) (pn : List (Addr × Obj)) (xe : Value → Shared → Prop), Takes (X.tr pn xe) W → PassesOwn (model X.prog X.w) X.A X.env xe → PSs (X.tr pn xe) body (tb W))
    (hh : ClsOk X (h0 :: hds) l) : PS X (.Try body (h0 :: hds) [] [] pos) (fun D σ H => tb (wCl X.K X.N.length Wout D l) D σ H) := by
  refine ⟨fun pins s σ H D I h => ?_⟩
  have ok := I.ok
  have hfr : X.A.frames = some (X.env :: X.outer) := by rw [ok.frames, hs]
  refine wpAny_Try_except (wpAny_mono ((hb (wCl X.K X.N.length Wout D l) (X.pn ++ pins) (fun e t => wpAny (model X.prog X.w) X.A (noteFrame e X.env) (fun _ t2 => wpAny (model X.prog X.w) X.A (setFlight e none) (fun _ t3 =>
    wpAny (model X.prog X.w) X.A (handleBy e X.env (h0 :: hds)) (SP X pins D) X.xe t3) X.xe t2) X.xe t) (fun u s' xx => ?_) PassesOwn.looking).run [] s σ H D (I.toTry _) h) (fun f s1 hsp => ?_) (fun _ _ he => he))
  · obtain ⟨a, B, sI, pins', τ, G, cls, d, rfl, J', nb, up, sky, na, os, ag, w⟩ := xx
    have J : Inv X pins τ G sI := J'.ofTry ok
    have sky2 : Sky B (X.env :: X.outer) a (Zc cls d) X.env.locals s'.heap := by
      rw [← hs]
      exact sky
    show wpAny (model X.prog X.w) X.A (noteFrame (.ref a) X.env) _ _ _
    refine Sky.land Zc.steady hfr hf sky2 fun h3 fl3 up3 => ?_
    have J3 : Inv X pins τ G { s' with heap := h3 } := J.landed nb fl3.1 (up.trans up3) os ag
    obtain ⟨oe3, vs3, he3, hz3, hd3⟩ := fl3.there
    have nfr : a ∉ frs (X.env :: X.outer) := fun hm => by
      obtain ⟨_, o', e', hnf⟩ := fl3.2.2.1.mem hm
      rw [he3] at e'
      cases e'
      exact hnf _ hd3
    have nL : a ≠ X.env.locals := fun z => nfr (List.mem_filterMap.mpr ⟨X.env, List.mem_cons_self, by rw [hf, z]⟩)
    have nF : a ∉ X.fs := fun hm => by
      obtain ⟨e, he, q⟩ := List.mem_filterMap.mp hm
      exact nfr (List.mem_filterMap.mpr ⟨e, List.mem_cons_of_mem _ he, q⟩)
    have S3 := J3.suite he3 hd3 na nL nF
    have go : ∀ {hs2 : List ExceptHandler} {l2 : List Cl}, ClsOk X hs2 l2 → wCl X.K X.N.length Wout D l2 cls d τ G → wpAny (model X.prog X.w) X.A (handleBy (.ref a) X.env hs2) (SP X pins D) X.xe { s' with heap := h3 } := by
      intro hs2 l2 hk
      induction hk with
      | nil =>
        intro w
        refine wpAny_handleBy_nil ?_
        obtain ⟨k1, k2, k3, oe, vs, T, oT, ts', he, hz, hd, h1, hr⟩ := id fl3
        unfold PySem.passOn
        refine wpAny_bind (wpAny_field he hd h1 ?_)
        rw [if_neg (show ¬ ((Value.ref T == Value.none) = true) from by simp)]
        have fin : wpAny (model X.prog X.w) X.A (setFlight (.ref a) X.env.frame) (fun _ s4 => wpAny (model X.prog X.w) X.A (throw (.ref a) : Sem Flow) (SP X pins D) X.xe s4) X.xe { s' with heap := h3 } := by
          rw [hf]
          refine HandSPX.setFlight_upZ fl3 fun h4 hh4 up4 => wpAny_throw (tk _ _ ?_)
          exact ⟨a, B, sI, pins, τ, G, cls, d, rfl, J, nb, (up.trans up3).trans up4, .inr (.inr (by rw [hs]; exact hh4)), na, os, ag, w⟩
        first
          | exact wpAny_bind (wpAny_pure (wpAny_bind fin))
          | exact wpAny_bind fin
      | @cons x k nm b0 suite np pos2 hds2 l2 hc hn hsu r ih =>
        intro w
        obtain ⟨b, hb1, hyes, hno⟩ := w
        refine wpAny_handleBy_cons (codeAny_handlers_test ?_) (by intro q; cases q)
        have LT : PySem.W.Looks (model X.prog X.w) h3 (typeOf (.ref a)) cls := fun A Q E s kp q => wpAny_typeOf_ref (kp _ _ he3) (by rw [hz3.1]; exact q)
        have LM := PySem.W.exm_one (M := model X.prog X.w) J3.kIn LT hb1
        have test : ∀ {Q : Value → Shared → Prop} {E : Value → Shared → Prop}, Q k.c { s' with heap := h3 } → wpAny (model X.prog X.w) (X.A.mark (some (.ref a))) (eval (.Name x np) X.env) Q E { s' with heap := h3 } := fun {Q E} q => by
          obtain ⟨hg, hdbg, hm | ⟨hm, hv, hnn⟩⟩ := hc
          · exact ld_glob (X := X.suite a ((a, oe3) :: (X.pn ++ pins))) S3 hg hm q hdbg
          · exact ld_blt (X := X.suite a ((a, oe3) :: (X.pn ++ pins))) S3 hg hm hv q hnn hdbg
        refine test (LM.here ?_)
        cases b with
        | false =>
          show wpAny _ X.A (handleBy (.ref a) X.env hds2) _ _ _
          exact ih (hno rfl)
        | true =>
          have hy := hyes rfl a na J.len
          obtain ⟨kc, ki, kts⟩ := k
          dsimp only at hc hn hsu hy
          match nm, ki, hn with
          | none, none, _ =>
            refine codeAny_handlers_suite (HandSPX.lands_againZ fl3 fun h4 fl4 up4 => ?_)
            have J4 : Inv X pins τ G { s' with heap := h4 } := J.landed nb fl4.1 ((up.trans up3).trans up4) os ag
            obtain ⟨oe4, vs4, he4, hz4, hd4⟩ := fl4.there
            have S4 := J4.suite he4 hd4 na nL nF
            refine wpAny_mono ((hsu a oe4 cls d (X.pn ++ pins) hz4 ⟨_, hd4⟩).run [] _ _ G D S4 hy) (fun f s6 hsp => ?_) (fun _ _ z => False.elim z)
            cases f with
            | next =>
              obtain ⟨σ6, H6, S6, q6⟩ := hsp
              exact ⟨_, _, S6.unsuite ok, q6⟩
            | brk =>
              obtain ⟨σ6, H6, S6, q6⟩ := hsp
              exact ⟨_, _, S6.unsuite ok, q6⟩
            | cont =>
              obtain ⟨σ6, H6, S6, q6⟩ := hsp
              exact ⟨_, _, S6.unsuite ok, q6⟩
            | ret u =>
              obtain ⟨v6, σ6, H6, S6, r6, q6⟩ := hsp
              exact ⟨_, _, _, S6.unsuite ok, r6, q6⟩
          | some n, some i, ⟨hi, hln⟩ =>
            refine codeAny_handlers_suite_as (HandSPX.lands_againZ fl3 fun h4 fl4 up4 => ?_)
            have J4 : Inv X pins τ G { s' with heap := h4 } := J.landed nb fl4.1 ((up.trans up3).trans up4) os ag
            obtain ⟨oe4, vs4, he4, hz4, hd4⟩ := fl4.there
            have S4 := J4.suite he4 hd4 na nL nF
            refine store_ok (X := X.suite a ((a, oe4) :: (X.pn ++ pins))) (v := .ref a) S4 hN hi (.inl hln) rfl (fun s5 S5 => ?_) (.inr hln)
            refine wpAny_mono ((hsu a oe4 cls d (X.pn ++ pins) hz4 ⟨_, hd4⟩).run [] s5 _ G _ S5 hy) (fun f s6 hsp => ?_) (fun _ _ z => False.elim z)
            have gone : ∀ {σ6 : L2.St} {H6 : Hp} {Q : Shared → Prop}, Inv (X.suite a ((a, oe4) :: (X.pn ++ pins))) [] σ6 H6 s6 → (∀ s7, Inv X pins (σ6.set i none) H6 s7 → Q s7) →
                wpAny (model X.prog X.w) X.A (do bindName X.env n .none; unbindBehindTheSuite X.env n pos2) (fun _ s7 => Q s7) X.xe s6 := fun S6 hq => gone_ok (S6.unsuite ok) hN hi hln hq
            cases f with
            | next =>
              obtain ⟨σ6, H6, S6, q6⟩ := hsp
              exact gone S6 fun s7 J7 => ⟨_, _, J7, q6⟩
            | brk =>
              obtain ⟨σ6, H6, S6, q6⟩ := hsp
              exact gone S6 fun s7 J7 => ⟨_, _, J7, q6⟩
            | cont =>
              obtain ⟨σ6, H6, S6, q6⟩ := hsp
              exact gone S6 fun s7 J7 => ⟨_, _, J7, q6⟩
            | ret u =>
              obtain ⟨v6, σ6, H6, S6, r6, q6⟩ := hsp
              exact gone S6 fun s7 J7 => ⟨_, _, _, J7, r6, q6⟩
    exact go hh w
  · cases f with
    | next =>
      obtain ⟨τ, G, J, q⟩ := hsp
      exact wpAny_execs_nil ⟨τ, G, J.ofTry ok, q⟩
    | brk =>
      obtain ⟨τ, G, J, q⟩ := hsp
      exact ⟨τ, G, J.ofTry ok, q⟩
    | cont =>
      obtain ⟨τ, G, J, q⟩ := hsp
      exact ⟨τ, G, J.ofTry ok, q⟩
    | ret u =>
      obtain ⟨v, τ, G, J, r, q⟩ := hsp
      exact ⟨v, τ, G, J.ofTry ok, r, q⟩
end
end Ex

namespace K02
open PySem PySem.Spec PyProof.Rows L2
open He (ga ma)
def top (i : Nat) : Stmt := PySem.Challenge.pw_pagewise_k02_errors_of_rows.main.body.getD i (.Pass ⟨0, 0, 0, 0⟩)
abbrev iN : Stmt := inClass (top 4) 0
abbrev sIsI : Stmt := top 7
abbrev sAre : Stmt := top 8
abbrev sAsc : Stmt := top 9
abbrev sIsRow : Stmt := top 10
abbrev sBefore : Stmt := top 11
abbrev sSorted : Stmt := top 12
abbrev sPlace : Stmt := top 13
abbrev sKey : Stmt := top 14
abbrev sChkR : Stmt := top 15
abbrev sChkD : Stmt := top 16
abbrev sStream : Stmt := top 18
abbrev sDraw : Stmt := top 19
abbrev sPick : Stmt := top 20
abbrev sTold : Stmt := top 21
abbrev sNoLine : Stmt := top 22
abbrev sNoTurned : Stmt := top 23
abbrev sNoLines : Stmt := top 24
abbrev sRight : Stmt := top 25
abbrev sLaw : Stmt := top 26
def dM (x : Str) (q : Str) (st : Stmt) : He.DefD := ⟨(x, some "__init__"), "__init__", q, defArgs st, defBody st, defScope st, [], []⟩
def dF (x : Str) (st : Stmt) : He.DefD := ⟨(x, none), x, x, defArgs st, defBody st, defScope st, [], []⟩
def dK (x : Str) (st : Stmt) : He.DefD := ⟨(x, none), x, x, defArgs st, defBody st, defScope st, [], [("down", .adr (Hx.kwA x "down"))]⟩
def fn : List He.DefD := [dM "InvalidNumber" "InvalidNumber.__init__" iN,
  dF "is_integer" sIsI, dF "are_integers" sAre, dF "is_ascending" sAsc, dF "is_row" sIsRow, dK "before" sBefore, dK "sorted_rows" sSorted, dK "place_of" sPlace, dF "sort_key" sKey, dF "check_rows" sChkR, dF "check_down" sChkD,
  dF "_law_stream" sStream, dF "_law_draw" sDraw, dF "_law_pick" sPick, dF "_law_told" sTold, dF "_law_no_line" sNoLine, dF "_law_no_turned" sNoTurned, dF "_law_no_lines" sNoLines, dF "_law_right" sRight, dF "law" sLaw]
def tf : List He.Defn := [("_law_right", none), ("law", none)]
def cn : List Str := ["PageError", "InvalidRow", "InvalidOperation", "InvalidNumber"]
def pn : List Str := ["is_integer", "are_integers", "is_ascending", "is_row", "before", "sorted_rows", "place_of", "sort_key", "check_rows", "check_down"]
def ln : List Str := ["_law_stream", "_law_draw", "_law_pick", "_law_told", "_law_no_line", "_law_no_turned", "_law_no_lines", "_law_right"]
def bn : List Str := ["IndexError", "isinstance", "len", "int", "bool", "tuple", "all", "zip", "sorted", "list", "enumerate", "abs", "max", "min", "range", "repr"]
def gn : List Str := cn ++ (pn ++ ln)
def t1 (K : PySem.W.Frag) : Bool := Hx.gloB K ("law" :: gn) && (Hx.freeB K bn && (He.Fa.int "MAX_SIZE" 10).ok K)
def t2 (K : PySem.W.Frag) : Bool := Hx.icB K "InvalidRow" && (Hx.icB K "InvalidOperation" && (Hx.msgB K "InvalidRow" && Hx.msgB K "InvalidOperation"))
def t3 (K : PySem.W.Frag) : Bool := Hx.xcB K "InvalidNumber" "IndexError.__new__" Ex.mlI "value" && Hx.iniB K "IndexError" "IndexError.__init__"
def t4 (K : PySem.W.Frag) : Bool := Hx.exB K "InvalidRow" "InvalidRow" true && (Hx.exB K "InvalidOperation" "InvalidRow" false && (Hx.exB K "InvalidOperation" "InvalidOperation" true &&
  (Hx.exB K "InvalidNumber" "InvalidRow" false && (Hx.exB K "InvalidNumber" "InvalidOperation" false && Hx.exB K "InvalidNumber" "InvalidNumber" true))))
def t5 (K : PySem.W.Frag) : Bool := ["before", "sorted_rows", "place_of"].all fun x => Hx.emB K (Hx.kwA x "down" K)
def ts (K : PySem.W.Frag) : Bool := t1 K && (t2 K && (t3 K && (t4 K && (t5 K && Hx.sysB K))))
abbrev R : PySem.W.OpenRow := PySem.W.OpenLaw.row PySem.Challenge.rw_pagewise_k02_errors_of_rows
def loose : List Str := "MAX_SIZE" :: gn
end K02

/-! The mathematics of rows; data as tuples of ints. -/
namespace K02
open PySem PySem.Spec PyProof.Rows L2 Dr Ex Rp
open He (ga ma)
abbrev FnP (K : PySem.W.Frag) (x : Str) (st : Stmt) (f : Addr) (fd : FuncData) : Prop := FunD K x x (defArgs st) (defBody st) (defScope st) [] [] f fd
abbrev FnK (K : PySem.W.Frag) (x : Str) (st : Stmt) (f : Addr) (fd : FuncData) : Prop := FunD K x x (defArgs st) (defBody st) (defScope st) [] [("down", V.ref (Hx.kwA x "down" K))] f fd
/-- what the module's names hold -/
structure TG (K : PySem.W.Frag) (mg : Str → Option Value) : Prop where
  f : ∀ x, x ∈ bn → mg x = none
  g : ∀ x, x ∈ gn → mg x = some (.ref (ga K x))
  m : ∃ t, mg "MAX_SIZE" = some (.int 10 t)
/-! ### mathematics -/
def isI : PyData → Bool
  | .int _ => true
  | _ => false
def iv : PyData → Int
  | .int i => i
  | _ => 0
def areI : PyData → Bool
  | .tuple ds => ds.all isI
  | _ => false
def its : PyData → List PyData
  | .tuple ds => ds
  | _ => []
def ivs (d : PyData) : List Int := (its d).map iv
def asc (xs : List Int) : Bool := (List.zipWith (fun a b => decide (a < b)) xs (xs.drop 1)).all id
def ascL (xs : List (List Int)) : Bool := (List.zipWith HT.lexLt xs (xs.drop 1)).all id
def wideOk (ns : List Nat) : Bool := match ns with
  | [] => true
  | n :: r => (r.all fun m => m == n) && decide (n ≤ 10)
/-- a tuple of rows of one length -/
def rowsOk : PyData → Bool
  | .tuple ds => ds.all areI && wideOk (ds.map fun d => (its d).length)
  | _ => false
def inRange (xs : List Int) : Bool := xs.all fun x => decide (0 ≤ x) && decide (x < 10)
def downOk (d : PyData) : Bool := areI d && asc (ivs d) && inRange (ivs d)
/-- the key of a row -/
def sk (ds xs : List Int) : List Int := xs.zipIdx.map fun p => if ds.contains ((p.2 : Nat) : Int) then -p.1 else p.1
/-! ### data as ints -/
theorem ints_of {K : PySem.W.Frag} {H : Hp} : ∀ {xs : List V} {ds : List PyData}, DtAll K H xs ds → ds.all isI = true → xs = (ds.map iv).map V.int
  | _, _, .nil, _ => rfl
  | _, _, .cons (d := d) h t, e => by
    rw [List.all_cons, Bool.and_eq_true] at e
    have r := ints_of t e.2
    cases d with
    | int i =>
      cases h
      rw [r]
      rfl
    | _ => cases e.1
theorem tup_of {K : PySem.W.Frag} {H : Hp} {v : V} {d : PyData} (h : Dt K H v d) (e : areI d = true) : ∃ a, v = .ref a ∧ SqT K H a ((ivs d).map V.int) := by
  cases d with
  | tuple ds =>
    cases h with
    | tup h1 h2 => exact ⟨_, rfl, by rw [show ivs (.tuple ds) = ds.map iv from rfl, ← ints_of h2 e]; exact h1⟩
  | _ => cases e
theorem dt_all_get {K : PySem.W.Frag} {H : Hp} : ∀ {xs : List V} {ds : List PyData} {i : Nat} {x : V}, DtAll K H xs ds → xs[i]? = some x → ∃ d, ds[i]? = some d ∧ Dt K H x d
  | _, _, _, _, .nil, e => by simp at e
  | _, _, 0, _, .cons h _, e => by
    simp at e
    subst e
    exact ⟨_, rfl, h⟩
  | _, _, i + 1, _, .cons _ t, e => by
    obtain ⟨d, h1, h2⟩ := dt_all_get (i := i) t (by simpa using e)
    exact ⟨d, by simpa using h1, h2⟩
theorem dt_tup {K : PySem.W.Frag} {H : Hp} {a : Addr} {ns : List Int} (h : SqT K H a (ns.map V.int)) : Dt K H (.ref a) (.tuple (ns.map PyData.int)) := .tup h (dt_ints ns)
theorem areI_ints (ns : List Int) : areI (.tuple (ns.map PyData.int)) = true := by
  show (ns.map PyData.int).all isI = true
  rw [List.all_map]
  exact List.all_eq_true.mpr fun _ _ => rfl
theorem ivs_ints (ns : List Int) : ivs (.tuple (ns.map PyData.int)) = ns := by
  show (ns.map PyData.int).map iv = ns
  rw [List.map_map]
  exact List.map_id'' (fun _ => rfl) _
theorem its_len_ints (ns : List Int) : (its (.tuple (ns.map PyData.int))).length = ns.length := List.length_map _
/-! ### what stands below the line -/
section
variable {X : Cx}
/-- a tuple of the heap is no longer than the line -/
theorem pe_sz {e : Expr} {t : TE} (h : PE X e t) : PE X e (fun σ H Q => (∀ a xs, SqT X.K H a xs → xs.length ≤ sizeLine) → t σ H Q) :=
  ⟨fun pins s σ H Q I q => h.run pins s σ H Q I (q fun _ _ hx => by
    obtain ⟨_, _, _, z⟩ := I.tuple hx
    exact z)⟩
theorem pss_sz {b : List Stmt} {t : TS} (h : PSs X b t) : PSs X b (fun D σ H => (∀ a xs, SqT X.K H a xs → xs.length ≤ sizeLine) → t D σ H) :=
  ⟨fun pins s σ H D I q => h.run pins s σ H D I (q fun _ _ hx => by
    obtain ⟨_, _, _, z⟩ := I.tuple hx
    exact z)⟩
theorem pss_szL {b : List Stmt} {t : TS} (h : PSs X b t) : PSs X b (fun D σ H => (∀ a xs, SqL X.K H a xs → xs.length ≤ sizeLine) → t D σ H) :=
  ⟨fun pins s σ H D I q => h.run pins s σ H D I (q fun _ _ hx => by
    obtain ⟨_, _, _, z⟩ := I.list hx
    exact z)⟩
variable {x : Str} {a : Addr} {n : String} {pos : Pos}
/-- a built-in class as a value -/
theorem p_bty (hm : X.mg x = none) (hv : bootBuiltins x = some (.type n)) (hg : Gl X x := by rfl) (hn : x ≠ "__name__" := by decide) (hd : (x == ("__debug__" : Str)) = false := by decide) : PE X (.Name x pos) (tC (.ty n)) := pe_bltn hg hm hv rfl hn hd
end
/-- enumerate of a tuple, as walked -/
theorem walk_enT {K : PySem.W.Frag} {a : Addr} {xs : List V} : Walk (Tp.IteT K a) xs.length (fun H => SqT K H a xs) (YPair (fun i => some (.int (i : Nat))) (fun i => xs[i]?)) := by
  refine ⟨fun i _ hi q => ⟨xs, xs[i], q, by simp [hi]⟩, fun _ q => ⟨xs, q, Nat.le_refl _⟩, fun i H v H' _ q y => ?_⟩
  obtain ⟨T, x, h1, h2, h3, h4⟩ := y
  exact ⟨T, _, x, h1, h2, h3, rfl, h4 xs q⟩
theorem walk_zipT {K : PySem.W.Frag} {a b : Addr} {xs ys : List V} {n : Nat} (hn : n = min xs.length ys.length) : Walk (RZ.ItzT K a b) n (fun H => SqT K H a xs ∧ SqT K H b ys) (YPair (fun i => xs[i]?) (fun i => ys[i]?)) := by
  subst hn
  refine ⟨fun i _ hi q => ?_, fun _ q => ⟨xs, ys, q.1, q.2, by omega⟩, fun i H v H' _ q y => ?_⟩
  · have h1 : i < xs.length := by omega
    have h2 : i < ys.length := by omega
    exact ⟨xs, ys, xs[i], ys[i], q.1, q.2, by simp [h1], by simp [h2]⟩
  · obtain ⟨T, x, y', h1, h2, h3, h4, h5⟩ := y
    exact ⟨T, x, y', h1, h2, h3, h4 xs q.1, h5 ys q.2⟩
theorem yes_in {σ : L2.St} {H : Hp} {A B : Hp → Prop} (h : A H) : tYes σ H (fun b H3 => if b = true then A H3 else B H3) := iteT (B := B H) h
end K02

/-! is_integer, are_integers, is_ascending, sort_key. -/
namespace K02
open PySem PySem.Spec PyProof.Rows L2 Dr Ex Rp
open He (ga ma)
def spIsI (K : PySem.W.Frag) : Sp := fun vs H Q _ => ∃ (v : V) (d : PyData), vs = [v] ∧ Dt K H v d ∧ Q (.bl (isI d)) H
def spAre (K : PySem.W.Frag) : Sp := fun vs H Q _ => ∃ (v : V) (d : PyData), vs = [v] ∧ Dt K H v d ∧ ∀ H', Same H H' → Q (.bl (areI d)) H'
def spAscT (K : PySem.W.Frag) : Sp := fun vs H Q _ => ∃ (a : Addr) (ns : List Int), vs = [.ref a] ∧ SqT K H a (ns.map V.int) ∧ ∀ H', Same H H' → Q (.bl (asc ns)) H'
def spAscL (K : PySem.W.Frag) : Sp := fun vs H Q _ => ∃ (a : Addr) (ps : List Addr) (rs : List (List Int)), vs = [.ref a] ∧ SqL K H a (ps.map V.ref) ∧ rs.length = ps.length ∧
  (∀ (i : Nat) (p : Addr) (r : List Int), ps[i]? = some p → rs[i]? = some r → SqT K H p (r.map V.int)) ∧ ∀ H', Same H H' → Q (.bl (ascL rs)) H'
def spKey (K : PySem.W.Frag) : Sp := fun vs H Q _ => ∃ (a b : Addr) (xs ds : List Int), vs = [.ref a, .ref b] ∧ SqT K H a (xs.map V.int) ∧ SqT K H b (ds.map V.int) ∧
  ∀ H' p, Same H H' → H p = none → H' p = some (.tup ((sk ds xs).map V.int)) → Q (.ref p) H'
abbrev nIsI : List Str := ["value"]
abbrev nAre : List Str := ["value", "part"]
abbrev nAsc : List Str := ["values", "value", "other"]
abbrev nKey : List Str := ["row", "down", "at", "part"]
theorem scIsI : FnScope nIsI ["value"] (defScope sIsI) := ⟨rfl, rfl, rfl, by decide +kernel, rfl, by decide +kernel, by decide +kernel⟩
theorem scAre : FnScope nAre ["value"] (defScope sAre) := ⟨rfl, rfl, rfl, by decide +kernel, rfl, by decide +kernel, by decide +kernel⟩
theorem scAsc : FnScope nAsc ["values"] (defScope sAsc) := ⟨rfl, rfl, rfl, by decide +kernel, rfl, by decide +kernel, by decide +kernel⟩
theorem scKey : FnScope nKey ["row", "down"] (defScope sKey) := ⟨rfl, rfl, rfl, by decide +kernel, rfl, by decide +kernel, by decide +kernel⟩
theorem kit_int (d : PyData) {K : PySem.W.Frag} : PySem.W.kitOne K (.type (tyD d)) (.type "int") = some (isI d || decide (tyD d = "bool")) := by
  cases d
  · exact kit_ty (a := "NoneType") (b := "int") (r := false) (by decide +kernel)
  · exact kit_ty (a := "bool") (b := "int") (r := true) (by decide +kernel)
  · exact kit_ty (a := "int") (b := "int") (r := true) (by decide +kernel)
  · exact kit_ty (a := "str") (b := "int") (r := false) (by decide +kernel)
  · exact kit_ty (a := "list") (b := "int") (r := false) (by decide +kernel)
  · exact kit_ty (a := "tuple") (b := "int") (r := false) (by decide +kernel)
  · exact kit_ty (a := "dict") (b := "int") (r := false) (by decide +kernel)
theorem kit_bool (d : PyData) {K : PySem.W.Frag} : PySem.W.kitOne K (.type (tyD d)) (.type "bool") = some (decide (tyD d = "bool")) := by
  cases d
  · exact kit_ty (a := "NoneType") (b := "bool") (r := false) (by decide +kernel)
  · exact kit_ty (a := "bool") (b := "bool") (r := true) (by decide +kernel)
  · exact kit_ty (a := "int") (b := "bool") (r := false) (by decide +kernel)
  · exact kit_ty (a := "str") (b := "bool") (r := false) (by decide +kernel)
  · exact kit_ty (a := "list") (b := "bool") (r := false) (by decide +kernel)
  · exact kit_ty (a := "tuple") (b := "bool") (r := false) (by decide +kernel)
  · exact kit_ty (a := "dict") (b := "bool") (r := false) (by decide +kernel)
theorem kit_tup (d : PyData) {K : PySem.W.Frag} : PySem.W.kitOne K (.type (tyD d)) (.type "tuple") = some (decide (tyD d = "tuple")) := by
  cases d
  · exact kit_ty (a := "NoneType") (b := "tuple") (r := false) (by decide +kernel)
  · exact kit_ty (a := "bool") (b := "tuple") (r := false) (by decide +kernel)
  · exact kit_ty (a := "int") (b := "tuple") (r := false) (by decide +kernel)
  · exact kit_ty (a := "str") (b := "tuple") (r := false) (by decide +kernel)
  · exact kit_ty (a := "list") (b := "tuple") (r := false) (by decide +kernel)
  · exact kit_ty (a := "tuple") (b := "tuple") (r := true) (by decide +kernel)
  · exact kit_ty (a := "dict") (b := "tuple") (r := false) (by decide +kernel)
section
variable {P : Program} {w : World} {K : PySem.W.Frag} {mg : Str → Option Value} {base : Heap}
theorem ok_isI {CX : CXT} {f : Addr} {fd : FuncData} (F : FnP K "is_integer" sIsI f fd) (T : TG K mg) : FnOk P w K mg base CX 1 f fd ["value"] (spIsI K) := by
  have ti := T.f "isinstance" (by decide +kernel)
  have t1 := T.f "int" (by decide +kernel)
  have t2 := T.f "bool" (by decide +kernel)
  refine F.ok scIsI (fun vs H Q E h => ?_) (fun cdv A outer s H vs Q E hr h => ?_)
  · obtain ⟨v, d, rfl, _⟩ := h
    rfl
  · obtain ⟨v, d, rfl, hd, k⟩ := h
    refine ⟨_, PSs.nox (pss_one (ps_ret (pe_and (pe_callB call_isi (by rfl) ti (by decide +kernel) (pa_cons (pv 0) (pa_cons (p_bty (n := "int") t1 (by decide +kernel)) pa_nil)))
      (pe_one (pe_not (pe_callB call_isi (by rfl) ti (by decide +kernel) (pa_cons (pv 0) (pa_cons (p_bty (n := "bool") t2 (by decide +kernel)) pa_nil)))))))), ?_⟩
    refine ⟨_, rfl, _, _, _, _, _, rfl, .ty _, hd.ty, kit_int d, _, rfl, ?_⟩
    cases d with
    | int i => exact iteT ⟨_, rfl, _, _, _, _, _, rfl, .ty _, hd.ty, kit_bool (.int i), _, rfl, k⟩
    | bool b => exact iteT ⟨_, rfl, _, _, _, _, _, rfl, .ty _, hd.ty, kit_bool (.bool b), _, rfl, k⟩
    | none => exact iteF k
    | str x => exact iteF k
    | list ds => exact iteF k
    | tuple ds => exact iteF k
    | dict ds => exact iteF k
theorem ok_are {CX : CXT} {f f1 : Addr} {fd fd1 : FuncData} (F : FnP K "are_integers" sAre f fd) (F1 : FnP K "is_integer" sIsI f1 fd1) (T : TG K mg) (g1 : mg "is_integer" = some (.ref f1)) : FnOk P w K mg base CX 2 f fd ["value"] (spAre K) := by
  have ti := T.f "isinstance" (by decide +kernel)
  have tt := T.f "tuple" (by decide +kernel)
  have ta := T.f "all" (by decide +kernel)
  have G : FnOk P w K mg base CX0 1 f1 fd1 ["value"] (spIsI K) := ok_isI F1 T
  have b1 : Binds K fd1 ["value"] [] := F1.bindsN fun _ _ _ _ _ _ us hl => match us, hl with | [_], _ => rfl
  refine F.ok scAre (fun vs H Q E h => ?_) (fun cdv A outer s H vs Q E hr h => ?_)
  · obtain ⟨v, d, rfl, _⟩ := h
    rfl
  · obtain ⟨v, d, rfl, hd, k⟩ := h
    refine ⟨_, pss_sz (PSs.nox (pss_one (ps_ret (pe_and (pe_callB call_isi (by rfl) ti (by decide +kernel) (pa_cons (pv 0) (pa_cons (p_bty (n := "tuple") tt (by decide +kernel)) pa_nil)))
      (pe_one (pe_callB (cr_all rfl) (by rfl) ta (by decide +kernel) (pa_cons (pe_lc (own := [("part", 1)]) (g := gName 1) (tt := tYes) rfl scAre.nd (pi_tup (pv 0)) (blkOk_by (own := [("part", 1)]) (N := nAre) (sc := defScope sAre) (by decide +kernel))
        (fun _ _ _ _ _ => pg_name (i := 1) scAre.nd rfl (Or.inl rfl)) (fun _ _ _ _ _ => pts_nil) (fun _ _ _ _ _ => pe_call G hr rfl g1 F1.kp b1 .nil pass0 (pa_cons (pv 1) pa_nil))) pa_nil))))))), fun hz => ?_⟩
    refine ⟨_, rfl, _, _, _, _, _, rfl, .ty _, hd.ty, kit_tup d, _, rfl, ?_⟩
    cases d with
    | tuple ds =>
      cases hd with
      | tup h1 h2 =>
        rename_i a xs
        refine iteT ?_
        refine ⟨_, rfl, a, rfl, ⟨xs, h1⟩, fun D hD => lc_tup (xs := xs) (fun i H' => Same H H' ∧ H' D = some (.lst (((ds.take i).map isI).map V.bl))) ⟨smu hD, upd_same⟩ (fun i H' _ h => sqt_same h.1 h1) ?_ ?_⟩
        · rintro i x H' hx ⟨s1, hL⟩
          obtain ⟨d, e1, e2⟩ := dt_all_get h2 hx
          refine ⟨rfl, yes_in ?_⟩
          refine ⟨_, rfl, x, d, rfl, Dt.same s1 d _ e2, _, hL, ?_, fun b o e => ?_, ?_⟩
          · have l1 := (List.getElem?_eq_some_iff.mp hx).choose
            have l2 := hz a xs h1
            rw [List.length_map, List.length_map, List.length_take]
            omega
          · rw [upd_ne (ne_of_none e hD)]
            exact s1 b o e
          · rw [upd_same, List.take_add_one, e1]
            simp
        · rintro H' ⟨s1, hL⟩
          refine ⟨D, (ds.map isI), rfl, SqL.of ?_, ?_⟩
          · rw [hL, ← DtAll.len h2, List.take_length]
          · have e : (ds.map isI).all id = ds.all isI := by rw [List.all_map] <;> rfl
            rw [e]
            exact k H' s1
    | none => exact iteF (k H (Same.refl H))
    | bool b => exact iteF (k H (Same.refl H))
    | int i => exact iteF (k H (Same.refl H))
    | str x => exact iteF (k H (Same.refl H))
    | list ds => exact iteF (k H (Same.refl H))
    | dict ds => exact iteF (k H (Same.refl H))
end
end K02

/-! is_ascending, of a tuple of ints and of a list of rows; sort_key. -/
namespace K02
open PySem PySem.Spec PyProof.Rows L2 Dr Ex Rp
open He (ga ma)
theorem cut1 (xs : List V) : cutV xs (some 1) none = xs.drop 1 := by
  unfold cutV
  have e : HT.sIx xs.length 0 (some 1) = min 1 xs.length := HT.sIx_nat _ _ 1
  rw [e, HT.sIx_none]
  by_cases h : xs.length = 0
  · have z := List.eq_nil_of_length_eq_zero h
    subst z
    rfl
  · rw [show min 1 xs.length = 1 by omega, List.take_of_length_le (by rw [List.length_drop]; omega)]
theorem whole1 (xs : List V) : (HT.sIx xs.length 0 (some 1) = 0 ∧ HT.sIx xs.length xs.length none = xs.length) ↔ xs = [] := by
  rw [show HT.sIx xs.length 0 (some 1) = min 1 xs.length from HT.sIx_nat _ _ 1, HT.sIx_none]
  constructor
  · intro h
    exact List.eq_nil_of_length_eq_zero (by omega)
  · intro h
    subst h
    exact ⟨rfl, rfl⟩
/-- the truths of a walk in pairs, so far -/
def upto {α : Type} (f : α → α → Bool) (xs : List α) (i : Nat) : List Bool := (List.zipWith f xs (xs.drop 1)).take i
theorem upto_succ {α : Type} {f : α → α → Bool} {xs : List α} {i : Nat} {x y : α} (hx : xs[i]? = some x) (hy : (xs.drop 1)[i]? = some y) : upto f xs (i + 1) = upto f xs i ++ [f x y] := by
  unfold upto
  rw [List.take_add_one, List.getElem?_zipWith, hx, hy]
  rfl
section
variable {P : Program} {w : World} {K : PySem.W.Frag} {mg : Str → Option Value} {base : Heap}
theorem ok_ascT {CX : CXT} {f : Addr} {fd : FuncData} (F : FnP K "is_ascending" sAsc f fd) (T : TG K mg) : FnOk P w K mg base CX 1 f fd ["values"] (spAscT K) := by
  have tz := T.f "zip" (by decide +kernel)
  have ta := T.f "all" (by decide +kernel)
  refine F.ok scAsc (fun vs H Q E h => ?_) (fun cdv A outer s H vs Q E hr h => ?_)
  · obtain ⟨a, ns, rfl, _⟩ := h
    rfl
  · obtain ⟨a, ns, rfl, hS, k⟩ := h
    refine ⟨_, pss_sz (PSs.nox (pss_one (ps_ret (pe_callB (cr_all rfl) (by rfl) ta (by decide +kernel) (pa_cons (pe_lc (own := [("value", 1), ("other", 2)]) (g := gTup K 2 (gCons (gName 1) (gCons (gName 2) gNil))) (tt := tYes) rfl scAsc.nd (RZ.pi_zipA (by rfl) tz (pa_cons (pv 0) (pa_cons (pe_slice sl_tupA (pv 0) (po_some pe_int) po_none) pa_nil)))
        (blkOk_by (own := [("value", 1), ("other", 2)]) (N := nAsc) (sc := defScope sAsc) (by decide +kernel))
        (fun _ _ _ _ _ => pg_tup (by rfl) (pgs_cons (pg_name (i := 1) scAsc.nd rfl (Or.inl rfl)) (pgs_cons (pg_name (i := 2) scAsc.nd rfl (Or.inl rfl)) pgs_nil))) (fun _ _ _ _ _ => pts_nil) (fun _ _ _ _ _ => pe_cmpR op_lt (pv 1) (pv 2) (nomark _))) pa_nil))))), fun hz => ?_⟩
    have hl := hz a _ hS
    rw [List.length_map] at hl
    have fin : ∀ H2 D, Same H H2 → H2 D = some (.lst ((upto (fun a b => decide (a < b)) ns ns.length).map V.bl)) → ∃ (q : Addr) (bs : List Bool), [V.ref D] = [V.ref q] ∧ SqL K H2 q (bs.map V.bl) ∧ Q (.bl (bs.all id)) H2 := fun H2 D s2 hD => by
      refine ⟨D, _, rfl, SqL.of hD, ?_⟩
      have e : upto (fun a b => decide (a < b)) ns ns.length = List.zipWith (fun a b => decide (a < b)) ns (ns.drop 1) := List.take_of_length_le (by rw [List.length_zipWith]; omega)
      rw [e]
      exact k H2 s2
    have len0 : ns.length - 1 = min (ns.map V.int).length ((ns.map V.int).drop 1).length := by
      rw [List.length_drop, List.length_map]
      omega
    have endU : upto (fun a b => decide (a < b)) ns (ns.length - 1) = upto (fun a b => decide (a < b)) ns ns.length := by
      unfold upto
      rw [List.take_of_length_le (by rw [List.length_zipWith, List.length_drop]; omega), List.take_of_length_le (by rw [List.length_zipWith, List.length_drop]; omega)]
    refine ⟨_, rfl, _, rfl, _, rfl, a, _, rfl, hS, fun hw => ?_, fun hw p np => ?_⟩
    case' refine_1 =>
      have hw' := (whole1 _).mp hw
      have hb : SqT K H a ((ns.map V.int).drop 1) := by
        rw [hw'] at hS ⊢
        exact hS
      have s1 := Same.refl H
      refine ⟨a, a, _, _, rfl, .inr ⟨hS, hb, fun D hD => ?_⟩⟩
    case' refine_2 =>
      have hb : SqT K (upd H p (.tup (cutV (ns.map V.int) (some 1) none))) p ((ns.map V.int).drop 1) := by
        rw [← cut1]
        exact SqT.of upd_same
      have s1 := smu (o := .tup (cutV (ns.map V.int) (some 1) none)) np
      generalize upd H p (.tup (cutV (ns.map V.int) (some 1) none)) = H1 at hb s1 ⊢
      refine ⟨a, p, _, _, rfl, .inr ⟨sqt_same s1 hS, hb, fun D hD => ?_⟩⟩
    all_goals
      refine lc_it (walk_zipT len0) (fun i H' => Same _ H' ∧ H' D = some (.lst ((upto (fun a b => decide (a < b)) ns i).map V.bl))) ⟨smu hD, upd_same⟩ (fun i H' _ h => ⟨sqt_same (s1.trans h.1) hS, sqt_same h.1 hb⟩) ?_ ?_
      · rintro i x H2 H3 hi ⟨s2, h2⟩ ⟨Tp, y, z, rfl, nT, rfl, ey, ez⟩
        have ey : (ns.map V.int)[i]? = some y := ey
        have ez : (List.drop 1 (ns.map V.int))[i]? = some z := ez
        rw [List.getElem?_map] at ey
        rw [← List.map_drop, List.getElem?_map] at ez
        obtain ⟨y', ey2, rfl⟩ := Option.map_eq_some_iff.mp ey
        obtain ⟨z', ez2, rfl⟩ := Option.map_eq_some_iff.mp ez
        have s3 := smu (o := .tup [V.int y', V.int z']) nT
        refine ⟨Tp, _, rfl, SqT.of upd_same, rfl, _, _, rfl, _, _, rfl, rfl, rfl, yes_in ?_⟩
        refine ⟨_, rfl, _, rfl, _, _, rfl, rfl, _, s3 _ _ h2, ?_, fun b o e => ?_, ?_⟩
        · rw [List.length_map]
          unfold upto
          rw [List.length_take]
          omega
        · rw [upd_ne (ne_of_none e hD)]
          exact s3 _ _ (s2 _ _ e)
        · rw [upd_same, upto_succ ey2 ez2, List.map_append]
          rfl
      · rintro H2 ⟨s2, h2⟩
        exact fin H2 D (s1.trans s2) (by rw [← endU]; exact h2)
theorem ok_ascL {CX : CXT} {f : Addr} {fd : FuncData} (F : FnP K "is_ascending" sAsc f fd) (T : TG K mg) : FnOk P w K mg base CX 1 f fd ["values"] (spAscL K) := by
  have tz := T.f "zip" (by decide +kernel)
  have ta := T.f "all" (by decide +kernel)
  refine F.ok scAsc (fun vs H Q E h => ?_) (fun cdv A outer s H vs Q E hr h => ?_)
  · obtain ⟨a, ps, rs, rfl, _⟩ := h
    rfl
  · obtain ⟨a, ps, rs, rfl, hS, hlen, hrs, k⟩ := h
    refine ⟨_, pss_szL (PSs.nox (pss_one (ps_ret (pe_callB (cr_all rfl) (by rfl) ta (by decide +kernel) (pa_cons (pe_lc (own := [("value", 1), ("other", 2)]) (g := gTup K 2 (gCons (gName 1) (gCons (gName 2) gNil))) (tt := tYes) rfl scAsc.nd (RZ.pi_zipA (by rfl) tz (pa_cons (pv 0) (pa_cons (pe_slice sl_list (pv 0) (po_some pe_int) po_none) pa_nil)))
        (blkOk_by (own := [("value", 1), ("other", 2)]) (N := nAsc) (sc := defScope sAsc) (by decide +kernel))
        (fun _ _ _ _ _ => pg_tup (by rfl) (pgs_cons (pg_name (i := 1) scAsc.nd rfl (Or.inl rfl)) (pgs_cons (pg_name (i := 2) scAsc.nd rfl (Or.inl rfl)) pgs_nil))) (fun _ _ _ _ _ => pts_nil) (fun _ _ _ _ _ => pe_cmpR (show OpR _ _ (rLtT K) from op_ltT hr.units0) (pv 1) (pv 2) (nomark _))) pa_nil))))), fun hz => ?_⟩
    have hl := hz a _ hS
    rw [List.length_map] at hl
    have len0 : ps.length - 1 = min (ps.map V.ref).length ((ps.map V.ref).drop 1).length := by
      rw [List.length_drop, List.length_map]
      omega
    refine ⟨_, rfl, _, rfl, _, rfl, a, _, rfl, hS, fun p np => ?_⟩
    have hb : SqL K (upd H p (.lst (cutV (ps.map V.ref) (some 1) none))) p ((ps.map V.ref).drop 1) := by
      rw [← cut1]
      exact SqL.of upd_same
    have s1 := smu (o := .lst (cutV (ps.map V.ref) (some 1) none)) np
    generalize upd H p (.lst (cutV (ps.map V.ref) (some 1) none)) = H1 at hb s1 ⊢
    refine ⟨a, p, _, _, rfl, .inl ⟨s1.seq hS, hb, fun D hD => ?_⟩⟩
    refine lc_it (walk_zip len0) (fun i H' => Same H1 H' ∧ H' D = some (.lst ((upto HT.lexLt rs i).map V.bl))) ⟨smu hD, upd_same⟩ (fun i H' _ h => ⟨(s1.trans h.1).seq hS, h.1.seq hb⟩) ?_ ?_
    · rintro i x H2 H3 hi ⟨s2, h2⟩ ⟨Tp, y, z, rfl, nT, rfl, ey, ez⟩
      have ey : (ps.map V.ref)[i]? = some y := ey
      have ez : (List.drop 1 (ps.map V.ref))[i]? = some z := ez
      rw [List.getElem?_map] at ey
      rw [← List.map_drop, List.getElem?_map] at ez
      obtain ⟨y', ey2, rfl⟩ := Option.map_eq_some_iff.mp ey
      obtain ⟨z', ez2, rfl⟩ := Option.map_eq_some_iff.mp ez
      have ez3 : ps[i + 1]? = some z' := by
        rw [List.getElem?_drop] at ez2
        rw [Nat.add_comm]
        exact ez2
      have l1 : i < rs.length := by
        rw [hlen]
        omega
      have l2 : i + 1 < rs.length := by
        rw [hlen]
        omega
      have r1 := List.getElem?_eq_getElem l1
      have r2 := List.getElem?_eq_getElem l2
      have q1 := hrs i y' _ ey2 r1
      have q2 := hrs (i + 1) z' _ ez3 r2
      have s3 := smu (o := .tup [V.ref y', V.ref z']) nT
      have s4 : Same H (upd H2 Tp (.tup [V.ref y', V.ref z'])) := (s1.trans s2).trans s3
      refine ⟨Tp, _, rfl, SqT.of upd_same, rfl, _, _, rfl, _, _, rfl, rfl, rfl, yes_in ?_⟩
      refine ⟨_, rfl, _, rfl, _, _, _, _, rfl, rfl, sqt_same s4 q1, sqt_same s4 q2, _, s3 _ _ h2, ?_, fun b o e => ?_, ?_⟩
      · rw [List.length_map]
        unfold upto
        rw [List.length_take]
        omega
      · rw [upd_ne (ne_of_none e hD)]
        exact s3 _ _ (s2 _ _ e)
      · rw [upd_same, upto_succ r1 (by rw [List.getElem?_drop, Nat.add_comm]; exact r2), List.map_append]
        rfl
    · rintro H2 ⟨s2, h2⟩
      refine ⟨D, _, rfl, SqL.of h2, ?_⟩
      have e : upto HT.lexLt rs (ps.length - 1) = List.zipWith HT.lexLt rs (rs.drop 1) := List.take_of_length_le (by rw [List.length_zipWith, List.length_drop]; omega)
      rw [e]
      exact k H2 (s1.trans s2)
theorem sk_take {ds xs : List Int} {i : Nat} {x : Int} (h : xs[i]? = some x) : (sk ds xs).take (i + 1) = (sk ds xs).take i ++ [if ds.contains ((i : Nat) : Int) then -x else x] := by
  unfold sk
  rw [List.take_add_one, List.getElem?_map, List.getElem?_zipIdx, h]
  simp
theorem sk_len (ds xs : List Int) : (sk ds xs).length = xs.length := by
  unfold sk
  rw [List.length_map, List.length_zipIdx]
theorem flat_int (ns : List Int) : (ns.map V.int).all flatV = true := by
  rw [List.all_map]
  exact List.all_eq_true.mpr fun _ _ => rfl
theorem inV_int (ds : List Int) (i : Nat) : inV (.int (i : Int)) (ds.map V.int) = ds.contains ((i : Nat) : Int) := by
  unfold inV
  rw [List.any_map, List.contains_eq_any_beq]
  congr 1
  funext d
  show ((d : Int) == (i : Int)) = ((i : Int) == d)
  exact Bool.beq_comm
theorem ok_key {CX : CXT} {f : Addr} {fd : FuncData} (F : FnP K "sort_key" sKey f fd) (T : TG K mg) : FnOk P w K mg base CX 1 f fd ["row", "down"] (spKey K) := by
  have te := T.f "enumerate" (by decide +kernel)
  have tt := T.f "tuple" (by decide +kernel)
  refine F.ok scKey (fun vs H Q E h => ?_) (fun cdv A outer s H vs Q E hr h => ?_)
  · obtain ⟨a, b, xs, ds, rfl, _⟩ := h
    rfl
  · obtain ⟨a, b, xs, ds, rfl, hA, hB, k⟩ := h
    refine ⟨_, pss_sz (PSs.nox (pss_one (ps_ret (pe_callTy call_tuple_of (by rfl) tt (by decide +kernel) (pa_cons (pe_lc (own := [("at", 2), ("part", 3)]) (g := gTup K 2 (gCons (gName 2) (gCons (gName 3) gNil))) (tt := tYes) rfl scKey.nd (Tp.pi_enT (by rfl) te (pa_cons (pv 0) pa_nil))
        (blkOk_by (own := [("at", 2), ("part", 3)]) (N := nKey) (sc := defScope sKey) (by decide +kernel))
        (fun _ _ _ _ _ => pg_tup (by rfl) (pgs_cons (pg_name (i := 2) scKey.nd rfl (Or.inl rfl)) (pgs_cons (pg_name (i := 3) scKey.nd rfl (Or.inl rfl)) pgs_nil))) (fun _ _ _ _ _ => pts_nil)
        (fun _ _ _ _ _ => pe_ifExp (pt_cmpR (show OpR _ _ (rIn K false) from op_in_seq) (pv 2) (pv 1) (by rfl)) (pe_un un_neg (pv 3)) (pv 3))) pa_nil))))), fun hz => ?_⟩
    have hl := hz a _ hA
    rw [List.length_map] at hl
    refine ⟨_, rfl, a, _, rfl, hA, fun D hD => ?_⟩
    refine lc_it walk_enT (fun i H' => Same H H' ∧ H' D = some (.lst (((sk ds xs).take i).map V.int))) ⟨smu hD, upd_same⟩ (fun i H' _ h => sqt_same h.1 hA) ?_ ?_
    · rintro i x H2 H3 hi ⟨s2, h2⟩ ⟨Tp, y, z, rfl, nT, rfl, ey, ez⟩
      cases ey
      have ez : (xs.map V.int)[i]? = some z := ez
      rw [List.getElem?_map] at ez
      obtain ⟨z', ez2, rfl⟩ := Option.map_eq_some_iff.mp ez
      have s3 := smu (o := .tup [V.int (i : Int), V.int z']) nT
      have s4 : Same H (upd H2 Tp (.tup [V.int (i : Int), V.int z'])) := s2.trans s3
      have small : (((sk ds xs).take i).map V.int).length < sizeLine := by
        rw [List.length_map] at hi
        rw [List.length_map, List.length_take]
        omega
      refine ⟨Tp, _, rfl, SqT.of upd_same, rfl, _, _, rfl, _, _, rfl, rfl, rfl, yes_in ?_⟩
      refine ⟨_, rfl, _, rfl, b, _, rfl, .inr (sqt_same s4 hB), rfl, flat_int ds, _, rfl, ?_⟩
      have e1 := sk_take (ds := ds) ez2
      rw [if_neg Bool.false_ne_true, inV_int]
      cases hc : ds.contains ((i : Nat) : Int) with
      | true =>
        rw [hc, if_pos rfl] at e1
        refine iteT ⟨_, rfl, _, rfl, _, s3 _ _ h2, small, fun b o e => ?_, ?_⟩
        · rw [upd_ne (ne_of_none e hD)]
          exact s4 _ _ e
        · rw [upd_same, e1, List.map_append]
          rfl
      | false =>
        rw [hc, if_neg Bool.false_ne_true] at e1
        refine iteF ⟨_, rfl, _, s3 _ _ h2, small, fun b o e => ?_, ?_⟩
        · rw [upd_ne (ne_of_none e hD)]
          exact s4 _ _ e
        · rw [upd_same, e1, List.map_append]
          rfl
    · rintro H2 ⟨s2, h2⟩
      rw [List.length_map, show (sk ds xs).take xs.length = sk ds xs from List.take_of_length_le (by rw [sk_len]; exact Nat.le_refl _)] at h2
      refine ⟨D, _, rfl, .inl ⟨SqL.of h2, fun q nq => ?_⟩⟩
      exact k _ q (s2.trans (smu nq)) (s2.free nq) upd_same
end
end K02

/-! check_rows, check_down, is_row. -/
namespace K02
open PySem PySem.Spec PyProof.Rows L2 Dr Ex Rp
open He (ga ma)
/-- raise C(..), an exception of such a class -/
def tRs (H0 : Hp) (C : Addr) (f : Str) (te : TE) (W : WX) : TS := fun _ σ H => te σ H fun x H1 => ∃ (a dx : Addr) (v : V), x = .ref a ∧ H1 a = some (exo a C (some dx)) ∧ H1 dx = some (exd dx [(f, v)]) ∧ Fr0 H0 a ∧ W (.ref C) (some dx) σ (delH H1 a)
theorem ps_rs {X : Cx} {W : WX} {e : Expr} {te : TE} {pos : Pos} {C fI : Addr} {nid : String} {ml : List Value} {f : Str} (hc : X.calm = true) (tk : Takes X W) (T : XC X.K C nid ml f fI) (hx : X.ex = []) (he : PE X e te) : PS X (.Raise (some e) none pos) (tRs X.H_0 C f te W) := by
  have h := ps_raise (pos := pos) hc tk (pmk_val T hx he)
  refine ⟨fun pins s σ H D I q => h.run pins s σ H D I ?_⟩
  exact q
theorem flown {H : Hp} {a dx C : Addr} {f : Str} {v : V} (ha : H a = none) (hd : upd H a (exo a C none) dx = none) (ne : dx ≠ a) :
    Same H (delH (upd (upd (upd H a (exo a C none)) dx (exd dx [(f, v)])) a (exo a C (some dx))) a) ∧ delH (upd (upd (upd H a (exo a C none)) dx (exd dx [(f, v)])) a (exo a C (some dx))) a dx = some (exd dx [(f, v)]) := by
  obtain ⟨s, _⟩ := made (f := f) (v := v) ha hd ne
  refine ⟨fun b o e => ?_, ?_⟩
  · rw [delH_ne (ne_of_none e ha)]
    exact s b o e
  · rw [delH_ne ne, upd_ne ne, upd_same]
def spIni (C : Addr) (f : Str) : Sp := fun vs H Q _ => ∃ (a : Addr) (v : V), vs = [.ref a, v] ∧ H a = some (exo a C none) ∧ ∀ dx, H dx = none → dx ≠ a → Q .non (upd (upd H dx (exd dx [(f, v)])) a (exo a C (some dx)))
theorem iniB_ok {K : PySem.W.Frag} {b i : String} (h : Hx.iniB K b i = true) : PySem.W.findCls K (.type b) (.type "type") "__init__" = some (.val (.builtin i)) := by
  unfold Hx.iniB at h
  split at h
  · rename_i j e
    rw [e, beq_iff_eq.mp h]
  · cases h
abbrev FnM (K : PySem.W.Frag) (q : Str) (st : Stmt) (f : Addr) (fd : FuncData) : Prop := FunD K "__init__" q (defArgs st) (defBody st) (defScope st) [] [] f fd
/-- what the head tells of the errors -/
structure EF (K : PySem.W.Frag) : Prop where
  ir : IC K (ga K "InvalidRow")
  io : IC K (ga K "InvalidOperation")
  mr : PySem.W.excIn K (ga K "InvalidRow") He.veBase "ValueError.__new__" = true ∧ PySem.W.keepIn K (.ref (ga K "InvalidRow")) = true ∧ PySem.W.typeIn K (.ref (ga K "InvalidRow")) = some (.type "type")
  mo : PySem.W.excIn K (ga K "InvalidOperation") He.veBase "ValueError.__new__" = true ∧ PySem.W.keepIn K (.ref (ga K "InvalidOperation")) = true ∧ PySem.W.typeIn K (.ref (ga K "InvalidOperation")) = some (.type "type")
  n : XC K (ga K "InvalidNumber") "IndexError.__new__" mlI "value" (ma K (ga K "InvalidNumber") "__init__")
  ni : Hx.iniB K "IndexError" "IndexError.__init__" = true
theorem sg_it {J : It} {n : Nat} {G : Hp → Prop} {Y : Nat → Hp → V → Hp → Prop} (wk : Walk J n G Y) {new : Addr → HO} {r : V → List V → Hp → VK → Prop} {g : L2.TG} {tt : TT} {te : TE} {ow : List Nat} {σ : L2.St} {H1 : Hp} {D : Addr} {Qd : Hp → Prop} (Pv : Nat → Hp → Prop)
    (h0 : Pv 0 (upd H1 D (new D))) (hG : ∀ i H, i ≤ n → Pv i H → G H)
    (hs : ∀ i x H H', i < n → Pv i H → Y i H x H' → g x (wipe σ ow) H' fun τ H2 => wipe τ ow = wipe σ ow ∧ tt τ H2 fun b H3 => if b = true then te τ H3 fun y H4 => r (.ref D) [y] H4 fun _ H5 => Pv (i + 1) H5 else Pv (i + 1) H3) (hd : ∀ H, Pv n H → Qd H) :
    ∃ W : Nat → Nat → Hp → Prop, (∃ m, W 0 m (upd H1 D (new D))) ∧ ∀ i m H, W i m H → (J.stop i H ∧ Qd H) ∨
      (J.go i H ∧ ∃ Nx : Hp → Prop, (∀ H', Nx H' → ∃ m', m' < m ∧ W (i + 1) m' H') ∧ ∀ x H', J.yld i H x H' → g x (wipe σ ow) H' fun τ H2 => wipe τ ow = wipe σ ow ∧ tt τ H2 fun b H3 => if b = true then te τ H3 fun y H4 => r (.ref D) [y] H4 fun _ H5 => Nx H5 else Nx H3) := by
  refine ⟨fun i m H => m = n - i ∧ i ≤ n ∧ Pv i H, ⟨n, by simp, Nat.zero_le _, h0⟩, ?_⟩
  rintro i m H ⟨rfl, hi, p⟩
  have q := hG i H hi p
  by_cases hlt : i < n
  · exact .inr ⟨wk.goes i H hlt q, Pv (i + 1), fun H' p' => ⟨n - (i + 1), by omega, rfl, hlt, p'⟩, fun x H' y => hs i x H H' hlt p (wk.yields i H x H' hlt q y)⟩
  · have e : i = n := by omega
    subst e
    exact .inl ⟨wk.stops H q, hd H p⟩
/-! ### the lengths -/
theorem wide_all {lens : List Nat} {m : Nat} (h : ∀ n ∈ lens, n = m) (hn : lens ≠ []) : wideOk lens = decide (m ≤ 10) := by
  cases lens with
  | nil => exact absurd rfl hn
  | cons n r =>
    have e := h n List.mem_cons_self
    have a : (r.all fun k => k == n) = true := List.all_eq_true.mpr fun k hk => by
      rw [h k (List.mem_cons_of_mem _ hk), e]
      exact beq_self_eq_true m
    show ((r.all fun k => k == n) && decide (n ≤ 10)) = _
    rw [a, e] <;> rfl
theorem wide_two {lens : List Nat} {a b : Nat} (h1 : a ∈ lens) (h2 : b ∈ lens) (ne : a ≠ b) : wideOk lens = false := by
  cases lens with
  | nil => cases h1
  | cons n r =>
    have key : ∀ k, k ∈ n :: r → k ≠ n → (r.all fun k => k == n) = false := fun k hk nk => by
      rcases List.mem_cons.mp hk with z | z
      · exact absurd z nk
      · cases e : r.all fun k => k == n with
        | false => rfl
        | true =>
          have q := List.all_eq_true.mp e k z
          exact absurd (beq_iff_eq.mp q) nk
    show ((r.all fun k => k == n) && decide (n ≤ 10)) = false
    by_cases ea : a = n
    · rw [key b h2 (fun z => ne (ea.trans z.symm))] <;> rfl
    · rw [key a h1 ea] <;> rfl
/-- len(a list or a tuple) -/
def rLenS (K : PySem.W.Frag) : List V → Hp → VK → Prop := fun xs H Q => ∃ p ys, xs = [V.ref p] ∧ (SqL K H p ys ∨ SqT K H p ys) ∧ Q (V.int (ys.length : Nat)) H
def spChkR (K : PySem.W.Frag) : Sp := fun vs H Q E => ∃ (v : V) (d : PyData), vs = [v] ∧ Dt K H v d ∧ (its d).length < 64 ∧ ∀ H', Same H H' → if rowsOk d = true then Q .non H' else E (.ref (ga K "InvalidRow")) none H'
def spChkD (K : PySem.W.Frag) : Sp := fun vs H Q E => ∃ (v : V) (d : PyData), vs = [v] ∧ Dt K H v d ∧ ∀ H', Same H H' → if downOk d = true then Q .non H' else E (.ref (ga K "InvalidOperation")) none H'
def sizeOk (d : PyData) : Bool := isI d && (decide (0 ≤ iv d) && decide (iv d ≤ 10))
def spIsRow (K : PySem.W.Frag) : Sp := fun vs H Q E => ∃ (v u : V) (z d : PyData), vs = [v, u] ∧ Dt K H v z ∧ Dt K H u d ∧
  ∀ H', Same H H' → if sizeOk z = true then Q (.bl (areI d && decide (((its d).length : Int) = iv z))) H' else ∀ dx, H' dx = some (exd dx [("value", v)]) → E (.ref (ga K "InvalidNumber")) (some dx) H'
abbrev nChkR : List Str := ["rows", "sizes", "row"]
abbrev nChkD : List Str := ["down", "at"]
abbrev nIsRow : List Str := ["size", "value"]
theorem scChkR : FnScope nChkR ["rows"] (defScope sChkR) := ⟨rfl, rfl, rfl, by decide +kernel, rfl, by decide +kernel, by decide +kernel⟩
theorem scChkD : FnScope nChkD ["down"] (defScope sChkD) := ⟨rfl, rfl, rfl, by decide +kernel, rfl, by decide +kernel, by decide +kernel⟩
theorem scIsRow : FnScope nIsRow ["size", "value"] (defScope sIsRow) := ⟨rfl, rfl, rfl, by decide +kernel, rfl, by decide +kernel, by decide +kernel⟩
section
variable {P : Program} {w : World} {K : PySem.W.Frag} {mg : Str → Option Value} {base : Heap}
theorem ok_iN {fI : Addr} {fd : FuncData} (F : FnM K "InvalidNumber.__init__" iN fI fd) (T : TG K mg) (M : XC K (ga K "InvalidNumber") "IndexError.__new__" mlI "value" fI) (v : Hx.iniB K "IndexError" "IndexError.__init__" = true) : FnOk P w K mg base CX0 1 fI fd ["self", "value"] (spIni (ga K "InvalidNumber") "value") := by
  have tb := T.f "IndexError" (by decide +kernel)
  have sc : FnScope ["self", "value"] ["self", "value"] (defScope iN) := ⟨rfl, rfl, rfl, by decide +kernel, rfl, by decide +kernel, by decide +kernel⟩
  refine F.ok sc (fun vs H Q E h => ?_) (fun cdv A outer s H vs Q E hr h => ?_)
  · obtain ⟨a, v, rfl, _⟩ := h
    rfl
  · obtain ⟨a, y, rfl, ha, k⟩ := h
    refine ⟨_, PSs.nox (pss_cons (ps_expr (pe_binit bI M rfl tb (by decide +kernel) (by kernel_rfl) (by decide +kernel) (by decide +kernel) (iniB_ok v) (pa_cons (pv 0) (pa_cons pe_str pa_nil))))
      (pss_one (ps_xst bI M (pv 0) (pv 1)))), ?_⟩
    exact ⟨_, rfl, a, _, rfl, (by show 1 ≤ 1000; decide), ha, _, rfl, _, rfl, a, rfl, ha, fun dx n ne => k dx n ne⟩
theorem ok_chkR {f f1 f2 : Addr} {fd fd1 fd2 : FuncData} (F : FnP K "check_rows" sChkR f fd) (F1 : FnP K "is_integer" sIsI f1 fd1) (F2 : FnP K "are_integers" sAre f2 fd2) (T : TG K mg) (M : EF K) (g1 : mg "is_integer" = some (.ref f1)) (g2 : mg "are_integers" = some (.ref f2)) :
    FnOk P w K mg base (L2.CX P w) 3 f fd ["rows"] (spChkR K) := by
  have ti := T.f "isinstance" (by decide +kernel)
  have tt := T.f "tuple" (by decide +kernel)
  have ta := T.f "all" (by decide +kernel)
  have ts := T.f "sorted" (by decide +kernel)
  have tl := T.f "len" (by decide +kernel)
  have gR := T.g "InvalidRow" (by decide +kernel)
  obtain ⟨tkm, gM⟩ := T.m
  have G2 : FnOk P w K mg base CX0 2 f2 fd2 ["value"] (spAre K) := ok_are F2 F1 T g1
  have b2 : Binds K fd2 ["value"] [] := F2.bindsN fun _ _ _ _ _ _ us hl => match us, hl with | [_], _ => rfl
  refine F.ok scChkR (fun vs H Q E h => ?_) (fun cdv A outer s H vs Q E hr h => ?_)
  · obtain ⟨v, d, rfl, _⟩ := h
    rfl
  · obtain ⟨v, d, rfl, hd, h64, k⟩ := h
    refine ⟨_, pss_sz (pss_cons (ps_if (PW.pt (pw_or (pt_not (pt_val (pe_callB call_isi (by rfl) ti (by decide +kernel) (pa_cons (pv 0) (pa_cons (p_bty (n := "tuple") tt (by decide +kernel)) pa_nil)))))
        (pw_or1 (pt_not (pt_val (pe_callB (cr_all rfl) (by rfl) ta (by decide +kernel) (pa_cons (pe_lc (own := [("row", 2)]) (g := gName 2) (tt := tYes) rfl scChkR.nd (pi_tup (pv 0)) (blkOk_by (own := [("row", 2)]) (N := nChkR) (sc := defScope sChkR) (by decide +kernel))
          (fun _ _ _ _ _ => pg_name (i := 2) scChkR.nd rfl (Or.inl rfl)) (fun _ _ _ _ _ => pts_nil) (fun _ _ _ _ _ => pe_call G2 hr rfl g2 F2.kp b2 .nil pass0 (pa_cons (pv 2) pa_nil))) pa_nil)))))))
        (pss_one (ps_raise rfl (takes_of rfl rfl rfl rfl) (pmk_own PySem.F.excBase_ValueError M.mr.1 gR M.mr.2.1 (raises_own M.ir.sub M.mr.2.2) rfl))) pss_nil)
      (pss_cons (ps_set (i := 1) scChkR.nd rfl (Or.inl rfl) (pe_callB (cr_sortedSet rfl) (by rfl) ts (by decide +kernel) (pa_cons (Tp.pe_si (own := [("row", 2)]) (g := gName 2) (tt := tYes) rfl scChkR.nd (pi_tup (pv 0)) (blkOk_by (own := [("row", 2)]) (N := nChkR) (sc := defScope sChkR) (by decide +kernel))
          (fun _ _ _ _ _ => pg_name (i := 2) scChkR.nd rfl (Or.inl rfl)) (fun _ _ _ _ _ => pts_nil) (fun _ _ _ _ _ => pe_callB (show CallR _ (.builtin "len") (rLenS K) from call_len_seq) (by rfl) tl PySem.boot_len (pa_cons (pv 2) pa_nil))) pa_nil)))
      (pss_cons (ps_if (pt_cmpR op_gt (pe_callB call_len_seq (by rfl) tl PySem.boot_len (pa_cons (pv 1) pa_nil)) pe_int (nomark _))
        (pss_one (ps_raise rfl (takes_of rfl rfl rfl rfl) (pmk_own PySem.F.excBase_ValueError M.mr.1 gR M.mr.2.1 (raises_own M.ir.sub M.mr.2.2) rfl))) pss_nil)
      (pss_one (ps_if (PW.pt (pw_and (pt_truth (pv 1) (by intro _; rfl)) (pw_and1 (pt_cmpR op_gt (pe_ix ix_list (pv 1) pe_int (fun _ _ => rfl)) (pe_glob (v := .int 10) rfl gM ⟨_, rfl⟩) (nomark _)))))
        (pss_one (ps_raise rfl (takes_of rfl rfl rfl rfl) (pmk_own PySem.F.excBase_ValueError M.mr.1 gR M.mr.2.1 (raises_own M.ir.sub M.mr.2.2) rfl))) pss_nil))))), fun hz => ?_⟩
    refine ⟨_, rfl, _, _, _, _, _, rfl, .ty _, hd.ty, kit_tup d, _, rfl, ?_⟩
    have bad : ∀ H', Same H H' → rowsOk d = false → E (.ref (ga K "InvalidRow")) none H' := fun H' s' e => by
      have z := k H' s'
      rw [if_neg (by rw [e]; exact Bool.false_ne_true)] at z
      exact z
    have good : ∀ H', Same H H' → rowsOk d = true → Q .non H' := fun H' s' e => by
      have z := k H' s'
      rw [if_pos e] at z
      exact z
    cases d with
    | tuple ds =>
      cases hd with
      | tup h1 h2 =>
        rename_i a xs
        refine iteF ?_
        have lx : ds.length = xs.length := DtAll.len h2
        have h64 : ds.length < 64 := h64
        refine ⟨_, rfl, a, rfl, ⟨xs, h1⟩, fun D hD => lc_tup (xs := xs) (fun i H' => Same H H' ∧ H' D = some (.lst (((ds.take i).map areI).map V.bl))) ⟨smu hD, upd_same⟩ (fun i H' _ h => sqt_same h.1 h1) ?_ ?_⟩
        · rintro i x H' hx ⟨s1, hL⟩
          obtain ⟨d, e1, e2⟩ := dt_all_get h2 hx
          refine ⟨rfl, yes_in ?_⟩
          refine ⟨_, rfl, x, d, rfl, Dt.same s1 d _ e2, fun H2 s2 => ⟨_, s2 _ _ hL, ?_, fun b o e => ?_, ?_⟩⟩
          · have l1 := (List.getElem?_eq_some_iff.mp hx).choose
            have l2 := hz a xs h1
            rw [List.length_map, List.length_map, List.length_take]
            omega
          · rw [upd_ne (ne_of_none e hD)]
            exact s2 _ _ (s1 b o e)
          · rw [upd_same, List.take_add_one, e1]
            simp
        rintro H1 ⟨s1, hL⟩
        rw [← lx, List.take_length] at hL
        refine ⟨D, (ds.map areI), rfl, SqL.of hL, _, rfl, ?_⟩
        have eall : (ds.map areI).all id = ds.all areI := by rw [List.all_map] <;> rfl
        rw [eall]
        cases hall : ds.all areI with
        | false =>
          refine iteT (bad H1 s1 ?_)
          show (ds.all areI && _) = false
          rw [hall] <;> rfl
        | true =>
          refine iteF ?_
          have okd : rowsOk (.tuple ds) = wideOk (ds.map fun d => (its d).length) := by
            show (ds.all areI && _) = _
            rw [hall] <;> rfl
          generalize hlens : (ds.map fun d => (its d).length) = lens at okd
          have llen : lens.length = xs.length := by rw [← hlens, List.length_map, lx]
          refine ⟨_, rfl, a, rfl, ⟨xs, sqt_same s1 h1⟩, fun B hB => sg_it (walk_tup (xs := xs)) (new := fun D => SetO w D (fun _ => false) 0) (fun i H' => Same H1 H' ∧ ∃ (S : Int → Bool) (n : Nat), H' B = some (SetO w B S n) ∧ n ≤ i ∧ ∀ z : Int, S z = true ↔ ∃ m ∈ lens.take i, z = ((m : Nat) : Int))
            ⟨smu hB, fun _ => false, 0, upd_same, Nat.le_refl _, fun z => by simp⟩ (fun i H' _ h => sqt_same (s1.trans h.1) h1) ?_ ?_⟩
          · rintro i x H2 H3 hi ⟨s2, S, n, hS, hn, hm⟩ ⟨rfl, hx⟩
            obtain ⟨d, e1, e2⟩ := dt_all_get h2 hx
            have hd : areI d = true := List.all_eq_true.mp hall d (List.mem_of_getElem? e1)
            obtain ⟨p, rfl, hp⟩ := tup_of (Dt.same (s1.trans s2) d _ e2) hd
            have elen : lens[i]? = some (its d).length := by rw [← hlens, List.getElem?_map, e1]; rfl
            refine ⟨rfl, yes_in ?_⟩
            refine ⟨_, rfl, p, _, rfl, .inr hp, B, _, S, n, rfl, rfl, hS, ?_, fun b o e => ?_, _, _, upd_same, ?_, fun z => ?_⟩
            · have : n + 1 < 100 := by omega
              exact Nat.lt_trans this (by decide)
            · rw [upd_ne (ne_of_none e hB)]
              exact s2 _ _ e
            · split <;> omega
            · rw [List.length_map, show (ivs d).length = (its d).length from List.length_map _, List.take_add_one, elen]
              simp only [Bool.or_eq_true, decide_eq_true_eq, hm z, List.mem_append, Option.toList_some, List.mem_singleton]
              constructor
              · rintro (⟨m, h1, h2⟩ | h)
                · exact ⟨m, .inl h1, h2⟩
                · exact ⟨_, .inr rfl, h⟩
              · rintro ⟨m, h1 | h1, h2⟩
                · exact .inl ⟨m, h1, h2⟩
                · exact .inr (by rw [h2, h1])
          rintro H2 ⟨s2, S, n, hS, hn, hm⟩
          rw [← llen, List.take_length] at hm
          refine ⟨B, S, n, rfl, hS, by omega, fun ns q asc mem ln nq => ?_⟩
          have s12 := s1.trans s2
          have sq := s12.trans (smu (o := .lst (ns.map V.int)) nq)
          have hq := upd_same (H := H2) (a := q) (o := .lst (ns.map V.int))
          generalize upd H2 q (.lst (ns.map V.int)) = H3 at sq hq ⊢
          have mem2 : ∀ z : Int, z ∈ ns ↔ ∃ m ∈ lens, z = ((m : Nat) : Int) := fun z => (mem z).trans (hm z)
          refine ⟨_, rfl, q, _, rfl, .inl (SqL.of hq), _, _, rfl, rfl, _, rfl, ?_⟩
          match ns, asc, mem2, hq with
          | [], _, mem2, hq =>
            have e0 : lens = [] := by
              cases lens with
              | nil => rfl
              | cons m r => exact absurd ((mem2 m).mpr ⟨m, List.mem_cons_self, rfl⟩) (by simp)
            refine iteF ⟨_, rfl, false, .inl ⟨_, SqL.of hq, rfl⟩, iteF ?_⟩
            exact good H3 sq (by rw [okd, e0]; rfl)
          | [m1], _, mem2, hq =>
            obtain ⟨m, hm1, em⟩ := (mem2 m1).mp List.mem_cons_self
            have ew : wideOk lens = decide (m ≤ 10) := wide_all (fun n hn => by
              have z := (mem2 ((n : Nat) : Int)).mpr ⟨n, hn, rfl⟩
              rw [List.mem_singleton, em] at z
              exact Int.ofNat.inj z) (fun z => by rw [z] at hm1; cases hm1)
            refine iteF ⟨_, rfl, true, .inl ⟨_, SqL.of hq, rfl⟩, iteT ?_⟩
            refine ⟨_, rfl, q, _, _, V.int m1, rfl, rfl, SqL.of hq, atI_nat (j := 0) rfl, _, _, rfl, rfl, _, rfl, ?_⟩
            by_cases hle : m ≤ 10
            · refine ite2 (fun hc => ?_) fun _ => good H3 sq (by rw [okd, ew, decide_eq_true hle])
              have := of_decide_eq_true hc
              omega
            · refine ite2 (fun _ => bad H3 sq (by rw [okd, ew, decide_eq_false hle])) fun hc => ?_
              have : ¬ ((10 : Int) < m1) := fun z => hc (decide_eq_true z)
              omega
          | m1 :: m2 :: r, asc, mem2, hq =>
            obtain ⟨a1, ha1, ea1⟩ := (mem2 m1).mp List.mem_cons_self
            obtain ⟨a2, ha2, ea2⟩ := (mem2 m2).mp (List.mem_cons_of_mem _ List.mem_cons_self)
            have lt : m1 < m2 := (List.pairwise_cons.mp asc).1 m2 List.mem_cons_self
            have ew : wideOk lens = false := wide_two ha1 ha2 (fun z => by subst z; omega)
            refine ite2 (fun _ => bad H3 sq (by rw [okd, ew])) fun hc => ?_
            refine absurd (decide_eq_true ?_) hc
            simp only [List.length_map, List.length_cons]
            omega
    | none => exact iteT (bad H (Same.refl H) rfl)
    | bool b => exact iteT (bad H (Same.refl H) rfl)
    | int i => exact iteT (bad H (Same.refl H) rfl)
    | str x => exact iteT (bad H (Same.refl H) rfl)
    | list ds => exact iteT (bad H (Same.refl H) rfl)
    | dict ds => exact iteT (bad H (Same.refl H) rfl)
end
end K02

namespace K02
open PySem PySem.Spec PyProof.Rows L2 Dr Ex Rp
open He (ga ma)
theorem ite_yes {c : Bool} {A B : Prop} (h : if c = true then A else B) (e : c = true) : A := by
  rw [if_pos e] at h
  exact h
theorem ite_no {c : Bool} {A B : Prop} (h : if c = true then A else B) (e : c = false) : B := by
  rw [if_neg (by rw [e]; exact Bool.false_ne_true)] at h
  exact h
theorem inRange_take {xs : List Int} {i : Nat} {x : Int} (h : xs[i]? = some x) : ((xs.take (i + 1)).map fun x => decide (0 ≤ x) && decide (x < 10)) = ((xs.take i).map fun x => decide (0 ≤ x) && decide (x < 10)) ++ [decide (0 ≤ x) && decide (x < 10)] := by
  rw [List.take_add_one, h]
  simp
section
variable {P : Program} {w : World} {K : PySem.W.Frag} {mg : Str → Option Value} {base : Heap}
theorem ok_chkD {f f1 f2 f3 : Addr} {fd fd1 fd2 fd3 : FuncData} (F : FnP K "check_down" sChkD f fd) (F1 : FnP K "is_integer" sIsI f1 fd1) (F2 : FnP K "are_integers" sAre f2 fd2) (F3 : FnP K "is_ascending" sAsc f3 fd3) (T : TG K mg) (M : EF K)
    (g1 : mg "is_integer" = some (.ref f1)) (g2 : mg "are_integers" = some (.ref f2)) (g3 : mg "is_ascending" = some (.ref f3)) : FnOk P w K mg base (L2.CX P w) 3 f fd ["down"] (spChkD K) := by
  have ta := T.f "all" (by decide +kernel)
  have gO := T.g "InvalidOperation" (by decide +kernel)
  obtain ⟨tkm, gM⟩ := T.m
  have G2 : FnOk P w K mg base CX0 2 f2 fd2 ["value"] (spAre K) := ok_are F2 F1 T g1
  have b2 : Binds K fd2 ["value"] [] := F2.bindsN fun _ _ _ _ _ _ us hl => match us, hl with | [_], _ => rfl
  have G3 : FnOk P w K mg base CX0 1 f3 fd3 ["values"] (spAscT K) := ok_ascT F3 T
  have b3 : Binds K fd3 ["values"] [] := F3.bindsN fun _ _ _ _ _ _ us hl => match us, hl with | [_], _ => rfl
  refine F.ok scChkD (fun vs H Q E h => ?_) (fun cdv A outer s H vs Q E hr h => ?_)
  · obtain ⟨v, d, rfl, _⟩ := h
    rfl
  · obtain ⟨v, d, rfl, hd, k⟩ := h
    have hr1 : Room 1 (A.deeper (envOfC "check_down" (defScope sChkD) s.heap.objs.size f cdv)) := hr.mono (by decide)
    refine ⟨_, pss_sz (pss_cons (ps_if (PW.pt (pw_or (pt_not (pt_val (pe_call G2 hr rfl g2 F2.kp b2 .nil pass0 (pa_cons (pv 0) pa_nil)))) (pw_or1 (pt_not (pt_val (pe_call G3 hr1 rfl g3 F3.kp b3 .nil pass0 (pa_cons (pv 0) pa_nil)))))))
        (pss_one (ps_raise rfl (takes_of rfl rfl rfl rfl) (pmk_own PySem.F.excBase_ValueError M.mo.1 gO M.mo.2.1 (raises_own M.io.sub M.mo.2.2) rfl))) pss_nil)
      (pss_one (ps_if (pt_not (pt_val (pe_callB (cr_all rfl) (by rfl) ta (by decide +kernel) (pa_cons (pe_lc (own := [("at", 1)]) (g := gName 1) (tt := tYes) rfl scChkD.nd (pi_tup (pv 0)) (blkOk_by (own := [("at", 1)]) (N := nChkD) (sc := defScope sChkD) (by decide +kernel))
          (fun _ _ _ _ _ => pg_name (i := 1) scChkD.nd rfl (Or.inl rfl)) (fun _ _ _ _ _ => pts_nil) (fun _ _ _ _ _ => pe_chain op_le op_lt pe_int (pv 1) (pe_glob (v := .int 10) rfl gM ⟨_, rfl⟩))) pa_nil))))
        (pss_one (ps_raise rfl (takes_of rfl rfl rfl rfl) (pmk_own PySem.F.excBase_ValueError M.mo.1 gO M.mo.2.1 (raises_own M.io.sub M.mo.2.2) rfl))) pss_nil))), fun hz => ?_⟩
    have bad : ∀ H', Same H H' → downOk d = false → E (.ref (ga K "InvalidOperation")) none H' := fun H' s' e => ite_no (k H' s') e
    have good : ∀ H', Same H H' → downOk d = true → Q .non H' := fun H' s' e => ite_yes (k H' s') e
    refine ⟨_, rfl, v, d, rfl, hd, fun H1 s1 => ⟨_, rfl, ?_⟩⟩
    cases ha : areI d with
    | false => exact iteT (bad H1 s1 (by unfold downOk; rw [ha] <;> rfl))
    | true =>
      obtain ⟨a, rfl, hS⟩ := tup_of hd ha
      refine iteF ?_
      refine ⟨_, rfl, a, ivs d, rfl, sqt_same s1 hS, fun H2 s2 => ⟨_, rfl, ?_⟩⟩
      have s12 := s1.trans s2
      cases hb : asc (ivs d) with
      | false => exact iteT (bad H2 s12 (by unfold downOk; rw [ha, hb] <;> rfl))
      | true =>
        refine iteF ?_
        have hl := hz a _ hS
        rw [List.length_map] at hl
        refine ⟨_, rfl, a, rfl, ⟨_, sqt_same s12 hS⟩, fun D hD => lc_tup (xs := (ivs d).map V.int) (fun i H' => Same H2 H' ∧ H' D = some (.lst ((((ivs d).take i).map fun x => decide (0 ≤ x) && decide (x < 10)).map V.bl))) ⟨smu hD, upd_same⟩ (fun i H' _ h => sqt_same (s12.trans h.1) hS) ?_ ?_⟩
        · rintro i x H' hx ⟨s3, hL⟩
          rw [List.getElem?_map] at hx
          obtain ⟨z, ez, rfl⟩ := Option.map_eq_some_iff.mp hx
          have lt := (List.getElem?_eq_some_iff.mp ez).choose
          have e1 := inRange_take ez
          have small : ((((ivs d).take i).map fun x => decide (0 ≤ x) && decide (x < 10)).map V.bl).length < sizeLine := by
            rw [List.length_map, List.length_map, List.length_take]
            omega
          have kk : ∀ o : HO, Same H2 (upd H' D o) := fun o b u e => by
            rw [upd_ne (ne_of_none e hD)]
            exact s3 b u e
          refine ⟨rfl, yes_in ?_⟩
          refine ⟨_, rfl, _, _, rfl, rfl, _, rfl, ?_⟩
          by_cases h0 : (0 : Int) ≤ z
          · refine ite2 (fun _ => ⟨_, _, rfl, rfl, _, hL, small, kk _, ?_⟩) fun c => absurd (decide_eq_true h0) c
            rw [upd_same, e1, List.map_append, decide_eq_true h0]
            rfl
          · refine ite2 (fun c => absurd (of_decide_eq_true c) h0) fun _ => ⟨_, hL, small, kk _, ?_⟩
            rw [upd_same, e1, List.map_append, decide_eq_false h0]
            rfl
        · rintro H3 ⟨s3, hL⟩
          rw [List.length_map, List.take_length] at hL
          have eall : (((ivs d).map fun x => decide (0 ≤ x) && decide (x < 10)).all id) = inRange (ivs d) := by
            rw [List.all_map]
            rfl
          refine ⟨D, _, rfl, SqL.of hL, _, rfl, ?_⟩
          rw [eall]
          have s13 := s12.trans s3
          cases hc : inRange (ivs d) with
          | false => exact iteT (bad H3 s13 (by unfold downOk; rw [hc, Bool.and_false]))
          | true => exact iteF (good H3 s13 (by unfold downOk; rw [ha, hb, hc] <;> rfl))
theorem ok_isRow {f f1 f2 : Addr} {fd fd1 fd2 fdI : FuncData} (F : FnP K "is_row" sIsRow f fd) (F1 : FnP K "is_integer" sIsI f1 fd1) (F2 : FnP K "are_integers" sAre f2 fd2) (FI : FnM K "InvalidNumber.__init__" iN (ma K (ga K "InvalidNumber") "__init__") fdI) (T : TG K mg) (M : EF K)
    (g1 : mg "is_integer" = some (.ref f1)) (g2 : mg "are_integers" = some (.ref f2)) : FnOk P w K mg base (L2.CX P w) 3 f fd ["size", "value"] (spIsRow K) := by
  have tl := T.f "len" (by decide +kernel)
  have gN := T.g "InvalidNumber" (by decide +kernel)
  obtain ⟨tkm, gM⟩ := T.m
  have G1 : FnOk P w K mg base CX0 1 f1 fd1 ["value"] (spIsI K) := ok_isI F1 T
  have b1 : Binds K fd1 ["value"] [] := F1.bindsN fun _ _ _ _ _ _ us hl => match us, hl with | [_], _ => rfl
  have G2 : FnOk P w K mg base CX0 2 f2 fd2 ["value"] (spAre K) := ok_are F2 F1 T g1
  have b2 : Binds K fd2 ["value"] [] := F2.bindsN fun _ _ _ _ _ _ us hl => match us, hl with | [_], _ => rfl
  have GI : FnOk P w K mg base CX0 1 _ fdI ["self", "value"] (spIni (ga K "InvalidNumber") "value") := ok_iN FI T M.n M.ni
  have bI' : Binds K fdI ["self", "value"] [] := FI.bindsN fun _ _ _ _ _ _ us hl => match us, hl with | [_, _], _ => rfl
  refine F.ok scIsRow (fun vs H Q E h => ?_) (fun cdv A outer s H vs Q E hr h => ?_)
  · obtain ⟨v, u, z, d, rfl, _⟩ := h
    rfl
  · obtain ⟨v, u, z, d, rfl, hz, hd, k⟩ := h
    have hr1 : Room 1 (A.deeper (envOfC "is_row" (defScope sIsRow) s.heap.objs.size f cdv)) := hr.mono (by decide)
    refine ⟨_, pss_cons (ps_if (PW.pt (pw_or (pt_not (pt_val (pe_call G1 hr1 rfl g1 F1.kp b1 .nil pass0 (pa_cons (pv 0) pa_nil)))) (pw_or1 (pt_not (pt_chain op_le op_le pe_int (pv 0) (pe_glob (v := .int 10) rfl gM ⟨_, rfl⟩))))))
        (pss_one (ps_rs rfl (takes_of rfl rfl rfl rfl) M.n rfl (pe_xmk bI M.n GI hr bI' pass0 rfl gN (pa_cons (pv 0) pa_nil)))) pss_nil)
      (pss_one (ps_ret (pe_and (pe_call G2 hr rfl g2 F2.kp b2 .nil pass0 (pa_cons (pv 1) pa_nil)) (pe_one (pe_cmpR op_eq (pe_callB call_len_seq (by rfl) tl PySem.boot_len (pa_cons (pv 1) pa_nil)) (pv 0) (nomark _)))))), ?_⟩
    have out : sizeOk z = false → tRs H (ga K "InvalidNumber") "value" (tXmk (ga K "InvalidNumber") (spIni (ga K "InvalidNumber") "value") (tCons (tVar 0) tNil)) (fun cls d x H => E cls d H) { nx := fun _ H' => Q .non H', rt := Q } (L2.start nIsRow [v, u]) H := fun e => by
      refine ⟨_, rfl, (by show 1 ≤ 1000; decide), fun a1 na1 => ⟨a1, v, rfl, upd_same, fun d1 nd1 ne1 => ⟨rfl, ?_⟩⟩⟩
      obtain ⟨s1, x1⟩ := flown (f := "value") (v := v) na1 nd1 ne1
      exact ⟨a1, d1, v, rfl, upd_same, (by rw [upd_ne ne1, upd_same]), fr0_none na1, ite_no (k _ s1) e d1 x1⟩
    refine ⟨_, rfl, v, z, rfl, hz, _, rfl, ?_⟩
    have fin : sizeOk z = true → ∀ i, v = .int i → iv z = i → tRet (tAndV (tCall (spAre K) [] E0 (tCons (tVar 1) tNil)) (tOp rEq (tCB (rLenS K) (tCons (tVar 1) tNil)) (tVar 0))) { nx := fun _ H' => Q .non H', rt := Q } (L2.start nIsRow [v, u]) H := fun e i hv hi => by
      subst hv
      refine ⟨_, rfl, u, d, rfl, hd, fun H1 s1 => ⟨_, rfl, ?_⟩⟩
      have q := ite_yes (k H1 s1) e
      cases ha : areI d with
      | false =>
        rw [ha, Bool.false_and] at q
        exact iteF q
      | true =>
        obtain ⟨p, rfl, hp⟩ := tup_of hd ha
        rw [ha, Bool.true_and, hi] at q
        refine iteT ⟨_, rfl, p, _, rfl, .inr (sqt_same s1 hp), _, rfl, rfl, ?_⟩
        have ez : ((ivs d).map V.int).length = (its d).length := by rw [List.length_map, show (ivs d).length = (its d).length from List.length_map _]
        rw [ez]
        have e2 : decide (V.int (((its d).length : Nat) : Int) = V.int i) = decide ((((its d).length : Nat) : Int) = i) := by
          by_cases c : (((its d).length : Nat) : Int) = i
          · rw [c, decide_eq_true rfl, decide_eq_true rfl]
          · rw [decide_eq_false c, decide_eq_false (fun z => c (V.int.inj z))]
        exact e2 ▸ q
    cases z with
    | int i =>
      cases hz
      refine iteF ⟨_, rfl, _, _, rfl, rfl, _, rfl, ?_⟩
      by_cases h0 : (0 : Int) ≤ i
      · refine ite2 (fun _ => ⟨_, _, rfl, rfl, _, rfl, ?_⟩) fun c => absurd (decide_eq_true h0) c
        by_cases h1 : i ≤ 10
        · rw [decide_eq_true h1]
          refine iteF (fin ?_ i rfl rfl)
          show (true && (decide (0 ≤ i) && decide (i ≤ 10))) = true
          rw [decide_eq_true h0, decide_eq_true h1] <;> rfl
        · rw [decide_eq_false h1]
          refine iteT (out ?_)
          show (true && (decide (0 ≤ i) && decide (i ≤ 10))) = false
          rw [decide_eq_false h1, Bool.and_false, Bool.and_false]
      · refine ite2 (fun c => absurd (of_decide_eq_true c) h0) fun _ => ⟨_, rfl, iteT (out ?_)⟩
        show (true && (decide (0 ≤ i) && decide (i ≤ 10))) = false
        rw [decide_eq_false h0] <;> rfl
    | none => exact iteT (out rfl)
    | bool b => exact iteT (out rfl)
    | str x => exact iteT (out rfl)
    | list ds => exact iteT (out rfl)
    | tuple ds => exact iteT (out rfl)
    | dict ds => exact iteT (out rfl)
end
end K02

/-! before, sorted_rows where it raises, place_of. -/
namespace K02
open PySem PySem.Spec PyProof.Rows L2 Dr Ex Rp
open He (ga ma)
def spBefore (K : PySem.W.Frag) : Sp := fun vs H Q E => ∃ (v u x : V) (d e r : PyData), vs = [v, u, x] ∧ Dt K H v d ∧ Dt K H u e ∧ Dt K H x r ∧
  ∀ H', Same H H' → if rowsOk (.tuple [d, e]) = true then (if downOk r = true then Q (.bl (HT.lexLt (sk (ivs r) (ivs d)) (sk (ivs r) (ivs e)))) H' else E (.ref (ga K "InvalidOperation")) none H') else E (.ref (ga K "InvalidRow")) none H'
def spSorted (K : PySem.W.Frag) : Sp := fun vs H Q E => ∃ (v x : V) (d r : PyData), vs = [v, x] ∧ Dt K H v d ∧ Dt K H x r ∧ (its d).length < 64 ∧ (rowsOk d && downOk r) = false ∧
  ∀ H', Same H H' → if rowsOk d = true then E (.ref (ga K "InvalidOperation")) none H' else E (.ref (ga K "InvalidRow")) none H'
/-- the keys of rows -/
def keys (r d : PyData) : List (List Int) := (its d).map fun z => sk (ivs r) (ivs z)
def placeN (r d e : PyData) : Nat := ((keys r d).filter fun k => HT.lexLt k (sk (ivs r) (ivs e))).length
def spPlace (K : PySem.W.Frag) : Sp := fun vs H Q E => ∃ (v u x : V) (d e r : PyData), vs = [v, u, x] ∧ Dt K H v d ∧ Dt K H u e ∧ Dt K H x r ∧ (its d).length < 60 ∧
  ∀ H', Same H H' → if rowsOk d = true then (if rowsOk (.tuple ((its d).take 1 ++ [e])) = true then (if downOk r = true then (if ascL (keys r d) = true then Q (.int (placeN r d e : Nat)) H' else E (.ref (ga K "InvalidOperation")) none H')
    else E (.ref (ga K "InvalidOperation")) none H') else E (.ref (ga K "InvalidRow")) none H') else E (.ref (ga K "InvalidRow")) none H'
theorem sqt_lst {K : PySem.W.Frag} {H : Hp} {D p : Addr} {ys xs : List V} {o : HO} (hD : H D = some (.lst ys)) (h : SqT K H p xs) : SqT K (upd H D o) p xs := by
  rcases h with (h | ⟨ob, h⟩) | h
  · exact .inl (.inl (by
      rw [upd_ne (fun z => by rw [z, hD] at h; cases h)]
      exact h))
  · exact .inl (.inr ⟨ob, by
      rw [upd_ne (fun z => by rw [z, hD] at h; cases h)]
      exact h⟩)
  · exact .inr h
abbrev nBefore : List Str := ["row", "other", "down"]
abbrev nSorted : List Str := ["rows", "down", "different"]
abbrev nPlace : List Str := ["rows", "row", "down", "places", "place", "one"]
theorem scBefore : FnScope nBefore ["row", "other", "down"] (defScope sBefore) := ⟨rfl, rfl, rfl, by decide +kernel, rfl, by decide +kernel, by decide +kernel⟩
theorem scSorted : FnScope nSorted ["rows", "down"] (defScope sSorted) := ⟨rfl, rfl, rfl, by decide +kernel, rfl, by decide +kernel, by decide +kernel⟩
theorem scPlace : FnScope nPlace ["rows", "row", "down"] (defScope sPlace) := ⟨rfl, rfl, rfl, by decide +kernel, rfl, by decide +kernel, by decide +kernel⟩
/-- the package's defs that the others call -/
structure Fns (K : PySem.W.Frag) (mg : Str → Option Value) : Prop where
  g1 : mg "is_integer" = some (.ref (ga K "is_integer"))
  g2 : mg "are_integers" = some (.ref (ga K "are_integers"))
  g3 : mg "is_ascending" = some (.ref (ga K "is_ascending"))
  gk : mg "sort_key" = some (.ref (ga K "sort_key"))
  gr : mg "check_rows" = some (.ref (ga K "check_rows"))
  gd : mg "check_down" = some (.ref (ga K "check_down"))
  f1 : ∃ fd, FnP K "is_integer" sIsI (ga K "is_integer") fd
  f2 : ∃ fd, FnP K "are_integers" sAre (ga K "are_integers") fd
  f3 : ∃ fd, FnP K "is_ascending" sAsc (ga K "is_ascending") fd
  fk : ∃ fd, FnP K "sort_key" sKey (ga K "sort_key") fd
  fr : ∃ fd, FnP K "check_rows" sChkR (ga K "check_rows") fd
  fdn : ∃ fd, FnP K "check_down" sChkD (ga K "check_down") fd
section
variable {P : Program} {w : World} {K : PySem.W.Frag} {mg : Str → Option Value} {base : Heap}
theorem rows_fst {d e : PyData} (h : rowsOk (.tuple [d, e]) = true) : areI d = true ∧ areI e = true := by
  have h1 : ([d, e].all areI && _) = true := h
  rw [Bool.and_eq_true] at h1
  have h2 := h1.1
  simp only [List.all_cons, List.all_nil, Bool.and_true, Bool.and_eq_true] at h2
  exact h2
theorem down_are {r : PyData} (h : downOk r = true) : areI r = true := by
  unfold downOk at h
  rw [Bool.and_eq_true, Bool.and_eq_true] at h
  exact h.1.1
theorem ok_before {f : Addr} {fd : FuncData} (F : FnK K "before" sBefore f fd) (B : Fns K mg) (T : TG K mg) (M : EF K) : FnOk P w K mg base (L2.CX P w) 4 f fd ["row", "other", "down"] (spBefore K) := by
  obtain ⟨d1, F1⟩ := B.f1
  obtain ⟨d2, F2⟩ := B.f2
  obtain ⟨d3, F3⟩ := B.f3
  obtain ⟨dk, FK⟩ := B.fk
  obtain ⟨dr, FR⟩ := B.fr
  obtain ⟨dd, FD⟩ := B.fdn
  have GR : FnOk P w K mg base (L2.CX P w) 3 _ dr ["rows"] (spChkR K) := ok_chkR FR F1 F2 T M B.g1 B.g2
  have bR : Binds K dr ["rows"] [] := FR.bindsN fun _ _ _ _ _ _ us hl => match us, hl with | [_], _ => rfl
  have GD : FnOk P w K mg base (L2.CX P w) 3 _ dd ["down"] (spChkD K) := ok_chkD FD F1 F2 F3 T M B.g1 B.g2 B.g3
  have bD : Binds K dd ["down"] [] := FD.bindsN fun _ _ _ _ _ _ us hl => match us, hl with | [_], _ => rfl
  have GK : FnOk P w K mg base CX0 1 _ dk ["row", "down"] (spKey K) := ok_key FK T
  have bK : Binds K dk ["row", "down"] [] := FK.bindsN fun _ _ _ _ _ _ us hl => match us, hl with | [_, _], _ => rfl
  refine F.ok scBefore (fun vs H Q E h => ?_) (fun cdv A outer s H vs Q E hr h => ?_)
  · obtain ⟨v, u, x, d, e, r, rfl, _⟩ := h
    rfl
  · obtain ⟨v, u, x, d, e, r, rfl, hv, hu, hx, k⟩ := h
    have hr1 : Room 1 (A.deeper (envOfC "before" (defScope sBefore) s.heap.objs.size f cdv)) := hr.mono (by decide)
    refine ⟨_, pss_cons (ps_expr (pe_call GR hr rfl B.gr FR.kp bR .nil (passes_call (E := E) (takes_of rfl rfl rfl rfl) (fun _ _ _ _ h => h)) (pa_cons (pe_tup (pa_cons (pv 0) (pa_cons (pv 1) pa_nil))) pa_nil)))
      (pss_cons (ps_expr (pe_call GD hr rfl B.gd FD.kp bD .nil (passes_call (E := E) (takes_of rfl rfl rfl rfl) (fun _ _ _ _ h => h)) (pa_cons (pv 2) pa_nil)))
      (pss_one (ps_ret (pe_cmpR (show OpR _ _ (rLtT K) from op_ltT hr.units0) (pe_call GK hr1 rfl B.gk FK.kp bK .nil pass0 (pa_cons (pv 0) (pa_cons (pv 2) pa_nil))) (pe_call GK hr1 rfl B.gk FK.kp bK .nil pass0 (pa_cons (pv 1) (pa_cons (pv 2) pa_nil))) (nomark _))))), ?_⟩
    refine ⟨_, rfl, _, rfl, (by show 2 ≤ sizeLine; decide), fun t nt => ?_⟩
    have st := smu (o := .tup [v, u]) nt
    have mt := upd_same (H := H) (a := t) (o := .tup [v, u])
    generalize upd H t (.tup [v, u]) = H1 at st mt ⊢
    refine ⟨.ref t, .tuple [d, e], rfl, .tup (SqT.of mt) (.cons (Dt.same st _ _ hv) (.cons (Dt.same st _ _ hu) .nil)), (by show 2 < 64; decide), fun H2 s2 => ?_⟩
    have s02 := st.trans s2
    cases h1 : rowsOk (.tuple [d, e]) with
    | false => exact iteF (ite_no (k H2 s02) h1)
    | true =>
      obtain ⟨a1, a2⟩ := rows_fst h1
      refine iteT ⟨_, rfl, x, r, rfl, Dt.same s02 _ _ hx, fun H3 s3 => ?_⟩
      have s03 := s02.trans s3
      have k3 := ite_yes (k H3 s03) h1
      cases h2 : downOk r with
      | false => exact iteF (ite_no k3 h2)
      | true =>
        obtain ⟨p1, rfl, q1⟩ := tup_of (Dt.same s03 _ _ hv) a1
        obtain ⟨p2, rfl, q2⟩ := tup_of (Dt.same s03 _ _ hu) a2
        obtain ⟨p3, rfl, q3⟩ := tup_of (Dt.same s03 _ _ hx) (down_are h2)
        refine iteT ⟨_, rfl, _, rfl, p1, p3, _, _, rfl, q1, q3, fun H4 t1 s4 n1 m1 => ?_⟩
        refine ⟨_, rfl, _, rfl, p2, p3, _, _, rfl, sqt_same s4 q2, sqt_same s4 q3, fun H5 t2 s5 n2 m2 => ?_⟩
        exact ⟨t1, t2, _, _, rfl, rfl, SqT.of (s5 _ _ m1), SqT.of m2, ite_yes (ite_yes (k H5 (s03.trans (s4.trans s5))) h1) h2⟩
theorem ok_sorted {f : Addr} {fd : FuncData} (F : FnK K "sorted_rows" sSorted f fd) (B : Fns K mg) (T : TG K mg) (M : EF K) : FnOk P w K mg base (L2.CX P w) 4 f fd ["rows", "down"] (spSorted K) := by
  obtain ⟨d1, F1⟩ := B.f1
  obtain ⟨d2, F2⟩ := B.f2
  obtain ⟨d3, F3⟩ := B.f3
  obtain ⟨dr, FR⟩ := B.fr
  obtain ⟨dd, FD⟩ := B.fdn
  have GR : FnOk P w K mg base (L2.CX P w) 3 _ dr ["rows"] (spChkR K) := ok_chkR FR F1 F2 T M B.g1 B.g2
  have bR : Binds K dr ["rows"] [] := FR.bindsN fun _ _ _ _ _ _ us hl => match us, hl with | [_], _ => rfl
  have GD : FnOk P w K mg base (L2.CX P w) 3 _ dd ["down"] (spChkD K) := ok_chkD FD F1 F2 F3 T M B.g1 B.g2 B.g3
  have bD : Binds K dd ["down"] [] := FD.bindsN fun _ _ _ _ _ _ us hl => match us, hl with | [_], _ => rfl
  refine F.ok scSorted (fun vs H Q E h => ?_) (fun cdv A outer s H vs Q E hr h => ?_)
  · obtain ⟨v, x, d, r, rfl, _⟩ := h
    rfl
  · obtain ⟨v, x, d, r, rfl, hv, hx, h64, hno, k⟩ := h
    refine ⟨_, pss_cons (ps_expr (pe_call GR hr rfl B.gr FR.kp bR .nil (passes_call (E := E) (takes_of rfl rfl rfl rfl) (fun _ _ _ _ h => h)) (pa_cons (pv 0) pa_nil)))
      (pss_cons (ps_expr (pe_call GD hr rfl B.gd FD.kp bD .nil (passes_call (E := E) (takes_of rfl rfl rfl rfl) (fun _ _ _ _ h => h)) (pa_cons (pv 1) pa_nil)))
      (pss_cons ps_never (pss_one ps_never))), ?_⟩
    refine ⟨_, rfl, v, d, rfl, hv, h64, fun H2 s2 => ?_⟩
    cases h1 : rowsOk d with
    | false => exact iteF (ite_no (k H2 s2) h1)
    | true =>
      refine iteT ⟨_, rfl, x, r, rfl, Dt.same s2 _ _ hx, fun H3 s3 => ?_⟩
      have k3 := ite_yes (k H3 (s2.trans s3)) h1
      rw [h1, Bool.true_and] at hno
      rw [hno]
      exact iteF k3
end
end K02

/-! place_of. -/
namespace K02
open PySem PySem.Spec PyProof.Rows L2 Dr Ex Rp
open He (ga ma)
/-- what is cut off ahead: the first item -/
theorem cut01 (xs : List V) : cutV xs none (some 1) = xs.take 1 := by
  unfold cutV
  rw [show HT.sIx xs.length xs.length (some 1) = min 1 xs.length from HT.sIx_nat _ _ 1, HT.sIx_none, Nat.sub_zero, List.drop_zero]
  by_cases h : xs.length = 0
  · have z := List.eq_nil_of_length_eq_zero h
    subst z
    rfl
  · rw [show min 1 xs.length = 1 by omega]
theorem whole01 (xs : List V) : (HT.sIx xs.length 0 none = 0 ∧ HT.sIx xs.length xs.length (some 1) = xs.length) → xs.take 1 = xs := by
  rw [show HT.sIx xs.length xs.length (some 1) = min 1 xs.length from HT.sIx_nat _ _ 1, HT.sIx_none]
  intro h
  exact List.take_of_length_le (by omega)
theorem dt_take {K : PySem.W.Frag} {H : Hp} : ∀ {xs : List V} {ds : List PyData} (n : Nat), DtAll K H xs ds → DtAll K H (xs.take n) (ds.take n)
  | _, _, 0, _ => by
    rw [List.take_zero, List.take_zero]
    exact .nil
  | _, _, n + 1, .nil => by
    rw [List.take_nil, List.take_nil]
    exact .nil
  | _, _, n + 1, .cons h t => .cons h (dt_take n t)
theorem dt_app {K : PySem.W.Frag} {H : Hp} : ∀ {xs ys : List V} {ds es : List PyData}, DtAll K H xs ds → DtAll K H ys es → DtAll K H (xs ++ ys) (ds ++ es)
  | _, _, _, _, .nil, h => h
  | _, _, _, _, .cons h t, q => .cons h (dt_app t q)
theorem rows_all {ds : List PyData} (h : rowsOk (.tuple ds) = true) : ∀ d ∈ ds, areI d = true := by
  have h1 : (ds.all areI && _) = true := h
  rw [Bool.and_eq_true] at h1
  exact List.all_eq_true.mp h1.1
theorem rows_tup {d : PyData} (h : rowsOk d = true) : ∃ ds, d = .tuple ds := by
  cases d with
  | tuple ds => exact ⟨ds, rfl⟩
  | _ => cases h
section
variable {P : Program} {w : World} {K : PySem.W.Frag} {mg : Str → Option Value} {base : Heap}
theorem ok_place {f : Addr} {fd : FuncData} (F : FnK K "place_of" sPlace f fd) (B : Fns K mg) (T : TG K mg) (M : EF K) : FnOk P w K mg base (L2.CX P w) 4 f fd ["rows", "row", "down"] (spPlace K) := by
  obtain ⟨d1, F1⟩ := B.f1
  obtain ⟨d2, F2⟩ := B.f2
  obtain ⟨d3, F3⟩ := B.f3
  obtain ⟨dk, FK⟩ := B.fk
  obtain ⟨dr, FR⟩ := B.fr
  obtain ⟨dd, FD⟩ := B.fdn
  have tl := T.f "len" (by decide +kernel)
  have gO := T.g "InvalidOperation" (by decide +kernel)
  have GR : FnOk P w K mg base (L2.CX P w) 3 _ dr ["rows"] (spChkR K) := ok_chkR FR F1 F2 T M B.g1 B.g2
  have bR : Binds K dr ["rows"] [] := FR.bindsN fun _ _ _ _ _ _ us hl => match us, hl with | [_], _ => rfl
  have GD : FnOk P w K mg base (L2.CX P w) 3 _ dd ["down"] (spChkD K) := ok_chkD FD F1 F2 F3 T M B.g1 B.g2 B.g3
  have bD : Binds K dd ["down"] [] := FD.bindsN fun _ _ _ _ _ _ us hl => match us, hl with | [_], _ => rfl
  have GK : FnOk P w K mg base CX0 1 _ dk ["row", "down"] (spKey K) := ok_key FK T
  have bK : Binds K dk ["row", "down"] [] := FK.bindsN fun _ _ _ _ _ _ us hl => match us, hl with | [_, _], _ => rfl
  have GA : FnOk P w K mg base CX0 1 _ d3 ["values"] (spAscL K) := ok_ascL F3 T
  have bA : Binds K d3 ["values"] [] := F3.bindsN fun _ _ _ _ _ _ us hl => match us, hl with | [_], _ => rfl
  refine F.ok scPlace (fun vs H Q E h => ?_) (fun cdv A outer s H vs Q E hr h => ?_)
  · obtain ⟨v, u, x, d, e, r, rfl, _⟩ := h
    rfl
  · obtain ⟨v, u, x, d, e, r, rfl, hv, hu, hx, h60, k⟩ := h
    have hr1 : Room 1 (A.deeper (envOfC "place_of" (defScope sPlace) s.heap.objs.size f cdv)) := hr.mono (by decide)
    refine ⟨_, pss_cons (ps_expr (pe_call GR hr rfl B.gr FR.kp bR .nil (passes_call (E := E) (takes_of rfl rfl rfl rfl) (fun _ _ _ _ h => h)) (pa_cons (pv 0) pa_nil)))
      (pss_cons (ps_expr (pe_call GR hr rfl B.gr FR.kp bR .nil (passes_call (E := E) (takes_of rfl rfl rfl rfl) (fun _ _ _ _ h => h)) (pa_cons (pe_tup (StX.pa_star (pe_slice sl_tupA (pv 0) po_none (po_some pe_int)) (pa_cons (pv 1) pa_nil))) pa_nil)))
      (pss_cons (ps_expr (pe_call GD hr rfl B.gd FD.kp bD .nil (passes_call (E := E) (takes_of rfl rfl rfl rfl) (fun _ _ _ _ h => h)) (pa_cons (pv 2) pa_nil)))
      (pss_cons (ps_setLc (i := 3) (own := [("one", 5)]) (g := gName 5) (tt := tYes) rfl scPlace.nd rfl rfl (sw_true rfl rfl rfl (by decide +kernel)) (pi_tup (pv 0)) (blkOk_by (own := [("one", 5)]) (N := nPlace) (sc := defScope sPlace) (by decide +kernel))
          (fun _ _ _ _ _ => pg_name (i := 5) scPlace.nd rfl (Or.inl rfl)) (fun _ _ _ _ _ => pts_nil) (fun _ _ _ _ _ => pe_call GK hr1 rfl B.gk FK.kp bK .nil pass0 (pa_cons (pv 5) (pa_cons (pv 2) pa_nil))))
      (pss_cons (ps_if (pt_not (pt_val (pe_call GA hr1 rfl B.g3 F3.kp bA .nil pass0 (pa_cons (pv 3) pa_nil)))) (pss_one (ps_raise rfl (takes_of rfl rfl rfl rfl) (pmk_own PySem.F.excBase_ValueError M.mo.1 gO M.mo.2.1 (raises_own M.io.sub M.mo.2.2) rfl))) pss_nil)
      (pss_cons (ps_set (i := 4) scPlace.nd rfl (Or.inr rfl) (pe_call GK hr1 rfl B.gk FK.kp bK .nil pass0 (pa_cons (pv 1) (pa_cons (pv 2) pa_nil))))
      (pss_one (ps_ret (pe_callB call_len_seq (by rfl) tl PySem.boot_len (pa_cons (pe_lc (own := [("one", 5)]) (g := gName 5) rfl scPlace.nd (pi_list (pv 3)) (blkOk_by (own := [("one", 5)]) (N := nPlace) (sc := defScope sPlace) (by decide +kernel))
          (fun _ _ _ _ _ => pg_name (i := 5) scPlace.nd rfl (Or.inl rfl)) (fun _ _ _ _ _ => pts_one (pt_cmpR (show OpR _ _ (rLtT K) from op_ltT hr.units0) (pv 5) (pv 4) (nomark _))) (fun _ _ _ _ _ => pv 5)) pa_nil))))))))), ?_⟩
    refine ⟨_, rfl, v, d, rfl, hv, by omega, fun H2 s2 => ?_⟩
    cases h1 : rowsOk d with
    | false => exact iteF (ite_no (k H2 s2) h1)
    | true =>
      refine iteT ?_
      obtain ⟨ds, rfl⟩ := rows_tup h1
      cases hv with
      | tup hS hA =>
      rename_i a xs
      have lx : ds.length = xs.length := DtAll.len hA
      have h60 : ds.length < 60 := h60
      have ar := rows_all h1
      have kk : ∀ G, Same H G → if rowsOk (.tuple (ds.take 1 ++ [e])) = true then _ else E (.ref (ga K "InvalidRow")) none G := fun G sG => ite_yes (k G sG) h1
      have ln : ∀ ys : List V, ys.length ≤ xs.length → (ys ++ [u]).length ≤ sizeLine := fun ys hy => by
        rw [List.length_append, sizeLine_eq, List.length_singleton]
        omega
      refine ⟨_, rfl, _, rfl, a, xs, rfl, sqt_same s2 hS, fun hw => ?w, fun hw p np => ?nw⟩
      case' w =>
        have hw' := whole01 xs hw
        refine ⟨a, xs, rfl, .inl (sqt_same s2 hS), _, rfl, ln _ (Nat.le_refl _), fun t nt => ?_⟩
        have st := smu (o := .tup (xs ++ [u])) nt
        have mt := upd_same (H := H2) (a := t) (o := .tup (xs ++ [u]))
        generalize upd H2 t (.tup (xs ++ [u])) = G1 at st mt ⊢
        have sG := s2.trans st
        have tG : SqT K G1 t (xs.take 1 ++ [u]) := by
          rw [hw']
          exact SqT.of mt
      case' nw =>
        have sp := smu (o := .tup (cutV xs none (some 1))) np
        have mp := upd_same (H := H2) (a := p) (o := .tup (cutV xs none (some 1)))
        generalize upd H2 p (.tup (cutV xs none (some 1))) = G0 at sp mp ⊢
        refine ⟨p, cutV xs none (some 1), rfl, .inl (SqT.of mp), _, rfl, ln _ (cutV_length _ _ _), fun t nt => ?_⟩
        have st := smu (o := .tup (cutV xs none (some 1) ++ [u])) nt
        have mt := upd_same (H := G0) (a := t) (o := .tup (cutV xs none (some 1) ++ [u]))
        generalize upd G0 t (.tup (cutV xs none (some 1) ++ [u])) = G1 at st mt ⊢
        have sG := (s2.trans sp).trans st
        have tG : SqT K G1 t (xs.take 1 ++ [u]) := by
          rw [← cut01]
          exact SqT.of mt
      all_goals
        refine ⟨.ref t, .tuple (ds.take 1 ++ [e]), rfl, .tup tG (dt_app (dt_take 1 (Dt.sameAll sG _ _ hA)) (.cons (Dt.same sG _ _ hu) .nil)), ?_, fun G2 s12 => ?_⟩
        · show (ds.take 1 ++ [e]).length < 64
          rw [List.length_append, List.length_take, List.length_singleton]
          omega
        have s02 := sG.trans s12
        cases h2 : rowsOk (.tuple (ds.take 1 ++ [e])) with
        | false => exact iteF (ite_no (kk G2 s02) h2)
        | true =>
        refine iteT ⟨_, rfl, x, r, rfl, Dt.same s02 _ _ hx, fun G3 s3 => ?_⟩
        have s03 := s02.trans s3
        cases h3 : downOk r with
        | false => exact iteF (ite_no (ite_yes (kk G3 s03) h2) h3)
        | true =>
        refine iteT ?_
        have k3 : ∀ G, Same H G → if ascL (keys r (.tuple ds)) = true then Q (.int (placeN r (.tuple ds) e : Nat)) G else E (.ref (ga K "InvalidOperation")) none G := fun G sG => ite_yes (ite_yes (kk G sG) h2) h3
        have ae : areI e = true := rows_all h2 e (List.mem_append_right _ (List.mem_singleton.mpr rfl))
        obtain ⟨p3, rfl, q3⟩ := tup_of (Dt.same s03 _ _ hx) (down_are h3)
        obtain ⟨p2, rfl, q2⟩ := tup_of (Dt.same s03 _ _ hu) ae
        have keyAt : ∀ {i : Nat} {d : PyData}, ds[i]? = some d → (keys r (.tuple ds))[i]? = some (sk (ivs r) (ivs d)) := fun {i d} h => by
          show (ds.map fun z => sk (ivs r) (ivs z))[i]? = _
          rw [List.getElem?_map, h]
          rfl
        have keyLen : (keys r (.tuple ds)).length = xs.length := by
          rw [← lx]
          exact List.length_map _
        refine ⟨_, rfl, a, rfl, ⟨xs, sqt_same s03 hS⟩, fun D hD => lc_tup (xs := xs) (fun i G => Same G3 G ∧ ∃ ps : List Addr, ps.length = i ∧ G D = some (.lst (ps.map V.ref)) ∧
          ∀ (j : Nat) (p : Addr) (c : List Int), ps[j]? = some p → (keys r (.tuple ds))[j]? = some c → SqT K G p (c.map V.int)) ⟨smu hD, [], rfl, upd_same, fun j p c hj _ => by simp at hj⟩ (fun i G _ h => sqt_same (s03.trans h.1) hS) ?_ ?_⟩
        · rintro i y G hy ⟨s4, ps, hps, hL, hks⟩
          obtain ⟨d, e1, e2⟩ := dt_all_get hA hy
          obtain ⟨p1, rfl, q1⟩ := tup_of (Dt.same (s03.trans s4) _ _ e2) (ar d (List.mem_of_getElem? e1))
          have li := (List.getElem?_eq_some_iff.mp hy).choose
          refine ⟨rfl, yes_in ⟨_, rfl, _, rfl, p1, p3, _, _, rfl, q1, sqt_same s4 q3, fun G' q s' nq mq => ⟨_, s' _ _ hL, ?_, fun b o eb => ?_, ps ++ [q], ?_, ?_, fun j p c hj hc => ?_⟩⟩⟩
          · rw [List.length_map, hps, sizeLine_eq]
            omega
          · rw [upd_ne (ne_of_none eb hD)]
            exact s' _ _ (s4 _ _ eb)
          · rw [List.length_append, hps]
            rfl
          · rw [upd_same, List.map_append]
            rfl
          · refine sqt_lst (s' _ _ hL) ?_
            by_cases hji : j < ps.length
            · rw [List.getElem?_append_left hji] at hj
              exact sqt_same s' (hks j p c hj hc)
            · have lj := (List.getElem?_eq_some_iff.mp hj).choose
              rw [List.length_append, List.length_singleton] at lj
              have ej : j = ps.length := by omega
              subst ej
              rw [List.getElem?_append_right (Nat.le_refl _), Nat.sub_self] at hj
              obtain rfl : q = p := Option.some.inj hj
              rw [hps, keyAt e1] at hc
              obtain rfl := Option.some.inj hc
              exact SqT.of mq
        rintro G4 ⟨s4, ps, hps, hL, hks⟩
        have s04 := s03.trans s4
        refine ⟨_, rfl, D, ps, keys r (.tuple ds), rfl, SqL.of hL, by rw [keyLen, hps], hks, fun G5 s5 => ⟨_, rfl, ?_⟩⟩
        have s05 := s04.trans s5
        cases h4 : ascL (keys r (.tuple ds)) with
        | false => exact iteT (ite_no (k3 G5 s05) h4)
        | true =>
        refine iteF ?_
        refine ⟨_, rfl, _, rfl, p2, p3, _, _, rfl, sqt_same (s4.trans s5) q2, sqt_same (s4.trans s5) q3, fun G6 pk s6 n6 m6 => ?_⟩
        have s06 := s05.trans s6
        have s46 := s5.trans s6
        refine ⟨_, rfl, D, rfl, ⟨_, SqL.of (s46 _ _ hL)⟩, fun D2 hD2 => lc_list (xs := ps.map V.ref) (fun i G => Same G6 G ∧ ∃ acc, G D2 = some (.lst acc) ∧ acc.length = (((keys r (.tuple ds)).take i).filter fun c => HT.lexLt c (sk (ivs r) (ivs e))).length)
          ⟨smu hD2, [], upd_same, by rw [List.take_zero]; rfl⟩ (fun i G _ h => SqL.of ((s46.trans h.1) _ _ hL)) ?_ ?_⟩
        · rintro i y G hy ⟨s7, acc, hL2, hn⟩
          rw [List.getElem?_map] at hy
          obtain ⟨p, ep, rfl⟩ := Option.map_eq_some_iff.mp hy
          have li : i < (keys r (.tuple ds)).length := by
            have := (List.getElem?_eq_some_iff.mp ep).choose
            omega
          have ek := List.getElem?_eq_getElem li
          have q := sqt_same (s46.trans s7) (hks i p _ ep ek)
          have hacc : acc.length < sizeLine := by
            have z := List.length_filter_le (fun c => HT.lexLt c (sk (ivs r) (ivs e))) ((keys r (.tuple ds)).take i)
            rw [List.length_take] at z
            rw [hn, sizeLine_eq]
            omega
          have step : ∀ b, HT.lexLt (keys r (.tuple ds))[i] (sk (ivs r) (ivs e)) = b → (((keys r (.tuple ds)).take (i + 1)).filter fun c => HT.lexLt c (sk (ivs r) (ivs e))).length = acc.length + if b = true then 1 else 0 := fun b eb => by
            rw [List.take_add_one, ek, List.filter_append, List.length_append, hn]
            congr 1
            rw [Option.toList_some, List.filter_cons, List.filter_nil, eb]
            cases b <;> rfl
          refine ⟨rfl, _, rfl, _, rfl, p, pk, _, _, rfl, rfl, q, SqT.of (s7 _ _ m6), _, rfl, ?_⟩
          cases hc : HT.lexLt (keys r (.tuple ds))[i] (sk (ivs r) (ivs e)) with
          | true =>
            refine iteT ⟨_, rfl, acc, hL2, hacc, fun b o eb => ?_, acc ++ [.ref p], upd_same, ?_⟩
            · rw [upd_ne (ne_of_none eb hD2)]
              exact s7 _ _ eb
            · rw [step true hc, List.length_append]
              rfl
          | false =>
            refine iteF ⟨s7, acc, hL2, ?_⟩
            rw [step false hc]
            rfl
        · rintro G7 ⟨s7, acc, hL2, hn⟩
          rw [List.length_map, hps, ← keyLen, List.take_length] at hn
          refine ⟨D2, acc, rfl, .inl (SqL.of hL2), ?_⟩
          rw [hn]
          exact ite_yes (k3 G7 (s06.trans s7)) h4
end
end K02

/-! _law_told: the word for what a call lets out. -/
namespace K02
open PySem PySem.Spec PyProof.Rows L2 Dr Ex Rp LamX
open He (ga ma)
/-- what the head tells of the except clauses -/
structure EM (K : PySem.W.Frag) : Prop where
  rr : PySem.W.exmOne K (.ref (ga K "InvalidRow")) (.ref (ga K "InvalidRow")) = some true
  or : PySem.W.exmOne K (.ref (ga K "InvalidOperation")) (.ref (ga K "InvalidRow")) = some false
  oo : PySem.W.exmOne K (.ref (ga K "InvalidOperation")) (.ref (ga K "InvalidOperation")) = some true
  nr : PySem.W.exmOne K (.ref (ga K "InvalidNumber")) (.ref (ga K "InvalidRow")) = some false
  no : PySem.W.exmOne K (.ref (ga K "InvalidNumber")) (.ref (ga K "InvalidOperation")) = some false
  nn : PySem.W.exmOne K (.ref (ga K "InvalidNumber")) (.ref (ga K "InvalidNumber")) = some true
  sys : SysD K
/-- data whose repr is short -/
def Shw (d : PyData) : Prop := d.showable = true ∧ d.depth ≤ 60 ∧ d.shown.length ≤ 100000
def OutK (K : PySem.W.Frag) (Q : VK) : XK := fun cls d H' => (cls = .ref (ga K "InvalidRow") ∧ Q (.str "row") H') ∨ (cls = .ref (ga K "InvalidOperation") ∧ Q (.str "operation") H') ∨
  (cls = .ref (ga K "InvalidNumber") ∧ ∃ (dd : Addr) (v : V) (D : PyData), d = some dd ∧ H' dd = some (exd dd [("value", v)]) ∧ Dt K H' v D ∧ Shw D ∧ Q (.str ("number " ++ D.shown)) H')
/-- told: what it makes of the lambda's reading -/
def TTold3 (K : PySem.W.Frag) : (XK → Hp → VK → Prop) → Hp → VK → Prop := fun tl H Q => tl (OutK K Q) H fun _ H' => Q (.str "fine") H'
abbrev nTold : List Str := ["_law_call", "e"]
theorem scTold : FnScope nTold ["_law_call"] (defScope sTold) := ⟨rfl, rfl, rfl, by decide +kernel, rfl, by decide +kernel, by decide +kernel⟩
def tryHds : List Stmt → List ExceptHandler
  | .Try _ h _ _ _ :: _ => h
  | _ => []
abbrev toldX (X : Cx) (g : Addr) (cdg : Value) (s : Shared) (H : Hp) : Cx := (cxOf C8.CX0 X.prog X.w X.K X.mg X.base nTold "_law_told" (defScope sTold) g cdg X.A X.stack s H C8.E0).nox
theorem told_gives3 {X : Cx} {q : Str} {g : Addr} {cdg : Value} (T : TG X.K X.mg) (M : EF X.K) (E : EM X.K) (hg : X.A.guards = some []) (hr : Room 1 X.A) : GivesTo X nTold "_law_told" (defScope sTold) g cdg (defBody sTold) "_law_call" q (TTold3 X.K) := by
  intro f c' s H Q tl act hc h
  have gR := T.g "InvalidRow" (by decide +kernel)
  have gO := T.g "InvalidOperation" (by decide +kernel)
  have gN := T.g "InvalidNumber" (by decide +kernel)
  have tr := T.f "repr" (by decide +kernel)
  have hcl : ClsOk (toldX X g cdg s H) (tryHds (defBody sTold)) [⟨.ref (ga X.K "InvalidRow"), none, fun _ _ _ => tRet (tC (.str "row"))⟩, ⟨.ref (ga X.K "InvalidOperation"), none, fun _ _ _ => tRet (tC (.str "operation"))⟩,
      ⟨.ref (ga X.K "InvalidNumber"), some 1, fun a cls d => tRet (tOp (fun x y H Q => ∃ i j, x = .str i ∧ y = .str j ∧ i.length + j.length ≤ sizeLine ∧ Q (.str (i ++ j)) H) (tC (.str "number ")) (tCB (rRepA X.K) (tCons (tSfld (ga X.K "InvalidNumber") a "value" cls d (tVar 1)) tNil)))⟩] := by
    refine .cons ⟨rfl, by decide, .inl gR⟩ trivial (fun a oe cls d pn _ _ => pss_one (ps_ret pe_str)) ?_
    refine .cons ⟨rfl, by decide, .inl gO⟩ trivial (fun a oe cls d pn _ _ => pss_one (ps_ret pe_str)) ?_
    refine .cons ⟨rfl, by decide, .inl gN⟩ ⟨rfl, rfl⟩ (fun a oe cls d pn hz hf => ?_) .nil
    exact pss_one (ps_ret (pe_op op_add_str pe_str (pe_callB (call_repr_any (X := (toldX X g cdg s H).suite a ((a, oe) :: pn)) E.sys hg (by exact (hr.deeper (envOfC "_law_told" (defScope sTold) s.heap.objs.size g cdg)).units)) (by rfl) tr (by decide +kernel) (pa_cons (pe_sfld M.n hz hf (pv 1)) pa_nil))))
  refine ⟨_, pss_cons (ps_try_cl (X := toldX X g cdg s H) (Wout := fun _ _ _ _ => False)
      (tb := fun W D σ H => ∃ Ech : XK, (∀ cls d σ' H', Ech cls d H' → W cls d σ' H') ∧ σ[0]? = some (some (.ref f)) ∧ H c' = some (CodeO c' q) ∧ tl Ech H fun _ H' => D.nx σ H')
      rfl rfl scTold.nd L2.takes0 (fun W pn xe tk _ => ?body) hcl)
    (pss_one (ps_ret pe_str)), ?_⟩
  case body =>
    refine ⟨fun pins s' σ H' D I h' => ?_⟩
    obtain ⟨Ech, hW, h1, h2, h3⟩ := h'
    exact (pss_one (ps_expr (act W pn xe Ech _ _ tk hW))).run pins s' σ H' D I ⟨h1, h2, h3⟩
  refine ⟨OutK X.K Q, ?_, rfl, hc, h⟩
  rintro cls d σ' H' (⟨rfl, q⟩ | ⟨rfl, q⟩ | ⟨rfl, dd, v, D, rfl, hd, hv, hs, q⟩)
  · exact ⟨true, E.rr, fun _ a _ _ => q, fun z => nomatch z⟩
  · exact ⟨false, E.or, (fun z => nomatch z), fun _ => ⟨true, E.oo, fun _ a _ _ => q, fun z => nomatch z⟩⟩
  · refine ⟨false, E.nr, (fun z => nomatch z), fun _ => ⟨false, E.no, (fun z => nomatch z), fun _ => ⟨true, E.nn, fun _ a _ hl => ?_, fun z => nomatch z⟩⟩⟩
    have hl : σ'.length = 2 := hl
    obtain ⟨x0, x1, rfl⟩ : ∃ x0 x1, σ' = [x0, x1] := match σ', hl with | [x0, x1], _ => ⟨_, _, rfl⟩
    refine ⟨_, rfl, rfl, rfl, dd, v, rfl, hd, v, D, rfl, hv, hs.1, hs.2.1, ?_, _, _, rfl, rfl, ?_, q⟩
    · have := hs.2.2
      rw [sizeLine_eq]
      omega
    · have := hs.2.2
      rw [sizeLine_eq]
      show 7 + _ ≤ _
      omega
end K02

/-! streams, draws, picks. -/
namespace K02
open PySem PySem.Spec PyProof.Rows L2 Dr Ex Rp
open He (ga ma)
abbrev nStream : List Str := ["_law_script", "_law_at", "_law_cell", "_law_great", "_law_mixed"]
theorem scStream : FnScope nStream ["_law_script", "_law_at"] (defScope sStream) := ⟨rfl, rfl, rfl, by decide +kernel, rfl, by decide +kernel, by decide +kernel⟩
section
variable {P : Program} {w : World} {K : PySem.W.Frag} {mg : Str → Option Value} {base : Heap}
theorem ok_stream {f : Addr} {fd : FuncData} (F : FnP K "_law_stream" sStream f fd) (T : TG K mg) : FnOk P w K mg base CX0 1 f fd ["_law_script", "_law_at"] (spStream K) := by
  have tl := T.f "len" (by decide +kernel)
  have ti := T.f "int" (by decide +kernel)
  have ta := T.f "abs" (by decide +kernel)
  have tm := T.f "max" (by decide +kernel)
  refine F.ok scStream (fun vs H Q E h => ?_) (fun cdv A outer s H vs Q E hr h => ?_)
  · obtain ⟨a, ns, i, rfl, _⟩ := h
    rfl
  · obtain ⟨a, ns, i, rfl, hS, hlen, hi1, k⟩ := h
    refine ⟨_, PSs.nox (pss_cons (ps_set (i := 2) scStream.nd rfl (Or.inl rfl) (pe_op op_add (pe_op op_mul pe_int (pv 1)) pe_int))
      (pss_cons (ps_if (pt_cmpR op_lt (pv 1) (pe_callB call_len_seq (by rfl) tl PySem.boot_len (pa_cons (pv 0) pa_nil)) (nomark _)) (pss_one (ps_set (i := 2) scStream.nd rfl (Or.inl rfl) (pe_ix ix_list (pv 0) (pv 1) (fun _ _ => rfl)))) pss_nil)
      (pss_cons (ps_set (i := 3) scStream.nd rfl (Or.inl rfl) (pe_op op_modN (pe_callTy call_int1 (by rfl) ti (by decide +kernel) (pa_cons (pe_callB call_abs (by rfl) ta (by decide +kernel) (pa_cons (pv 2) pa_nil)) pa_nil)) (pe_op op_powW (pe_op op_pow pe_int pe_int) pe_int)))
      (pss_cons (ps_set (i := 4) scStream.nd rfl (Or.inl rfl) (pe_op op_add (pe_op op_add (pe_op op_add (pe_op op_mul (pe_op op_mod (pe_callTy call_int1 (by rfl) ti (by decide +kernel) (pa_cons (pv 3) pa_nil)) pe_int) pe_int) (pe_op op_mul pe_int (pv 1)))
        (pe_op op_mul pe_int (pe_callTy call_int1 (by rfl) ti (by decide +kernel) (pa_cons (pe_cmpR op_lt (pv 2) pe_int (nomark _)) pa_nil)))) pe_int))
      (pss_one (ps_ret (pe_lst (pa_cons (pe_callB (call_max2 rfl) (by rfl) tm (by decide +kernel) (pa_cons pe_int (pa_cons (pe_op op_sub (pv 3) (pe_op op_pow pe_int pe_int)) pa_nil)))
        (pa_cons (pe_op op_mod (pe_callTy call_int1 (by rfl) ti (by decide +kernel) (pa_cons (pv 4) pa_nil)) pe_int) (pa_cons pe_int pa_nil)))))))))), ?_⟩
    refine ⟨_, rfl, _, _, rfl, rfl, .inl ⟨by decide, by decide⟩, _, _, rfl, rfl, ?_⟩
    refine ⟨_, rfl, _, rfl, a, _, rfl, .inl hS, _, _, rfl, rfl, _, rfl, ?_⟩
    have g0 : (0 : Int) < (10 ^ Int.toNat 60) ^ Int.toNat 10 := by decide +kernel
    have g1 : ((10 ^ Int.toNat 60 : Int) ^ Int.toNat 10).natAbs < 2 ^ 2000 := by decide +kernel
    have g2 : (0 : Int) ≤ 10 ∧ (Builtin.Int.intBits (10 ^ Int.toNat 60) : Int) * 10 ≤ 2 ^ 27 := by decide +kernel
    have g3 : (0 : Int) < 10 ^ Int.toNat 18 := by decide +kernel
    have hgr : ∀ c : Int, 0 ≤ c.fmod ((10 ^ Int.toNat 60) ^ Int.toNat 10) ∧ c.fmod ((10 ^ Int.toNat 60) ^ Int.toNat 10) < (10 ^ Int.toNat 60) ^ Int.toNat 10 := by
      intro c
      rw [Int.fmod_eq_emod_of_nonneg _ (Int.le_of_lt g0)]
      exact ⟨Int.emod_nonneg _ (by omega), Int.emod_lt_of_pos _ g0⟩
    refine ite2 (fun hc => ?b1) (fun _ => ?b2)
    case' b2 =>
      refine ⟨_, rfl, _, rfl, .inl ⟨_, rfl, _, _, rfl, rfl, ⟨by decide, by decide, by decide⟩, ?_⟩⟩
    case' b1 =>
      have hlt : i < ns.length := by
        have := of_decide_eq_true hc
        rw [List.length_map] at this
        omega
      refine ⟨_, rfl, _, rfl, a, _, _, V.int ns[i], rfl, rfl, hS, atI_nat (j := i) (by rw [List.getElem?_map, List.getElem?_eq_getElem hlt]; rfl), ?_⟩
      refine ⟨_, rfl, _, rfl, .inl ⟨_, rfl, _, _, rfl, rfl, ⟨by decide, by decide, by decide⟩, ?_⟩⟩
    all_goals
      refine ⟨_, _, rfl, rfl, g2, _, _, rfl, rfl, by (intro z; rw [z] at g0; exact absurd g0 (by decide)), ?_⟩
      refine ⟨_, rfl, .inl ⟨_, rfl, ?_⟩⟩
      refine ⟨_, _, rfl, rfl, (by show (0 : Int) < 2147483543; decide), ?_⟩
      refine ⟨_, _, rfl, rfl, .inr ⟨by decide, by decide⟩, ?_⟩
      refine ⟨_, rfl, _, _, rfl, rfl, .inl ⟨by decide, by decide⟩, ?_⟩
      refine ⟨_, _, rfl, rfl, ?_⟩
      refine ⟨_, rfl, _, _, rfl, rfl, .inr ⟨_, rfl, ?_⟩⟩
      refine ⟨_, _, rfl, rfl, .inl ⟨by decide, by decide⟩, ?_⟩
      refine ⟨_, _, rfl, rfl, ?_⟩
      refine ⟨_, _, rfl, rfl, ?_⟩
      refine ⟨_, rfl, _, _, rfl, rfl, ⟨by decide, by decide, by decide⟩, _, _, rfl, rfl, _, _, rfl, ?_⟩
      refine ⟨_, rfl, .inl ⟨_, rfl, _, _, rfl, rfl, (by show (0 : Int) < 2147483399; decide), ?_⟩⟩
      refine ⟨(by show 3 ≤ sizeLine; decide), fun p hp => ?_⟩
      refine k _ p (fun b o e => by rw [upd_ne (ne_of_none e hp)]; exact e) hp ⟨_, _, 0, upd_same, ?_, ?_, Int.emod_nonneg _ (by decide), ?_, Int.le_refl _, Int.le_refl _⟩
      rotate_right
      · exact Int.lt_trans (Int.emod_lt_of_pos _ (by decide)) (by decide)
      all_goals
        have q := hgr
        generalize (10 ^ Int.toNat 60 : Int) ^ Int.toNat 10 = G at q g0 g1
        generalize (10 : Int) ^ Int.toNat 18 = D at g3
        first
          | (have q1 := q (if (ns[i] : Int) < 0 then -ns[i] else ns[i])
             generalize Int.fmod _ G = z at q1
             split <;> omega)
          | (have q1 := q (if (19 * (i : Int) + 5) < 0 then -(19 * (i : Int) + 5) else 19 * (i : Int) + 5)
             generalize Int.fmod _ G = z at q1
             split <;> omega)
end
abbrev nDraw : List Str := ["_law_stream_here", "_law_high", "_law_found", "_law_one", "_law_two"]
theorem scDraw : FnScope nDraw ["_law_stream_here", "_law_high"] (defScope sDraw) := ⟨rfl, rfl, rfl, by decide +kernel, rfl, by decide +kernel, by decide +kernel⟩
section
variable {P : Program} {w : World} {K : PySem.W.Frag} {mg : Str → Option Value} {base : Heap}
theorem ok_draw {f : Addr} {fd : FuncData} (F : FnP K "_law_draw" sDraw f fd) (T : TG K mg) : FnOk P w K mg base CX0 1 f fd ["_law_stream_here", "_law_high"] spDraw := by
  have ti := T.f "int" (by decide +kernel)
  refine F.ok scDraw (fun vs H Q E h => ?_) (fun cdv A outer s H vs Q E hr h => ?_)
  · obtain ⟨p, n, m, rfl, _⟩ := h
    rfl
  · obtain ⟨p, n, m, rfl, ⟨a, b, c, hp, a0, a1, b0, b1, c0, c1⟩, hm, n0, n1, k⟩ := h
    refine ⟨_, PSs.nox (pss_cons (ps_if (pt_cmpR op_gt (pe_ix ix_list (pv 0) pe_int (fun _ _ => rfl)) pe_int (nomark _))
        (pss_cons (ps_set (i := 2) scDraw.nd rfl (Or.inl rfl) (pe_op op_modN (pe_callTy call_int1 (by rfl) ti (by decide +kernel) (pa_cons (pe_ix ix_list (pv 0) pe_int (fun _ _ => rfl)) pa_nil)) (pv 1)))
          (pss_cons (ps_asg (pe_op op_fdivW (pe_ix ix_list (pv 0) pe_int (fun _ _ => rfl)) (pv 1)) (pg_sub (pv 0) pe_int set_list)) (pss_one (ps_ret (pv 2))))) pss_nil)
      (pss_cons (ps_asg (pe_op op_add (pe_ix ix_list (pv 0) pe_int (fun _ _ => rfl)) pe_int) (pg_sub (pv 0) pe_int set_list))
      (pss_cons (ps_set (i := 3) scDraw.nd rfl (Or.inl rfl) (pe_op op_mod (pe_callTy call_int1 (by rfl) ti (by decide +kernel) (pa_cons (pe_op op_add (pe_ix ix_list (pv 0) pe_int (fun _ _ => rfl)) (pe_op op_mul pe_int (pe_ix ix_list (pv 0) pe_int (fun _ _ => rfl)))) pa_nil)) pe_int))
      (pss_cons (ps_set (i := 4) scDraw.nd rfl (Or.inl rfl) (pe_op op_add (pe_op op_mul (pe_op op_mod (pe_callTy call_int1 (by rfl) ti (by decide +kernel) (pa_cons (pe_op op_mul (pv 3) (pv 3)) pa_nil)) pe_int) (pv 3)) (pe_op op_mul pe_int (pe_ix ix_list (pv 0) pe_int (fun _ _ => rfl)))))
      (pss_cons (ps_set (i := 4) scDraw.nd rfl (Or.inl rfl) (pe_op op_mod (pe_callTy call_int1 (by rfl) ti (by decide +kernel) (pa_cons (pv 4) pa_nil)) pe_int))
      (pss_one (ps_ret (pe_op op_modN (pe_callTy call_int1 (by rfl) ti (by decide +kernel) (pa_cons (pe_op op_fdiv (pv 4) pe_int) pa_nil)) (pv 1))))))))), ?_⟩
    have hS := SqL.of (K := K) hp
    refine ⟨_, rfl, p, _, _, V.int a, rfl, rfl, hS, atI_nat (j := 0) rfl, _, _, rfl, rfl, _, rfl, ?_⟩
    refine ite2 (fun hc => ?_) (fun _ => ?_)
    · refine ⟨_, rfl, p, _, _, V.int a, rfl, rfl, hS, atI_nat (j := 0) rfl, .inl ⟨_, rfl, _, rfl, _, _, rfl, rfl, (by omega), ?_⟩⟩
      refine ⟨_, rfl, p, _, _, V.int a, rfl, rfl, hS, atI_nat (j := 0) rfl, _, rfl, _, _, rfl, rfl, wide_div n0 (b := 20) (by omega) (by decide) (by decide), ?_⟩
      refine ⟨_, rfl, p, _, _, 0, rfl, rfl, hp, rfl, _, rfl, ?_⟩
      have q : a.fmod n = a % n := Int.fmod_eq_emod_of_nonneg _ (by omega)
      refine k _ _ ?_ ?_ (But.upd _ _ _) ⟨_, b, c, upd_same, ?_, ?_, b0, b1, c0, ?_⟩
      · show 0 ≤ a.fmod n
        rw [q]
        exact Int.emod_nonneg _ (by omega)
      · show a.fmod n < n
        rw [q]
        exact Int.emod_lt_of_pos _ n0
      · exact Int.ediv_nonneg a0 (by omega)
      · have h1 : a / n ≤ a := Int.ediv_le_self _ a0
        have h2 : 0 ≤ a / n := Int.ediv_nonneg a0 (by omega)
        exact wide_le h2 h1 a1
      · omega
    · refine ⟨_, rfl, p, _, _, V.int c, rfl, rfl, hS, atI_nat (j := 2) rfl, _, _, rfl, rfl, ?_⟩
      refine ⟨_, rfl, p, _, _, 2, rfl, rfl, hp, rfl, ?_⟩
      have hp2 : SqL K (upd H p (.lst [.int a, .int b, .int (c + 1)])) p [.int a, .int b, .int (c + 1)] := SqL.of upd_same
      refine ⟨_, rfl, p, _, _, V.int b, rfl, rfl, hp2, atI_nat (j := 1) rfl, _, rfl, p, _, _, V.int (c + 1), rfl, rfl, hp2, atI_nat (j := 2) rfl, _, _, rfl, rfl, .inl ⟨by decide, by decide⟩, _, _, rfl, rfl, .inl ⟨_, rfl, ?_⟩⟩
      refine ⟨_, _, rfl, rfl, (by show (0 : Int) < 2305843009213693951; decide), ?_⟩
      have x0 : 0 ≤ (b + 1000117 * (c + 1)) % 2305843009213693951 := Int.emod_nonneg _ (by decide)
      have x1 : (b + 1000117 * (c + 1)) % 2305843009213693951 < 2305843009213693951 := Int.emod_lt_of_pos _ (by decide)
      have y0 : ∀ z : Int, 0 ≤ z % 2305843009213693921 := fun z => Int.emod_nonneg _ (by decide)
      have y1 : ∀ z : Int, z % 2305843009213693921 < 2305843009213693921 := fun z => Int.emod_lt_of_pos _ (by decide)
      refine ⟨_, rfl, _, rfl, _, _, rfl, rfl, .inl ⟨?u1, ?u2⟩, .inl ⟨_, rfl, _, _, rfl, rfl, (by show (0 : Int) < 2305843009213693921; decide), _, rfl, _, _, rfl, rfl, .inl ⟨?u3, ?u4⟩, ?rest⟩⟩
      case u1 => exact Int.lt_of_lt_of_le (by decide) x0
      case u2 => exact Int.lt_trans x1 (by decide)
      case u3 => exact Int.lt_of_lt_of_le (by decide) (y0 _)
      case u4 => exact Int.lt_trans (y1 _) (by decide)
      refine ⟨_, rfl, p, _, _, V.int (c + 1), rfl, rfl, hp2, atI_nat (j := 2) rfl, _, _, rfl, rfl, .inl ⟨by decide, by decide⟩, _, _, rfl, rfl, ?_⟩
      refine ⟨_, rfl, .inl ⟨_, rfl, _, _, rfl, rfl, (by show (0 : Int) < 2305843009213693907; decide), ?_⟩⟩
      refine ⟨_, rfl, _, _, rfl, rfl, ⟨by decide, by decide⟩, .inl ⟨_, rfl, _, rfl, _, _, rfl, rfl, (by omega), ?_⟩⟩
      refine k _ _ ?_ ?_ (But.upd _ _ _) ⟨a, b, c + 1, upd_same, a0, a1, b0, b1, by omega, by omega⟩
      · rw [Int.fmod_eq_emod_of_nonneg _ (by omega)]
        exact Int.emod_nonneg _ (by omega)
      · rw [Int.fmod_eq_emod_of_nonneg _ (by omega)]
        exact Int.emod_lt_of_pos _ n0
abbrev nPick : List Str := ["_law_stream_here", "_law_items"]
theorem scPick : FnScope nPick ["_law_stream_here", "_law_items"] (defScope sPick) := ⟨rfl, rfl, rfl, by decide +kernel, rfl, by decide +kernel, by decide +kernel⟩
theorem ok_pick {f fD : Addr} {fd fdD : FuncData} (F : FnP K "_law_pick" sPick f fd) (FD : FnP K "_law_draw" sDraw fD fdD) (T : TG K mg) (gD : mg "_law_draw" = some (.ref fD)) : FnOk P w K mg base CX0 2 f fd ["_law_stream_here", "_law_items"] (spPick K) := by
  have tl := T.f "len" (by decide +kernel)
  have G : FnOk P w K mg base CX0 1 fD fdD ["_law_stream_here", "_law_high"] spDraw := ok_draw FD T
  have bD : Binds K fdD ["_law_stream_here", "_law_high"] [] := FD.bindsN fun _ _ _ _ _ _ us hl => match us, hl with | [_, _], _ => rfl
  refine F.ok scPick (fun vs H Q E h => ?_) (fun cdv A outer s H vs Q E hr h => ?_)
  · obtain ⟨p, q, xs, m, rfl, _⟩ := h
    rfl
  · obtain ⟨p, q, xs, m, rfl, hS, hm, npq, hq, l0, l1, k⟩ := h
    refine ⟨_, PSs.nox (pss_one (ps_ret (pe_ix ix_list (pv 1) (pe_call G hr rfl gD FD.kp bD .nil pass0 (pa_cons (pv 0) (pa_cons (pe_callB call_len_seq (by rfl) tl PySem.boot_len (pa_cons (pv 1) pa_nil)) pa_nil))) (fun _ _ => rfl)))), ?_⟩
    refine ⟨_, rfl, _, rfl, _, rfl, q, _, rfl, .inl hq, p, _, m, rfl, hS, hm, (by omega), (by omega), fun H' v v0 v1 hb hs => ?_⟩
    have hq' : SqL K H' q xs := by
      rcases hq with (h | ⟨o, h⟩) | h
      · exact .inl (.inl (hb _ _ (Ne.symm npq) h))
      · exact .inl (.inr ⟨o, hb _ _ (Ne.symm npq) h⟩)
      · exact .inr h
    have hv : v.toNat < xs.length := by omega
    have ev : ((v.toNat : Nat) : Int) = v := by omega
    refine ⟨q, _, _, xs[v.toNat], rfl, rfl, hq', ?_, ?_⟩
    · have z := atI_nat (xs := xs) (j := v.toNat) (List.getElem?_eq_getElem hv)
      rw [ev] at z
      exact z
    · exact k H' v.toNat _ (List.getElem?_eq_getElem hv) hb hs
end
end K02

/-! _law_no_line, _law_no_turned. -/
namespace K02
open PySem PySem.Spec PyProof.Rows L2 Dr Ex Rp
open He (ga ma)
def menuL (m : Int) : List PyData := [.none, .int 3, .str "x", .list [.int 1, .int 2], .tuple [.int 1, .bool true], .tuple [.none], .tuple [.int 1, .str "2"], .tuple (List.replicate (11) (.int 0)), .dict [], .tuple [.tuple [.int 1]], .bool true, .list [], .tuple [.int 1, .list [.int 2]], .tuple (List.replicate (m.toNat + 1) (.int 0)), .tuple (List.replicate (m.toNat - 1) (.int 7))]
def spNoLine (K : PySem.W.Frag) : Sp := fun vs H Q _ => ∃ (p : Addr) (m : Int) (k : Nat), vs = [.ref p, .int m] ∧ StrAt H p k ∧ k ≤ 90000 ∧ 1 ≤ m ∧ m ≤ 9 ∧
  ∀ H' v d, But p H H' → StrAt H' p (k + 1) → Dt K (ct p H') v d → d ∈ menuL m → Q v H'
abbrev nNoLine : List Str := ["_law_stream_here", "_law_much", "_law_some"]
theorem scNoLine : FnScope nNoLine ["_law_stream_here", "_law_much"] (defScope sNoLine) := ⟨rfl, rfl, rfl, by decide +kernel, rfl, by decide +kernel, by decide +kernel⟩
section
variable {P : Program} {w : World} {K : PySem.W.Frag} {mg : Str → Option Value} {base : Heap}
theorem ok_noLine {f fD fP : Addr} {fd fdD fdP : FuncData} (F : FnP K "_law_no_line" sNoLine f fd) (FD : FnP K "_law_draw" sDraw fD fdD) (FP : FnP K "_law_pick" sPick fP fdP) (T : TG K mg) (gD : mg "_law_draw" = some (.ref fD)) (gP : mg "_law_pick" = some (.ref fP)) :
    FnOk P w K mg base CX0 3 f fd ["_law_stream_here", "_law_much"] (spNoLine K) := by
  have ti := T.f "int" (by decide +kernel)
  have GP : FnOk P w K mg base CX0 2 fP fdP ["_law_stream_here", "_law_items"] (spPick K) := ok_pick FP FD T gD
  have bP : Binds K fdP ["_law_stream_here", "_law_items"] [] := FP.bindsN fun _ _ _ _ _ _ us hl => match us, hl with | [_, _], _ => rfl
  refine F.ok scNoLine (fun vs H Q E h => ?_) (fun cdv A outer s H vs Q E hr h => ?_)
  · obtain ⟨p, m, k, rfl, _⟩ := h
    rfl
  · obtain ⟨p, m, k, rfl, hS, hk, hm1, hm9, fin⟩ := h
    obtain ⟨st, hp0⟩ := hS.some
    refine ⟨_, PSs.nox (pss_cons (ps_set (i := 2) scNoLine.nd rfl (Or.inl rfl) (pe_lst (pa_cons pe_non (pa_cons pe_int (pa_cons pe_str (pa_cons (pe_lst (pa_cons pe_int (pa_cons pe_int pa_nil))) (pa_cons (pe_tup (pa_cons pe_int (pa_cons pe_bl pa_nil))) (pa_cons (pe_tup (pa_cons pe_non pa_nil)) (pa_cons (pe_tup (pa_cons pe_int (pa_cons pe_str pa_nil))) (pa_cons (pe_op (show OpR _ _ (Tp.rRepA K) from Tp.op_repA) (pe_tup (pa_cons pe_int pa_nil)) pe_int) (pa_cons pe_dnewK (pa_cons (pe_tup (pa_cons (pe_tup (pa_cons pe_int pa_nil)) pa_nil)) (pa_cons pe_bl (pa_cons (pe_lst pa_nil) (pa_cons (pe_tup (pa_cons pe_int (pa_cons (pe_lst (pa_cons pe_int pa_nil)) pa_nil))) pa_nil)))))))))))))))
      (pss_one (ps_ret (pe_call GP hr rfl gP FP.kp bP .nil pass0 (pa_cons (pv 0) (pa_cons (pe_op op_cat (pv 2) (pe_op op_rep (pe_lst (pa_cons (pe_op (show OpR _ _ (Tp.rRepA K) from Tp.op_repA) (pe_tup (pa_cons pe_int pa_nil)) (pe_op op_add (pv 1) pe_int)) (pa_cons (pe_op (show OpR _ _ (Tp.rRepA K) from Tp.op_repA) (pe_tup (pa_cons pe_int pa_nil)) (pe_op op_sub (pv 1) pe_int)) pa_nil))) (pe_callTy call_int1 (by rfl) ti (by decide +kernel) (pa_cons (pe_chain op_lt op_lt pe_int (pv 1) pe_int) pa_nil)))) pa_nil)))))), ?_⟩
    refine ⟨(by show 2 ≤ sizeLine; decide), fun q1 n1 => ?_⟩
    have y1 := smu (o := HO.lst [V.int 1, V.int 2]) n1
    obtain ⟨c1, m1⟩ := ct_new (p := p) (o := HO.lst [V.int 1, V.int 2]) (by rw [hp0]; simp) n1 (fun ps z => by cases z)
    have hp1 := y1 _ _ hp0
    have t1 := hS.same y1
    generalize upd H q1 (HO.lst [V.int 1, V.int 2]) = H1 at y1 c1 m1 hp1 t1 ⊢
    refine ⟨(by show 2 ≤ sizeLine; decide), fun q2 n2 => ?_⟩
    have y2 := smu (o := HO.tup [V.int 1, V.bl true]) n2
    obtain ⟨c2, m2⟩ := ct_new (p := p) (o := HO.tup [V.int 1, V.bl true]) (by rw [hp1]; simp) n2 (fun ps z => by cases z)
    have hp2 := y2 _ _ hp1
    have t2 := t1.same y2
    generalize upd H1 q2 (HO.tup [V.int 1, V.bl true]) = H2 at y2 c2 m2 hp2 t2 ⊢
    refine ⟨(by show 1 ≤ sizeLine; decide), fun q3 n3 => ?_⟩
    have y3 := smu (o := HO.tup [V.non]) n3
    obtain ⟨c3, m3⟩ := ct_new (p := p) (o := HO.tup [V.non]) (by rw [hp2]; simp) n3 (fun ps z => by cases z)
    have hp3 := y3 _ _ hp2
    have t3 := t2.same y3
    generalize upd H2 q3 (HO.tup [V.non]) = H3 at y3 c3 m3 hp3 t3 ⊢
    refine ⟨(by show 2 ≤ sizeLine; decide), fun q4 n4 => ?_⟩
    have y4 := smu (o := HO.tup [V.int 1, V.str "2"]) n4
    obtain ⟨c4, m4⟩ := ct_new (p := p) (o := HO.tup [V.int 1, V.str "2"]) (by rw [hp3]; simp) n4 (fun ps z => by cases z)
    have hp4 := y4 _ _ hp3
    have t4 := t3.same y4
    generalize upd H3 q4 (HO.tup [V.int 1, V.str "2"]) = H4 at y4 c4 m4 hp4 t4 ⊢
    refine ⟨(by show 1 ≤ sizeLine; decide), fun q5 n5 => ?_⟩
    have y5 := smu (o := HO.tup [V.int 0]) n5
    obtain ⟨c5, m5⟩ := ct_new (p := p) (o := HO.tup [V.int 0]) (by rw [hp4]; simp) n5 (fun ps z => by cases z)
    have hp5 := y5 _ _ hp4
    have t5 := t4.same y5
    generalize upd H4 q5 (HO.tup [V.int 0]) = H5 at y5 c5 m5 hp5 t5 ⊢
    refine ⟨_, _, _, rfl, rfl, SqT.of (ct_all _ _ m5), List.cons_ne_nil _ _, (by omega), (by omega), (by show 1 ≤ 1000; decide), fun H6 q6 y6 r6 => ?_⟩
    have c6 : Same (ct p H5) (ct p H6) := ct_sm y6
    have hp6 := y6 _ _ hp5
    have t6 := t5.same y6
    rw [Tp.rep_flat, show Int.toNat _ = 11 by omega] at r6
    replace r6 := sqt_ct hp6 r6
    refine fun q7 n7 => ?_
    have y7 := smu (o := HO.dK []) n7
    obtain ⟨c7, m7⟩ := ct_new (p := p) (o := HO.dK []) (by rw [hp6]; simp) n7 (fun ps z => by cases z)
    have hp7 := y7 _ _ hp6
    have t7 := t6.same y7
    generalize upd H6 q7 (HO.dK []) = H7 at y7 c7 m7 hp7 t7 ⊢
    refine ⟨(by show 1 ≤ sizeLine; decide), fun q8 n8 => ?_⟩
    have y8 := smu (o := HO.tup [V.int 1]) n8
    obtain ⟨c8, m8⟩ := ct_new (p := p) (o := HO.tup [V.int 1]) (by rw [hp7]; simp) n8 (fun ps z => by cases z)
    have hp8 := y8 _ _ hp7
    have t8 := t7.same y8
    generalize upd H7 q8 (HO.tup [V.int 1]) = H8 at y8 c8 m8 hp8 t8 ⊢
    refine ⟨(by show 1 ≤ sizeLine; decide), fun q9 n9 => ?_⟩
    have y9 := smu (o := HO.tup [V.ref q8]) n9
    obtain ⟨c9, m9⟩ := ct_new (p := p) (o := HO.tup [V.ref q8]) (by rw [hp8]; simp) n9 (fun ps z => by cases z)
    have hp9 := y9 _ _ hp8
    have t9 := t8.same y9
    generalize upd H8 q9 (HO.tup [V.ref q8]) = H9 at y9 c9 m9 hp9 t9 ⊢
    refine ⟨(by show 0 ≤ sizeLine; decide), fun q10 n10 => ?_⟩
    have y10 := smu (o := HO.lst []) n10
    obtain ⟨c10, m10⟩ := ct_new (p := p) (o := HO.lst []) (by rw [hp9]; simp) n10 (fun ps z => by cases z)
    have hp10 := y10 _ _ hp9
    have t10 := t9.same y10
    generalize upd H9 q10 (HO.lst []) = H10 at y10 c10 m10 hp10 t10 ⊢
    refine ⟨(by show 1 ≤ sizeLine; decide), fun q11 n11 => ?_⟩
    have y11 := smu (o := HO.lst [V.int 2]) n11
    obtain ⟨c11, m11⟩ := ct_new (p := p) (o := HO.lst [V.int 2]) (by rw [hp10]; simp) n11 (fun ps z => by cases z)
    have hp11 := y11 _ _ hp10
    have t11 := t10.same y11
    generalize upd H10 q11 (HO.lst [V.int 2]) = H11 at y11 c11 m11 hp11 t11 ⊢
    refine ⟨(by show 2 ≤ sizeLine; decide), fun q12 n12 => ?_⟩
    have y12 := smu (o := HO.tup [V.int 1, V.ref q11]) n12
    obtain ⟨c12, m12⟩ := ct_new (p := p) (o := HO.tup [V.int 1, V.ref q11]) (by rw [hp11]; simp) n12 (fun ps z => by cases z)
    have hp12 := y12 _ _ hp11
    have t12 := t11.same y12
    generalize upd H11 q12 (HO.tup [V.int 1, V.ref q11]) = H12 at y12 c12 m12 hp12 t12 ⊢
    refine ⟨(by show 13 ≤ sizeLine; decide), fun q13 n13 => ?_⟩
    have y13 := smu (o := HO.lst [V.non, V.int 3, V.str "x", V.ref q1, V.ref q2, V.ref q3, V.ref q4, V.ref q6, V.ref q7, V.ref q9, V.bl true, V.ref q10, V.ref q12]) n13
    obtain ⟨c13, m13⟩ := ct_new (p := p) (o := HO.lst [V.non, V.int 3, V.str "x", V.ref q1, V.ref q2, V.ref q3, V.ref q4, V.ref q6, V.ref q7, V.ref q9, V.bl true, V.ref q10, V.ref q12]) (by rw [hp12]; simp) n13 (fun ps z => by cases z)
    have hp13 := y13 _ _ hp12
    have t13 := t12.same y13
    generalize upd H12 q13 (HO.lst [V.non, V.int 3, V.str "x", V.ref q1, V.ref q2, V.ref q3, V.ref q4, V.ref q6, V.ref q7, V.ref q9, V.bl true, V.ref q10, V.ref q12]) = H13 at y13 c13 m13 hp13 t13 ⊢
    refine ⟨_, rfl, _, rfl, (by show 1 ≤ sizeLine; decide), fun q14 n14 => ?_⟩
    have y14 := smu (o := HO.tup [V.int 0]) n14
    obtain ⟨c14, m14⟩ := ct_new (p := p) (o := HO.tup [V.int 0]) (by rw [hp13]; simp) n14 (fun ps z => by cases z)
    have hp14 := y14 _ _ hp13
    have t14 := t13.same y14
    generalize upd H13 q14 (HO.tup [V.int 0]) = H14 at y14 c14 m14 hp14 t14 ⊢
    refine ⟨_, rfl, _, _, rfl, rfl, _, _, _, rfl, rfl, SqT.of (ct_all _ _ m14), List.cons_ne_nil _ _, (by omega), (by omega), (by show 1 ≤ 1000; decide), fun H15 q15 y15 r15 => ?_⟩
    have c15 : Same (ct p H14) (ct p H15) := ct_sm y15
    have hp15 := y15 _ _ hp14
    have t15 := t14.same y15
    rw [Tp.rep_flat, show Int.toNat _ = m.toNat + 1 by omega] at r15
    replace r15 := sqt_ct hp15 r15
    refine ⟨(by show 1 ≤ sizeLine; decide), fun q16 n16 => ?_⟩
    have y16 := smu (o := HO.tup [V.int 7]) n16
    obtain ⟨c16, m16⟩ := ct_new (p := p) (o := HO.tup [V.int 7]) (by rw [hp15]; simp) n16 (fun ps z => by cases z)
    have hp16 := y16 _ _ hp15
    have t16 := t15.same y16
    generalize upd H15 q16 (HO.tup [V.int 7]) = H16 at y16 c16 m16 hp16 t16 ⊢
    refine ⟨_, rfl, _, _, rfl, rfl, _, _, _, rfl, rfl, SqT.of (ct_all _ _ m16), List.cons_ne_nil _ _, (by omega), (by omega), (by show 1 ≤ 1000; decide), fun H17 q17 y17 r17 => ?_⟩
    have c17 : Same (ct p H16) (ct p H17) := ct_sm y17
    have hp17 := y17 _ _ hp16
    have t17 := t16.same y17
    rw [Tp.rep_flat, show Int.toNat _ = m.toNat - 1 by omega] at r17
    replace r17 := sqt_ct hp17 r17
    refine ⟨(by show 2 ≤ sizeLine; decide), fun q18 n18 => ?_⟩
    have y18 := smu (o := HO.lst [V.ref q15, V.ref q17]) n18
    obtain ⟨c18, m18⟩ := ct_new (p := p) (o := HO.lst [V.ref q15, V.ref q17]) (by rw [hp17]; simp) n18 (fun ps z => by cases z)
    have hp18 := y18 _ _ hp17
    have t18 := t17.same y18
    generalize upd H17 q18 (HO.lst [V.ref q15, V.ref q17]) = H18 at y18 c18 m18 hp18 t18 ⊢
    have kb : (if decide (m < 10) = true then (1 : Int) else 0) = 1 := if_pos (decide_eq_true (by omega))
    refine ⟨_, rfl, _, _, rfl, rfl, _, rfl, ite_t (by simp; omega) ⟨_, _, rfl, rfl, .inr ⟨_, rfl, _, _, _, rfl, rfl, ct_all _ _ m18, (by rw [kb]; decide), (by rw [kb]; decide), (by rw [kb]; show 2 * 1 ≤ sizeLine; decide), fun q19 n19 => ?_⟩⟩⟩
    rw [kb, show (List.replicate (Int.toNat 1) [V.ref q15, V.ref q17]).flatten = [V.ref q15, V.ref q17] by simp]
    have y19 := smu (o := HO.lst [V.ref q15, V.ref q17]) n19
    obtain ⟨c19, m19⟩ := ct_new (p := p) (o := HO.lst [V.ref q15, V.ref q17]) (by rw [hp18]; simp) n19 (fun ps z => by cases z)
    have hp19 := y19 _ _ hp18
    have t19 := t18.same y19
    generalize upd H18 q19 (HO.lst [V.ref q15, V.ref q17]) = H19 at y19 c19 m19 hp19 t19 ⊢
    refine ⟨_, _, _, _, rfl, rfl, ct_all _ _ ((((((c14.trans c15).trans c16).trans c17).trans c18).trans c19) _ _ m13), ct_all _ _ m19, (by show 13 + 2 ≤ sizeLine; decide), fun q20 n20 => ?_⟩
    rw [show [V.non, V.int 3, V.str "x", V.ref q1, V.ref q2, V.ref q3, V.ref q4, V.ref q6, V.ref q7, V.ref q9, V.bl true, V.ref q10, V.ref q12] ++ [V.ref q15, V.ref q17] = [V.non, V.int 3, V.str "x", V.ref q1, V.ref q2, V.ref q3, V.ref q4, V.ref q6, V.ref q7, V.ref q9, V.bl true, V.ref q10, V.ref q12, V.ref q15, V.ref q17] from rfl]
    have y20 := smu (o := HO.lst [V.non, V.int 3, V.str "x", V.ref q1, V.ref q2, V.ref q3, V.ref q4, V.ref q6, V.ref q7, V.ref q9, V.bl true, V.ref q10, V.ref q12, V.ref q15, V.ref q17]) n20
    obtain ⟨c20, m20⟩ := ct_new (p := p) (o := HO.lst [V.non, V.int 3, V.str "x", V.ref q1, V.ref q2, V.ref q3, V.ref q4, V.ref q6, V.ref q7, V.ref q9, V.bl true, V.ref q10, V.ref q12, V.ref q15, V.ref q17]) (by rw [hp19]; simp) n20 (fun ps z => by cases z)
    have hp20 := y20 _ _ hp19
    have t20 := t19.same y20
    generalize upd H19 q20 (HO.lst [V.non, V.int 3, V.str "x", V.ref q1, V.ref q2, V.ref q3, V.ref q4, V.ref q6, V.ref q7, V.ref q9, V.bl true, V.ref q10, V.ref q12, V.ref q15, V.ref q17]) = H20 at y20 c20 m20 hp20 t20 ⊢
    refine ⟨p, q20, _, k, rfl, t20, (by omega), (ne_of_none hp19 n20), SqL.of (ct_all _ _ m20), (by show 0 < 15; decide), (by show 15 < 1000000; decide), fun H' i x hx bH sH => ?_⟩
    have all : DtAll K (ct p H20) [V.non, V.int 3, V.str "x", V.ref q1, V.ref q2, V.ref q3, V.ref q4, V.ref q6, V.ref q7, V.ref q9, V.bl true, V.ref q10, V.ref q12, V.ref q15, V.ref q17] (menuL m) := (.cons (.non) (.cons (.int _) (.cons (.str _) (.cons ((.lst (SqL.of (((((((((((((((((((c2.trans c3).trans c4).trans c5).trans c6).trans c7).trans c8).trans c9).trans c10).trans c11).trans c12).trans c13).trans c14).trans c15).trans c16).trans c17).trans c18).trans c19).trans c20) _ _ m1)) (.cons (.int _) (.cons (.int _) .nil)))) (.cons ((.tup (SqT.of ((((((((((((((((((c3.trans c4).trans c5).trans c6).trans c7).trans c8).trans c9).trans c10).trans c11).trans c12).trans c13).trans c14).trans c15).trans c16).trans c17).trans c18).trans c19).trans c20) _ _ m2)) (.cons (.int _) (.cons (.bl _) .nil)))) (.cons ((.tup (SqT.of (((((((((((((((((c4.trans c5).trans c6).trans c7).trans c8).trans c9).trans c10).trans c11).trans c12).trans c13).trans c14).trans c15).trans c16).trans c17).trans c18).trans c19).trans c20) _ _ m3)) (.cons (.non) .nil))) (.cons ((.tup (SqT.of ((((((((((((((((c5.trans c6).trans c7).trans c8).trans c9).trans c10).trans c11).trans c12).trans c13).trans c14).trans c15).trans c16).trans c17).trans c18).trans c19).trans c20) _ _ m4)) (.cons (.int _) (.cons (.str _) .nil)))) (.cons ((.tup (sqt_same (((((((((((((c7.trans c8).trans c9).trans c10).trans c11).trans c12).trans c13).trans c14).trans c15).trans c16).trans c17).trans c18).trans c19).trans c20) r6) (dt_rep (.int 0) (11)))) (.cons ((.dic (((((((((((((c8.trans c9).trans c10).trans c11).trans c12).trans c13).trans c14).trans c15).trans c16).trans c17).trans c18).trans c19).trans c20) _ _ m7) .nil)) (.cons ((.tup (SqT.of (((((((((((c10.trans c11).trans c12).trans c13).trans c14).trans c15).trans c16).trans c17).trans c18).trans c19).trans c20) _ _ m9)) (.cons ((.tup (SqT.of ((((((((((((c9.trans c10).trans c11).trans c12).trans c13).trans c14).trans c15).trans c16).trans c17).trans c18).trans c19).trans c20) _ _ m8)) (.cons (.int _) .nil))) .nil))) (.cons (.bl _) (.cons ((.lst (SqL.of ((((((((((c11.trans c12).trans c13).trans c14).trans c15).trans c16).trans c17).trans c18).trans c19).trans c20) _ _ m10)) .nil)) (.cons ((.tup (SqT.of ((((((((c13.trans c14).trans c15).trans c16).trans c17).trans c18).trans c19).trans c20) _ _ m12)) (.cons (.int _) (.cons ((.lst (SqL.of (((((((((c12.trans c13).trans c14).trans c15).trans c16).trans c17).trans c18).trans c19).trans c20) _ _ m11)) (.cons (.int _) .nil))) .nil)))) (.cons ((.tup (sqt_same ((((c16.trans c17).trans c18).trans c19).trans c20) r15) (dt_rep (.int 0) (m.toNat + 1)))) (.cons ((.tup (sqt_same ((c18.trans c19).trans c20) r17) (dt_rep (.int 7) (m.toNat - 1)))) .nil)))))))))))))))
    obtain ⟨d, e1, e2⟩ := dt_all_get all hx
    have sY : Same H H20 := (((((((((((((((((((y1).trans y2).trans y3).trans y4).trans y5).trans y6).trans y7).trans y8).trans y9).trans y10).trans y11).trans y12).trans y13).trans y14).trans y15).trans y16).trans y17).trans y18).trans y19).trans y20
    exact fin H' x d ((But.sm sY).trans bH) sH (Dt.same (ct_but bH) d _ e2) (List.mem_of_getElem? e1)
end
def menuT : List PyData := [.none, .int 0, .str "01", .list [.int 0], .tuple [.int 0, .int 0], .tuple [.int 1, .int 0], .tuple [.int 10], .tuple [.int (-1)], .tuple [.bool true], .tuple [.str "0"], .tuple [.none], .dict [], .tuple [.int 0, .int 1, .int 1], .tuple [.tuple [.int 0]], .tuple [.int 0, .int (10 ^ Int.toNat 39)], .bool true, .list []]
def spNoTurned (K : PySem.W.Frag) : Sp := fun vs H Q _ => ∃ (p : Addr) (k : Nat), vs = [.ref p] ∧ StrAt H p k ∧ k ≤ 90000 ∧
  ∀ H' v d, But p H H' → StrAt H' p (k + 1) → Dt K (ct p H') v d → d ∈ menuT → Q v H'
abbrev nNoTurned : List Str := ["_law_stream_here", "_law_some"]
theorem scNoTurned : FnScope nNoTurned ["_law_stream_here"] (defScope sNoTurned) := ⟨rfl, rfl, rfl, by decide +kernel, rfl, by decide +kernel, by decide +kernel⟩
section
variable {P : Program} {w : World} {K : PySem.W.Frag} {mg : Str → Option Value} {base : Heap}
theorem ok_noTurned {f fD fP : Addr} {fd fdD fdP : FuncData} (F : FnP K "_law_no_turned" sNoTurned f fd) (FD : FnP K "_law_draw" sDraw fD fdD) (FP : FnP K "_law_pick" sPick fP fdP) (T : TG K mg) (gD : mg "_law_draw" = some (.ref fD)) (gP : mg "_law_pick" = some (.ref fP)) :
    FnOk P w K mg base CX0 3 f fd ["_law_stream_here"] (spNoTurned K) := by
  have GP : FnOk P w K mg base CX0 2 fP fdP ["_law_stream_here", "_law_items"] (spPick K) := ok_pick FP FD T gD
  have bP : Binds K fdP ["_law_stream_here", "_law_items"] [] := FP.bindsN fun _ _ _ _ _ _ us hl => match us, hl with | [_, _], _ => rfl
  refine F.ok scNoTurned (fun vs H Q E h => ?_) (fun cdv A outer s H vs Q E hr h => ?_)
  · obtain ⟨p, k, rfl, _⟩ := h
    rfl
  · obtain ⟨p, k, rfl, hS, hk, fin⟩ := h
    obtain ⟨st, hp0⟩ := hS.some
    refine ⟨_, PSs.nox (pss_cons (ps_set (i := 1) scNoTurned.nd rfl (Or.inl rfl) (pe_lst (pa_cons pe_non (pa_cons pe_int (pa_cons pe_str (pa_cons (pe_lst (pa_cons pe_int pa_nil)) (pa_cons (pe_tup (pa_cons pe_int (pa_cons pe_int pa_nil))) (pa_cons (pe_tup (pa_cons pe_int (pa_cons pe_int pa_nil))) (pa_cons (pe_tup (pa_cons pe_int pa_nil)) (pa_cons (pe_tup (pa_cons (pe_un un_neg pe_int) pa_nil)) (pa_cons (pe_tup (pa_cons pe_bl pa_nil)) (pa_cons (pe_tup (pa_cons pe_str pa_nil)) (pa_cons (pe_tup (pa_cons pe_non pa_nil)) (pa_cons pe_dnewK (pa_cons (pe_tup (pa_cons pe_int (pa_cons pe_int (pa_cons pe_int pa_nil)))) (pa_cons (pe_tup (pa_cons (pe_tup (pa_cons pe_int pa_nil)) pa_nil)) pa_nil))))))))))))))))
      (pss_one (ps_ret (pe_call GP hr rfl gP FP.kp bP .nil pass0 (pa_cons (pv 0) (pa_cons (pe_op op_cat (pv 1) (pe_lst (pa_cons (pe_tup (pa_cons pe_int (pa_cons (pe_op op_pow pe_int pe_int) pa_nil))) (pa_cons pe_bl (pa_cons (pe_lst pa_nil) pa_nil))))) pa_nil)))))), ?_⟩
    refine ⟨(by show 1 ≤ sizeLine; decide), fun q1 n1 => ?_⟩
    have y1 := smu (o := HO.lst [V.int 0]) n1
    obtain ⟨c1, m1⟩ := ct_new (p := p) (o := HO.lst [V.int 0]) (by rw [hp0]; simp) n1 (fun ps z => by cases z)
    have hp1 := y1 _ _ hp0
    have t1 := hS.same y1
    generalize upd H q1 (HO.lst [V.int 0]) = H1 at y1 c1 m1 hp1 t1 ⊢
    refine ⟨(by show 2 ≤ sizeLine; decide), fun q2 n2 => ?_⟩
    have y2 := smu (o := HO.tup [V.int 0, V.int 0]) n2
    obtain ⟨c2, m2⟩ := ct_new (p := p) (o := HO.tup [V.int 0, V.int 0]) (by rw [hp1]; simp) n2 (fun ps z => by cases z)
    have hp2 := y2 _ _ hp1
    have t2 := t1.same y2
    generalize upd H1 q2 (HO.tup [V.int 0, V.int 0]) = H2 at y2 c2 m2 hp2 t2 ⊢
    refine ⟨(by show 2 ≤ sizeLine; decide), fun q3 n3 => ?_⟩
    have y3 := smu (o := HO.tup [V.int 1, V.int 0]) n3
    obtain ⟨c3, m3⟩ := ct_new (p := p) (o := HO.tup [V.int 1, V.int 0]) (by rw [hp2]; simp) n3 (fun ps z => by cases z)
    have hp3 := y3 _ _ hp2
    have t3 := t2.same y3
    generalize upd H2 q3 (HO.tup [V.int 1, V.int 0]) = H3 at y3 c3 m3 hp3 t3 ⊢
    refine ⟨(by show 1 ≤ sizeLine; decide), fun q4 n4 => ?_⟩
    have y4 := smu (o := HO.tup [V.int 10]) n4
    obtain ⟨c4, m4⟩ := ct_new (p := p) (o := HO.tup [V.int 10]) (by rw [hp3]; simp) n4 (fun ps z => by cases z)
    have hp4 := y4 _ _ hp3
    have t4 := t3.same y4
    generalize upd H3 q4 (HO.tup [V.int 10]) = H4 at y4 c4 m4 hp4 t4 ⊢
    refine ⟨_, rfl, (by show 1 ≤ sizeLine; decide), fun q5 n5 => ?_⟩
    have y5 := smu (o := HO.tup [V.int (-1)]) n5
    obtain ⟨c5, m5⟩ := ct_new (p := p) (o := HO.tup [V.int (-1)]) (by rw [hp4]; simp) n5 (fun ps z => by cases z)
    have hp5 := y5 _ _ hp4
    have t5 := t4.same y5
    generalize upd H4 q5 (HO.tup [V.int (-1)]) = H5 at y5 c5 m5 hp5 t5 ⊢
    refine ⟨(by show 1 ≤ sizeLine; decide), fun q6 n6 => ?_⟩
    have y6 := smu (o := HO.tup [V.bl true]) n6
    obtain ⟨c6, m6⟩ := ct_new (p := p) (o := HO.tup [V.bl true]) (by rw [hp5]; simp) n6 (fun ps z => by cases z)
    have hp6 := y6 _ _ hp5
    have t6 := t5.same y6
    generalize upd H5 q6 (HO.tup [V.bl true]) = H6 at y6 c6 m6 hp6 t6 ⊢
    refine ⟨(by show 1 ≤ sizeLine; decide), fun q7 n7 => ?_⟩
    have y7 := smu (o := HO.tup [V.str "0"]) n7
    obtain ⟨c7, m7⟩ := ct_new (p := p) (o := HO.tup [V.str "0"]) (by rw [hp6]; simp) n7 (fun ps z => by cases z)
    have hp7 := y7 _ _ hp6
    have t7 := t6.same y7
    generalize upd H6 q7 (HO.tup [V.str "0"]) = H7 at y7 c7 m7 hp7 t7 ⊢
    refine ⟨(by show 1 ≤ sizeLine; decide), fun q8 n8 => ?_⟩
    have y8 := smu (o := HO.tup [V.non]) n8
    obtain ⟨c8, m8⟩ := ct_new (p := p) (o := HO.tup [V.non]) (by rw [hp7]; simp) n8 (fun ps z => by cases z)
    have hp8 := y8 _ _ hp7
    have t8 := t7.same y8
    generalize upd H7 q8 (HO.tup [V.non]) = H8 at y8 c8 m8 hp8 t8 ⊢
    refine fun q9 n9 => ?_
    have y9 := smu (o := HO.dK []) n9
    obtain ⟨c9, m9⟩ := ct_new (p := p) (o := HO.dK []) (by rw [hp8]; simp) n9 (fun ps z => by cases z)
    have hp9 := y9 _ _ hp8
    have t9 := t8.same y9
    generalize upd H8 q9 (HO.dK []) = H9 at y9 c9 m9 hp9 t9 ⊢
    refine ⟨(by show 3 ≤ sizeLine; decide), fun q10 n10 => ?_⟩
    have y10 := smu (o := HO.tup [V.int 0, V.int 1, V.int 1]) n10
    obtain ⟨c10, m10⟩ := ct_new (p := p) (o := HO.tup [V.int 0, V.int 1, V.int 1]) (by rw [hp9]; simp) n10 (fun ps z => by cases z)
    have hp10 := y10 _ _ hp9
    have t10 := t9.same y10
    generalize upd H9 q10 (HO.tup [V.int 0, V.int 1, V.int 1]) = H10 at y10 c10 m10 hp10 t10 ⊢
    refine ⟨(by show 1 ≤ sizeLine; decide), fun q11 n11 => ?_⟩
    have y11 := smu (o := HO.tup [V.int 0]) n11
    obtain ⟨c11, m11⟩ := ct_new (p := p) (o := HO.tup [V.int 0]) (by rw [hp10]; simp) n11 (fun ps z => by cases z)
    have hp11 := y11 _ _ hp10
    have t11 := t10.same y11
    generalize upd H10 q11 (HO.tup [V.int 0]) = H11 at y11 c11 m11 hp11 t11 ⊢
    refine ⟨(by show 1 ≤ sizeLine; decide), fun q12 n12 => ?_⟩
    have y12 := smu (o := HO.tup [V.ref q11]) n12
    obtain ⟨c12, m12⟩ := ct_new (p := p) (o := HO.tup [V.ref q11]) (by rw [hp11]; simp) n12 (fun ps z => by cases z)
    have hp12 := y12 _ _ hp11
    have t12 := t11.same y12
    generalize upd H11 q12 (HO.tup [V.ref q11]) = H12 at y12 c12 m12 hp12 t12 ⊢
    refine ⟨(by show 14 ≤ sizeLine; decide), fun q13 n13 => ?_⟩
    have y13 := smu (o := HO.lst [V.non, V.int 0, V.str "01", V.ref q1, V.ref q2, V.ref q3, V.ref q4, V.ref q5, V.ref q6, V.ref q7, V.ref q8, V.ref q9, V.ref q10, V.ref q12]) n13
    obtain ⟨c13, m13⟩ := ct_new (p := p) (o := HO.lst [V.non, V.int 0, V.str "01", V.ref q1, V.ref q2, V.ref q3, V.ref q4, V.ref q5, V.ref q6, V.ref q7, V.ref q8, V.ref q9, V.ref q10, V.ref q12]) (by rw [hp12]; simp) n13 (fun ps z => by cases z)
    have hp13 := y13 _ _ hp12
    have t13 := t12.same y13
    generalize upd H12 q13 (HO.lst [V.non, V.int 0, V.str "01", V.ref q1, V.ref q2, V.ref q3, V.ref q4, V.ref q5, V.ref q6, V.ref q7, V.ref q8, V.ref q9, V.ref q10, V.ref q12]) = H13 at y13 c13 m13 hp13 t13 ⊢
    refine ⟨_, rfl, _, rfl, _, _, rfl, rfl, ⟨by decide, by decide, by decide⟩, (by show 2 ≤ sizeLine; decide), fun q14 n14 => ?_⟩
    have y14 := smu (o := HO.tup [V.int 0, V.int (10 ^ Int.toNat 39)]) n14
    obtain ⟨c14, m14⟩ := ct_new (p := p) (o := HO.tup [V.int 0, V.int (10 ^ Int.toNat 39)]) (by rw [hp13]; simp) n14 (fun ps z => by cases z)
    have hp14 := y14 _ _ hp13
    have t14 := t13.same y14
    generalize upd H13 q14 (HO.tup [V.int 0, V.int (10 ^ Int.toNat 39)]) = H14 at y14 c14 m14 hp14 t14 ⊢
    refine ⟨(by show 0 ≤ sizeLine; decide), fun q15 n15 => ?_⟩
    have y15 := smu (o := HO.lst []) n15
    obtain ⟨c15, m15⟩ := ct_new (p := p) (o := HO.lst []) (by rw [hp14]; simp) n15 (fun ps z => by cases z)
    have hp15 := y15 _ _ hp14
    have t15 := t14.same y15
    generalize upd H14 q15 (HO.lst []) = H15 at y15 c15 m15 hp15 t15 ⊢
    refine ⟨(by show 3 ≤ sizeLine; decide), fun q16 n16 => ?_⟩
    have y16 := smu (o := HO.lst [V.ref q14, V.bl true, V.ref q15]) n16
    obtain ⟨c16, m16⟩ := ct_new (p := p) (o := HO.lst [V.ref q14, V.bl true, V.ref q15]) (by rw [hp15]; simp) n16 (fun ps z => by cases z)
    have hp16 := y16 _ _ hp15
    have t16 := t15.same y16
    generalize upd H15 q16 (HO.lst [V.ref q14, V.bl true, V.ref q15]) = H16 at y16 c16 m16 hp16 t16 ⊢
    refine ⟨_, _, _, _, rfl, rfl, ct_all _ _ (((c14.trans c15).trans c16) _ _ m13), ct_all _ _ m16, (by show 14 + 3 ≤ sizeLine; decide), fun q17 n17 => ?_⟩
    rw [show [V.non, V.int 0, V.str "01", V.ref q1, V.ref q2, V.ref q3, V.ref q4, V.ref q5, V.ref q6, V.ref q7, V.ref q8, V.ref q9, V.ref q10, V.ref q12] ++ [V.ref q14, V.bl true, V.ref q15] = [V.non, V.int 0, V.str "01", V.ref q1, V.ref q2, V.ref q3, V.ref q4, V.ref q5, V.ref q6, V.ref q7, V.ref q8, V.ref q9, V.ref q10, V.ref q12, V.ref q14, V.bl true, V.ref q15] from rfl]
    have y17 := smu (o := HO.lst [V.non, V.int 0, V.str "01", V.ref q1, V.ref q2, V.ref q3, V.ref q4, V.ref q5, V.ref q6, V.ref q7, V.ref q8, V.ref q9, V.ref q10, V.ref q12, V.ref q14, V.bl true, V.ref q15]) n17
    obtain ⟨c17, m17⟩ := ct_new (p := p) (o := HO.lst [V.non, V.int 0, V.str "01", V.ref q1, V.ref q2, V.ref q3, V.ref q4, V.ref q5, V.ref q6, V.ref q7, V.ref q8, V.ref q9, V.ref q10, V.ref q12, V.ref q14, V.bl true, V.ref q15]) (by rw [hp16]; simp) n17 (fun ps z => by cases z)
    have hp17 := y17 _ _ hp16
    have t17 := t16.same y17
    generalize upd H16 q17 (HO.lst [V.non, V.int 0, V.str "01", V.ref q1, V.ref q2, V.ref q3, V.ref q4, V.ref q5, V.ref q6, V.ref q7, V.ref q8, V.ref q9, V.ref q10, V.ref q12, V.ref q14, V.bl true, V.ref q15]) = H17 at y17 c17 m17 hp17 t17 ⊢
    refine ⟨p, q17, _, k, rfl, t17, (by omega), (ne_of_none hp16 n17), SqL.of (ct_all _ _ m17), (by show 0 < 17; decide), (by show 17 < 1000000; decide), fun H' i x hx bH sH => ?_⟩
    have all : DtAll K (ct p H17) [V.non, V.int 0, V.str "01", V.ref q1, V.ref q2, V.ref q3, V.ref q4, V.ref q5, V.ref q6, V.ref q7, V.ref q8, V.ref q9, V.ref q10, V.ref q12, V.ref q14, V.bl true, V.ref q15] menuT := (.cons (.non) (.cons (.int _) (.cons (.str _) (.cons ((.lst (SqL.of ((((((((((((((((c2.trans c3).trans c4).trans c5).trans c6).trans c7).trans c8).trans c9).trans c10).trans c11).trans c12).trans c13).trans c14).trans c15).trans c16).trans c17) _ _ m1)) (.cons (.int _) .nil))) (.cons ((.tup (SqT.of (((((((((((((((c3.trans c4).trans c5).trans c6).trans c7).trans c8).trans c9).trans c10).trans c11).trans c12).trans c13).trans c14).trans c15).trans c16).trans c17) _ _ m2)) (.cons (.int _) (.cons (.int _) .nil)))) (.cons ((.tup (SqT.of ((((((((((((((c4.trans c5).trans c6).trans c7).trans c8).trans c9).trans c10).trans c11).trans c12).trans c13).trans c14).trans c15).trans c16).trans c17) _ _ m3)) (.cons (.int _) (.cons (.int _) .nil)))) (.cons ((.tup (SqT.of (((((((((((((c5.trans c6).trans c7).trans c8).trans c9).trans c10).trans c11).trans c12).trans c13).trans c14).trans c15).trans c16).trans c17) _ _ m4)) (.cons (.int _) .nil))) (.cons ((.tup (SqT.of ((((((((((((c6.trans c7).trans c8).trans c9).trans c10).trans c11).trans c12).trans c13).trans c14).trans c15).trans c16).trans c17) _ _ m5)) (.cons (.int _) .nil))) (.cons ((.tup (SqT.of (((((((((((c7.trans c8).trans c9).trans c10).trans c11).trans c12).trans c13).trans c14).trans c15).trans c16).trans c17) _ _ m6)) (.cons (.bl _) .nil))) (.cons ((.tup (SqT.of ((((((((((c8.trans c9).trans c10).trans c11).trans c12).trans c13).trans c14).trans c15).trans c16).trans c17) _ _ m7)) (.cons (.str _) .nil))) (.cons ((.tup (SqT.of (((((((((c9.trans c10).trans c11).trans c12).trans c13).trans c14).trans c15).trans c16).trans c17) _ _ m8)) (.cons (.non) .nil))) (.cons ((.dic ((((((((c10.trans c11).trans c12).trans c13).trans c14).trans c15).trans c16).trans c17) _ _ m9) .nil)) (.cons ((.tup (SqT.of (((((((c11.trans c12).trans c13).trans c14).trans c15).trans c16).trans c17) _ _ m10)) (.cons (.int _) (.cons (.int _) (.cons (.int _) .nil))))) (.cons ((.tup (SqT.of (((((c13.trans c14).trans c15).trans c16).trans c17) _ _ m12)) (.cons ((.tup (SqT.of ((((((c12.trans c13).trans c14).trans c15).trans c16).trans c17) _ _ m11)) (.cons (.int _) .nil))) .nil))) (.cons ((.tup (SqT.of (((c15.trans c16).trans c17) _ _ m14)) (.cons (.int _) (.cons (.int _) .nil)))) (.cons (.bl _) (.cons ((.lst (SqL.of ((c16.trans c17) _ _ m15)) .nil)) .nil)))))))))))))))))
    obtain ⟨d, e1, e2⟩ := dt_all_get all hx
    have sY : Same H H17 := ((((((((((((((((y1).trans y2).trans y3).trans y4).trans y5).trans y6).trans y7).trans y8).trans y9).trans y10).trans y11).trans y12).trans y13).trans y14).trans y15).trans y16).trans y17
    exact fin H' x d ((But.sm sY).trans bH) sH (Dt.same (ct_but bH) d _ e2) (List.mem_of_getElem? e1)
end
end K02

/-! what the menus hold; _law_no_lines. -/
namespace K02
open PySem PySem.Spec PyProof.Rows L2 Dr Ex Rp
open He (ga ma)
theorem mem_rep {α : Type} {n : Nat} {a b : α} (h : b ∈ List.replicate n a) : b = a := List.eq_of_mem_replicate h
theorem sz_int0 : Sz 0 10 (.int 0) := ⟨by decide +kernel, Nat.le_refl _, by decide +kernel⟩
theorem sz_int1 : Sz 0 10 (.int 1) := ⟨by decide +kernel, Nat.le_refl _, by decide +kernel⟩
theorem sz_int2 : Sz 0 10 (.int 2) := ⟨by decide +kernel, Nat.le_refl _, by decide +kernel⟩
theorem sz_int3 : Sz 0 10 (.int 3) := ⟨by decide +kernel, Nat.le_refl _, by decide +kernel⟩
theorem sz_int7 : Sz 0 10 (.int 7) := ⟨by decide +kernel, Nat.le_refl _, by decide +kernel⟩
/-- no row of length m -/
def NoRow (m : Int) (d : PyData) : Prop := areI d = true → ((its d).length : Int) ≠ m
theorem menuL_ok {m : Int} (h1 : 1 ≤ m) (h9 : m ≤ 9) : ∀ d ∈ menuL m, Sz 2 200 d ∧ NoRow m d ∧ (its d).length ≤ 11 := by
  have c : ∀ d : PyData, d.showable = true ∧ d.depth ≤ 2 ∧ d.shown.length ≤ 200 → areI d = false → (its d).length ≤ 11 → Sz 2 200 d ∧ NoRow m d ∧ (its d).length ≤ 11 := fun d h e l => ⟨h, fun z => (by rw [e] at z; cases z), l⟩
  have r : ∀ (n : Nat) (i : Int), Sz 0 10 (.int i) → n ≤ 11 → (n : Int) ≠ m → Sz 2 200 (.tuple (List.replicate n (.int i))) ∧ NoRow m (.tuple (List.replicate n (.int i))) ∧ (its (.tuple (List.replicate n (.int i)))).length ≤ 11 := fun n i hi hn hm => by
    have l : (its (.tuple (List.replicate n (.int i)))).length = n := List.length_replicate
    refine ⟨(sz_tuple (c := 11) (fun d hd => by rw [mem_rep hd]; exact hi) (by rw [List.length_replicate]; exact hn)).mono (by omega) (by omega), fun _ => by rw [l]; exact hm, by rw [l]; exact hn⟩
  intro d hd
  unfold menuL at hd
  simp only [List.mem_cons, List.not_mem_nil, or_false] at hd
  rcases hd with rfl | rfl | rfl | rfl | rfl | rfl | rfl | rfl | rfl | rfl | rfl | rfl | rfl | rfl | rfl
  · exact c _ (by decide +kernel) rfl (by decide)
  · exact c _ (by decide +kernel) rfl (by decide)
  · exact c _ (by decide +kernel) rfl (by decide)
  · exact c _ (by decide +kernel) rfl (by decide)
  · exact c _ (by decide +kernel) rfl (by decide)
  · exact c _ (by decide +kernel) rfl (by decide)
  · exact c _ (by decide +kernel) rfl (by decide)
  · exact r 11 0 sz_int0 (by omega) (by omega)
  · exact c _ (by decide +kernel) rfl (by decide)
  · exact c _ (by decide +kernel) rfl (by decide)
  · exact c _ (by decide +kernel) rfl (by decide)
  · exact c _ (by decide +kernel) rfl (by decide)
  · exact c _ (by decide +kernel) rfl (by decide)
  · exact r _ 0 sz_int0 (by omega) (by omega)
  · exact r _ 7 sz_int7 (by omega) (by omega)
theorem menuT_ok : ∀ d ∈ menuT, Sz 2 200 d ∧ downOk d = false := by
  have h : (menuT.all fun d => d.showable && (decide (d.depth ≤ 2) && (decide (d.shown.length ≤ 200) && !downOk d))) = true := by decide +kernel
  intro d hd
  have z := List.all_eq_true.mp h d hd
  simp only [Bool.and_eq_true, decide_eq_true_eq, Bool.not_eq_true'] at z
  exact ⟨⟨z.1, z.2.1, z.2.2.1⟩, z.2.2.2⟩
def menuLs (rows : List PyData) (db r0 : PyData) : List PyData := [.list rows, .none, .int 5, .str "rows", .dict [], .tuple (its r0 ++ [.int 1]), .tuple (rows ++ [db]), .tuple ([db] ++ rows), .bool true, .tuple (rows ++ [.tuple (its r0 ++ [.int 0])])]
theorem rows_bad {ds : List PyData} {x y : PyData} (hx : x ∈ ds) (hy : y ∈ ds) (h : areI y = true → (its y).length ≠ (its x).length) : rowsOk (.tuple ds) = false := by
  show (ds.all areI && wideOk (ds.map fun d => (its d).length)) = false
  cases e : ds.all areI with
  | false => rfl
  | true =>
    have z := h (List.all_eq_true.mp e y hy)
    rw [wide_two (List.mem_map.mpr ⟨x, hx, rfl⟩) (List.mem_map.mpr ⟨y, hy, rfl⟩) z.symm, Bool.and_false]
theorem rows_int {ds : List PyData} {i : Int} (h : PyData.int i ∈ ds) : rowsOk (.tuple ds) = false := by
  show (ds.all areI && wideOk (ds.map fun d => (its d).length)) = false
  cases e : ds.all areI with
  | false => rfl
  | true =>
    have z := List.all_eq_true.mp e _ h
    cases z
theorem areI_tup {d : PyData} (h : areI d = true) : d = .tuple (its d) := by
  cases d with
  | tuple ds => rfl
  | _ => cases h
/-- rows of one length -/
structure Rows (m : Int) (rows : List PyData) : Prop where
  l1 : 1 ≤ rows.length
  l4 : rows.length ≤ 4
  r : ∀ r ∈ rows, areI r = true ∧ ((its r).length : Int) = m ∧ Sz 1 120 r ∧ ∀ x ∈ its r, Sz 0 10 x
theorem menuLs_ok {m : Int} (h1 : 1 ≤ m) (h9 : m ≤ 9) {rows : List PyData} {db r0 : PyData} (R : Rows m rows) (h0 : r0 ∈ rows) (hb : db ∈ menuL m) : ∀ d ∈ menuLs rows db r0, rowsOk d = false ∧ Sz 5 3000 d ∧ (its d).length < 60 ∧ d ≠ .tuple [] := by
  obtain ⟨a0, l0, z0, x0⟩ := R.r r0 h0
  obtain ⟨zb, nb, lb⟩ := menuL_ok h1 h9 db hb
  have l1 := R.l1
  have l4 := R.l4
  have ld : ∀ (ds : List PyData) (x : PyData), (ds ++ [x]).length = ds.length + 1 := fun ds x => by rw [List.length_append] <;> rfl
  have zr : ∀ r ∈ rows, Sz 2 200 r := fun r hr => (R.r r hr).2.2.1.mono (by omega) (by omega)
  have zi : ∀ i, Sz 0 10 (.int i) → Sz 1 200 (.tuple (its r0 ++ [.int i])) := fun i hi => (sz_tuple (c := 10) (fun d hd => by
    rcases List.mem_append.mp hd with q | q
    · exact x0 d q
    · rw [List.mem_singleton.mp q]
      exact hi) (by rw [ld]; omega)).mono (by omega) (by omega)
  have c : ∀ d : PyData, rowsOk d = false → (d.showable = true ∧ d.depth ≤ 2 ∧ d.shown.length ≤ 200) → (its d).length < 60 → d ≠ .tuple [] → rowsOk d = false ∧ Sz 5 3000 d ∧ (its d).length < 60 ∧ d ≠ .tuple [] := fun d a b e f => ⟨a, Sz.mono b (by omega) (by omega), e, f⟩
  have ne : ∀ {ds : List PyData}, ds.length ≠ 0 → PyData.tuple ds ≠ .tuple [] := fun {ds} h z => h (by rw [PyData.tuple.inj z]; rfl)
  intro d hd
  unfold menuLs at hd
  simp only [List.mem_cons, List.not_mem_nil, or_false] at hd
  rcases hd with rfl | rfl | rfl | rfl | rfl | rfl | rfl | rfl | rfl | rfl
  · exact ⟨rfl, (sz_list (c := 4) zr l4).mono (by omega) (by omega), by show 0 < 60; omega, fun z => by cases z⟩
  · exact c _ rfl (by decide +kernel) (by decide) (fun z => by cases z)
  · exact c _ rfl (by decide +kernel) (by decide) (fun z => by cases z)
  · exact c _ rfl (by decide +kernel) (by decide) (fun z => by cases z)
  · exact c _ rfl (by decide +kernel) (by decide) (fun z => by cases z)
  · refine ⟨rows_int (List.mem_append_right _ (List.mem_singleton.mpr rfl)), (zi 1 sz_int1).mono (by omega) (by omega), ?_, ne (by rw [ld]; omega)⟩
    show (its r0 ++ [_]).length < 60
    rw [ld]
    omega
  · refine ⟨rows_bad (x := r0) (y := db) (List.mem_append_left _ h0) (List.mem_append_right _ (List.mem_singleton.mpr rfl)) (fun e z => nb e (by rw [z]; exact l0)), (sz_tuple (c := 5) (e := 2) (b := 200) (fun d hd => ?_) (by rw [ld]; omega)).mono (by omega) (by omega), ?_, ne (by rw [ld]; omega)⟩
    · rcases List.mem_append.mp hd with q | q
      · exact zr d q
      · rw [List.mem_singleton.mp q]
        exact zb
    · show (rows ++ [_]).length < 60
      rw [ld]
      omega
  · refine ⟨rows_bad (x := r0) (y := db) (List.mem_append_right _ h0) (List.mem_append_left _ (List.mem_singleton.mpr rfl)) (fun e z => nb e (by rw [z]; exact l0)), (sz_tuple (c := 5) (e := 2) (b := 200) (fun d hd => ?_) (by show rows.length + 1 ≤ 5; omega)).mono (by omega) (by omega), ?_, ne (by show rows.length + 1 ≠ 0; omega)⟩
    · rcases List.mem_append.mp hd with q | q
      · rw [List.mem_singleton.mp q]
        exact zb
      · exact zr d q
    · show rows.length + 1 < 60
      omega
  · exact c _ rfl (by decide +kernel) (by decide) (fun z => by cases z)
  · refine ⟨rows_bad (x := r0) (y := .tuple (its r0 ++ [.int 0])) (List.mem_append_left _ h0) (List.mem_append_right _ (List.mem_singleton.mpr rfl)) (fun _ z => ?_), (sz_tuple (c := 5) (e := 2) (b := 200) (fun d hd => ?_) (by rw [ld]; omega)).mono (by omega) (by omega), ?_, ne (by rw [ld]; omega)⟩
    · have q : (its r0 ++ [PyData.int 0]).length = (its r0).length := z
      rw [ld] at q
      omega
    · rcases List.mem_append.mp hd with q | q
      · exact zr d q
      · rw [List.mem_singleton.mp q]
        exact (zi 0 sz_int0).mono (by omega) (by omega)
    · show (rows ++ [_]).length < 60
      rw [ld]
      omega
def spNoLines (K : PySem.W.Frag) : Sp := fun vs H Q _ => ∃ (p a : Addr) (m : Int) (k : Nat) (rows : List PyData), vs = [.ref p, .ref a] ∧ StrAt H p k ∧ k ≤ 80000 ∧ 1 ≤ m ∧ m ≤ 9 ∧ Rows m rows ∧ Dt K (ct p H) (.ref a) (.tuple rows) ∧
  ∀ H' v d, But p H H' → StrAt H' p (k + 2) → Dt K (ct p H') v d → rowsOk d = false → Sz 5 3000 d → (its d).length < 60 → Q v H'
abbrev nNoLines : List Str := ["_law_stream_here", "_law_lines", "_law_bad", "_law_some", "_law_found"]
theorem scNoLines : FnScope nNoLines ["_law_stream_here", "_law_lines"] (defScope sNoLines) := ⟨rfl, rfl, rfl, by decide +kernel, rfl, by decide +kernel, by decide +kernel⟩
section
variable {P : Program} {w : World} {K : PySem.W.Frag} {mg : Str → Option Value} {base : Heap}
theorem ok_noLines {f fD fP fN : Addr} {fd fdD fdP fdN : FuncData} (F : FnP K "_law_no_lines" sNoLines f fd) (FD : FnP K "_law_draw" sDraw fD fdD) (FP : FnP K "_law_pick" sPick fP fdP) (FN : FnP K "_law_no_line" sNoLine fN fdN) (T : TG K mg) (gD : mg "_law_draw" = some (.ref fD)) (gP : mg "_law_pick" = some (.ref fP)) (gN : mg "_law_no_line" = some (.ref fN)) :
    FnOk P w K mg base CX0 4 f fd ["_law_stream_here", "_law_lines"] (spNoLines K) := by
  have ti := T.f "int" (by decide +kernel)
  have tl := T.f "len" (by decide +kernel)
  have tli := T.f "list" (by decide +kernel)
  have GP : FnOk P w K mg base CX0 2 fP fdP ["_law_stream_here", "_law_items"] (spPick K) := ok_pick FP FD T gD
  have bP : Binds K fdP ["_law_stream_here", "_law_items"] [] := FP.bindsN fun _ _ _ _ _ _ us hl => match us, hl with | [_, _], _ => rfl
  have GN : FnOk P w K mg base CX0 3 fN fdN ["_law_stream_here", "_law_much"] (spNoLine K) := ok_noLine FN FD FP T gD gP
  have bN : Binds K fdN ["_law_stream_here", "_law_much"] [] := FN.bindsN fun _ _ _ _ _ _ us hl => match us, hl with | [_, _], _ => rfl
  refine F.ok scNoLines (fun vs H Q E h => ?_) (fun cdv A outer s H vs Q E hr h => ?_)
  · obtain ⟨p, a, m, k, rows, rfl, _⟩ := h
    rfl
  · obtain ⟨p, a, m, k, rows, rfl, hS, hk, hm1, hm9, R, hL, fin⟩ := h
    have hr2 : Room 2 (A.deeper (envOfC "_law_no_lines" (defScope sNoLines) s.heap.objs.size f cdv)) := hr.mono (by decide)
    obtain ⟨st0, hpH⟩ := hS.some
    refine ⟨_, PSs.nox (pss_cons (ps_set (i := 2) scNoLines.nd rfl (Or.inl rfl) (pe_call GN hr rfl gN FN.kp bN .nil pass0 (pa_cons (pv 0) (pa_cons (pe_callB call_len_seq (by rfl) tl PySem.boot_len (pa_cons (pe_ix ix_tup (pv 1) pe_int (fun _ _ => rfl)) pa_nil)) pa_nil))))
      (pss_cons (ps_set (i := 3) scNoLines.nd rfl (Or.inl rfl) (pe_lst (pa_cons (pe_callTy call_list_of (by rfl) tli (by decide +kernel) (pa_cons (pv 1) pa_nil)) (pa_cons pe_non (pa_cons pe_int (pa_cons pe_str (pa_cons pe_dnewK
        (pa_cons (pe_op op_catA (pe_ix ix_tup (pv 1) pe_int (fun _ _ => rfl)) (pe_tup (pa_cons pe_int pa_nil))) (pa_cons (pe_op op_catA (pv 1) (pe_tup (pa_cons (pv 2) pa_nil))) (pa_cons (pe_op op_catA (pe_tup (pa_cons (pv 2) pa_nil)) (pv 1)) (pa_cons pe_bl pa_nil)))))))))))
      (pss_cons (ps_set (i := 4) scNoLines.nd rfl (Or.inl rfl) (pe_call GP hr2 rfl gP FP.kp bP .nil pass0 (pa_cons (pv 0) (pa_cons (pe_op op_cat (pv 3) (pe_op op_rep (pe_lst (pa_cons (pe_op op_catA (pv 1) (pe_tup (pa_cons (pe_op op_catA (pe_ix ix_tup (pv 1) pe_int (fun _ _ => rfl)) (pe_tup (pa_cons pe_int pa_nil))) pa_nil))) pa_nil))
        (pe_callTy call_int1 (by rfl) ti (by decide +kernel) (pa_cons (pe_cmpR op_lt (pe_callB call_len_seq (by rfl) tl PySem.boot_len (pa_cons (pe_ix ix_tup (pv 1) pe_int (fun _ _ => rfl)) pa_nil)) pe_int (nomark _)) pa_nil)))) pa_nil))))
      (pss_one (ps_ret (pe_ifExp (pt_cmpR (show OpR _ _ (Tp.rNeE K) from Tp.op_neE hr.units0) (pv 4) (pe_tup pa_nil) (nomark _)) (pv 4) pe_non)))))), ?_⟩
    have l1 := R.l1
    have l4 := R.l4
    cases hL with
    | tup hSH hAH =>
    rename_i vs
    have lv : rows.length = vs.length := DtAll.len hAH
    obtain ⟨v0, hv0⟩ : ∃ v, vs[0]? = some v := ⟨_, List.getElem?_eq_getElem (by omega)⟩
    obtain ⟨r0, er0, hr0⟩ := dt_all_get hAH hv0
    have mr0 : r0 ∈ rows := List.mem_of_getElem? er0
    obtain ⟨ai0, le0, _, _⟩ := R.r r0 mr0
    have er := areI_tup ai0
    rw [er] at hr0
    cases hr0 with
    | tup hRH hXH =>
    rename_i ra xs0
    have lx : (its r0).length = xs0.length := DtAll.len hXH
    refine ⟨_, rfl, _, rfl, a, vs, _, V.ref ra, rfl, rfl, sqt_same ct_all hSH, atI_nat (j := 0) hv0, ra, xs0, rfl, .inr (sqt_same ct_all hRH), p, m, k, (by rw [← le0, lx]; rfl), hS, by omega, hm1, hm9, fun H0 vb db b0 t0 hb0 mb => ?_⟩
    have g0 := ct_but b0
    have hS0 := sqt_same g0 hSH
    have hA0 := Dt.sameAll g0 _ _ hAH
    have hR0 := sqt_same g0 hRH
    have hX0 := Dt.sameAll g0 _ _ hXH
    obtain ⟨st, hp0⟩ := t0.some
    have nvs : vs ≠ [] := fun z => by rw [z] at hv0; simp at hv0
    have nx0 : xs0 ≠ [] := fun z => by rw [z] at lx; rw [lx] at le0; simp at le0; omega
    have lx0 : ∀ v : V, xs0.length + [v].length ≤ sizeLine := fun v => by
      rw [sizeLine_eq]
      show xs0.length + 1 ≤ _
      omega
    have lvs : ∀ v : V, vs.length + [v].length ≤ sizeLine := fun v => by
      rw [sizeLine_eq]
      show vs.length + 1 ≤ _
      omega
    have lvs2 : ∀ v : V, [v].length + vs.length ≤ sizeLine := fun v => by
      rw [sizeLine_eq]
      show 1 + vs.length ≤ _
      omega
    have kb : (if decide (((xs0.length : Nat) : Int) < 10) = true then (1 : Int) else 0) = 1 := if_pos (decide_eq_true (by omega))
    refine ⟨_, rfl, a, vs, rfl, .inr (sqt_same ct_all (sqt_same (Same.refl _) hS0)), fun q1 n1 => ?_⟩
    have y1 := smu (o := HO.lst vs) n1
    obtain ⟨c1, m1⟩ := ct_new (p := p) (o := HO.lst vs) (by rw [hp0]; simp) n1 (fun ps z => by cases z)
    have hp1 := y1 _ _ hp0
    have t1 := t0.same y1
    generalize upd H0 q1 (HO.lst vs) = H1 at y1 c1 m1 hp1 t1 ⊢
    refine fun q2 n2 => ?_
    have y2 := smu (o := HO.dK []) n2
    obtain ⟨c2, m2⟩ := ct_new (p := p) (o := HO.dK []) (by rw [hp1]; simp) n2 (fun ps z => by cases z)
    have hp2 := y2 _ _ hp1
    have t2 := t1.same y2
    generalize upd H1 q2 (HO.dK []) = H2 at y2 c2 m2 hp2 t2 ⊢
    refine ⟨_, rfl, a, vs, _, V.ref ra, rfl, rfl, (sqt_same ct_all (sqt_same ((c1).trans c2) hS0)), atI_nat (j := 0) hv0, (by show 1 ≤ sizeLine; decide), fun q3 n3 => ?_⟩
    have y3 := smu (o := HO.tup [V.int 1]) n3
    obtain ⟨c3, m3⟩ := ct_new (p := p) (o := HO.tup [V.int 1]) (by rw [hp2]; simp) n3 (fun ps z => by cases z)
    have hp3 := y3 _ _ hp2
    have t3 := t2.same y3
    generalize upd H2 q3 (HO.tup [V.int 1]) = H3 at y3 c3 m3 hp3 t3 ⊢
    refine ⟨ra, q3, _, _, rfl, rfl, (sqt_same ct_all (sqt_same (((c1).trans c2).trans c3) hR0)), SqT.of (ct_all _ _ m3), lx0 _, (fun z => absurd z nx0), (fun _ z => absurd z (List.cons_ne_nil _ _)), fun _ _ q4 n4 => ?_⟩
    have y4 := smu (o := HO.tup (xs0 ++ [V.int 1])) n4
    obtain ⟨c4, m4⟩ := ct_new (p := p) (o := HO.tup (xs0 ++ [V.int 1])) (by rw [hp3]; simp) n4 (fun ps z => by cases z)
    have hp4 := y4 _ _ hp3
    have t4 := t3.same y4
    generalize upd H3 q4 (HO.tup (xs0 ++ [V.int 1])) = H4 at y4 c4 m4 hp4 t4 ⊢
    refine ⟨_, rfl, _, rfl, (by show 1 ≤ sizeLine; decide), fun q5 n5 => ?_⟩
    have y5 := smu (o := HO.tup [vb]) n5
    obtain ⟨c5, m5⟩ := ct_new (p := p) (o := HO.tup [vb]) (by rw [hp4]; simp) n5 (fun ps z => by cases z)
    have hp5 := y5 _ _ hp4
    have t5 := t4.same y5
    generalize upd H4 q5 (HO.tup [vb]) = H5 at y5 c5 m5 hp5 t5 ⊢
    refine ⟨a, q5, _, _, rfl, rfl, (sqt_same ct_all (sqt_same (((((c1).trans c2).trans c3).trans c4).trans c5) hS0)), SqT.of (ct_all _ _ m5), lvs _, (fun z => absurd z nvs), (fun _ z => absurd z (List.cons_ne_nil _ _)), fun _ _ q6 n6 => ?_⟩
    have y6 := smu (o := HO.tup (vs ++ [vb])) n6
    obtain ⟨c6, m6⟩ := ct_new (p := p) (o := HO.tup (vs ++ [vb])) (by rw [hp5]; simp) n6 (fun ps z => by cases z)
    have hp6 := y6 _ _ hp5
    have t6 := t5.same y6
    generalize upd H5 q6 (HO.tup (vs ++ [vb])) = H6 at y6 c6 m6 hp6 t6 ⊢
    refine ⟨_, rfl, (by show 1 ≤ sizeLine; decide), fun q7 n7 => ?_⟩
    have y7 := smu (o := HO.tup [vb]) n7
    obtain ⟨c7, m7⟩ := ct_new (p := p) (o := HO.tup [vb]) (by rw [hp6]; simp) n7 (fun ps z => by cases z)
    have hp7 := y7 _ _ hp6
    have t7 := t6.same y7
    generalize upd H6 q7 (HO.tup [vb]) = H7 at y7 c7 m7 hp7 t7 ⊢
    refine ⟨_, rfl, q7, a, _, _, rfl, rfl, SqT.of (ct_all _ _ m7), (sqt_same ct_all (sqt_same (((((((c1).trans c2).trans c3).trans c4).trans c5).trans c6).trans c7) hS0)), lvs2 _, (fun z => absurd z (List.cons_ne_nil _ _)), (fun _ z => absurd z nvs), fun _ _ q8 n8 => ?_⟩
    have y8 := smu (o := HO.tup ([vb] ++ vs)) n8
    obtain ⟨c8, m8⟩ := ct_new (p := p) (o := HO.tup ([vb] ++ vs)) (by rw [hp7]; simp) n8 (fun ps z => by cases z)
    have hp8 := y8 _ _ hp7
    have t8 := t7.same y8
    generalize upd H7 q8 (HO.tup ([vb] ++ vs)) = H8 at y8 c8 m8 hp8 t8 ⊢
    refine ⟨(by show 9 ≤ sizeLine; decide), fun q9 n9 => ?_⟩
    have y9 := smu (o := HO.lst [V.ref q1, V.non, V.int 5, V.str "rows", V.ref q2, V.ref q4, V.ref q6, V.ref q8, V.bl true]) n9
    obtain ⟨c9, m9⟩ := ct_new (p := p) (o := HO.lst [V.ref q1, V.non, V.int 5, V.str "rows", V.ref q2, V.ref q4, V.ref q6, V.ref q8, V.bl true]) (by rw [hp8]; simp) n9 (fun ps z => by cases z)
    have hp9 := y9 _ _ hp8
    have t9 := t8.same y9
    generalize upd H8 q9 (HO.lst [V.ref q1, V.non, V.int 5, V.str "rows", V.ref q2, V.ref q4, V.ref q6, V.ref q8, V.bl true]) = H9 at y9 c9 m9 hp9 t9 ⊢
    refine ⟨_, rfl, _, rfl, _, rfl, _, rfl, a, vs, _, V.ref ra, rfl, rfl, (sqt_same ct_all (sqt_same (((((((((c1).trans c2).trans c3).trans c4).trans c5).trans c6).trans c7).trans c8).trans c9) hS0)), atI_nat (j := 0) hv0, (by show 1 ≤ sizeLine; decide), fun q10 n10 => ?_⟩
    have y10 := smu (o := HO.tup [V.int 0]) n10
    obtain ⟨c10, m10⟩ := ct_new (p := p) (o := HO.tup [V.int 0]) (by rw [hp9]; simp) n10 (fun ps z => by cases z)
    have hp10 := y10 _ _ hp9
    have t10 := t9.same y10
    generalize upd H9 q10 (HO.tup [V.int 0]) = H10 at y10 c10 m10 hp10 t10 ⊢
    refine ⟨ra, q10, _, _, rfl, rfl, (sqt_same ct_all (sqt_same ((((((((((c1).trans c2).trans c3).trans c4).trans c5).trans c6).trans c7).trans c8).trans c9).trans c10) hR0)), SqT.of (ct_all _ _ m10), lx0 _, (fun z => absurd z nx0), (fun _ z => absurd z (List.cons_ne_nil _ _)), fun _ _ q11 n11 => ?_⟩
    have y11 := smu (o := HO.tup (xs0 ++ [V.int 0])) n11
    obtain ⟨c11, m11⟩ := ct_new (p := p) (o := HO.tup (xs0 ++ [V.int 0])) (by rw [hp10]; simp) n11 (fun ps z => by cases z)
    have hp11 := y11 _ _ hp10
    have t11 := t10.same y11
    generalize upd H10 q11 (HO.tup (xs0 ++ [V.int 0])) = H11 at y11 c11 m11 hp11 t11 ⊢
    refine ⟨(by show 1 ≤ sizeLine; decide), fun q12 n12 => ?_⟩
    have y12 := smu (o := HO.tup [V.ref q11]) n12
    obtain ⟨c12, m12⟩ := ct_new (p := p) (o := HO.tup [V.ref q11]) (by rw [hp11]; simp) n12 (fun ps z => by cases z)
    have hp12 := y12 _ _ hp11
    have t12 := t11.same y12
    generalize upd H11 q12 (HO.tup [V.ref q11]) = H12 at y12 c12 m12 hp12 t12 ⊢
    refine ⟨a, q12, _, _, rfl, rfl, (sqt_same ct_all (sqt_same ((((((((((((c1).trans c2).trans c3).trans c4).trans c5).trans c6).trans c7).trans c8).trans c9).trans c10).trans c11).trans c12) hS0)), SqT.of (ct_all _ _ m12), lvs _, (fun z => absurd z nvs), (fun _ z => absurd z (List.cons_ne_nil _ _)), fun _ _ q13 n13 => ?_⟩
    have y13 := smu (o := HO.tup (vs ++ [V.ref q11])) n13
    obtain ⟨c13, m13⟩ := ct_new (p := p) (o := HO.tup (vs ++ [V.ref q11])) (by rw [hp12]; simp) n13 (fun ps z => by cases z)
    have hp13 := y13 _ _ hp12
    have t13 := t12.same y13
    generalize upd H12 q13 (HO.tup (vs ++ [V.ref q11])) = H13 at y13 c13 m13 hp13 t13 ⊢
    refine ⟨(by show 1 ≤ sizeLine; decide), fun q14 n14 => ?_⟩
    have y14 := smu (o := HO.lst [V.ref q13]) n14
    obtain ⟨c14, m14⟩ := ct_new (p := p) (o := HO.lst [V.ref q13]) (by rw [hp13]; simp) n14 (fun ps z => by cases z)
    have hp14 := y14 _ _ hp13
    have t14 := t13.same y14
    generalize upd H13 q14 (HO.lst [V.ref q13]) = H14 at y14 c14 m14 hp14 t14 ⊢
    refine ⟨_, rfl, a, vs, _, V.ref ra, rfl, rfl, (sqt_same ct_all (sqt_same ((((((((((((((c1).trans c2).trans c3).trans c4).trans c5).trans c6).trans c7).trans c8).trans c9).trans c10).trans c11).trans c12).trans c13).trans c14) hS0)), atI_nat (j := 0) hv0, ra, xs0, rfl, .inr (sqt_same ct_all (sqt_same ((((((((((((((c1).trans c2).trans c3).trans c4).trans c5).trans c6).trans c7).trans c8).trans c9).trans c10).trans c11).trans c12).trans c13).trans c14) hR0)), _, _, rfl, rfl, .inr ⟨_, rfl, _, _, _, rfl, rfl, ct_all _ _ m14, (by rw [kb]; decide), (by rw [kb]; decide), (by rw [kb]; show 1 * 1 ≤ sizeLine; decide), fun q15 n15 => ?_⟩⟩
    rw [kb, show (List.replicate (Int.toNat 1) [V.ref q13]).flatten = [V.ref q13] from rfl]
    have y15 := smu (o := HO.lst [V.ref q13]) n15
    obtain ⟨c15, m15⟩ := ct_new (p := p) (o := HO.lst [V.ref q13]) (by rw [hp14]; simp) n15 (fun ps z => by cases z)
    have hp15 := y15 _ _ hp14
    have t15 := t14.same y15
    generalize upd H14 q15 (HO.lst [V.ref q13]) = H15 at y15 c15 m15 hp15 t15 ⊢
    refine ⟨_, _, _, _, rfl, rfl, ct_all _ _ ((((((c10.trans c11).trans c12).trans c13).trans c14).trans c15) _ _ m9), ct_all _ _ m15, (by show 9 + 1 ≤ sizeLine; decide), fun q16 n16 => ?_⟩
    rw [show [V.ref q1, V.non, V.int 5, V.str "rows", V.ref q2, V.ref q4, V.ref q6, V.ref q8, V.bl true] ++ [V.ref q13] = [V.ref q1, V.non, V.int 5, V.str "rows", V.ref q2, V.ref q4, V.ref q6, V.ref q8, V.bl true, V.ref q13] from rfl]
    have y16 := smu (o := HO.lst [V.ref q1, V.non, V.int 5, V.str "rows", V.ref q2, V.ref q4, V.ref q6, V.ref q8, V.bl true, V.ref q13]) n16
    obtain ⟨c16, m16⟩ := ct_new (p := p) (o := HO.lst [V.ref q1, V.non, V.int 5, V.str "rows", V.ref q2, V.ref q4, V.ref q6, V.ref q8, V.bl true, V.ref q13]) (by rw [hp15]; simp) n16 (fun ps z => by cases z)
    have hp16 := y16 _ _ hp15
    have t16 := t15.same y16
    generalize upd H15 q16 (HO.lst [V.ref q1, V.non, V.int 5, V.str "rows", V.ref q2, V.ref q4, V.ref q6, V.ref q8, V.bl true, V.ref q13]) = H16 at y16 c16 m16 hp16 t16 ⊢
    refine ⟨p, q16, _, k + 1, rfl, t16, (by omega), (ne_of_none hp15 n16), SqL.of (ct_all _ _ m16), (by show 0 < 10; decide), (by show 10 < 1000000; decide), fun H' i x hx bH sH => ?_⟩
    have all : DtAll K (ct p H16) [V.ref q1, V.non, V.int 5, V.str "rows", V.ref q2, V.ref q4, V.ref q6, V.ref q8, V.bl true, V.ref q13] (menuLs rows db (.tuple (its r0))) := (.cons (.lst (SqL.of (((((((((((((((c2.trans c3).trans c4).trans c5).trans c6).trans c7).trans c8).trans c9).trans c10).trans c11).trans c12).trans c13).trans c14).trans c15).trans c16) _ _ m1)) (Dt.sameAll ((((((((((((((((c1).trans c2).trans c3).trans c4).trans c5).trans c6).trans c7).trans c8).trans c9).trans c10).trans c11).trans c12).trans c13).trans c14).trans c15).trans c16) _ _ hA0)) (.cons (.non) (.cons (.int _) (.cons (.str _) (.cons (.dic ((((((((((((((c3.trans c4).trans c5).trans c6).trans c7).trans c8).trans c9).trans c10).trans c11).trans c12).trans c13).trans c14).trans c15).trans c16) _ _ m2) .nil) (.cons (.tup (SqT.of ((((((((((((c5.trans c6).trans c7).trans c8).trans c9).trans c10).trans c11).trans c12).trans c13).trans c14).trans c15).trans c16) _ _ m4)) (dt_app (Dt.sameAll ((((((((((((((((c1).trans c2).trans c3).trans c4).trans c5).trans c6).trans c7).trans c8).trans c9).trans c10).trans c11).trans c12).trans c13).trans c14).trans c15).trans c16) _ _ hX0) (.cons (.int 1) .nil))) (.cons (.tup (SqT.of ((((((((((c7.trans c8).trans c9).trans c10).trans c11).trans c12).trans c13).trans c14).trans c15).trans c16) _ _ m6)) (dt_app (Dt.sameAll ((((((((((((((((c1).trans c2).trans c3).trans c4).trans c5).trans c6).trans c7).trans c8).trans c9).trans c10).trans c11).trans c12).trans c13).trans c14).trans c15).trans c16) _ _ hA0) (.cons (Dt.same ((((((((((((((((c1).trans c2).trans c3).trans c4).trans c5).trans c6).trans c7).trans c8).trans c9).trans c10).trans c11).trans c12).trans c13).trans c14).trans c15).trans c16) _ _ hb0) .nil))) (.cons (.tup (SqT.of ((((((((c9.trans c10).trans c11).trans c12).trans c13).trans c14).trans c15).trans c16) _ _ m8)) (dt_app (.cons (Dt.same ((((((((((((((((c1).trans c2).trans c3).trans c4).trans c5).trans c6).trans c7).trans c8).trans c9).trans c10).trans c11).trans c12).trans c13).trans c14).trans c15).trans c16) _ _ hb0) .nil) (Dt.sameAll ((((((((((((((((c1).trans c2).trans c3).trans c4).trans c5).trans c6).trans c7).trans c8).trans c9).trans c10).trans c11).trans c12).trans c13).trans c14).trans c15).trans c16) _ _ hA0))) (.cons (.bl _) (.cons (.tup (SqT.of (((c14.trans c15).trans c16) _ _ m13)) (dt_app (Dt.sameAll ((((((((((((((((c1).trans c2).trans c3).trans c4).trans c5).trans c6).trans c7).trans c8).trans c9).trans c10).trans c11).trans c12).trans c13).trans c14).trans c15).trans c16) _ _ hA0) (.cons (.tup (SqT.of (((((c12.trans c13).trans c14).trans c15).trans c16) _ _ m11)) (dt_app (Dt.sameAll ((((((((((((((((c1).trans c2).trans c3).trans c4).trans c5).trans c6).trans c7).trans c8).trans c9).trans c10).trans c11).trans c12).trans c13).trans c14).trans c15).trans c16) _ _ hX0) (.cons (.int 0) .nil))) .nil))) .nil))))))))))
    rw [← er] at all
    obtain ⟨d, e1, e2⟩ := dt_all_get all hx
    obtain ⟨o1, o2, o3, o4⟩ := menuLs_ok hm1 hm9 R mr0 mb d (List.mem_of_getElem? e1)
    have dx := Dt.same (ct_but bH) d _ e2
    obtain ⟨stE, hpE⟩ := sH.some
    refine ⟨_, rfl, (by show 0 ≤ sizeLine; decide), fun z nz => ?_⟩
    have sz := smu (o := .tup []) nz
    refine ⟨d, z, rfl, Dt.same (ct_all.trans sz) d _ dx, SqT.of upd_same, o4, _, rfl, iteT ⟨_, rfl, ?_⟩⟩
    have bA : But p H H16 := ((((((((((((((((b0).same y1).same y2).same y3).same y4).same y5).same y6).same y7).same y8).same y9).same y10).same y11).same y12).same y13).same y14).same y15).same y16
    exact fin _ x d ((bA.trans bH).same sz) (sH.same sz) (Dt.same (ct_sm sz) d _ dx) o1 o2 o3
end
end K02

/-! calls with keyword-only parameters; defs whose code object is known; _law_told of a lambda. -/
namespace Rp
open PySem PySem.Spec PyProof.Rows L2
/-- keyword-only defaults alone, all of them passed -/
theorem kbN {K : PySem.W.Frag} {x qual : Str} {params : Arguments} {body : List Stmt} {scope : Scope} {kws : List (Str × V)} {f : Addr} {fd : FuncData} {ps : List Str} (F : FunD K x qual params body scope [] kws f fd) (n : Nat) (ks : List Str)
    (h : ∀ (kV doc pm : Value) (an : Option Addr) (cdv ct : Value) (us ws : List Value), us.length = n → ws.length = ks.length → bindArgs (PySem.W.fnOf x qual params body scope .none kV doc pm an cdv ct) ⟨us, ks.zip ws⟩ = pure (ps.zip (us ++ ws))) :
    KBn K fd ps n ks (fun us ws => us ++ ws) (fun vs zs => vs ++ zs) := by
  obtain ⟨oc, od, dV, kV, doc, pm, an, cdv, ct, osl, rfl, lk, hcd, hD, hK⟩ := F.ex
  rcases hD with ⟨_, rfl⟩ | ⟨e, _⟩
  · exact ⟨fun s us ws _ l1 l2 => .of_eq (h kV doc pm an cdv ct us ws l1 l2), fun r1 r2 => r1.append r2⟩
  · exact absurd rfl e
/-- a def whose promise wants no repr around, its code object told -/
theorem okGC {P : Program} {w : World} {K : PySem.W.Frag} {mg : Str → Option Value} {base : Heap} {x qual : Str} {params : Arguments} {body : List Stmt} {scope : Scope} {dvs : List V} {kws : List (Str × V)} {p : He.Defn} {fd : FuncData} {CX : CXT} {N ps : List Str} {k : Nat} {sp : Sp}
    (F : FunD K x qual params body scope dvs kws (He.fAd K p) fd) (S : FnScope N ps scope) (len : ∀ vs H Q E, sp vs H Q E → vs.length = ps.length)
    (hb : ∀ (A : Around) (outer : List Env) (s : Shared) (H : Hp) (vs : List V) (Q : VK) (E : XK), Room k (A.deeper (envOfC qual scope s.heap.objs.size (He.fAd K p) (.ref (He.codeOf K p)))) → A.guards = some [] → sp vs H Q E →
      ∃ t, PSs (cxOf CX P w K mg base N qual scope (He.fAd K p) (.ref (He.codeOf K p)) A outer s H E) body t ∧ t { nx := fun _ H' => Q .non H', rt := Q } (start N vs) H) : FnG P w K mg base CX (k + 1) (He.fAd K p) fd ps sp := by
  obtain ⟨oc, od, dV, kV, doc, pm, an, cdv, ct, osl, rfl, lk, hcd, _, _⟩ := F.ex
  obtain ⟨c, rfl⟩ := He.codeIn_ref hcd
  have e : He.codeOf K p = c := He.codeOf_eq lk rfl
  rw [e] at hb
  exact fng_of lk hcd S len fun A outer s H vs Q E hr hg hsp => hb A outer s H vs Q E hr hg hsp
end Rp
namespace K02
open PySem PySem.Spec PyProof.Rows L2 Dr Ex Rp LamX
open He (ga ma)
/-- what a def that hands lambdas to _law_told stands in -/
structure Kit (X : Cx) (c P : Addr) (Tb : List (Addr × Str)) : Prop where
  ft : ∃ fd, FnP X.K "_law_told" sTold (ga X.K "_law_told") fd
  gt : X.mg "_law_told" = some (.ref (ga X.K "_law_told"))
  t : TG X.K X.mg
  m : EF X.K
  e : EM X.K
  hg : X.A.guards = some []
  hr : Room 6 X.A
  tb : TabB X.base X.mg c P
  hc : X.env.code = .ref c
  hm : (P, X.env.qual ++ "<lambda>") ∈ Tb
  hu : ∀ z ∈ Tb, z.1 = P → z.2 = X.env.qual ++ "<lambda>"
theorem pe_told {X : Cx} {c P : Addr} {Tb : List (Addr × Str)} (k : Kit X c P Tb) {params : Arguments} {body : Expr} {scope : Scope} {t : XK → TE} {p lpos pos : Pos} (hgl : Gl X "_law_told") (L : LamS X.env.scope scope) (hdef : defaultsOf params X.env = ([], []))
    (hbind : ∀ (q : Str) (cl : List (Str × Addr)) (pm cv ctv : Value), bindArgs (PySem.W.kla_fn "<lambda>" q params body scope cl pm cv ctv) ⟨[], []⟩ = pure [])
    (hbody : ∀ (A : Around) (outer : List Env) (s : Shared) (H : Hp) (E : XK) (f c' : Addr), Room 4 (A.deeper (lamEnv X scope s.heap.objs.size f c')) → PE (lamCx X A outer s H E scope f c') body (t E)) :
    PE X (.Call (.Name "_law_told" p) [.Lambda params body scope lpos] [] pos) (tLam Tb (TTold3 X.K) t) := by
  obtain ⟨fd, F⟩ := k.ft
  have kp := F.kp
  have bn : L2.Binds X.K fd ["_law_call"] [] := F.bindsN fun _ _ _ _ _ _ us hl => match us, hl with | [_], _ => rfl
  obtain ⟨oc, od, dV, kV, doc, pm, an, cdv, ct, osl, rfl, lk, hcd, _, _⟩ := F.ex
  exact pe_lamcall (k := 4) (Ng := nTold) (a := "_law_call") hgl k.gt kp lk hcd bn scTold rfl (.inl rfl) (told_gives3 k.t k.m k.e k.hg (k.hr.mono (by decide))) k.tb k.hc k.hm k.hu k.hr L hdef hbind hbody
/-- what else is called in the lambdas -/
structure Fns2 (K : PySem.W.Frag) (mg : Str → Option Value) : Prop where
  b : Fns K mg
  gb : mg "before" = some (.ref (ga K "before"))
  gs : mg "sorted_rows" = some (.ref (ga K "sorted_rows"))
  gp : mg "place_of" = some (.ref (ga K "place_of"))
  gi : mg "is_row" = some (.ref (ga K "is_row"))
  fb : ∃ fd, FnK K "before" sBefore (ga K "before") fd
  fs : ∃ fd, FnK K "sorted_rows" sSorted (ga K "sorted_rows") fd
  fp : ∃ fd, FnK K "place_of" sPlace (ga K "place_of") fd
  fi : ∃ fd, FnP K "is_row" sIsRow (ga K "is_row") fd
  fN : ∃ fd, FnM K "InvalidNumber.__init__" iN (ma K (ga K "InvalidNumber") "__init__") fd
  eb : ∀ H, SqT K H (Hx.kwA "before" "down" K) []
  es : ∀ H, SqT K H (Hx.kwA "sorted_rows" "down" K) []
  ep : ∀ H, SqT K H (Hx.kwA "place_of" "down" K) []
section
variable {K : PySem.W.Frag} {fd : FuncData}
theorem kb_before (F : FnK K "before" sBefore (ga K "before") fd) : KBn K fd ["row", "other", "down"] 2 ["down"] (fun us ws => us ++ ws) (fun vs zs => vs ++ zs) :=
  kbN F 2 ["down"] fun kV doc pm an cdv ct us ws l1 l2 => match us, ws, l1, l2 with | [_, _], [_], _, _ => rfl
theorem kb_sorted (F : FnK K "sorted_rows" sSorted (ga K "sorted_rows") fd) : KBn K fd ["rows", "down"] 1 ["down"] (fun us ws => us ++ ws) (fun vs zs => vs ++ zs) :=
  kbN F 1 ["down"] fun kV doc pm an cdv ct us ws l1 l2 => match us, ws, l1, l2 with | [_], [_], _, _ => rfl
theorem kb_place (F : FnK K "place_of" sPlace (ga K "place_of") fd) : KBn K fd ["rows", "row", "down"] 2 ["down"] (fun us ws => us ++ ws) (fun vs zs => vs ++ zs) :=
  kbN F 2 ["down"] fun kV doc pm an cdv ct us ws l1 l2 => match us, ws, l1, l2 with | [_, _], [_], _, _ => rfl
theorem b0_before (F : FnK K "before" sBefore (ga K "before") fd) : ∃ ds, Vals [V.ref (Hx.kwA "before" "down" K)] ds ∧ Binds K fd ["row", "other", "down"] ds :=
  F.binds0 2 (List.cons_ne_nil _ _) rfl fun D doc pm an cdv ct us ks l1 l2 => match us, ks, l1, l2 with | [_, _], [_], _, _ => ⟨_, _, _, _, _, _, rfl, rfl, rfl⟩
theorem b0_sorted (F : FnK K "sorted_rows" sSorted (ga K "sorted_rows") fd) : ∃ ds, Vals [V.ref (Hx.kwA "sorted_rows" "down" K)] ds ∧ Binds K fd ["rows", "down"] ds :=
  F.binds0 1 (List.cons_ne_nil _ _) rfl fun D doc pm an cdv ct us ks l1 l2 => match us, ks, l1, l2 with | [_], [_], _, _ => ⟨_, _, _, _, _, _, rfl, rfl, rfl⟩
theorem b0_place (F : FnK K "place_of" sPlace (ga K "place_of") fd) : ∃ ds, Vals [V.ref (Hx.kwA "place_of" "down" K)] ds ∧ Binds K fd ["rows", "row", "down"] ds :=
  F.binds0 2 (List.cons_ne_nil _ _) rfl fun D doc pm an cdv ct us ks l1 l2 => match us, ks, l1, l2 with | [_, _], [_], _, _ => ⟨_, _, _, _, _, _, rfl, rfl, rfl⟩
end
end K02

/-! the rows that the law makes, and what the package says of them. -/
namespace Tp
open PySem PySem.Spec PyProof.Rows L2 Rp
/-- t + u, wherever the sum stands -/
def rCatB (K : PySem.W.Frag) : R2 := fun x y H Q => ∃ a b xs ys, x = .ref a ∧ y = .ref b ∧ SqT K H a xs ∧ SqT K H b ys ∧ xs.length + ys.length ≤ 1000 ∧ ∀ H' p, Same H H' → SqT K H' p (xs ++ ys) → Q (.ref p) H'
theorem op_catB {X : Cx} : OpR X (binaryOp .Add) (rCatB X.K) := by
  intro pins s σ H x y v u Q I rx ry h
  obtain ⟨a, b, xs, ys, rfl, rfl, ha, hb, hz, q⟩ := h
  refine op_catA pins s σ H _ _ v u Q I rx ry ⟨a, b, xs, ys, rfl, rfl, ha, hb, by rw [sizeLine_eq]; omega, fun e => ?_, fun _ e => ?_, fun _ _ p np => q _ p (smu np) (SqT.of upd_same)⟩
  · subst e
    exact q H b (Same.refl H) hb
  · subst e
    refine q H a (Same.refl H) ?_
    rw [List.append_nil]
    exact ha
/-- t[lo:hi], wherever it stands -/
def rSlB (K : PySem.W.Frag) : V → Option Int → Option Int → Hp → VK → Prop := fun x lo hi H Q => ∃ a xs, x = .ref a ∧ SqT K H a xs ∧ ∀ H' p, Same H H' → SqT K H' p (cutV xs lo hi) → Q (.ref p) H'
theorem sl_tupB {X : Cx} : SlR X (rSlB X.K) := by
  intro pins s σ H x v vl vu lo hi sl Q I rx hs pl pu h
  obtain ⟨a, xs, rfl, hx, q⟩ := h
  refine sl_tupA pins s σ H _ v vl vu lo hi sl Q I rx hs pl pu ⟨a, xs, rfl, hx, fun e => ?_, fun _ p np => q _ p (smu np) (SqT.of upd_same)⟩
  refine q H a (Same.refl H) ?_
  have z : cutV xs lo hi = xs := by
    unfold cutV
    rw [e.1, e.2, List.drop_zero, Nat.sub_zero, List.take_length]
  rw [z]
  exact hx
end Tp
namespace K02
open PySem PySem.Spec PyProof.Rows L2 Dr Ex Rp
open He (ga ma)
/-- the i-th of the rows, of m + 1 integers -/
def rowD (m i : Nat) : PyData := .tuple (.int (i : Int) :: List.replicate m (.int 0))
def linesL (m n : Nat) : List PyData := (List.range n).map (rowD m)
def lineD (m : Nat) : PyData := .tuple (.int 2 :: List.replicate m (.int 1))
def otherD (m : Nat) : PyData := .tuple (List.replicate (m + 1) (.int 0))
def turnedD (d : Nat) : PyData := .tuple ((List.range d).map fun (i : Nat) => PyData.int (1 + (i : Int)))
def mixedL (m n : Nat) : List PyData := linesL m n ++ (linesL m n).take 1
def backL (m n : Nat) : List PyData := linesL m n ++ (linesL m n).reverse
def fact1 (m d n : Nat) : Bool :=
  rowsOk (.tuple (linesL m n)) && (rowsOk (.tuple [lineD m, otherD m]) && (rowsOk (.tuple ((linesL m n).take 1 ++ [lineD m])) && (rowsOk (.tuple (mixedL m n)) && (rowsOk (.tuple ((mixedL m n).take 1 ++ [lineD m])) &&
  (rowsOk (.tuple (backL m n)) && (rowsOk (.tuple ((backL m n).take 1 ++ [lineD m])) && (downOk (turnedD d) && (ascL (keys (turnedD d) (.tuple (linesL m n))) && (!ascL (keys (turnedD d) (.tuple (mixedL m n))) && !ascL (keys (.tuple []) (.tuple (backL m n))))))))))))
def rowFact (m : Nat) (r : PyData) : Bool := areI r && (decide ((its r).length = m + 1) && (r.showable && (decide (r.depth ≤ 1) && (decide (r.shown.length ≤ 120) && (its r).all fun x => x.showable && (decide (x.depth ≤ 0) && decide (x.shown.length ≤ 10))))))
def fact2 (m n : Nat) : Bool := (linesL m n).all (rowFact m) && rowFact m (lineD m)
theorem facts1 : ((List.range 9).all fun m => (List.range 9).all fun d => (List.range 4).all fun n => fact1 m d (n + 1)) = true := by decide +kernel
theorem facts2 : ((List.range 9).all fun m => (List.range 4).all fun n => fact2 m (n + 1)) = true := by decide +kernel
structure Fact1 (m d n : Nat) : Prop where
  rl : rowsOk (.tuple (linesL m n)) = true
  lo : rowsOk (.tuple [lineD m, otherD m]) = true
  ll : rowsOk (.tuple ((linesL m n).take 1 ++ [lineD m])) = true
  rm : rowsOk (.tuple (mixedL m n)) = true
  ml : rowsOk (.tuple ((mixedL m n).take 1 ++ [lineD m])) = true
  rb : rowsOk (.tuple (backL m n)) = true
  bl : rowsOk (.tuple ((backL m n).take 1 ++ [lineD m])) = true
  dt : downOk (turnedD d) = true
  al : ascL (keys (turnedD d) (.tuple (linesL m n))) = true
  am : ascL (keys (turnedD d) (.tuple (mixedL m n))) = false
  ab : ascL (keys (.tuple []) (.tuple (backL m n))) = false
theorem fact1_ok {m d n : Nat} (hm : m < 9) (hd : d < 9) (h1 : 1 ≤ n) (h4 : n ≤ 4) : Fact1 m d n := by
  have z := List.all_eq_true.mp (List.all_eq_true.mp (List.all_eq_true.mp facts1 m (List.mem_range.mpr hm)) d (List.mem_range.mpr hd)) (n - 1) (List.mem_range.mpr (by omega))
  rw [show n - 1 + 1 = n by omega] at z
  unfold fact1 at z
  simp only [Bool.and_eq_true, Bool.not_eq_true'] at z
  obtain ⟨a1, a2, a3, a4, a5, a6, a7, a8, a9, a10, a11⟩ := z
  exact ⟨a1, a2, a3, a4, a5, a6, a7, a8, a9, a10, a11⟩
theorem rows_of {m n : Nat} (hm : m < 9) (h1 : 1 ≤ n) (h4 : n ≤ 4) : Rows ((m : Int) + 1) (linesL m n) := by
  have z := List.all_eq_true.mp (List.all_eq_true.mp facts2 m (List.mem_range.mpr hm)) (n - 1) (List.mem_range.mpr (by omega))
  rw [show n - 1 + 1 = n by omega] at z
  unfold fact2 at z
  rw [Bool.and_eq_true] at z
  have l : (linesL m n).length = n := by
    unfold linesL
    rw [List.length_map, List.length_range]
  refine ⟨by omega, by omega, fun r hr => ?_⟩
  have q := List.all_eq_true.mp z.1 r hr
  unfold rowFact at q
  simp only [Bool.and_eq_true, decide_eq_true_eq, List.all_eq_true] at q
  obtain ⟨b1, b2, b3, b4, b5, b6⟩ := q
  exact ⟨b1, by rw [b2]; omega, ⟨b3, b4, b5⟩, fun x hx => b6 x hx⟩
theorem line_len (m : Nat) : (its (lineD m)).length = m + 1 := by
  show (List.replicate m _).length + 1 = m + 1
  rw [List.length_replicate]
/-- what is not one of the rows, behind one of them -/
theorem no_second {m : Nat} {x nd : PyData} {ds : List PyData} (hx : x ∈ ds) (hl : (its x).length = m + 1) (hn : NoRow ((m : Int) + 1) nd) (h : nd ∈ ds) : rowsOk (.tuple ds) = false :=
  rows_bad hx h fun e z => hn e (by rw [z, hl]; rfl)
theorem not_rows {x : PyData} {ds : List PyData} (hx : x ∈ ds) (h : areI x = false) : rowsOk (.tuple ds) = false := by
  show (ds.all areI && _) = false
  cases e : ds.all areI with
  | false => rfl
  | true =>
    have z := List.all_eq_true.mp e x hx
    rw [h] at z
    cases z
theorem row_len {m n : Nat} {r : PyData} (h : r ∈ linesL m n) : (its r).length = m + 1 := by
  unfold linesL at h
  obtain ⟨i, _, rfl⟩ := List.mem_map.mp h
  show (List.replicate m _).length + 1 = m + 1
  rw [List.length_replicate]
theorem first_mem {m n : Nat} (h1 : 1 ≤ n) : ∃ r, r ∈ (linesL m n).take 1 ∧ r ∈ linesL m n := by
  cases e : linesL m n with
  | nil =>
    have l : (linesL m n).length = n := by
      unfold linesL
      rw [List.length_map, List.length_range]
    rw [e] at l
    simp at l
    omega
  | cons r q => exact ⟨r, List.mem_cons_self, List.mem_cons_self⟩
theorem take_mixed (m n : Nat) (h1 : 1 ≤ n) : (mixedL m n).take 1 = (linesL m n).take 1 := by
  obtain ⟨r, _, h⟩ := first_mem (m := m) h1
  unfold mixedL
  cases e : linesL m n with
  | nil =>
    rw [e] at h
    cases h
  | cons x q => rfl
/-! ### heaps in which the data stays -/
theorem same_ext {p : Addr} {A B C : Hp} (s : Same (ct p A) B) (e : LamX.ExtN B C) : Same (ct p A) C := fun b o h => e b o (s b o h) (ct_of h).2.2
theorem same_put {A B : Hp} {D : Addr} {o : HO} (s : Same A B) (f : A D = none) : Same A (upd B D o) := fun b u h => by
  rw [upd_ne (fun z => by rw [z, f] at h; cases h)]
  exact s b u h
theorem same_free {A B : Hp} {D : Addr} (s : Same A B) (f : B D = none) : A D = none := s.free f
theorem ext_lst {B C : Hp} {q : Addr} {xs : List V} (e : LamX.ExtN B C) (h : B q = some (.lst xs)) : C q = some (.lst xs) := e _ _ h (fun ps z => by cases z)
theorem ct_mid {p : Addr} {A B : Hp} (s : Same (ct p A) B) : Same (ct p A) (ct p B) := fun b o h => ct_at (s b o h) (ct_of h).1 (ct_of h).2.2
end K02

/-! _law_right. -/
namespace K02
open PySem PySem.Spec PyProof.Rows L2 Dr Ex Rp LamX
open He (ga ma)
def spRight (K : PySem.W.Frag) (Tb : List (Addr × Str)) : Sp := fun vs H Q _ => ∃ (p : Addr) (k : Nat), vs = [.ref p] ∧ StrAt H p k ∧ k ≤ 70000 ∧ Tabs Tb H ∧
  ∀ H', Same (ct p H) (ct p H') → StrAt H' p (k + 7) → Tabs Tb H' → Q (.bl true) H'
abbrev nRight : List Str := ["_law_stream_here", "_law_much", "_law_lines", "_law_line", "_law_other", "_law_turned", "_law_bad", "_law_none", "_law_nones", "_law_kept", "_law_found", "_law_mixed", "_law_at"]
theorem scRight : FnScope nRight ["_law_stream_here"] (defScope sRight) := ⟨rfl, rfl, rfl, by decide +kernel, rfl, by decide +kernel, by decide +kernel⟩
/-- what the lambdas of _law_right are called -/
def qR : Str := (envOfC "_law_right" (defScope sRight) 0 0 .none).qual ++ "<lambda>"
theorem lam_by {env : Env} {sc scope : Scope} (e : env.scope = sc) (h : lamSB sc scope = true) : LamS env.scope scope := by
  rw [e]
  exact lamS_by h
/-- the defs of the law below _law_right -/
structure Fns3 (K : PySem.W.Frag) (mg : Str → Option Value) : Prop where
  a : Fns2 K mg
  gw : mg "_law_draw" = some (.ref (ga K "_law_draw"))
  gp : mg "_law_pick" = some (.ref (ga K "_law_pick"))
  gt : mg "_law_told" = some (.ref (ga K "_law_told"))
  gn : mg "_law_no_line" = some (.ref (ga K "_law_no_line"))
  gu : mg "_law_no_turned" = some (.ref (ga K "_law_no_turned"))
  gl : mg "_law_no_lines" = some (.ref (ga K "_law_no_lines"))
  fw : ∃ fd, FnP K "_law_draw" sDraw (ga K "_law_draw") fd
  fp : ∃ fd, FnP K "_law_pick" sPick (ga K "_law_pick") fd
  ft : ∃ fd, FnP K "_law_told" sTold (ga K "_law_told") fd
  fn : ∃ fd, FnP K "_law_no_line" sNoLine (ga K "_law_no_line") fd
  fu : ∃ fd, FnP K "_law_no_turned" sNoTurned (ga K "_law_no_turned") fd
  fl : ∃ fd, FnP K "_law_no_lines" sNoLines (ga K "_law_no_lines") fd
theorem tup_inv {K : PySem.W.Frag} {H : Hp} {a : Addr} {ds : List PyData} (h : Dt K H (.ref a) (.tuple ds)) : ∃ xs, SqT K H a xs ∧ DtAll K H xs ds := by
  cases h with
  | tup h1 h2 => exact ⟨_, h1, h2⟩
theorem dt_len {K : PySem.W.Frag} {H : Hp} : ∀ {xs : List V} {ds : List PyData}, DtAll K H xs ds → xs.length = ds.length
  | _, _, .nil => rfl
  | _, _, .cons _ h => congrArg (· + 1) (dt_len h)
theorem dt_rev {K : PySem.W.Frag} {H : Hp} : ∀ {xs : List V} {ds : List PyData}, DtAll K H xs ds → DtAll K H xs.reverse ds.reverse
  | _, _, .nil => .nil
  | _, _, .cons a h => by
    rw [List.reverse_cons, List.reverse_cons]
    exact dt_app (dt_rev h) (.cons a .nil)
theorem cut00 (xs : List V) : cutV xs none (some 0) = [] := by
  unfold cutV
  rw [show HT.sIx xs.length xs.length (some 0) = min 0 xs.length from HT.sIx_nat _ _ 0, Nat.zero_min, Nat.zero_sub]
  rfl
theorem str_of {A B : Hp} {p : Addr} {k : Nat} {o : HO} (h : StrAt A p k) (ha : A p = some o) (hb : B p = some o) : StrAt B p k := h.keep fun u hu => by rw [hb, ← ha, hu]
theorem outRow {K : PySem.W.Frag} {Q : VK} {H : Hp} (h : Q (.str "row") H) : OutK K Q (.ref (ga K "InvalidRow")) none H := .inl ⟨rfl, h⟩
theorem outOp {K : PySem.W.Frag} {Q : VK} {H : Hp} (h : Q (.str "operation") H) : OutK K Q (.ref (ga K "InvalidOperation")) none H := .inr (.inl ⟨rfl, h⟩)
section
variable {P : Program} {w : World} {K : PySem.W.Frag} {mg : Str → Option Value} {base : Heap}
theorem ok_right {Tb : List (Addr × Str)} {fd : FuncData} (F : FnP K "_law_right" sRight (ga K "_law_right") fd) (B : Fns3 K mg) (T : TG K mg) (M : EF K) (E9 : EM K) (TB : TabB base mg (He.codeOf K ("_law_right", none)) (He.tabOf K (He.codeOf K ("_law_right", none))))
    (hm : (He.tabOf K (He.codeOf K ("_law_right", none)), qR) ∈ Tb) (hu : ∀ z ∈ Tb, z.1 = He.tabOf K (He.codeOf K ("_law_right", none)) → z.2 = qR) : FnG P w K mg base CX0 7 (ga K "_law_right") fd ["_law_stream_here"] (spRight K Tb) := by
  obtain ⟨dw, FW⟩ := B.fw
  obtain ⟨dp, FP⟩ := B.fp
  obtain ⟨dn, FN⟩ := B.fn
  obtain ⟨du, FU⟩ := B.fu
  obtain ⟨dl, FL⟩ := B.fl
  obtain ⟨eb, FB⟩ := B.a.fb
  obtain ⟨es, FS⟩ := B.a.fs
  obtain ⟨ep, FQ⟩ := B.a.fp
  have tr := T.f "range" (by decide +kernel)
  have tt := T.f "tuple" (by decide +kernel)
  have te := T.f "repr" (by decide +kernel)
  have GW : FnOk P w K mg base CX0 1 _ dw ["_law_stream_here", "_law_high"] spDraw := ok_draw FW T
  have bW : Binds K dw ["_law_stream_here", "_law_high"] [] := FW.bindsN fun _ _ _ _ _ _ us hl => match us, hl with | [_, _], _ => rfl
  have GN : FnOk P w K mg base CX0 3 _ dn ["_law_stream_here", "_law_much"] (spNoLine K) := ok_noLine FN FW FP T B.gw B.gp
  have bN : Binds K dn ["_law_stream_here", "_law_much"] [] := FN.bindsN fun _ _ _ _ _ _ us hl => match us, hl with | [_, _], _ => rfl
  have GU : FnOk P w K mg base CX0 3 _ du ["_law_stream_here"] (spNoTurned K) := ok_noTurned FU FW FP T B.gw B.gp
  have bU : Binds K du ["_law_stream_here"] [] := FU.bindsN fun _ _ _ _ _ _ us hl => match us, hl with | [_], _ => rfl
  have GL : FnOk P w K mg base CX0 4 _ dl ["_law_stream_here", "_law_lines"] (spNoLines K) := ok_noLines FL FW FP FN T B.gw B.gp B.gn
  have bL : Binds K dl ["_law_stream_here", "_law_lines"] [] := FL.bindsN fun _ _ _ _ _ _ us hl => match us, hl with | [_, _], _ => rfl
  have GB : FnOk P w K mg base (L2.CX P w) 4 _ eb ["row", "other", "down"] (spBefore K) := ok_before FB B.a.b T M
  have GS : FnOk P w K mg base (L2.CX P w) 4 _ es ["rows", "down"] (spSorted K) := ok_sorted FS B.a.b T M
  have GQ : FnOk P w K mg base (L2.CX P w) 4 _ ep ["rows", "row", "down"] (spPlace K) := ok_place FQ B.a.b T M
  have kB := kb_before FB
  have kS := kb_sorted FS
  have kQ := kb_place FQ
  obtain ⟨vB, rB, cB⟩ := b0_before FB
  obtain ⟨vQ, rQ, cQ⟩ := b0_place FQ
  refine okGC (p := ("_law_right", none)) F scRight (fun vs H Q E h => ?_) (fun A outer s H vs Q E hr hg h => ?_)
  · obtain ⟨p, k, rfl, _⟩ := h
    rfl
  · obtain ⟨p, k, rfl, hS, hk, hT, fin⟩ := h
    have hr1 : Room 1 (A.deeper (envOfC "_law_right" (defScope sRight) s.heap.objs.size (ga K "_law_right") (.ref (He.codeOf K ("_law_right", none))))) := hr.mono (by decide)
    have hr3 : Room 3 (A.deeper (envOfC "_law_right" (defScope sRight) s.heap.objs.size (ga K "_law_right") (.ref (He.codeOf K ("_law_right", none))))) := hr.mono (by decide)
    have hr4 : Room 4 (A.deeper (envOfC "_law_right" (defScope sRight) s.heap.objs.size (ga K "_law_right") (.ref (He.codeOf K ("_law_right", none))))) := hr.mono (by decide)
    have kit : Kit (cxOf CX0 P w K mg base nRight "_law_right" (defScope sRight) (ga K "_law_right") (.ref (He.codeOf K ("_law_right", none))) A outer s H E).nox (He.codeOf K ("_law_right", none)) (He.tabOf K (He.codeOf K ("_law_right", none))) Tb :=
      ⟨B.ft, B.gt, T, M, E9, hg, hr, TB, rfl, hm, hu⟩
    refine ⟨_, PSs.nox (pss_cons (ps_set (i := 1) scRight.nd rfl (Or.inr rfl) (pe_op op_add pe_int (pe_call GW hr1 rfl B.gw FW.kp bW .nil pass0 (pa_cons (pv 0) (pa_cons pe_int pa_nil)))))
      (pss_cons (ps_set (i := 2) scRight.nd rfl (Or.inr rfl) (pe_callTy call_tuple_of (by rfl) tt (by decide +kernel) (pa_cons (pe_lc (own := [("_law_at", 12)]) (g := gName 12) (tt := tYes) rfl scRight.nd (pi_range1 rfl tr (pa_cons (pe_op op_add pe_int (pe_call GW hr1 rfl B.gw FW.kp bW .nil pass0 (pa_cons (pv 0) (pa_cons pe_int pa_nil)))) pa_nil)) (blkOk_by (own := [("_law_at", 12)]) (N := nRight) (sc := defScope sRight) (by decide +kernel)) (fun _ _ _ _ _ => pg_name (i := 12) scRight.nd rfl (Or.inl rfl)) (fun _ _ _ _ _ => pts_nil) (fun _ _ _ _ _ => (pe_op (show OpR _ _ (Tp.rCatB K) from Tp.op_catB) (pe_tup (pa_cons (pv 12) pa_nil)) (pe_op (show OpR _ _ (Tp.rRepA K) from Tp.op_repA) (pe_tup (pa_cons pe_int pa_nil)) (pe_op op_sub (pv 1) pe_int))))) pa_nil)))
      (pss_cons (ps_asg (pe_tup (pa_cons (pe_op (show OpR _ _ (Tp.rCatB K) from Tp.op_catB) (pe_tup (pa_cons pe_int pa_nil)) (pe_op (show OpR _ _ (Tp.rRepA K) from Tp.op_repA) (pe_tup (pa_cons pe_int pa_nil)) (pe_op op_sub (pv 1) pe_int))) (pa_cons (pe_op (show OpR _ _ (Tp.rRepA K) from Tp.op_repA) (pe_tup (pa_cons pe_int pa_nil)) (pv 1)) pa_nil))) (pg_tup (by rfl) (pgs_cons (pg_name (i := 3) scRight.nd rfl (Or.inr rfl)) (pgs_cons (pg_name (i := 4) scRight.nd rfl (Or.inr rfl)) pgs_nil))))
      (pss_cons (ps_asg (pe_tup (pa_cons (pe_tupRg rfl rfl tt (prg_2 rfl tr pe_int (pe_op op_add pe_int (pe_call GW hr1 rfl B.gw FW.kp bW .nil pass0 (pa_cons (pv 0) (pa_cons pe_int pa_nil)))))) (pa_cons (pe_call GU hr3 rfl B.gu FU.kp bU .nil pass0 (pa_cons (pv 0) pa_nil)) pa_nil))) (pg_tup (by rfl) (pgs_cons (pg_name (i := 5) scRight.nd rfl (Or.inr rfl)) (pgs_cons (pg_name (i := 6) scRight.nd rfl (Or.inr rfl)) pgs_nil))))
      (pss_cons (ps_asg (pe_tup (pa_cons (pe_call GN hr3 rfl B.gn FN.kp bN .nil pass0 (pa_cons (pv 0) (pa_cons (pv 1) pa_nil))) (pa_cons (pe_call GL hr4 rfl B.gl FL.kp bL .nil pass0 (pa_cons (pv 0) (pa_cons (pv 2) pa_nil))) pa_nil))) (pg_tup (by rfl) (pgs_cons (pg_name (i := 7) scRight.nd rfl (Or.inr rfl)) (pgs_cons (pg_name (i := 8) scRight.nd rfl (Or.inr rfl)) pgs_nil))))
      (pss_cons (ps_set (i := 9) scRight.nd rfl (Or.inl rfl) (pe_callB (call_repr_any E9.sys hg hr.units) (by rfl) te (by decide +kernel) (pa_cons (pe_lst (pa_cons (pv 7) (pa_cons (pv 8) (pa_cons (pv 6) (pa_cons (pv 2) pa_nil))))) pa_nil)))
      (pss_cons (ps_set (i := 10) scRight.nd rfl (Or.inl rfl) (pe_lst (pa_cons (pe_told kit rfl (lam_by (sc := defScope sRight) rfl (by decide +kernel)) rfl (fun _ _ _ _ _ => rfl) (fun A outer s H E f c hr => (pe_callN GB hr rfl B.a.gb FB.kp kB (passes_call (E := E) (takes_of rfl rfl rfl rfl) (fun _ _ _ _ h => h)) (pa_cons (pv 3) (pa_cons (pv 7) pa_nil)) (pk_cons (pv 5) pk_nil)))) pa_nil)))
      (pss_cons (ps_expr (pe_bm PySem.F.plainAttrs_list PySem.F.slot_list_append PySem.F.type_list_append mt_append (pv 10) (pa_cons (pe_told kit rfl (lam_by (sc := defScope sRight) rfl (by decide +kernel)) rfl (fun _ _ _ _ _ => rfl) (fun A outer s H E f c hr => (pe_callN GB hr rfl B.a.gb FB.kp kB (passes_call (E := E) (takes_of rfl rfl rfl rfl) (fun _ _ _ _ h => h)) (pa_cons (pv 3) (pa_cons (pv 7) pa_nil)) (pk_cons (pv 6) pk_nil)))) pa_nil)))
      (pss_cons (ps_expr (pe_bm PySem.F.plainAttrs_list PySem.F.slot_list_append PySem.F.type_list_append mt_append (pv 10) (pa_cons (pe_told kit rfl (lam_by (sc := defScope sRight) rfl (by decide +kernel)) rfl (fun _ _ _ _ _ => rfl) (fun A outer s H E f c hr => (pe_callN GB hr rfl B.a.gb FB.kp kB (passes_call (E := E) (takes_of rfl rfl rfl rfl) (fun _ _ _ _ h => h)) (pa_cons (pe_lst (pa_cons pe_int pa_nil)) (pa_cons (pv 7) pa_nil)) (pk_cons (pv 6) pk_nil)))) pa_nil)))
      (pss_cons (ps_expr (pe_bm PySem.F.plainAttrs_list PySem.F.slot_list_append PySem.F.type_list_append mt_append (pv 10) (pa_cons (pe_told kit rfl (lam_by (sc := defScope sRight) rfl (by decide +kernel)) rfl (fun _ _ _ _ _ => rfl) (fun A outer s H E f c hr => (pe_call GB hr rfl B.a.gb FB.kp cB rB (passes_call (E := E) (takes_of rfl rfl rfl rfl) (fun _ _ _ _ h => h)) (pa_cons (pe_tup (pa_cons pe_bl pa_nil)) (pa_cons (pv 4) pa_nil))))) pa_nil)))
      (pss_cons (ps_expr (pe_bm PySem.F.plainAttrs_list PySem.F.slot_list_append PySem.F.type_list_append mt_append (pv 10) (pa_cons (pe_told kit rfl (lam_by (sc := defScope sRight) rfl (by decide +kernel)) rfl (fun _ _ _ _ _ => rfl) (fun A outer s H E f c hr => (pe_callN GB hr rfl B.a.gb FB.kp kB (passes_call (E := E) (takes_of rfl rfl rfl rfl) (fun _ _ _ _ h => h)) (pa_cons (pv 3) (pa_cons (pv 4) pa_nil)) (pk_cons (pv 6) pk_nil)))) pa_nil)))
      (pss_cons (ps_if (pt_cmpR (show OpR _ _ (rNeD K) from op_neD hr.units) (pv 10) (pe_op op_cat (pe_op op_rep (pe_lst (pa_cons pe_str pa_nil)) pe_int) (pe_lst (pa_cons pe_str pa_nil))) (nomark _)) (pss_one (ps_ret pe_bl)) pss_nil)
      (pss_cons (ps_set (i := 10) scRight.nd rfl (Or.inl rfl) (pe_lst (pa_cons (pe_told kit rfl (lam_by (sc := defScope sRight) rfl (by decide +kernel)) rfl (fun _ _ _ _ _ => rfl) (fun A outer s H E f c hr => (pe_callN GS hr rfl B.a.gs FS.kp kS (passes_call (E := E) (takes_of rfl rfl rfl rfl) (fun _ _ _ _ h => h)) (pa_cons (pv 8) pa_nil) (pk_cons (pv 5) pk_nil)))) pa_nil)))
      (pss_cons (ps_expr (pe_bm PySem.F.plainAttrs_list PySem.F.slot_list_append PySem.F.type_list_append mt_append (pv 10) (pa_cons (pe_told kit rfl (lam_by (sc := defScope sRight) rfl (by decide +kernel)) rfl (fun _ _ _ _ _ => rfl) (fun A outer s H E f c hr => (pe_callN GS hr rfl B.a.gs FS.kp kS (passes_call (E := E) (takes_of rfl rfl rfl rfl) (fun _ _ _ _ h => h)) (pa_cons (pv 8) pa_nil) (pk_cons (pv 6) pk_nil)))) pa_nil)))
      (pss_cons (ps_expr (pe_bm PySem.F.plainAttrs_list PySem.F.slot_list_append PySem.F.type_list_append mt_append (pv 10) (pa_cons (pe_told kit rfl (lam_by (sc := defScope sRight) rfl (by decide +kernel)) rfl (fun _ _ _ _ _ => rfl) (fun A outer s H E f c hr => (pe_callN GS hr rfl B.a.gs FS.kp kS (passes_call (E := E) (takes_of rfl rfl rfl rfl) (fun _ _ _ _ h => h)) (pa_cons (pv 2) pa_nil) (pk_cons (pv 6) pk_nil)))) pa_nil)))
      (pss_cons (ps_expr (pe_bm PySem.F.plainAttrs_list PySem.F.slot_list_append PySem.F.type_list_append mt_append (pv 10) (pa_cons (pe_told kit rfl (lam_by (sc := defScope sRight) rfl (by decide +kernel)) rfl (fun _ _ _ _ _ => rfl) (fun A outer s H E f c hr => (pe_callN GS hr rfl B.a.gs FS.kp kS (passes_call (E := E) (takes_of rfl rfl rfl rfl) (fun _ _ _ _ h => h)) (pa_cons (pe_tup pa_nil) pa_nil) (pk_cons (pv 6) pk_nil)))) pa_nil)))
      (pss_cons (ps_if (pt_cmpR (show OpR _ _ (rNeD K) from op_neD hr.units) (pv 10) (pe_op op_cat (pe_op op_rep (pe_lst (pa_cons pe_str pa_nil)) pe_int) (pe_op op_rep (pe_lst (pa_cons pe_str pa_nil)) pe_int)) (nomark _)) (pss_one (ps_ret pe_bl)) pss_nil)
      (pss_cons (ps_set (i := 11) scRight.nd rfl (Or.inr rfl) (pe_op (show OpR _ _ (Tp.rCatB K) from Tp.op_catB) (pv 2) (pe_slice (show SlR _ (Tp.rSlB K) from Tp.sl_tupB) (pv 2) po_none (po_some pe_int))))
      (pss_cons (ps_set (i := 10) scRight.nd rfl (Or.inl rfl) (pe_lst (pa_cons (pe_told kit rfl (lam_by (sc := defScope sRight) rfl (by decide +kernel)) rfl (fun _ _ _ _ _ => rfl) (fun A outer s H E f c hr => (pe_callN GQ hr rfl B.a.gp FQ.kp kQ (passes_call (E := E) (takes_of rfl rfl rfl rfl) (fun _ _ _ _ h => h)) (pa_cons (pv 8) (pa_cons (pv 7) pa_nil)) (pk_cons (pv 6) pk_nil)))) pa_nil)))
      (pss_cons (ps_expr (pe_bm PySem.F.plainAttrs_list PySem.F.slot_list_append PySem.F.type_list_append mt_append (pv 10) (pa_cons (pe_told kit rfl (lam_by (sc := defScope sRight) rfl (by decide +kernel)) rfl (fun _ _ _ _ _ => rfl) (fun A outer s H E f c hr => (pe_call GQ hr rfl B.a.gp FQ.kp cQ rQ (passes_call (E := E) (takes_of rfl rfl rfl rfl) (fun _ _ _ _ h => h)) (pa_cons (pv 8) (pa_cons (pv 3) pa_nil))))) pa_nil)))
      (pss_cons (ps_expr (pe_bm PySem.F.plainAttrs_list PySem.F.slot_list_append PySem.F.type_list_append mt_append (pv 10) (pa_cons (pe_told kit rfl (lam_by (sc := defScope sRight) rfl (by decide +kernel)) rfl (fun _ _ _ _ _ => rfl) (fun A outer s H E f c hr => (pe_callN GQ hr rfl B.a.gp FQ.kp kQ (passes_call (E := E) (takes_of rfl rfl rfl rfl) (fun _ _ _ _ h => h)) (pa_cons (pv 2) (pa_cons (pv 7) pa_nil)) (pk_cons (pv 6) pk_nil)))) pa_nil)))
      (pss_cons (ps_expr (pe_bm PySem.F.plainAttrs_list PySem.F.slot_list_append PySem.F.type_list_append mt_append (pv 10) (pa_cons (pe_told kit rfl (lam_by (sc := defScope sRight) rfl (by decide +kernel)) rfl (fun _ _ _ _ _ => rfl) (fun A outer s H E f c hr => (pe_call GQ hr rfl B.a.gp FQ.kp cQ rQ (passes_call (E := E) (takes_of rfl rfl rfl rfl) (fun _ _ _ _ h => h)) (pa_cons (pv 11) (pa_cons (pv 7) pa_nil))))) pa_nil)))
      (pss_cons (ps_expr (pe_bm PySem.F.plainAttrs_list PySem.F.slot_list_append PySem.F.type_list_append mt_append (pv 10) (pa_cons (pe_told kit rfl (lam_by (sc := defScope sRight) rfl (by decide +kernel)) rfl (fun _ _ _ _ _ => rfl) (fun A outer s H E f c hr => (pe_callN GQ hr rfl B.a.gp FQ.kp kQ (passes_call (E := E) (takes_of rfl rfl rfl rfl) (fun _ _ _ _ h => h)) (pa_cons (pv 11) (pa_cons (pv 3) pa_nil)) (pk_cons (pv 6) pk_nil)))) pa_nil)))
      (pss_cons (ps_expr (pe_bm PySem.F.plainAttrs_list PySem.F.slot_list_append PySem.F.type_list_append mt_append (pv 10) (pa_cons (pe_told kit rfl (lam_by (sc := defScope sRight) rfl (by decide +kernel)) rfl (fun _ _ _ _ _ => rfl) (fun A outer s H E f c hr => (pe_callN GQ hr rfl B.a.gp FQ.kp kQ (passes_call (E := E) (takes_of rfl rfl rfl rfl) (fun _ _ _ _ h => h)) (pa_cons (pv 11) (pa_cons (pv 3) pa_nil)) (pk_cons (pv 5) pk_nil)))) pa_nil)))
      (pss_cons (ps_expr (pe_bm PySem.F.plainAttrs_list PySem.F.slot_list_append PySem.F.type_list_append mt_append (pv 10) (pa_cons (pe_told kit rfl (lam_by (sc := defScope sRight) rfl (by decide +kernel)) rfl (fun _ _ _ _ _ => rfl) (fun A outer s H E f c hr => (pe_call GQ hr rfl B.a.gp FQ.kp cQ rQ (passes_call (E := E) (takes_of rfl rfl rfl rfl) (fun _ _ _ _ h => h)) (pa_cons (pe_op (show OpR _ _ (Tp.rCatB K) from Tp.op_catB) (pv 2) (show PE _ _ (Tp.tRevT K _) from Tp.pe_revT (pv 2))) (pa_cons (pv 3) pa_nil))))) pa_nil)))
      (pss_cons (ps_expr (pe_bm PySem.F.plainAttrs_list PySem.F.slot_list_append PySem.F.type_list_append mt_append (pv 10) (pa_cons (pe_told kit rfl (lam_by (sc := defScope sRight) rfl (by decide +kernel)) rfl (fun _ _ _ _ _ => rfl) (fun A outer s H E f c hr => (pe_call GQ hr rfl B.a.gp FQ.kp cQ rQ (passes_call (E := E) (takes_of rfl rfl rfl rfl) (fun _ _ _ _ h => h)) (pa_cons (pe_op (show OpR _ _ (Tp.rCatB K) from Tp.op_catB) (pe_op (show OpR _ _ (Tp.rCatB K) from Tp.op_catB) (pe_tup (pa_cons (pe_tup (pa_cons pe_int pa_nil)) pa_nil)) (pe_slice (show SlR _ (Tp.rSlB K) from Tp.sl_tupB) (pv 2) po_none (po_some pe_int))) (pe_tup (pa_cons (pe_tup (pa_cons pe_int pa_nil)) pa_nil))) (pa_cons (pe_tup (pa_cons pe_int pa_nil)) pa_nil))))) pa_nil)))
      (pss_cons (ps_expr (pe_bm PySem.F.plainAttrs_list PySem.F.slot_list_append PySem.F.type_list_append mt_append (pv 10) (pa_cons (pe_told kit rfl (lam_by (sc := defScope sRight) rfl (by decide +kernel)) rfl (fun _ _ _ _ _ => rfl) (fun A outer s H E f c hr => (pe_callN GQ hr rfl B.a.gp FQ.kp kQ (passes_call (E := E) (takes_of rfl rfl rfl rfl) (fun _ _ _ _ h => h)) (pa_cons (pe_tup (pa_cons (pe_tup (pa_cons pe_int pa_nil)) (pa_cons (pe_tup (pa_cons pe_int pa_nil)) pa_nil))) (pa_cons (pe_tup (pa_cons pe_int pa_nil)) pa_nil)) (pk_cons (pe_tup (pa_cons pe_int pa_nil)) pk_nil)))) pa_nil)))
      (pss_cons (ps_if (PW.pt (pw_or (pt_cmpR (show OpR _ _ (rNeD K) from op_neD hr.units) (pv 10) (pe_op op_cat (pe_op op_rep (pe_lst (pa_cons pe_str pa_nil)) pe_int) (pe_op op_rep (pe_lst (pa_cons pe_str pa_nil)) pe_int)) (nomark _)) (pw_or1 (pt_cmpR op_ne (pe_callB (call_repr_any E9.sys hg hr.units) (by rfl) te (by decide +kernel) (pa_cons (pe_lst (pa_cons (pv 7) (pa_cons (pv 8) (pa_cons (pv 6) (pa_cons (pv 2) pa_nil))))) pa_nil)) (pv 9) (nomark _))))) (pss_one (ps_ret pe_bl)) pss_nil)
      (pss_one (ps_ret (pe_cmpR op_eq (pe_told kit rfl (lam_by (sc := defScope sRight) rfl (by decide +kernel)) rfl (fun _ _ _ _ _ => rfl) (fun A outer s H E f c hr => (pe_callN GQ hr rfl B.a.gp FQ.kp kQ (passes_call (E := E) (takes_of rfl rfl rfl rfl) (fun _ _ _ _ h => h)) (pa_cons (pv 2) (pa_cons (pv 3) pa_nil)) (pk_cons (pv 5) pk_nil)))) pe_str (nomark _)))))))))))))))))))))))))))))))), ?_⟩
    obtain ⟨st0, hp0⟩ := hS.some
    refine ⟨_, rfl, p, 9, k, rfl, hS, by omega, by decide, by decide, fun H1 v v0 v1 b1 t1 => ⟨_, _, rfl, rfl, ?_⟩⟩
    obtain ⟨m, rfl⟩ : ∃ m : Nat, v = (m : Int) := ⟨v.toNat, by omega⟩
    have hm : m < 9 := by omega
    have T1 := tabs_but hT hp0 b1
    obtain ⟨st1, hp1⟩ := t1.some
    refine ⟨_, rfl, p, 4, k + 1, rfl, t1, by omega, by decide, by decide, fun H2 u u0 u1 b2 t2 => ⟨_, _, rfl, rfl, _, rfl, by omega, by omega, fun D0 nD0 => ?_⟩⟩
    have T2 := tabs_but T1 hp1 b2
    obtain ⟨st, hp2⟩ := t2.some
    have npD : p ≠ D0 := ne_of_none hp2 nD0
    obtain ⟨n, hn1, hn4, hn⟩ : ∃ n : Nat, 1 ≤ n ∧ n ≤ 4 ∧ (1 + u).toNat = n := ⟨_, by omega, by omega, rfl⟩
    have cpD : ∀ {G : Hp}, Same H2 G → ct D0 G p = some (.lst st) := fun {G} s => ct_at (s _ _ hp2) npD (fun ps z => by cases z)
    refine lc_range (lo := 0) (n := (1 + u).toNat) (fun i G => Same H2 G ∧ ∃ vs, G D0 = some (.lst vs) ∧ vs.length = i ∧ DtAll K (ct p (ct D0 G)) vs (linesL m i)) ⟨smu nD0, [], upd_same, rfl, .nil⟩ ?_ ?_
    · rintro i G hi ⟨s2, vs, hL, hl, hA⟩
      refine ⟨rfl, yes_in ⟨_, rfl, (by show 1 ≤ sizeLine; decide), fun q1 n1 => ?_⟩⟩
      have y1 := smu (o := .tup [V.int (0 + (i : Int))]) n1
      have m1 := upd_same (H := G) (a := q1) (o := .tup [V.int (0 + (i : Int))])
      generalize upd G q1 (.tup [V.int (0 + (i : Int))]) = G1 at y1 m1 ⊢
      refine ⟨(by show 1 ≤ sizeLine; decide), fun q2 n2 => ?_⟩
      have y2 := smu (o := .tup [V.int 0]) n2
      have m2 := upd_same (H := G1) (a := q2) (o := .tup [V.int 0])
      generalize upd G1 q2 (.tup [V.int 0]) = G2 at y2 m2 ⊢
      refine ⟨_, rfl, _, _, rfl, rfl, _, _, _, rfl, rfl, SqT.of m2, List.cons_ne_nil _ _, by omega, by omega, by show 1 ≤ 1000; decide, fun G3 q3 y3 r3 => ?_⟩
      rw [Tp.rep_flat, show Int.toNat _ = m by omega] at r3
      refine ⟨q1, q3, _, _, rfl, rfl, SqT.of (y3 _ _ (y2 _ _ m1)), r3, (by rw [List.length_replicate]; show 1 + m ≤ 1000; omega), fun G4 q4 y4 r4 => ?_⟩
      have s4 : Same G G4 := ((y1.trans y2).trans y3).trans y4
      have hL4 := s4 _ _ hL
      refine ⟨vs, hL4, (by rw [sizeLine_eq, hl]; omega), fun b o eb => ?_, vs ++ [.ref q4], upd_same, by rw [List.length_append, hl]; rfl, ?_⟩
      · rw [upd_ne (ne_of_none eb nD0)]
        exact s4 _ _ (s2 _ _ eb)
      · have g : Same (ct p (ct D0 G)) (ct p (ct D0 (upd G4 D0 (.lst (vs ++ [V.ref q4]))))) := ct_sm ((ct_sm s4).trans (ct_but (But.upd _ _ _)))
        have g4 : Same (ct p (ct D0 G4)) (ct p (ct D0 (upd G4 D0 (.lst (vs ++ [V.ref q4]))))) := ct_sm (ct_but (But.upd _ _ _))
        have r5 := sqt_same g4 (sqt_ct (cpD (s2.trans s4)) (sqt_ct hL4 r4))
        have ez : linesL m (i + 1) = linesL m i ++ [rowD m i] := by
          unfold linesL
          rw [List.range_succ, List.map_append]
          rfl
        rw [ez]
        refine dt_app (Dt.sameAll g _ _ hA) (.cons (.tup r5 ?_) .nil)
        rw [Int.zero_add]
        exact .cons (.int _) (dt_rep (.int 0) m)
    rintro Ga ⟨s2, vs, hL, hl, hA⟩
    rw [hn] at hl hA
    have hA : DtAll K (ct p Ga) vs (linesL m n) := Dt.sameAll (ct_sm ct_all) _ _ hA
    refine ⟨D0, vs, rfl, .inl ⟨SqL.of hL, fun qa na => ?_⟩⟩
    have ya := smu (o := .tup vs) na
    have ma := upd_same (H := Ga) (a := qa) (o := .tup vs)
    generalize upd Ga qa (.tup vs) = Gb at ya ma ⊢
    have hp3 := ya _ _ (s2 _ _ hp2)
    have T3 := tabs_sm (tabs_sm T2 s2) ya
    have t3 := (t2.same s2).same ya
    have dL : Dt K (ct p Gb) (.ref qa) (.tuple (linesL m n)) := .tup (sqt_ct hp3 (SqT.of ma)) (Dt.sameAll (ct_sm ya) _ _ hA)
    refine ⟨(by show 1 ≤ sizeLine; decide), fun qc nc => ?_⟩
    have yc := smu (o := .tup [V.int 2]) nc
    have mc := upd_same (H := Gb) (a := qc) (o := .tup [V.int 2])
    generalize upd Gb qc (.tup [V.int 2]) = Gc at yc mc ⊢
    refine ⟨(by show 1 ≤ sizeLine; decide), fun qd nd => ?_⟩
    have yd := smu (o := .tup [V.int 1]) nd
    have md := upd_same (H := Gc) (a := qd) (o := .tup [V.int 1])
    generalize upd Gc qd (.tup [V.int 1]) = Gd at yd md ⊢
    refine ⟨_, rfl, _, _, rfl, rfl, _, _, _, rfl, rfl, SqT.of md, List.cons_ne_nil _ _, by omega, by omega, by show 1 ≤ 1000; decide, fun Ge qe ye re => ?_⟩
    rw [Tp.rep_flat, show Int.toNat _ = m by omega] at re
    refine ⟨qc, qe, _, _, rfl, rfl, SqT.of (ye _ _ (yd _ _ mc)), re, (by rw [List.length_replicate]; show 1 + m ≤ 1000; omega), fun Gf ql yf rl => ?_⟩
    refine ⟨(by show 1 ≤ sizeLine; decide), fun qg ng => ?_⟩
    have yg := smu (o := .tup [V.int 0]) ng
    have mgg := upd_same (H := Gf) (a := qg) (o := .tup [V.int 0])
    generalize upd Gf qg (.tup [V.int 0]) = Gg at yg mgg ⊢
    refine ⟨_, rfl, _, _, _, rfl, rfl, SqT.of mgg, List.cons_ne_nil _ _, by omega, by omega, by show 1 ≤ 1000; decide, fun Gh qo yh ro => ?_⟩
    rw [Tp.rep_flat, show Int.toNat _ = m + 1 by omega] at ro
    refine ⟨(by show 2 ≤ sizeLine; decide), fun qi ni => ?_⟩
    have yi := smu (o := .tup [V.ref ql, V.ref qo]) ni
    have mi := upd_same (H := Gh) (a := qi) (o := .tup [V.ref ql, V.ref qo])
    generalize upd Gh qi (.tup [V.ref ql, V.ref qo]) = Gi at yi mi ⊢
    refine ⟨qi, _, rfl, SqT.of mi, rfl, _, _, rfl, _, _, rfl, rfl, ?_⟩
    have sF : Same Gb Gf := ((yc.trans yd).trans ye).trans yf
    have sI : Same Gb Gi := ((sF.trans yg).trans yh).trans yi
    have hp4 := sI _ _ hp3
    have T4 := tabs_sm T3 sI
    have t4 := t3.same sI
    have dL4 := Dt.same (ct_sm sI) _ _ dL
    have dA4 : Dt K (ct p Gi) (.ref ql) (lineD m) := .tup (sqt_ct hp4 (sqt_same ((yg.trans yh).trans yi) rl)) (.cons (.int 2) (dt_rep (.int 1) m))
    have dO4 : Dt K (ct p Gi) (.ref qo) (otherD m) := .tup (sqt_ct hp4 (sqt_same yi ro)) (dt_rep (.int 0) (m + 1))
    refine ⟨_, rfl, p, 9, k + 2, rfl, t4, by omega, by decide, by decide, fun H5 z z0 z1 b5 t5 => ⟨_, _, rfl, rfl, _, _, rfl, rfl, RgOk.of_le (by decide) (by omega) (by decide) (by omega), fun qj nj => ?_⟩⟩
    obtain ⟨st5, hp5⟩ := t5.some
    have T5 := tabs_but T4 hp4 b5
    obtain ⟨d, hd9, rfl⟩ : ∃ d : Nat, d < 9 ∧ z = (d : Int) := ⟨z.toNat, by omega, by omega⟩
    have yj := smu (o := .tup (rgV 1 (1 + (d : Int)))) nj
    have mj := upd_same (H := H5) (a := qj) (o := .tup (rgV 1 (1 + (d : Int))))
    generalize upd H5 qj (.tup (rgV 1 (1 + (d : Int)))) = Gj at yj mj ⊢
    have t6 := t5.same yj
    have hp6 := yj _ _ hp5
    refine ⟨_, rfl, p, k + 3, rfl, t6, by omega, fun H7 vb db b7 t7 hb7 mb7 => ?_⟩
    obtain ⟨st7, hp7⟩ := t7.some
    have T7 := tabs_but (tabs_sm T5 yj) hp6 b7
    have g57 : Same (ct p Gi) (ct p H7) := ((ct_but b5).trans (ct_sm yj)).trans (ct_but b7)
    have dT7 : Dt K (ct p H7) (.ref qj) (turnedD d) := by
      refine .tup (sqt_same (ct_but b7) (sqt_ct hp6 (SqT.of mj))) ?_
      have ez : rgV 1 (1 + (d : Int)) = (List.range d).map fun (i : Nat) => V.int (1 + (i : Int)) := by
        unfold rgV
        rw [show (1 + (d : Int) - 1).toNat = d by omega]
      rw [ez]
      have dm : ∀ l : List Nat, DtAll K (ct p H7) (l.map fun (i : Nat) => V.int (1 + (i : Int))) (l.map fun (i : Nat) => PyData.int (1 + (i : Int))) := fun l => by
        induction l with
        | nil => exact .nil
        | cons i r ih => exact .cons (.int _) ih
      exact dm _
    refine ⟨(by show 2 ≤ sizeLine; decide), fun qk nk => ?_⟩
    have yk := smu (o := .tup [V.ref qj, vb]) nk
    have mk := upd_same (H := H7) (a := qk) (o := .tup [V.ref qj, vb])
    generalize upd H7 qk (.tup [V.ref qj, vb]) = Gk at yk mk ⊢
    refine ⟨qk, _, rfl, SqT.of mk, rfl, _, _, rfl, _, _, rfl, rfl, ?_⟩
    have hp8 := yk _ _ hp7
    have T8 := tabs_sm T7 yk
    have t8 := t7.same yk
    have g8 : Same (ct p Gi) (ct p Gk) := g57.trans (ct_sm yk)
    have dL8 := Dt.same g8 _ _ dL4
    have dA8 := Dt.same g8 _ _ dA4
    have dO8 := Dt.same g8 _ _ dO4
    have dT8 := Dt.same (ct_sm yk) _ _ dT7
    have dB8 := Dt.same (ct_sm yk) _ _ hb7
    refine ⟨_, rfl, _, rfl, p, _, k + 4, rfl, t8, by omega, by omega, by omega, fun H9 vn dn b9 t9 hn9 mn9 => ?_⟩
    obtain ⟨st9, hp9⟩ := t9.some
    have T9 := tabs_but T8 hp8 b9
    have R := rows_of hm hn1 hn4
    refine ⟨_, rfl, _, rfl, p, qa, (m : Int) + 1, k + 5, linesL m n, rfl, t9, by omega, by omega, by omega, R, Dt.same (ct_but b9) _ _ dL8, fun H10 vs2 ds2 b10 t10 h10 bad10 sz10 l10 => ?_⟩
    obtain ⟨st10, hp10⟩ := t10.some
    have T10 := tabs_but T9 hp9 b10
    refine ⟨(by show 2 ≤ sizeLine; decide), fun ql2 nl2 => ?_⟩
    have yl2 := smu (o := .tup [vn, vs2]) nl2
    have ml2 := upd_same (H := H10) (a := ql2) (o := .tup [vn, vs2])
    generalize upd H10 ql2 (.tup [vn, vs2]) = Gl2 at yl2 ml2 ⊢
    refine ⟨ql2, _, rfl, SqT.of ml2, rfl, _, _, rfl, _, _, rfl, rfl, ?_⟩
    have hpB := yl2 _ _ hp10
    have TB0 := tabs_sm T10 yl2
    have tB := t10.same yl2
    have g10 : Same (ct p Gk) (ct p Gl2) := ((ct_but b9).trans (ct_but b10)).trans (ct_sm yl2)
    have dL := Dt.same g10 _ _ dL8
    have dA := Dt.same g10 _ _ dA8
    have dO := Dt.same g10 _ _ dO8
    have dT := Dt.same g10 _ _ dT8
    have dB := Dt.same g10 _ _ dB8
    have dN := Dt.same ((ct_but b10).trans (ct_sm yl2)) _ _ hn9
    have dM := Dt.same (ct_sm yl2) _ _ h10
    have gH : Same (ct p H) (ct p Gl2) := ((((ct_but b1).trans (ct_but b2)).trans (ct_sm s2)).trans (ct_sm ya)).trans (((ct_sm sI).trans g8).trans g10)
    have fa := fact1_ok hm hd9 hn1 hn4
    have mOkT := menuT_ok _ mb7
    obtain ⟨szN, noN, lenN⟩ := menuL_ok (m := (m : Int) + 1) (by omega) (by omega) dn (by rw [show (m : Int) + 1 = 1 + (m : Int) by omega]; exact mn9)
    have szK : Sz 6 12011 (.list [dn, ds2, db, .tuple (linesL m n)]) := by
      have zl : Sz 5 3000 (.tuple (linesL m n)) := (sz_tuple (e := 1) (b := 120) (c := 4) (fun r hr => (R.r r hr).2.2.1) R.l4).mono (by omega) (by omega)
      refine (sz_list (e := 5) (b := 3000) (c := 4) (fun x hx => ?_) (by show 4 ≤ 4; omega)).mono (by omega) (by omega)
      simp only [List.mem_cons, List.not_mem_nil, or_false] at hx
      rcases hx with rfl | rfl | rfl | rfl
      · exact szN.mono (by omega) (by omega)
      · exact sz10
      · exact mOkT.1.mono (by omega) (by omega)
      · exact zl
    have reprs : ∀ {G : Hp} {q : Addr}, Same (ct p Gl2) G → G q = some (.lst [vn, vs2, vb, .ref qa]) → Dt K G (.ref q) (.list [dn, ds2, db, .tuple (linesL m n)]) := fun {G q} s h => .lst (SqL.of h) (.cons (Dt.same s _ _ dN) (.cons (Dt.same s _ _ dM) (.cons (Dt.same s _ _ dB) (.cons (Dt.same s _ _ dL) .nil))))
    have lenK : (PyData.list [dn, ds2, db, .tuple (linesL m n)]).shown.length ≤ sizeLine := Nat.le_trans szK.2.2 (by rw [sizeLine_eq]; omega)
    refine ⟨_, rfl, _, rfl, _, rfl, _, rfl, (by show 4 ≤ sizeLine; decide), fun qr nr => ?_⟩
    have yr := smu (o := .lst [vn, vs2, vb, .ref qa]) nr
    have mr := upd_same (H := Gl2) (a := qr) (o := .lst [vn, vs2, vb, .ref qa])
    generalize upd Gl2 qr (.lst [vn, vs2, vb, .ref qa]) = Gr at yr mr ⊢
    refine ⟨.ref qr, _, rfl, reprs (ct_all.trans yr) mr, szK.1, Nat.le_trans szK.2.1 (by decide), lenK, ?_⟩
    have S0 : Same (ct p Gl2) Gr := ct_all.trans yr
    have T0 := tabs_sm TB0 yr
    have hq0 := yr _ _ hpB
    show tSeq _ _ _ ([_, _, _, _, _, _, _, _, _, _, _, _, _] : L2.St) _
    refine ⟨T0, fun A1 e1 U1 => ?_⟩
    have V1 := same_ext S0 e1
    refine ⟨_, rfl, _, rfl, _, rfl, rfl, rfl, _, _, _, lineD m, dn, turnedD d, rfl, (Dt.same V1 _ _ dA), (Dt.same V1 _ _ dN), (Dt.same V1 _ _ dT), fun B1 s1 => ite_f (no_second (m := m) (x := lineD m) List.mem_cons_self (line_len m) noN (List.mem_cons_of_mem _ List.mem_cons_self)) <| outRow ?_⟩
    have S1 := V1.trans s1
    have T1 := tabs_sm U1 s1
    have hq1 := s1 _ _ (ext_lst e1 hq0)
    refine ⟨(by show 1 ≤ sizeLine; decide), fun D1 nD1 => ?_⟩
    have fD1 := same_free S1 nD1
    have pD1 : p ≠ D1 := ne_of_none hq1 nD1
    have S1l := same_put (o := .lst [V.str "row"]) S1 fD1
    have yD1 := smu (o := .lst [V.str "row"]) nD1
    have T1l := tabs_sm T1 yD1
    have hq1l := yD1 _ _ hq1
    have hD1l := upd_same (H := B1) (a := D1) (o := .lst [V.str "row"])
    generalize upd B1 D1 (.lst [V.str "row"]) = C1 at S1l T1l hq1l hD1l ⊢
    show tSeq _ _ _ ([_, _, _, _, _, _, _, _, _, _, _, _, _] : L2.St) _
    refine ⟨_, rfl, .inl ⟨rfl, _, SqL.of hD1l⟩, T1l, fun A2 e2 U2 => ?_⟩
    have V2 := same_ext S1l e2
    refine ⟨_, rfl, _, rfl, _, rfl, rfl, rfl, _, _, _, lineD m, dn, db, rfl, (Dt.same V2 _ _ dA), (Dt.same V2 _ _ dN), (Dt.same V2 _ _ dB), fun B2 s2 => ite_f (no_second (m := m) (x := lineD m) List.mem_cons_self (line_len m) noN (List.mem_cons_of_mem _ List.mem_cons_self)) <| outRow ?_⟩
    have S2 := V2.trans s2
    have T2 := tabs_sm U2 s2
    have hq2 := s2 _ _ (ext_lst e2 hq1l)
    have hD2 := s2 _ _ (ext_lst e2 hD1l)
    refine ⟨D1, _, _, rfl, rfl, hD2, small1000 (by show 1 ≤ 1000; decide), ?_⟩
    rw [show [V.str "row"] ++ [V.str "row"] = [V.str "row", V.str "row"] from rfl]
    have S2l := same_put (o := .lst [V.str "row", V.str "row"]) S2 fD1
    have T2l := tabs_but T2 hD2 (But.upd D1 B2 (.lst [V.str "row", V.str "row"]))
    have hq2l : upd B2 D1 (.lst [V.str "row", V.str "row"]) p = _ := (upd_ne pD1).trans hq2
    have hD2l := upd_same (H := B2) (a := D1) (o := .lst [V.str "row", V.str "row"])
    generalize upd B2 D1 (.lst [V.str "row", V.str "row"]) = C2 at S2l T2l hq2l hD2l ⊢
    show tSeq _ _ _ ([_, _, _, _, _, _, _, _, _, _, _, _, _] : L2.St) _
    refine ⟨_, rfl, .inl ⟨rfl, _, SqL.of hD2l⟩, T2l, fun A3 e3 U3 => ?_⟩
    have V3 := same_ext S2l e3
    refine ⟨(by show 1 ≤ sizeLine; decide), fun qi3a ni3a => ?_⟩
    have yi3a := smu (o := HO.lst [V.int 1]) ni3a
    have mi3a := upd_same (H := A3) (a := qi3a) (o := HO.lst [V.int 1])
    generalize upd A3 qi3a (HO.lst [V.int 1]) = Gi3a at yi3a mi3a ⊢
    have Vi3a := V3.trans yi3a
    refine ⟨_, rfl, _, rfl, rfl, rfl, _, _, _, .list [.int 1], dn, db, rfl, .lst (SqL.of mi3a) (.cons (.int 1) .nil), (Dt.same Vi3a _ _ dN), (Dt.same Vi3a _ _ dB), fun B3 s3 => ite_f (not_rows (x := .list [.int 1]) List.mem_cons_self rfl) <| outRow ?_⟩
    have S3 := V3.trans (yi3a.trans s3)
    have T3 := tabs_sm U3 (yi3a.trans s3)
    have hq3 := (yi3a.trans s3) _ _ (ext_lst e3 hq2l)
    have hD3 := (yi3a.trans s3) _ _ (ext_lst e3 hD2l)
    refine ⟨D1, _, _, rfl, rfl, hD3, small1000 (by show 2 ≤ 1000; decide), ?_⟩
    rw [show [V.str "row", V.str "row"] ++ [V.str "row"] = [V.str "row", V.str "row", V.str "row"] from rfl]
    have S3l := same_put (o := .lst [V.str "row", V.str "row", V.str "row"]) S3 fD1
    have T3l := tabs_but T3 hD3 (But.upd D1 B3 (.lst [V.str "row", V.str "row", V.str "row"]))
    have hq3l : upd B3 D1 (.lst [V.str "row", V.str "row", V.str "row"]) p = _ := (upd_ne pD1).trans hq3
    have hD3l := upd_same (H := B3) (a := D1) (o := .lst [V.str "row", V.str "row", V.str "row"])
    generalize upd B3 D1 (.lst [V.str "row", V.str "row", V.str "row"]) = C3 at S3l T3l hq3l hD3l ⊢
    show tSeq _ _ _ ([_, _, _, _, _, _, _, _, _, _, _, _, _] : L2.St) _
    refine ⟨_, rfl, .inl ⟨rfl, _, SqL.of hD3l⟩, T3l, fun A4 e4 U4 => ?_⟩
    have V4 := same_ext S3l e4
    refine ⟨(by show 1 ≤ sizeLine; decide), fun qi4a ni4a => ?_⟩
    have yi4a := smu (o := HO.tup [V.bl true]) ni4a
    have mi4a := upd_same (H := A4) (a := qi4a) (o := HO.tup [V.bl true])
    generalize upd A4 qi4a (HO.tup [V.bl true]) = Gi4a at yi4a mi4a ⊢
    have Vi4a := V4.trans yi4a
    refine ⟨_, rfl, _, _, _, .tuple [.bool true], otherD m, .tuple [], rfl, .tup (SqT.of mi4a) (.cons (.bl true) .nil), (Dt.same Vi4a _ _ dO), .tup (B.a.eb _) .nil, fun B4 s4 => ite_f (not_rows (x := .tuple [.bool true]) List.mem_cons_self rfl) <| outRow ?_⟩
    have S4 := V4.trans (yi4a.trans s4)
    have T4 := tabs_sm U4 (yi4a.trans s4)
    have hq4 := (yi4a.trans s4) _ _ (ext_lst e4 hq3l)
    have hD4 := (yi4a.trans s4) _ _ (ext_lst e4 hD3l)
    refine ⟨D1, _, _, rfl, rfl, hD4, small1000 (by show 3 ≤ 1000; decide), ?_⟩
    rw [show [V.str "row", V.str "row", V.str "row"] ++ [V.str "row"] = [V.str "row", V.str "row", V.str "row", V.str "row"] from rfl]
    have S4l := same_put (o := .lst [V.str "row", V.str "row", V.str "row", V.str "row"]) S4 fD1
    have T4l := tabs_but T4 hD4 (But.upd D1 B4 (.lst [V.str "row", V.str "row", V.str "row", V.str "row"]))
    have hq4l : upd B4 D1 (.lst [V.str "row", V.str "row", V.str "row", V.str "row"]) p = _ := (upd_ne pD1).trans hq4
    have hD4l := upd_same (H := B4) (a := D1) (o := .lst [V.str "row", V.str "row", V.str "row", V.str "row"])
    generalize upd B4 D1 (.lst [V.str "row", V.str "row", V.str "row", V.str "row"]) = C4 at S4l T4l hq4l hD4l ⊢
    show tSeq _ _ _ ([_, _, _, _, _, _, _, _, _, _, _, _, _] : L2.St) _
    refine ⟨_, rfl, .inl ⟨rfl, _, SqL.of hD4l⟩, T4l, fun A5 e5 U5 => ?_⟩
    have V5 := same_ext S4l e5
    refine ⟨_, rfl, _, rfl, _, rfl, rfl, rfl, _, _, _, lineD m, otherD m, db, rfl, (Dt.same V5 _ _ dA), (Dt.same V5 _ _ dO), (Dt.same V5 _ _ dB), fun B5 s5 => ite_t fa.lo <| ite_f mOkT.2 <| outOp ?_⟩
    have S5 := V5.trans s5
    have T5 := tabs_sm U5 s5
    have hq5 := s5 _ _ (ext_lst e5 hq4l)
    have hD5 := s5 _ _ (ext_lst e5 hD4l)
    refine ⟨D1, _, _, rfl, rfl, hD5, small1000 (by show 4 ≤ 1000; decide), ?_⟩
    rw [show [V.str "row", V.str "row", V.str "row", V.str "row"] ++ [V.str "operation"] = [V.str "row", V.str "row", V.str "row", V.str "row", V.str "operation"] from rfl]
    have S5l := same_put (o := .lst [V.str "row", V.str "row", V.str "row", V.str "row", V.str "operation"]) S5 fD1
    have T5l := tabs_but T5 hD5 (But.upd D1 B5 (.lst [V.str "row", V.str "row", V.str "row", V.str "row", V.str "operation"]))
    have hq5l : upd B5 D1 (.lst [V.str "row", V.str "row", V.str "row", V.str "row", V.str "operation"]) p = _ := (upd_ne pD1).trans hq5
    have hD5l := upd_same (H := B5) (a := D1) (o := .lst [V.str "row", V.str "row", V.str "row", V.str "row", V.str "operation"])
    generalize upd B5 D1 (.lst [V.str "row", V.str "row", V.str "row", V.str "row", V.str "operation"]) = C5 at S5l T5l hq5l hD5l ⊢
    show tSeq _ _ _ ([_, _, _, _, _, _, _, _, _, _, _, _, _] : L2.St) _
    refine ⟨_, rfl, (by show 1 ≤ sizeLine; decide), fun qc1a nc1a => ?_⟩
    have yc1a := smu (o := .lst [V.str "row"]) nc1a
    have mc1a := upd_same (H := C5) (a := qc1a) (o := .lst [V.str "row"])
    generalize upd C5 qc1a (.lst [V.str "row"]) = Gc1a at yc1a mc1a ⊢
    refine ⟨_, _, _, rfl, rfl, mc1a, by decide, by decide, by decide, fun qc1b nc1b => ?_⟩
    rw [show (List.replicate (Int.toNat 4) [V.str "row"]).flatten = [V.str "row", V.str "row", V.str "row", V.str "row"] from rfl]
    have yc1b := smu (o := .lst [V.str "row", V.str "row", V.str "row", V.str "row"]) nc1b
    have mc1b := upd_same (H := Gc1a) (a := qc1b) (o := .lst [V.str "row", V.str "row", V.str "row", V.str "row"])
    generalize upd Gc1a qc1b (.lst [V.str "row", V.str "row", V.str "row", V.str "row"]) = Gc1b at yc1b mc1b ⊢
    refine ⟨(by show 1 ≤ sizeLine; decide), fun qc1c nc1c => ?_⟩
    have yc1c := smu (o := .lst [V.str "operation"]) nc1c
    have mc1c := upd_same (H := Gc1b) (a := qc1c) (o := .lst [V.str "operation"])
    generalize upd Gc1b qc1c (.lst [V.str "operation"]) = Gc1c at yc1c mc1c ⊢
    refine ⟨_, _, _, _, rfl, rfl, (yc1c _ _ mc1b), mc1c, by decide, fun qc1e nc1e => ?_⟩
    rw [show [V.str "row", V.str "row", V.str "row", V.str "row"] ++ [V.str "operation"] = [V.str "row", V.str "row", V.str "row", V.str "row", V.str "operation"] from rfl]
    have yc1e := smu (o := .lst [V.str "row", V.str "row", V.str "row", V.str "row", V.str "operation"]) nc1e
    have mc1e := upd_same (H := Gc1c) (a := qc1e) (o := .lst [V.str "row", V.str "row", V.str "row", V.str "row", V.str "operation"])
    generalize upd Gc1c qc1e (.lst [V.str "row", V.str "row", V.str "row", V.str "row", V.str "operation"]) = Gc1e at yc1e mc1e ⊢
    have zc1 := (((yc1a).trans yc1b).trans yc1c).trans yc1e
    refine ⟨.list [.str "row", .str "row", .str "row", .str "row", .str "operation"], .list [.str "row", .str "row", .str "row", .str "row", .str "operation"], .lst (SqL.of (zc1 _ _ hD5l)) (.cons (.str _) (.cons (.str _) (.cons (.str _) (.cons (.str _) (.cons (.str _) .nil))))), .lst (SqL.of mc1e) (.cons (.str _) (.cons (.str _) (.cons (.str _) (.cons (.str _) (.cons (.str _) .nil))))), by decide +kernel, by decide +kernel, _, rfl, ite_f (ne_self (by decide +kernel)) ?_⟩
    have Sc1 := S5l.trans zc1
    have Tc1 := tabs_sm T5l zc1
    have hqc1 := zc1 _ _ hq5l
    have hDc1 := zc1 _ _ hD5l
    show tSeq _ _ _ ([_, _, _, _, _, _, _, _, _, _, _, _, _] : L2.St) _
    refine ⟨Tc1, fun A6 e6 U6 => ?_⟩
    have V6 := same_ext Sc1 e6
    refine ⟨_, rfl, _, rfl, rfl, rfl, _, _, ds2, turnedD d, rfl, (Dt.same V6 _ _ dM), (Dt.same V6 _ _ dT), (by omega), (by rw [bad10] <;> rfl), fun B6 s6 => ite_f bad10 <| outRow ?_⟩
    have S6 := V6.trans s6
    have T6 := tabs_sm U6 s6
    have hq6 := s6 _ _ (ext_lst e6 hqc1)
    refine ⟨(by show 1 ≤ sizeLine; decide), fun D6 nD6 => ?_⟩
    have fD6 := same_free S6 nD6
    have pD6 : p ≠ D6 := ne_of_none hq6 nD6
    have S6l := same_put (o := .lst [V.str "row"]) S6 fD6
    have yD6 := smu (o := .lst [V.str "row"]) nD6
    have T6l := tabs_sm T6 yD6
    have hq6l := yD6 _ _ hq6
    have hD6l := upd_same (H := B6) (a := D6) (o := .lst [V.str "row"])
    generalize upd B6 D6 (.lst [V.str "row"]) = C6 at S6l T6l hq6l hD6l ⊢
    show tSeq _ _ _ ([_, _, _, _, _, _, _, _, _, _, _, _, _] : L2.St) _
    refine ⟨_, rfl, .inl ⟨rfl, _, SqL.of hD6l⟩, T6l, fun A7 e7 U7 => ?_⟩
    have V7 := same_ext S6l e7
    refine ⟨_, rfl, _, rfl, rfl, rfl, _, _, ds2, db, rfl, (Dt.same V7 _ _ dM), (Dt.same V7 _ _ dB), (by omega), (by rw [bad10] <;> rfl), fun B7 s7 => ite_f bad10 <| outRow ?_⟩
    have S7 := V7.trans s7
    have T7 := tabs_sm U7 s7
    have hq7 := s7 _ _ (ext_lst e7 hq6l)
    have hD7 := s7 _ _ (ext_lst e7 hD6l)
    refine ⟨D6, _, _, rfl, rfl, hD7, small1000 (by show 1 ≤ 1000; decide), ?_⟩
    rw [show [V.str "row"] ++ [V.str "row"] = [V.str "row", V.str "row"] from rfl]
    have S7l := same_put (o := .lst [V.str "row", V.str "row"]) S7 fD6
    have T7l := tabs_but T7 hD7 (But.upd D6 B7 (.lst [V.str "row", V.str "row"]))
    have hq7l : upd B7 D6 (.lst [V.str "row", V.str "row"]) p = _ := (upd_ne pD6).trans hq7
    have hD7l := upd_same (H := B7) (a := D6) (o := .lst [V.str "row", V.str "row"])
    generalize upd B7 D6 (.lst [V.str "row", V.str "row"]) = C7 at S7l T7l hq7l hD7l ⊢
    show tSeq _ _ _ ([_, _, _, _, _, _, _, _, _, _, _, _, _] : L2.St) _
    refine ⟨_, rfl, .inl ⟨rfl, _, SqL.of hD7l⟩, T7l, fun A8 e8 U8 => ?_⟩
    have V8 := same_ext S7l e8
    refine ⟨_, rfl, _, rfl, rfl, rfl, _, _, .tuple (linesL m n), db, rfl, (Dt.same V8 _ _ dL), (Dt.same V8 _ _ dB), (by show (linesL m n).length < 64; have := R.l4; omega), (by rw [mOkT.2, Bool.and_false]), fun B8 s8 => ite_t fa.rl <| outOp ?_⟩
    have S8 := V8.trans s8
    have T8 := tabs_sm U8 s8
    have hq8 := s8 _ _ (ext_lst e8 hq7l)
    have hD8 := s8 _ _ (ext_lst e8 hD7l)
    refine ⟨D6, _, _, rfl, rfl, hD8, small1000 (by show 2 ≤ 1000; decide), ?_⟩
    rw [show [V.str "row", V.str "row"] ++ [V.str "operation"] = [V.str "row", V.str "row", V.str "operation"] from rfl]
    have S8l := same_put (o := .lst [V.str "row", V.str "row", V.str "operation"]) S8 fD6
    have T8l := tabs_but T8 hD8 (But.upd D6 B8 (.lst [V.str "row", V.str "row", V.str "operation"]))
    have hq8l : upd B8 D6 (.lst [V.str "row", V.str "row", V.str "operation"]) p = _ := (upd_ne pD6).trans hq8
    have hD8l := upd_same (H := B8) (a := D6) (o := .lst [V.str "row", V.str "row", V.str "operation"])
    generalize upd B8 D6 (.lst [V.str "row", V.str "row", V.str "operation"]) = C8 at S8l T8l hq8l hD8l ⊢
    show tSeq _ _ _ ([_, _, _, _, _, _, _, _, _, _, _, _, _] : L2.St) _
    refine ⟨_, rfl, .inl ⟨rfl, _, SqL.of hD8l⟩, T8l, fun A9 e9 U9 => ?_⟩
    have V9 := same_ext S8l e9
    refine ⟨(by show 0 ≤ sizeLine; decide), fun qi9a ni9a => ?_⟩
    have yi9a := smu (o := HO.tup []) ni9a
    have mi9a := upd_same (H := A9) (a := qi9a) (o := HO.tup [])
    generalize upd A9 qi9a (HO.tup []) = Gi9a at yi9a mi9a ⊢
    have Vi9a := V9.trans yi9a
    refine ⟨_, rfl, rfl, rfl, _, _, .tuple [], db, rfl, .tup (SqT.of mi9a) .nil, (Dt.same Vi9a _ _ dB), (by show 0 < 64; decide), (by rw [mOkT.2, Bool.and_false]), fun B9 s9 => ite_t rfl <| outOp ?_⟩
    have S9 := V9.trans (yi9a.trans s9)
    have T9 := tabs_sm U9 (yi9a.trans s9)
    have hq9 := (yi9a.trans s9) _ _ (ext_lst e9 hq8l)
    have hD9 := (yi9a.trans s9) _ _ (ext_lst e9 hD8l)
    refine ⟨D6, _, _, rfl, rfl, hD9, small1000 (by show 3 ≤ 1000; decide), ?_⟩
    rw [show [V.str "row", V.str "row", V.str "operation"] ++ [V.str "operation"] = [V.str "row", V.str "row", V.str "operation", V.str "operation"] from rfl]
    have S9l := same_put (o := .lst [V.str "row", V.str "row", V.str "operation", V.str "operation"]) S9 fD6
    have T9l := tabs_but T9 hD9 (But.upd D6 B9 (.lst [V.str "row", V.str "row", V.str "operation", V.str "operation"]))
    have hq9l : upd B9 D6 (.lst [V.str "row", V.str "row", V.str "operation", V.str "operation"]) p = _ := (upd_ne pD6).trans hq9
    have hD9l := upd_same (H := B9) (a := D6) (o := .lst [V.str "row", V.str "row", V.str "operation", V.str "operation"])
    generalize upd B9 D6 (.lst [V.str "row", V.str "row", V.str "operation", V.str "operation"]) = C9 at S9l T9l hq9l hD9l ⊢
    show tSeq _ _ _ ([_, _, _, _, _, _, _, _, _, _, _, _, _] : L2.St) _
    refine ⟨_, rfl, (by show 1 ≤ sizeLine; decide), fun qc2a nc2a => ?_⟩
    have yc2a := smu (o := .lst [V.str "row"]) nc2a
    have mc2a := upd_same (H := C9) (a := qc2a) (o := .lst [V.str "row"])
    generalize upd C9 qc2a (.lst [V.str "row"]) = Gc2a at yc2a mc2a ⊢
    refine ⟨_, _, _, rfl, rfl, mc2a, by decide, by decide, by decide, fun qc2b nc2b => ?_⟩
    rw [show (List.replicate (Int.toNat 2) [V.str "row"]).flatten = [V.str "row", V.str "row"] from rfl]
    have yc2b := smu (o := .lst [V.str "row", V.str "row"]) nc2b
    have mc2b := upd_same (H := Gc2a) (a := qc2b) (o := .lst [V.str "row", V.str "row"])
    generalize upd Gc2a qc2b (.lst [V.str "row", V.str "row"]) = Gc2b at yc2b mc2b ⊢
    refine ⟨(by show 1 ≤ sizeLine; decide), fun qc2c nc2c => ?_⟩
    have yc2c := smu (o := .lst [V.str "operation"]) nc2c
    have mc2c := upd_same (H := Gc2b) (a := qc2c) (o := .lst [V.str "operation"])
    generalize upd Gc2b qc2c (.lst [V.str "operation"]) = Gc2c at yc2c mc2c ⊢
    refine ⟨_, _, _, rfl, rfl, mc2c, by decide, by decide, by decide, fun qc2d nc2d => ?_⟩
    rw [show (List.replicate (Int.toNat 2) [V.str "operation"]).flatten = [V.str "operation", V.str "operation"] from rfl]
    have yc2d := smu (o := .lst [V.str "operation", V.str "operation"]) nc2d
    have mc2d := upd_same (H := Gc2c) (a := qc2d) (o := .lst [V.str "operation", V.str "operation"])
    generalize upd Gc2c qc2d (.lst [V.str "operation", V.str "operation"]) = Gc2d at yc2d mc2d ⊢
    refine ⟨_, _, _, _, rfl, rfl, (yc2d _ _ (yc2c _ _ mc2b)), mc2d, by decide, fun qc2e nc2e => ?_⟩
    rw [show [V.str "row", V.str "row"] ++ [V.str "operation", V.str "operation"] = [V.str "row", V.str "row", V.str "operation", V.str "operation"] from rfl]
    have yc2e := smu (o := .lst [V.str "row", V.str "row", V.str "operation", V.str "operation"]) nc2e
    have mc2e := upd_same (H := Gc2d) (a := qc2e) (o := .lst [V.str "row", V.str "row", V.str "operation", V.str "operation"])
    generalize upd Gc2d qc2e (.lst [V.str "row", V.str "row", V.str "operation", V.str "operation"]) = Gc2e at yc2e mc2e ⊢
    have zc2 := ((((yc2a).trans yc2b).trans yc2c).trans yc2d).trans yc2e
    refine ⟨.list [.str "row", .str "row", .str "operation", .str "operation"], .list [.str "row", .str "row", .str "operation", .str "operation"], .lst (SqL.of (zc2 _ _ hD9l)) (.cons (.str _) (.cons (.str _) (.cons (.str _) (.cons (.str _) .nil)))), .lst (SqL.of mc2e) (.cons (.str _) (.cons (.str _) (.cons (.str _) (.cons (.str _) .nil)))), by decide +kernel, by decide +kernel, _, rfl, ite_f (ne_self (by decide +kernel)) ?_⟩
    have Sc2 := S9l.trans zc2
    have Tc2 := tabs_sm T9l zc2
    have hqc2 := zc2 _ _ hq9l
    have hDc2 := zc2 _ _ hD9l
    obtain ⟨xL, hxL, axL⟩ := tup_inv dL
    refine ⟨_, rfl, _, rfl, _, rfl, qa, xL, rfl, sqt_same Sc2 hxL, fun Gw qw yw rw_ => ?_⟩
    rw [cut01] at rw_
    refine ⟨qa, qw, xL, xL.take 1, rfl, rfl, sqt_same (Sc2.trans yw) hxL, rw_, (by have z := dt_len axL; rw [List.length_take, z]; have := R.l4; omega), fun Gx qx yx rx => ?_⟩
    have SX := Sc2.trans (yw.trans yx)
    have hpx := (yw.trans yx) _ _ hqc2
    have TX := tabs_sm Tc2 (yw.trans yx)
    have gX : Same (ct p Gl2) (ct p Gx) := ct_mid SX
    have xL2 := Dt.same gX _ _ dL
    have xA := Dt.same gX _ _ dA
    have xO := Dt.same gX _ _ dO
    have xT := Dt.same gX _ _ dT
    have xB := Dt.same gX _ _ dB
    have xN := Dt.same gX _ _ dN
    have xM := Dt.same gX _ _ dM
    have hxX := sqt_same gX hxL
    have xX : Dt K (ct p Gx) (.ref qx) (.tuple (mixedL m n)) := .tup (sqt_ct hpx rx) (dt_app (Dt.sameAll gX _ _ axL) (dt_take 1 (Dt.sameAll gX _ _ axL)))
    have SX0 : Same (ct p Gx) Gx := ct_all
    have lenL : (linesL m n).length ≤ 4 := R.l4
    have lenx : xL.length ≤ 4 := by rw [dt_len axL]; exact lenL
    obtain ⟨rr1, hrt, hrm⟩ := first_mem (m := m) hn1
    have nS : rowsOk (.tuple ((linesL m n).take 1 ++ [dn])) = false := no_second (m := m) (List.mem_append_left _ hrt) (row_len hrm) noN (List.mem_append_right _ (List.mem_singleton.mpr rfl))
    have nM : rowsOk (.tuple ((mixedL m n).take 1 ++ [dn])) = false := by rw [take_mixed m n hn1]; exact nS
    have lM : (mixedL m n).length < 60 := by
      show (linesL m n ++ (linesL m n).take 1).length < 60
      rw [List.length_append, List.length_take]; omega
    have lB : (backL m n).length < 60 := by
      show (linesL m n ++ (linesL m n).reverse).length < 60
      rw [List.length_append, List.length_reverse]; omega
    show tSeq _ _ _ ([_, _, _, _, _, _, _, _, _, _, _, _, _] : L2.St) _
    refine ⟨TX, fun A10 e10 U10 => ?_⟩
    have V10 := same_ext SX0 e10
    refine ⟨_, rfl, _, rfl, _, rfl, rfl, rfl, _, _, _, ds2, dn, db, rfl, (Dt.same V10 _ _ xM), (Dt.same V10 _ _ xN), (Dt.same V10 _ _ xB), l10, fun B10 s10 => ite_f bad10 <| outRow ?_⟩
    have S10 := V10.trans s10
    have T10 := tabs_sm U10 s10
    have hq10 := s10 _ _ (ext_lst e10 hpx)
    refine ⟨(by show 1 ≤ sizeLine; decide), fun D10 nD10 => ?_⟩
    have fD10 := same_free S10 nD10
    have pD10 : p ≠ D10 := ne_of_none hq10 nD10
    have S10l := same_put (o := .lst [V.str "row"]) S10 fD10
    have yD10 := smu (o := .lst [V.str "row"]) nD10
    have T10l := tabs_sm T10 yD10
    have hq10l := yD10 _ _ hq10
    have hD10l := upd_same (H := B10) (a := D10) (o := .lst [V.str "row"])
    generalize upd B10 D10 (.lst [V.str "row"]) = C10 at S10l T10l hq10l hD10l ⊢
    show tSeq _ _ _ ([_, _, _, _, _, _, _, _, _, _, _, _, _] : L2.St) _
    refine ⟨_, rfl, .inl ⟨rfl, _, SqL.of hD10l⟩, T10l, fun A11 e11 U11 => ?_⟩
    have V11 := same_ext S10l e11
    refine ⟨_, rfl, _, rfl, _, _, _, ds2, lineD m, .tuple [], rfl, (Dt.same V11 _ _ xM), (Dt.same V11 _ _ xA), .tup (B.a.ep _) .nil, l10, fun B11 s11 => ite_f bad10 <| outRow ?_⟩
    have S11 := V11.trans s11
    have T11 := tabs_sm U11 s11
    have hq11 := s11 _ _ (ext_lst e11 hq10l)
    have hD11 := s11 _ _ (ext_lst e11 hD10l)
    refine ⟨D10, _, _, rfl, rfl, hD11, small1000 (by show 1 ≤ 1000; decide), ?_⟩
    rw [show [V.str "row"] ++ [V.str "row"] = [V.str "row", V.str "row"] from rfl]
    have S11l := same_put (o := .lst [V.str "row", V.str "row"]) S11 fD10
    have T11l := tabs_but T11 hD11 (But.upd D10 B11 (.lst [V.str "row", V.str "row"]))
    have hq11l : upd B11 D10 (.lst [V.str "row", V.str "row"]) p = _ := (upd_ne pD10).trans hq11
    have hD11l := upd_same (H := B11) (a := D10) (o := .lst [V.str "row", V.str "row"])
    generalize upd B11 D10 (.lst [V.str "row", V.str "row"]) = C11 at S11l T11l hq11l hD11l ⊢
    show tSeq _ _ _ ([_, _, _, _, _, _, _, _, _, _, _, _, _] : L2.St) _
    refine ⟨_, rfl, .inl ⟨rfl, _, SqL.of hD11l⟩, T11l, fun A12 e12 U12 => ?_⟩
    have V12 := same_ext S11l e12
    refine ⟨_, rfl, _, rfl, _, rfl, rfl, rfl, _, _, _, .tuple (linesL m n), dn, db, rfl, (Dt.same V12 _ _ xL2), (Dt.same V12 _ _ xN), (Dt.same V12 _ _ xB), (by show (linesL m n).length < 60; omega), fun B12 s12 => ite_t fa.rl <| ite_f nS <| outRow ?_⟩
    have S12 := V12.trans s12
    have T12 := tabs_sm U12 s12
    have hq12 := s12 _ _ (ext_lst e12 hq11l)
    have hD12 := s12 _ _ (ext_lst e12 hD11l)
    refine ⟨D10, _, _, rfl, rfl, hD12, small1000 (by show 2 ≤ 1000; decide), ?_⟩
    rw [show [V.str "row", V.str "row"] ++ [V.str "row"] = [V.str "row", V.str "row", V.str "row"] from rfl]
    have S12l := same_put (o := .lst [V.str "row", V.str "row", V.str "row"]) S12 fD10
    have T12l := tabs_but T12 hD12 (But.upd D10 B12 (.lst [V.str "row", V.str "row", V.str "row"]))
    have hq12l : upd B12 D10 (.lst [V.str "row", V.str "row", V.str "row"]) p = _ := (upd_ne pD10).trans hq12
    have hD12l := upd_same (H := B12) (a := D10) (o := .lst [V.str "row", V.str "row", V.str "row"])
    generalize upd B12 D10 (.lst [V.str "row", V.str "row", V.str "row"]) = C12 at S12l T12l hq12l hD12l ⊢
    show tSeq _ _ _ ([_, _, _, _, _, _, _, _, _, _, _, _, _] : L2.St) _
    refine ⟨_, rfl, .inl ⟨rfl, _, SqL.of hD12l⟩, T12l, fun A13 e13 U13 => ?_⟩
    have V13 := same_ext S12l e13
    refine ⟨_, rfl, _, rfl, _, _, _, .tuple (mixedL m n), dn, .tuple [], rfl, (Dt.same V13 _ _ xX), (Dt.same V13 _ _ xN), .tup (B.a.ep _) .nil, lM, fun B13 s13 => ite_t fa.rm <| ite_f nM <| outRow ?_⟩
    have S13 := V13.trans s13
    have T13 := tabs_sm U13 s13
    have hq13 := s13 _ _ (ext_lst e13 hq12l)
    have hD13 := s13 _ _ (ext_lst e13 hD12l)
    refine ⟨D10, _, _, rfl, rfl, hD13, small1000 (by show 3 ≤ 1000; decide), ?_⟩
    rw [show [V.str "row", V.str "row", V.str "row"] ++ [V.str "row"] = [V.str "row", V.str "row", V.str "row", V.str "row"] from rfl]
    have S13l := same_put (o := .lst [V.str "row", V.str "row", V.str "row", V.str "row"]) S13 fD10
    have T13l := tabs_but T13 hD13 (But.upd D10 B13 (.lst [V.str "row", V.str "row", V.str "row", V.str "row"]))
    have hq13l : upd B13 D10 (.lst [V.str "row", V.str "row", V.str "row", V.str "row"]) p = _ := (upd_ne pD10).trans hq13
    have hD13l := upd_same (H := B13) (a := D10) (o := .lst [V.str "row", V.str "row", V.str "row", V.str "row"])
    generalize upd B13 D10 (.lst [V.str "row", V.str "row", V.str "row", V.str "row"]) = C13 at S13l T13l hq13l hD13l ⊢
    show tSeq _ _ _ ([_, _, _, _, _, _, _, _, _, _, _, _, _] : L2.St) _
    refine ⟨_, rfl, .inl ⟨rfl, _, SqL.of hD13l⟩, T13l, fun A14 e14 U14 => ?_⟩
    have V14 := same_ext S13l e14
    refine ⟨_, rfl, _, rfl, _, rfl, rfl, rfl, _, _, _, .tuple (mixedL m n), lineD m, db, rfl, (Dt.same V14 _ _ xX), (Dt.same V14 _ _ xA), (Dt.same V14 _ _ xB), lM, fun B14 s14 => ite_t fa.rm <| ite_t fa.ml <| ite_f mOkT.2 <| outOp ?_⟩
    have S14 := V14.trans s14
    have T14 := tabs_sm U14 s14
    have hq14 := s14 _ _ (ext_lst e14 hq13l)
    have hD14 := s14 _ _ (ext_lst e14 hD13l)
    refine ⟨D10, _, _, rfl, rfl, hD14, small1000 (by show 4 ≤ 1000; decide), ?_⟩
    rw [show [V.str "row", V.str "row", V.str "row", V.str "row"] ++ [V.str "operation"] = [V.str "row", V.str "row", V.str "row", V.str "row", V.str "operation"] from rfl]
    have S14l := same_put (o := .lst [V.str "row", V.str "row", V.str "row", V.str "row", V.str "operation"]) S14 fD10
    have T14l := tabs_but T14 hD14 (But.upd D10 B14 (.lst [V.str "row", V.str "row", V.str "row", V.str "row", V.str "operation"]))
    have hq14l : upd B14 D10 (.lst [V.str "row", V.str "row", V.str "row", V.str "row", V.str "operation"]) p = _ := (upd_ne pD10).trans hq14
    have hD14l := upd_same (H := B14) (a := D10) (o := .lst [V.str "row", V.str "row", V.str "row", V.str "row", V.str "operation"])
    generalize upd B14 D10 (.lst [V.str "row", V.str "row", V.str "row", V.str "row", V.str "operation"]) = C14 at S14l T14l hq14l hD14l ⊢
    show tSeq _ _ _ ([_, _, _, _, _, _, _, _, _, _, _, _, _] : L2.St) _
    refine ⟨_, rfl, .inl ⟨rfl, _, SqL.of hD14l⟩, T14l, fun A15 e15 U15 => ?_⟩
    have V15 := same_ext S14l e15
    refine ⟨_, rfl, _, rfl, _, rfl, rfl, rfl, _, _, _, .tuple (mixedL m n), lineD m, turnedD d, rfl, (Dt.same V15 _ _ xX), (Dt.same V15 _ _ xA), (Dt.same V15 _ _ xT), lM, fun B15 s15 => ite_t fa.rm <| ite_t fa.ml <| ite_t fa.dt <| ite_f fa.am <| outOp ?_⟩
    have S15 := V15.trans s15
    have T15 := tabs_sm U15 s15
    have hq15 := s15 _ _ (ext_lst e15 hq14l)
    have hD15 := s15 _ _ (ext_lst e15 hD14l)
    refine ⟨D10, _, _, rfl, rfl, hD15, small1000 (by show 5 ≤ 1000; decide), ?_⟩
    rw [show [V.str "row", V.str "row", V.str "row", V.str "row", V.str "operation"] ++ [V.str "operation"] = [V.str "row", V.str "row", V.str "row", V.str "row", V.str "operation", V.str "operation"] from rfl]
    have S15l := same_put (o := .lst [V.str "row", V.str "row", V.str "row", V.str "row", V.str "operation", V.str "operation"]) S15 fD10
    have T15l := tabs_but T15 hD15 (But.upd D10 B15 (.lst [V.str "row", V.str "row", V.str "row", V.str "row", V.str "operation", V.str "operation"]))
    have hq15l : upd B15 D10 (.lst [V.str "row", V.str "row", V.str "row", V.str "row", V.str "operation", V.str "operation"]) p = _ := (upd_ne pD10).trans hq15
    have hD15l := upd_same (H := B15) (a := D10) (o := .lst [V.str "row", V.str "row", V.str "row", V.str "row", V.str "operation", V.str "operation"])
    generalize upd B15 D10 (.lst [V.str "row", V.str "row", V.str "row", V.str "row", V.str "operation", V.str "operation"]) = C15 at S15l T15l hq15l hD15l ⊢
    show tSeq _ _ _ ([_, _, _, _, _, _, _, _, _, _, _, _, _] : L2.St) _
    refine ⟨_, rfl, .inl ⟨rfl, _, SqL.of hD15l⟩, T15l, fun A16 e16 U16 => ?_⟩
    have V16 := same_ext S15l e16
    refine ⟨_, rfl, _, rfl, _, _, rfl, sqt_same V16 hxX, fun qi16a ni16a => ?_⟩
    have yi16a := smu (o := HO.tup xL.reverse) ni16a
    have mi16a := upd_same (H := A16) (a := qi16a) (o := HO.tup xL.reverse)
    generalize upd A16 qi16a (HO.tup xL.reverse) = Gi16a at yi16a mi16a ⊢
    have Vi16a := V16.trans yi16a
    refine ⟨_, _, _, _, rfl, rfl, sqt_same Vi16a hxX, SqT.of mi16a, (by rw [List.length_reverse]; omega), fun Gi16b qi16b yi16b ri16b => ?_⟩
    have Vi16b := Vi16a.trans yi16b
    refine ⟨_, rfl, _, _, _, .tuple (backL m n), lineD m, .tuple [], rfl, .tup ri16b (dt_app (Dt.sameAll (gX.trans Vi16b) _ _ axL) (dt_rev (Dt.sameAll (gX.trans Vi16b) _ _ axL))), (Dt.same Vi16b _ _ xA), .tup (B.a.ep _) .nil, lB, fun B16 s16 => ite_t fa.rb <| ite_t fa.bl <| ite_t (by decide) <| ite_f fa.ab <| outOp ?_⟩
    have S16 := V16.trans (((yi16a).trans yi16b).trans s16)
    have T16 := tabs_sm U16 (((yi16a).trans yi16b).trans s16)
    have hq16 := (((yi16a).trans yi16b).trans s16) _ _ (ext_lst e16 hq15l)
    have hD16 := (((yi16a).trans yi16b).trans s16) _ _ (ext_lst e16 hD15l)
    refine ⟨D10, _, _, rfl, rfl, hD16, small1000 (by show 6 ≤ 1000; decide), ?_⟩
    rw [show [V.str "row", V.str "row", V.str "row", V.str "row", V.str "operation", V.str "operation"] ++ [V.str "operation"] = [V.str "row", V.str "row", V.str "row", V.str "row", V.str "operation", V.str "operation", V.str "operation"] from rfl]
    have S16l := same_put (o := .lst [V.str "row", V.str "row", V.str "row", V.str "row", V.str "operation", V.str "operation", V.str "operation"]) S16 fD10
    have T16l := tabs_but T16 hD16 (But.upd D10 B16 (.lst [V.str "row", V.str "row", V.str "row", V.str "row", V.str "operation", V.str "operation", V.str "operation"]))
    have hq16l : upd B16 D10 (.lst [V.str "row", V.str "row", V.str "row", V.str "row", V.str "operation", V.str "operation", V.str "operation"]) p = _ := (upd_ne pD10).trans hq16
    have hD16l := upd_same (H := B16) (a := D10) (o := .lst [V.str "row", V.str "row", V.str "row", V.str "row", V.str "operation", V.str "operation", V.str "operation"])
    generalize upd B16 D10 (.lst [V.str "row", V.str "row", V.str "row", V.str "row", V.str "operation", V.str "operation", V.str "operation"]) = C16 at S16l T16l hq16l hD16l ⊢
    show tSeq _ _ _ ([_, _, _, _, _, _, _, _, _, _, _, _, _] : L2.St) _
    refine ⟨_, rfl, .inl ⟨rfl, _, SqL.of hD16l⟩, T16l, fun A17 e17 U17 => ?_⟩
    have V17 := same_ext S16l e17
    refine ⟨(by show 1 ≤ sizeLine; decide), fun qi17a ni17a => ?_⟩
    have yi17a := smu (o := HO.tup [V.int 1]) ni17a
    have mi17a := upd_same (H := A17) (a := qi17a) (o := HO.tup [V.int 1])
    generalize upd A17 qi17a (HO.tup [V.int 1]) = Gi17a at yi17a mi17a ⊢
    have Vi17a := V17.trans yi17a
    refine ⟨(by show 1 ≤ sizeLine; decide), fun qi17b ni17b => ?_⟩
    have yi17b := smu (o := HO.tup [V.ref qi17a]) ni17b
    have mi17b := upd_same (H := Gi17a) (a := qi17b) (o := HO.tup [V.ref qi17a])
    generalize upd Gi17a qi17b (HO.tup [V.ref qi17a]) = Gi17b at yi17b mi17b ⊢
    have Vi17b := Vi17a.trans yi17b
    refine ⟨_, rfl, _, rfl, qa, xL, rfl, sqt_same Vi17b hxX, fun Gi17c qi17c yi17c ri17c => ?_⟩
    rw [cut00] at ri17c
    have Vi17c := Vi17b.trans yi17c
    refine ⟨_, _, _, _, rfl, rfl, SqT.of (yi17c _ _ mi17b), ri17c, (by show 1 + 0 ≤ 1000; decide), fun Gi17d qi17d yi17d ri17d => ?_⟩
    have Vi17d := Vi17c.trans yi17d
    refine ⟨(by show 1 ≤ sizeLine; decide), fun qi17e ni17e => ?_⟩
    have yi17e := smu (o := HO.tup [V.int 0]) ni17e
    have mi17e := upd_same (H := Gi17d) (a := qi17e) (o := HO.tup [V.int 0])
    generalize upd Gi17d qi17e (HO.tup [V.int 0]) = Gi17e at yi17e mi17e ⊢
    have Vi17e := Vi17d.trans yi17e
    refine ⟨(by show 1 ≤ sizeLine; decide), fun qi17f ni17f => ?_⟩
    have yi17f := smu (o := HO.tup [V.ref qi17e]) ni17f
    have mi17f := upd_same (H := Gi17e) (a := qi17f) (o := HO.tup [V.ref qi17e])
    generalize upd Gi17e qi17f (HO.tup [V.ref qi17e]) = Gi17f at yi17f mi17f ⊢
    have Vi17f := Vi17e.trans yi17f
    refine ⟨_, _, _, _, rfl, rfl, sqt_same (yi17e.trans yi17f) ri17d, SqT.of mi17f, (by show 1 + 1 ≤ 1000; decide), fun Gi17g qi17g yi17g ri17g => ?_⟩
    have Vi17g := Vi17f.trans yi17g
    refine ⟨(by show 1 ≤ sizeLine; decide), fun qi17h ni17h => ?_⟩
    have yi17h := smu (o := HO.tup [V.int 5]) ni17h
    have mi17h := upd_same (H := Gi17g) (a := qi17h) (o := HO.tup [V.int 5])
    generalize upd Gi17g qi17h (HO.tup [V.int 5]) = Gi17h at yi17h mi17h ⊢
    have Vi17h := Vi17g.trans yi17h
    refine ⟨_, _, _, .tuple [.tuple [.int 1], .tuple [.int 0]], .tuple [.int 5], .tuple [], rfl, .tup (sqt_same yi17h ri17g) (.cons (.tup (SqT.of ((yi17b.trans (yi17c.trans (yi17d.trans (yi17e.trans (yi17f.trans (yi17g.trans yi17h)))))) _ _ mi17a)) (.cons (.int 1) .nil)) (.cons (.tup (SqT.of ((yi17f.trans (yi17g.trans yi17h)) _ _ mi17e)) (.cons (.int 0) .nil)) .nil)), .tup (SqT.of mi17h) (.cons (.int 5) .nil), .tup (B.a.ep _) .nil, (by decide), fun B17 s17 => ite_t (by decide +kernel) <| ite_t (by decide +kernel) <| ite_t (by decide +kernel) <| ite_f (by decide +kernel) <| outOp ?_⟩
    have S17 := V17.trans (((((((((yi17a).trans yi17b).trans yi17c).trans yi17d).trans yi17e).trans yi17f).trans yi17g).trans yi17h).trans s17)
    have T17 := tabs_sm U17 (((((((((yi17a).trans yi17b).trans yi17c).trans yi17d).trans yi17e).trans yi17f).trans yi17g).trans yi17h).trans s17)
    have hq17 := (((((((((yi17a).trans yi17b).trans yi17c).trans yi17d).trans yi17e).trans yi17f).trans yi17g).trans yi17h).trans s17) _ _ (ext_lst e17 hq16l)
    have hD17 := (((((((((yi17a).trans yi17b).trans yi17c).trans yi17d).trans yi17e).trans yi17f).trans yi17g).trans yi17h).trans s17) _ _ (ext_lst e17 hD16l)
    refine ⟨D10, _, _, rfl, rfl, hD17, small1000 (by show 7 ≤ 1000; decide), ?_⟩
    rw [show [V.str "row", V.str "row", V.str "row", V.str "row", V.str "operation", V.str "operation", V.str "operation"] ++ [V.str "operation"] = [V.str "row", V.str "row", V.str "row", V.str "row", V.str "operation", V.str "operation", V.str "operation", V.str "operation"] from rfl]
    have S17l := same_put (o := .lst [V.str "row", V.str "row", V.str "row", V.str "row", V.str "operation", V.str "operation", V.str "operation", V.str "operation"]) S17 fD10
    have T17l := tabs_but T17 hD17 (But.upd D10 B17 (.lst [V.str "row", V.str "row", V.str "row", V.str "row", V.str "operation", V.str "operation", V.str "operation", V.str "operation"]))
    have hq17l : upd B17 D10 (.lst [V.str "row", V.str "row", V.str "row", V.str "row", V.str "operation", V.str "operation", V.str "operation", V.str "operation"]) p = _ := (upd_ne pD10).trans hq17
    have hD17l := upd_same (H := B17) (a := D10) (o := .lst [V.str "row", V.str "row", V.str "row", V.str "row", V.str "operation", V.str "operation", V.str "operation", V.str "operation"])
    generalize upd B17 D10 (.lst [V.str "row", V.str "row", V.str "row", V.str "row", V.str "operation", V.str "operation", V.str "operation", V.str "operation"]) = C17 at S17l T17l hq17l hD17l ⊢
    show tSeq _ _ _ ([_, _, _, _, _, _, _, _, _, _, _, _, _] : L2.St) _
    refine ⟨_, rfl, .inl ⟨rfl, _, SqL.of hD17l⟩, T17l, fun A18 e18 U18 => ?_⟩
    have V18 := same_ext S17l e18
    refine ⟨(by show 1 ≤ sizeLine; decide), fun qi18a ni18a => ?_⟩
    have yi18a := smu (o := HO.tup [V.int 0]) ni18a
    have mi18a := upd_same (H := A18) (a := qi18a) (o := HO.tup [V.int 0])
    generalize upd A18 qi18a (HO.tup [V.int 0]) = Gi18a at yi18a mi18a ⊢
    have Vi18a := V18.trans yi18a
    refine ⟨(by show 1 ≤ sizeLine; decide), fun qi18b ni18b => ?_⟩
    have yi18b := smu (o := HO.tup [V.int 1]) ni18b
    have mi18b := upd_same (H := Gi18a) (a := qi18b) (o := HO.tup [V.int 1])
    generalize upd Gi18a qi18b (HO.tup [V.int 1]) = Gi18b at yi18b mi18b ⊢
    have Vi18b := Vi18a.trans yi18b
    refine ⟨(by show 2 ≤ sizeLine; decide), fun qi18c ni18c => ?_⟩
    have yi18c := smu (o := HO.tup [V.ref qi18a, V.ref qi18b]) ni18c
    have mi18c := upd_same (H := Gi18b) (a := qi18c) (o := HO.tup [V.ref qi18a, V.ref qi18b])
    generalize upd Gi18b qi18c (HO.tup [V.ref qi18a, V.ref qi18b]) = Gi18c at yi18c mi18c ⊢
    have Vi18c := Vi18b.trans yi18c
    refine ⟨(by show 1 ≤ sizeLine; decide), fun qi18d ni18d => ?_⟩
    have yi18d := smu (o := HO.tup [V.int 5]) ni18d
    have mi18d := upd_same (H := Gi18c) (a := qi18d) (o := HO.tup [V.int 5])
    generalize upd Gi18c qi18d (HO.tup [V.int 5]) = Gi18d at yi18d mi18d ⊢
    have Vi18d := Vi18c.trans yi18d
    refine ⟨(by show 1 ≤ sizeLine; decide), fun qi18e ni18e => ?_⟩
    have yi18e := smu (o := HO.tup [V.int 0]) ni18e
    have mi18e := upd_same (H := Gi18d) (a := qi18e) (o := HO.tup [V.int 0])
    generalize upd Gi18d qi18e (HO.tup [V.int 0]) = Gi18e at yi18e mi18e ⊢
    have Vi18e := Vi18d.trans yi18e
    refine ⟨rfl, rfl, _, _, _, .tuple [.tuple [.int 0], .tuple [.int 1]], .tuple [.int 5], .tuple [.int 0], rfl, .tup (SqT.of ((yi18d.trans yi18e) _ _ mi18c)) (.cons (.tup (SqT.of ((yi18b.trans (yi18c.trans (yi18d.trans yi18e))) _ _ mi18a)) (.cons (.int 0) .nil)) (.cons (.tup (SqT.of ((yi18c.trans (yi18d.trans yi18e)) _ _ mi18b)) (.cons (.int 1) .nil)) .nil)), .tup (SqT.of (yi18e _ _ mi18d)) (.cons (.int 5) .nil), .tup (SqT.of mi18e) (.cons (.int 0) .nil), (by decide), fun B18 s18 => ite_t (by decide +kernel) <| ite_t (by decide +kernel) <| ite_t (by decide +kernel) <| ite_f (by decide +kernel) <| outOp ?_⟩
    have S18 := V18.trans ((((((yi18a).trans yi18b).trans yi18c).trans yi18d).trans yi18e).trans s18)
    have T18 := tabs_sm U18 ((((((yi18a).trans yi18b).trans yi18c).trans yi18d).trans yi18e).trans s18)
    have hq18 := ((((((yi18a).trans yi18b).trans yi18c).trans yi18d).trans yi18e).trans s18) _ _ (ext_lst e18 hq17l)
    have hD18 := ((((((yi18a).trans yi18b).trans yi18c).trans yi18d).trans yi18e).trans s18) _ _ (ext_lst e18 hD17l)
    refine ⟨D10, _, _, rfl, rfl, hD18, small1000 (by show 8 ≤ 1000; decide), ?_⟩
    rw [show [V.str "row", V.str "row", V.str "row", V.str "row", V.str "operation", V.str "operation", V.str "operation", V.str "operation"] ++ [V.str "operation"] = [V.str "row", V.str "row", V.str "row", V.str "row", V.str "operation", V.str "operation", V.str "operation", V.str "operation", V.str "operation"] from rfl]
    have S18l := same_put (o := .lst [V.str "row", V.str "row", V.str "row", V.str "row", V.str "operation", V.str "operation", V.str "operation", V.str "operation", V.str "operation"]) S18 fD10
    have T18l := tabs_but T18 hD18 (But.upd D10 B18 (.lst [V.str "row", V.str "row", V.str "row", V.str "row", V.str "operation", V.str "operation", V.str "operation", V.str "operation", V.str "operation"]))
    have hq18l : upd B18 D10 (.lst [V.str "row", V.str "row", V.str "row", V.str "row", V.str "operation", V.str "operation", V.str "operation", V.str "operation", V.str "operation"]) p = _ := (upd_ne pD10).trans hq18
    have hD18l := upd_same (H := B18) (a := D10) (o := .lst [V.str "row", V.str "row", V.str "row", V.str "row", V.str "operation", V.str "operation", V.str "operation", V.str "operation", V.str "operation"])
    generalize upd B18 D10 (.lst [V.str "row", V.str "row", V.str "row", V.str "row", V.str "operation", V.str "operation", V.str "operation", V.str "operation", V.str "operation"]) = C18 at S18l T18l hq18l hD18l ⊢
    show tSeq _ _ _ ([_, _, _, _, _, _, _, _, _, _, _, _, _] : L2.St) _
    refine ⟨_, rfl, (by show 1 ≤ sizeLine; decide), fun qc3a nc3a => ?_⟩
    have yc3a := smu (o := .lst [V.str "row"]) nc3a
    have mc3a := upd_same (H := C18) (a := qc3a) (o := .lst [V.str "row"])
    generalize upd C18 qc3a (.lst [V.str "row"]) = Gc3a at yc3a mc3a ⊢
    refine ⟨_, _, _, rfl, rfl, mc3a, by decide, by decide, by decide, fun qc3b nc3b => ?_⟩
    rw [show (List.replicate (Int.toNat 4) [V.str "row"]).flatten = [V.str "row", V.str "row", V.str "row", V.str "row"] from rfl]
    have yc3b := smu (o := .lst [V.str "row", V.str "row", V.str "row", V.str "row"]) nc3b
    have mc3b := upd_same (H := Gc3a) (a := qc3b) (o := .lst [V.str "row", V.str "row", V.str "row", V.str "row"])
    generalize upd Gc3a qc3b (.lst [V.str "row", V.str "row", V.str "row", V.str "row"]) = Gc3b at yc3b mc3b ⊢
    refine ⟨(by show 1 ≤ sizeLine; decide), fun qc3c nc3c => ?_⟩
    have yc3c := smu (o := .lst [V.str "operation"]) nc3c
    have mc3c := upd_same (H := Gc3b) (a := qc3c) (o := .lst [V.str "operation"])
    generalize upd Gc3b qc3c (.lst [V.str "operation"]) = Gc3c at yc3c mc3c ⊢
    refine ⟨_, _, _, rfl, rfl, mc3c, by decide, by decide, by decide, fun qc3d nc3d => ?_⟩
    rw [show (List.replicate (Int.toNat 5) [V.str "operation"]).flatten = [V.str "operation", V.str "operation", V.str "operation", V.str "operation", V.str "operation"] from rfl]
    have yc3d := smu (o := .lst [V.str "operation", V.str "operation", V.str "operation", V.str "operation", V.str "operation"]) nc3d
    have mc3d := upd_same (H := Gc3c) (a := qc3d) (o := .lst [V.str "operation", V.str "operation", V.str "operation", V.str "operation", V.str "operation"])
    generalize upd Gc3c qc3d (.lst [V.str "operation", V.str "operation", V.str "operation", V.str "operation", V.str "operation"]) = Gc3d at yc3d mc3d ⊢
    refine ⟨_, _, _, _, rfl, rfl, (yc3d _ _ (yc3c _ _ mc3b)), mc3d, by decide, fun qc3e nc3e => ?_⟩
    rw [show [V.str "row", V.str "row", V.str "row", V.str "row"] ++ [V.str "operation", V.str "operation", V.str "operation", V.str "operation", V.str "operation"] = [V.str "row", V.str "row", V.str "row", V.str "row", V.str "operation", V.str "operation", V.str "operation", V.str "operation", V.str "operation"] from rfl]
    have yc3e := smu (o := .lst [V.str "row", V.str "row", V.str "row", V.str "row", V.str "operation", V.str "operation", V.str "operation", V.str "operation", V.str "operation"]) nc3e
    have mc3e := upd_same (H := Gc3d) (a := qc3e) (o := .lst [V.str "row", V.str "row", V.str "row", V.str "row", V.str "operation", V.str "operation", V.str "operation", V.str "operation", V.str "operation"])
    generalize upd Gc3d qc3e (.lst [V.str "row", V.str "row", V.str "row", V.str "row", V.str "operation", V.str "operation", V.str "operation", V.str "operation", V.str "operation"]) = Gc3e at yc3e mc3e ⊢
    have zc3 := ((((yc3a).trans yc3b).trans yc3c).trans yc3d).trans yc3e
    refine ⟨.list [.str "row", .str "row", .str "row", .str "row", .str "operation", .str "operation", .str "operation", .str "operation", .str "operation"], .list [.str "row", .str "row", .str "row", .str "row", .str "operation", .str "operation", .str "operation", .str "operation", .str "operation"], .lst (SqL.of (zc3 _ _ hD18l)) (.cons (.str _) (.cons (.str _) (.cons (.str _) (.cons (.str _) (.cons (.str _) (.cons (.str _) (.cons (.str _) (.cons (.str _) (.cons (.str _) .nil))))))))), .lst (SqL.of mc3e) (.cons (.str _) (.cons (.str _) (.cons (.str _) (.cons (.str _) (.cons (.str _) (.cons (.str _) (.cons (.str _) (.cons (.str _) (.cons (.str _) .nil))))))))), by decide +kernel, by decide +kernel, _, rfl, ite_f (ne_self (by decide +kernel)) ?_⟩
    have Sc3 := S18l.trans zc3
    have Tc3 := tabs_sm T18l zc3
    have hqc3 := zc3 _ _ hq18l
    have hDc3 := zc3 _ _ hD18l
    refine ⟨_, rfl, _, rfl, _, rfl, _, rfl, (by show 4 ≤ sizeLine; decide), fun qz nz => ?_⟩
    have yz := smu (o := .lst [vn, vs2, vb, V.ref qa]) nz
    have mz := upd_same (H := Gc3e) (a := qz) (o := .lst [vn, vs2, vb, V.ref qa])
    generalize upd Gc3e qz (.lst [vn, vs2, vb, V.ref qa]) = Gz at yz mz ⊢
    have Sz := Sc3.trans yz
    have Tz := tabs_sm Tc3 yz
    have hqz := yz _ _ hqc3
    refine ⟨.ref qz, _, rfl, reprs (gX.trans Sz) mz, szK.1, Nat.le_trans szK.2.1 (by decide), lenK, _, rfl, rfl, _, rfl, ite_f (by rw [decide_eq_true rfl]; rfl) ?_⟩
    refine ⟨Tz, fun A19 e19 U19 => ?_⟩
    have V19 := same_ext Sz e19
    refine ⟨_, rfl, _, rfl, _, rfl, rfl, rfl, _, _, _, .tuple (linesL m n), lineD m, turnedD d, rfl, (Dt.same V19 _ _ xL2), (Dt.same V19 _ _ xA), (Dt.same V19 _ _ xT), (by show (linesL m n).length < 60; omega), fun B19 s19 => ite_t fa.rl <| ite_t fa.ll <| ite_t fa.dt <| ite_t fa.al <| ?_⟩
    have S19 := V19.trans s19
    have T19 := tabs_sm U19 s19
    have hq19 := s19 _ _ (ext_lst e19 hqz)
    refine ⟨rfl, ?_⟩
    rw [decide_eq_true rfl]
    exact fin _ (gH.trans (gX.trans (ct_mid S19))) (str_of tB hpB hq19) T19
end
end K02

/-! the law. -/
namespace K02
open PySem PySem.Spec PyProof.Rows L2 Dr Ex Rp LamX
open He (ga ma)
def menuO : List PyData := [.none, .int (-1), .int 11, .bool true, .bool false, .str "1", .tuple [.int 1], .list [], .dict [], .int (10 ^ Int.toNat 39), .int (0 - 10 ^ Int.toNat 39)]
theorem menuO_ok : ∀ d ∈ menuO, sizeOk d = false ∧ Sz 2 200 d ∧ PyData.strOk ("number " ++ d.shown) = true := by
  have h : (menuO.all fun d => !sizeOk d && (PyData.strOk ("number " ++ d.shown) && (d.showable && (decide (d.depth ≤ 2) && decide (d.shown.length ≤ 200))))) = true := by decide +kernel
  intro d hd
  have z := List.all_eq_true.mp h d hd
  simp only [Bool.and_eq_true, decide_eq_true_eq, Bool.not_eq_true'] at z
  exact ⟨z.1, ⟨z.2.2.1, z.2.2.2.1, z.2.2.2.2⟩, z.2.1⟩
theorem outNum {K : PySem.W.Frag} {Q : VK} {H : Hp} {dx : Addr} {v : V} {D : PyData} (hd : H dx = some (exd dx [("value", v)])) (hv : Dt K H v D) (hs : Shw D) (h : Q (.str ("number " ++ D.shown)) H) : OutK K Q (.ref (ga K "InvalidNumber")) (some dx) H :=
  .inr (.inr ⟨rfl, dx, v, D, rfl, hd, hv, hs, h⟩)
theorem same_but {p : Addr} {A B C : Hp} (s : Same (ct p A) B) (b : But p B C) : Same (ct p A) C := fun a o h => b a o (ct_of h).1 (s a o h)
theorem sql_fresh {K : PySem.W.Frag} {A B : Hp} {a p : Addr} {xs : List V} (h : SqL K A a xs) (f : A p = none) (s : Same A B) : SqL K (ct p B) a xs := by
  rcases h with (h | ⟨ob, h⟩) | h
  · exact .inl (.inl (ct_at (s _ _ h) (ne_of_none h f) (fun ps z => by cases z)))
  · exact .inl (.inr ⟨ob, ct_at (s _ _ h) (ne_of_none h f) (fun ps z => by cases z)⟩)
  · exact .inr h
theorem shaped2 {x : Str} (h : PyData.strOk x = true) : SeqAt.shaped (.list [.str x, .str x]) = true := by
  unfold SeqAt.shaped
  simp [PyData.canLay0, PyData.canLayAll0, PyData.depth, PyData.depthAll, h]
def spLaw (K : PySem.W.Frag) (Tb : List (Addr × Str)) : Sp := fun vs H Q _ => ∃ (a : Addr) (ns : List Int), vs = [.ref a] ∧ SqL K H a (ns.map V.int) ∧ ns.length ≤ 63 ∧ Tabs Tb H ∧ ∀ H', Q (.bl true) H'
abbrev nLaw : List Str := ["_law_script", "_law_at", "_law_stream_here", "_law_turn", "_law_odd", "_law_found"]
theorem scLaw : FnScope nLaw ["_law_script"] (defScope sLaw) := ⟨rfl, rfl, rfl, by decide +kernel, rfl, by decide +kernel, by decide +kernel⟩
def qL : Str := (envOfC "law" (defScope sLaw) 0 0 .none).qual ++ "<lambda>"
section
variable {P : Program} {w : World} {K : PySem.W.Frag} {mg : Str → Option Value} {base : Heap}
theorem ok_law {Tb : List (Addr × Str)} {fd fdR fdS : FuncData} (F : FnP K "law" sLaw (ga K "law") fd) (FR : FnP K "_law_right" sRight (ga K "_law_right") fdR) (FS' : FnP K "_law_stream" sStream (ga K "_law_stream") fdS) (gR : mg "_law_right" = some (.ref (ga K "_law_right"))) (gS : mg "_law_stream" = some (.ref (ga K "_law_stream")))
    (B : Fns3 K mg) (T : TG K mg) (M : EF K) (E9 : EM K) (TBR : TabB base mg (He.codeOf K ("_law_right", none)) (He.tabOf K (He.codeOf K ("_law_right", none)))) (TBL : TabB base mg (He.codeOf K ("law", none)) (He.tabOf K (He.codeOf K ("law", none))))
    (hmR : (He.tabOf K (He.codeOf K ("_law_right", none)), qR) ∈ Tb) (huR : ∀ z ∈ Tb, z.1 = He.tabOf K (He.codeOf K ("_law_right", none)) → z.2 = qR)
    (hmL : (He.tabOf K (He.codeOf K ("law", none)), qL) ∈ Tb) (huL : ∀ z ∈ Tb, z.1 = He.tabOf K (He.codeOf K ("law", none)) → z.2 = qL) : FnG P w K mg base CX0 8 (ga K "law") fd ["_law_script"] (spLaw K Tb) := by
  obtain ⟨dw, FW⟩ := B.fw
  obtain ⟨dp, FP⟩ := B.fp
  obtain ⟨dn, FN⟩ := B.fn
  obtain ⟨eb, FB⟩ := B.a.fb
  obtain ⟨es, FS⟩ := B.a.fs
  obtain ⟨ep, FQ⟩ := B.a.fp
  obtain ⟨ei, FI⟩ := B.a.fi
  obtain ⟨eN, FE⟩ := B.a.fN
  obtain ⟨e1, G1⟩ := B.a.b.f1
  obtain ⟨e2, G2⟩ := B.a.b.f2
  have tr := T.f "range" (by decide +kernel)
  have tx := T.f "max" (by decide +kernel)
  have tn := T.f "min" (by decide +kernel)
  have tl := T.f "len" (by decide +kernel)
  have te := T.f "repr" (by decide +kernel)
  have GR : FnG P w K mg base CX0 7 _ fdR ["_law_stream_here"] (spRight K Tb) := ok_right FR B T M E9 TBR hmR huR
  have bR : Binds K fdR ["_law_stream_here"] [] := FR.bindsN fun _ _ _ _ _ _ us hl => match us, hl with | [_], _ => rfl
  have GT : FnOk P w K mg base CX0 1 _ fdS ["_law_script", "_law_at"] (spStream K) := ok_stream FS' T
  have bT : Binds K fdS ["_law_script", "_law_at"] [] := FS'.bindsN fun _ _ _ _ _ _ us hl => match us, hl with | [_, _], _ => rfl
  have GP : FnOk P w K mg base CX0 2 _ dp ["_law_stream_here", "_law_items"] (spPick K) := ok_pick FP FW T B.gw
  have bP : Binds K dp ["_law_stream_here", "_law_items"] [] := FP.bindsN fun _ _ _ _ _ _ us hl => match us, hl with | [_, _], _ => rfl
  have GN : FnOk P w K mg base CX0 3 _ dn ["_law_stream_here", "_law_much"] (spNoLine K) := ok_noLine FN FW FP T B.gw B.gp
  have bN : Binds K dn ["_law_stream_here", "_law_much"] [] := FN.bindsN fun _ _ _ _ _ _ us hl => match us, hl with | [_, _], _ => rfl
  have GI : FnOk P w K mg base (L2.CX P w) 3 _ ei ["size", "value"] (spIsRow K) := ok_isRow FI G1 G2 FE T M B.a.b.g1 B.a.b.g2
  have bI : Binds K ei ["size", "value"] [] := FI.bindsN fun _ _ _ _ _ _ us hl => match us, hl with | [_, _], _ => rfl
  have GB : FnOk P w K mg base (L2.CX P w) 4 _ eb ["row", "other", "down"] (spBefore K) := ok_before FB B.a.b T M
  have GS : FnOk P w K mg base (L2.CX P w) 4 _ es ["rows", "down"] (spSorted K) := ok_sorted FS B.a.b T M
  have GQ : FnOk P w K mg base (L2.CX P w) 4 _ ep ["rows", "row", "down"] (spPlace K) := ok_place FQ B.a.b T M
  have kB := kb_before FB
  have kS := kb_sorted FS
  have kQ := kb_place FQ
  obtain ⟨vB, rB, cB⟩ := b0_before FB
  obtain ⟨vS, rS, cS⟩ := b0_sorted FS
  obtain ⟨vQ, rQ, cQ⟩ := b0_place FQ
  refine okGC (p := ("law", none)) F scLaw (fun vs H Q E h => ?_) (fun A outer s H vs Q E hr hg h => ?_)
  · obtain ⟨a, ns, rfl, _⟩ := h
    rfl
  · obtain ⟨a, ns, rfl, hS, hn, hT, fin⟩ := h
    have hr1 : Room 1 (A.deeper (envOfC "law" (defScope sLaw) s.heap.objs.size (ga K "law") (.ref (He.codeOf K ("law", none))))) := hr.mono (by decide)
    have hr2 : Room 2 (A.deeper (envOfC "law" (defScope sLaw) s.heap.objs.size (ga K "law") (.ref (He.codeOf K ("law", none))))) := hr.mono (by decide)
    have hr6 : Room 6 (A.deeper (envOfC "law" (defScope sLaw) s.heap.objs.size (ga K "law") (.ref (He.codeOf K ("law", none))))) := hr.mono (by decide)
    have kit : Kit (cxOf CX0 P w K mg base nLaw "law" (defScope sLaw) (ga K "law") (.ref (He.codeOf K ("law", none))) A outer s H E).nox (He.codeOf K ("law", none)) (He.tabOf K (He.codeOf K ("law", none))) Tb :=
      ⟨B.ft, B.gt, T, M, E9, hg, hr6, TBL, rfl, hmL, huL⟩
    refine ⟨_, PSs.nox (pss_cons (ps_for PassesOwn.never rfl (pi_range1 rfl tr (pa_cons (pe_callB (call_max2 rfl) (by rfl) tx (by decide +kernel) (pa_cons pe_int (pa_cons (pe_callB (call_min2 rfl) (by rfl) tn (by decide +kernel) (pa_cons pe_int (pa_cons (pe_callB call_len_seq (by rfl) tl PySem.boot_len (pa_cons (pv 0) pa_nil)) pa_nil))) pa_nil))) pa_nil)) (pg_name (i := 1) scLaw.nd rfl (Or.inl rfl))
        (pss_cons (ps_set (i := 2) scLaw.nd rfl (Or.inr rfl) (pe_call GT hr1 rfl gS FS'.kp bT .nil pass0 (pa_cons (pv 0) (pa_cons (pv 1) pa_nil))))
        (pss_cons (ps_for PassesOwn.never rfl (pi_range1 rfl tr (pa_cons pe_int pa_nil)) (pg_name (i := 3) scLaw.nd rfl (Or.inl rfl)) (pss_one (ps_if (pt_not (pt_val (pe_callG GR hr hg rfl gR FR.kp bR .nil pass0 (pa_cons (pv 2) pa_nil)))) (pss_one (ps_ret pe_bl)) pss_nil)))
        (pss_cons (ps_set (i := 4) scLaw.nd rfl (Or.inr rfl) (pe_call GP hr2 rfl B.gp FP.kp bP .nil pass0 (pa_cons (pv 2) (pa_cons (pe_lst (pa_cons pe_non (pa_cons (pe_un un_neg pe_int) (pa_cons pe_int (pa_cons pe_bl (pa_cons pe_bl (pa_cons pe_str (pa_cons (pe_tup (pa_cons pe_int pa_nil)) (pa_cons (pe_lst pa_nil) (pa_cons pe_dnewK (pa_cons (pe_op op_pow pe_int pe_int) (pa_cons (pe_op op_sub pe_int (pe_op op_pow pe_int pe_int)) pa_nil)))))))))))) pa_nil))))
        (pss_cons (ps_set (i := 5) scLaw.nd rfl (Or.inl rfl) (pe_lst (pa_cons (pe_told kit rfl (lam_by (sc := defScope sLaw) rfl (by decide +kernel)) rfl (fun _ _ _ _ _ => rfl) (fun A outer s H E f c hr => (pe_call GI (hr.mono (by decide)) rfl B.a.gi FI.kp bI .nil (passes_call (E := E) (takes_of rfl rfl rfl rfl) (fun _ _ _ _ h => h)) (pa_cons (pv 4) (pa_cons (pe_call GN (hr.mono (by decide)) rfl B.gn FN.kp bN .nil pass0 (pa_cons (pv 2) (pa_cons pe_int pa_nil))) pa_nil))))) pa_nil)))
        (pss_cons (ps_expr (pe_bm PySem.F.plainAttrs_list PySem.F.slot_list_append PySem.F.type_list_append mt_append (pv 5) (pa_cons (pe_told kit rfl (lam_by (sc := defScope sLaw) rfl (by decide +kernel)) rfl (fun _ _ _ _ _ => rfl) (fun A outer s H E f c hr => (pe_call GI (hr.mono (by decide)) rfl B.a.gi FI.kp bI .nil (passes_call (E := E) (takes_of rfl rfl rfl rfl) (fun _ _ _ _ h => h)) (pa_cons (pv 4) (pa_cons (pe_tup (pa_cons pe_int pa_nil)) pa_nil))))) pa_nil)))
        (pss_one (ps_if (pt_cmpR (show OpR _ _ (rNeD K) from op_neD hr.units) (pv 5) (pe_op op_rep (pe_lst (pa_cons (pe_op op_add_str pe_str (pe_callB (call_repr_any E9.sys hg hr.units) (by rfl) te (by decide +kernel) (pa_cons (pv 4) pa_nil))) pa_nil)) pe_int) (nomark _)) (pss_one (ps_ret pe_bl)) pss_nil))))))))
        (pss_cons (ps_set (i := 5) scLaw.nd rfl (Or.inl rfl) (pe_lst (pa_cons (pe_told kit rfl (lam_by (sc := defScope sLaw) rfl (by decide +kernel)) rfl (fun _ _ _ _ _ => rfl) (fun A outer s H E f c hr => (pe_call GI (hr.mono (by decide)) rfl B.a.gi FI.kp bI .nil (passes_call (E := E) (takes_of rfl rfl rfl rfl) (fun _ _ _ _ h => h)) (pa_cons pe_int (pa_cons pe_non pa_nil))))) pa_nil)))
        (pss_cons (ps_expr (pe_bm PySem.F.plainAttrs_list PySem.F.slot_list_append PySem.F.type_list_append mt_append (pv 5) (pa_cons (pe_told kit rfl (lam_by (sc := defScope sLaw) rfl (by decide +kernel)) rfl (fun _ _ _ _ _ => rfl) (fun A outer s H E f c hr => (pe_call GI (hr.mono (by decide)) rfl B.a.gi FI.kp bI .nil (passes_call (E := E) (takes_of rfl rfl rfl rfl) (fun _ _ _ _ h => h)) (pa_cons pe_int (pa_cons (pe_lst pa_nil) pa_nil))))) pa_nil)))
        (pss_cons (ps_expr (pe_bm PySem.F.plainAttrs_list PySem.F.slot_list_append PySem.F.type_list_append mt_append (pv 5) (pa_cons (pe_told kit rfl (lam_by (sc := defScope sLaw) rfl (by decide +kernel)) rfl (fun _ _ _ _ _ => rfl) (fun A outer s H E f c hr => (pe_call GI (hr.mono (by decide)) rfl B.a.gi FI.kp bI .nil (passes_call (E := E) (takes_of rfl rfl rfl rfl) (fun _ _ _ _ h => h)) (pa_cons pe_int (pa_cons (pe_tup pa_nil) pa_nil))))) pa_nil)))
        (pss_cons (ps_expr (pe_bm PySem.F.plainAttrs_list PySem.F.slot_list_append PySem.F.type_list_append mt_append (pv 5) (pa_cons (pe_told kit rfl (lam_by (sc := defScope sLaw) rfl (by decide +kernel)) rfl (fun _ _ _ _ _ => rfl) (fun A outer s H E f c hr => (pe_callN GB hr rfl B.a.gb FB.kp kB (passes_call (E := E) (takes_of rfl rfl rfl rfl) (fun _ _ _ _ h => h)) (pa_cons (pe_op (show OpR _ _ (Tp.rRepA K) from Tp.op_repA) (pe_tup (pa_cons pe_int pa_nil)) pe_int) (pa_cons (pe_op (show OpR _ _ (Tp.rRepA K) from Tp.op_repA) (pe_tup (pa_cons pe_int pa_nil)) pe_int) pa_nil)) (pk_cons (pe_tup (pa_cons pe_int (pa_cons pe_int pa_nil))) pk_nil)))) pa_nil)))
        (pss_cons (ps_expr (pe_bm PySem.F.plainAttrs_list PySem.F.slot_list_append PySem.F.type_list_append mt_append (pv 5) (pa_cons (pe_told kit rfl (lam_by (sc := defScope sLaw) rfl (by decide +kernel)) rfl (fun _ _ _ _ _ => rfl) (fun A outer s H E f c hr => (pe_call GB hr rfl B.a.gb FB.kp cB rB (passes_call (E := E) (takes_of rfl rfl rfl rfl) (fun _ _ _ _ h => h)) (pa_cons (pe_op (show OpR _ _ (Tp.rRepA K) from Tp.op_repA) (pe_tup (pa_cons pe_int pa_nil)) pe_int) (pa_cons (pe_op (show OpR _ _ (Tp.rRepA K) from Tp.op_repA) (pe_tup (pa_cons pe_int pa_nil)) pe_int) pa_nil))))) pa_nil)))
        (pss_cons (ps_expr (pe_bm PySem.F.plainAttrs_list PySem.F.slot_list_append PySem.F.type_list_append mt_append (pv 5) (pa_cons (pe_told kit rfl (lam_by (sc := defScope sLaw) rfl (by decide +kernel)) rfl (fun _ _ _ _ _ => rfl) (fun A outer s H E f c hr => (pe_call GS hr rfl B.a.gs FS.kp cS rS (passes_call (E := E) (takes_of rfl rfl rfl rfl) (fun _ _ _ _ h => h)) (pa_cons (pe_tup (pa_cons (pe_op (show OpR _ _ (Tp.rRepA K) from Tp.op_repA) (pe_tup (pa_cons pe_int pa_nil)) pe_int) pa_nil)) pa_nil)))) pa_nil)))
        (pss_cons (ps_expr (pe_bm PySem.F.plainAttrs_list PySem.F.slot_list_append PySem.F.type_list_append mt_append (pv 5) (pa_cons (pe_told kit rfl (lam_by (sc := defScope sLaw) rfl (by decide +kernel)) rfl (fun _ _ _ _ _ => rfl) (fun A outer s H E f c hr => (pe_call GQ hr rfl B.a.gp FQ.kp cQ rQ (passes_call (E := E) (takes_of rfl rfl rfl rfl) (fun _ _ _ _ h => h)) (pa_cons (pe_tup pa_nil) (pa_cons (pe_op (show OpR _ _ (Tp.rRepA K) from Tp.op_repA) (pe_tup (pa_cons pe_int pa_nil)) pe_int) pa_nil))))) pa_nil)))
        (pss_cons (ps_expr (pe_bm PySem.F.plainAttrs_list PySem.F.slot_list_append PySem.F.type_list_append mt_append (pv 5) (pa_cons (pe_told kit rfl (lam_by (sc := defScope sLaw) rfl (by decide +kernel)) rfl (fun _ _ _ _ _ => rfl) (fun A outer s H E f c hr => (pe_callN GQ hr rfl B.a.gp FQ.kp kQ (passes_call (E := E) (takes_of rfl rfl rfl rfl) (fun _ _ _ _ h => h)) (pa_cons (pe_tup pa_nil) (pa_cons (pe_op (show OpR _ _ (Tp.rRepA K) from Tp.op_repA) (pe_tup (pa_cons pe_int pa_nil)) pe_int) pa_nil)) (pk_cons (pe_tup (pa_cons pe_int pa_nil)) pk_nil)))) pa_nil)))
        (pss_one (ps_ret (pe_cmpR (show OpR _ _ (rEqD K) from op_eqD hr.units) (pv 5) (pe_lst (pa_cons pe_str (pa_cons pe_str (pa_cons pe_str (pa_cons pe_str (pa_cons pe_str (pa_cons pe_str (pa_cons pe_str (pa_cons pe_str pa_nil))))))))) (nomark _))))))))))))), ?_⟩
    refine ⟨_, rfl, a, _, rfl, .inl hS, _, _, rfl, _, _, rfl, ?_⟩
    generalize hN : (if (if ((ns.map V.int).length : Int) < 8 then ((ns.map V.int).length : Int) else 8) > 1 then (if ((ns.map V.int).length : Int) < 8 then ((ns.map V.int).length : Int) else 8) else 1) = N
    have hN1 : 1 ≤ N ∧ N ≤ 8 := by
      rw [← hN]
      split
      · split at * <;> omega
      · omega
    refine ⟨_, rfl, by omega, by omega, for_range (lo := 0) (n := N.toNat) (fun i σ H' => ∃ x1 x2 x3 x4 x5 : Option V, σ = [some (.ref a), x1, x2, x3, x4, x5] ∧ SqL K H' a (ns.map V.int) ∧ Tabs Tb H') ⟨none, none, none, none, none, rfl, hS, hT⟩ ?_ ?_⟩
    · rintro i σ H0 hi ⟨x1, x2, x3, x4, x5, rfl, hS0, hT0⟩
      refine ⟨_, rfl, _, rfl, a, ns, i, (by simp), hS0, hn, by omega, fun H1 p s1 hp0 st1 => ?_⟩
      have T1 := tabs_sm hT0 s1
      have sq1 : SqL K (ct p H1) a (ns.map V.int) := sql_fresh hS0 hp0 s1
      show tSeq _ _ _ ([_, _, _, _, _, _] : L2.St) _
      refine ⟨_, rfl, by decide, by decide, for_range (lo := 0) (n := 3) (fun j σ H' => ∃ t : Option V, σ = [some (.ref a), some (.int (0 + (i : Int))), some (.ref p), t, x4, x5] ∧ Same (ct p H1) (ct p H') ∧ StrAt H' p (7 * j) ∧ Tabs Tb H') ⟨_, rfl, Same.refl _, st1, T1⟩ ?_ ?_⟩
      · rintro j σ H2 hj ⟨t, rfl, sj, tj, Tj⟩
        refine ⟨_, rfl, p, 7 * j, rfl, tj, by omega, Tj, fun H3 s3 t3 T3 => ⟨_, rfl, ite_f rfl ?_⟩⟩
        exact ⟨_, rfl, sj.trans s3, t3, T3⟩
      rintro σ J0 ⟨t, rfl, s2, t2, T2⟩
      obtain ⟨st2, hp2⟩ := t2.some
      refine ⟨_, rfl, _, rfl, (by show 1 ≤ sizeLine; decide), fun q1 n1 => ?_⟩
      have y1 := smu (o := HO.tup [V.int 1]) n1
      obtain ⟨c1, m1⟩ := ct_new (p := p) (o := HO.tup [V.int 1]) (by rw [hp2]; simp) n1 (fun ps z => by cases z)
      have hp1 := y1 _ _ hp2
      have t1 := t2.same y1
      generalize upd J0 q1 (HO.tup [V.int 1]) = J1 at y1 c1 m1 hp1 t1 ⊢
      refine ⟨(by show 0 ≤ sizeLine; decide), fun q2 n2 => ?_⟩
      have y2 := smu (o := HO.lst []) n2
      obtain ⟨c2, m2⟩ := ct_new (p := p) (o := HO.lst []) (by rw [hp1]; simp) n2 (fun ps z => by cases z)
      have hp2 := y2 _ _ hp1
      have t2 := t1.same y2
      generalize upd J1 q2 (HO.lst []) = J2 at y2 c2 m2 hp2 t2 ⊢
      refine fun q3 n3 => ?_
      have y3 := smu (o := HO.dK []) n3
      obtain ⟨c3, m3⟩ := ct_new (p := p) (o := HO.dK []) (by rw [hp2]; simp) n3 (fun ps z => by cases z)
      have hp3 := y3 _ _ hp2
      have t3 := t2.same y3
      generalize upd J2 q3 (HO.dK []) = J3 at y3 c3 m3 hp3 t3 ⊢
      refine ⟨_, _, rfl, rfl, ⟨by decide, by decide, by decide⟩, _, _, rfl, rfl, ⟨by decide, by decide, by decide⟩, _, _, rfl, rfl, (by show 11 ≤ sizeLine; decide), fun q4 n4 => ?_⟩
      have y4 := smu (o := HO.lst [V.non, V.int (-1), V.int 11, V.bl true, V.bl false, V.str "1", V.ref q1, V.ref q2, V.ref q3, V.int (10 ^ Int.toNat 39), V.int (0 - 10 ^ Int.toNat 39)]) n4
      obtain ⟨c4, m4⟩ := ct_new (p := p) (o := HO.lst [V.non, V.int (-1), V.int 11, V.bl true, V.bl false, V.str "1", V.ref q1, V.ref q2, V.ref q3, V.int (10 ^ Int.toNat 39), V.int (0 - 10 ^ Int.toNat 39)]) (by rw [hp3]; simp) n4 (fun ps z => by cases z)
      have hp4 := y4 _ _ hp3
      have t4 := t3.same y4
      generalize upd J3 q4 (HO.lst [V.non, V.int (-1), V.int 11, V.bl true, V.bl false, V.str "1", V.ref q1, V.ref q2, V.ref q3, V.int (10 ^ Int.toNat 39), V.int (0 - 10 ^ Int.toNat 39)]) = J4 at y4 c4 m4 hp4 t4 ⊢
      refine ⟨p, q4, _, 7 * 3, rfl, t4, (by omega), (ne_of_none hp3 n4), SqL.of (ct_all _ _ m4), (by show 0 < 11; decide), (by show 11 < 1000000; decide), fun Hk ik vo hx bH sH => ?_⟩
      have all : DtAll K (ct p J4) [V.non, V.int (-1), V.int 11, V.bl true, V.bl false, V.str "1", V.ref q1, V.ref q2, V.ref q3, V.int (10 ^ Int.toNat 39), V.int (0 - 10 ^ Int.toNat 39)] menuO := (.cons (.non) (.cons (.int _) (.cons (.int _) (.cons (.bl _) (.cons (.bl _) (.cons (.str _) (.cons ((.tup (SqT.of (((c2.trans c3).trans c4) _ _ m1)) (.cons (.int _) .nil))) (.cons ((.lst (SqL.of ((c3.trans c4) _ _ m2)) .nil)) (.cons ((.dic ((c4) _ _ m3) .nil)) (.cons (.int _) (.cons (.int _) .nil)))))))))))
      obtain ⟨dO, e1, e2⟩ := dt_all_get all hx
      have sY : Same J0 J4 := (((y1).trans y2).trans y3).trans y4
      have hO := Dt.same (ct_but bH) dO _ e2
      obtain ⟨nO, zO, kO⟩ := menuO_ok _ (List.mem_of_getElem? e1)
      have Tk := tabs_but (tabs_sm T2 sY) hp4 bH
      obtain ⟨stk, hpk⟩ := sH.some
      have sqk : SqL K (ct p Hk) a (ns.map V.int) := ((s2.trans (ct_sm sY)).trans (ct_but bH)).seq sq1
      have shO : Shw dO := ⟨zO.1, Nat.le_trans zO.2.1 (by decide), Nat.le_trans zO.2.2 (by decide)⟩
      have okO : Dt K (ct p Hk) vo dO := hO
      show tSeq _ _ _ ([_, _, _, _, _, _] : L2.St) _
      refine ⟨Tk, fun A1 e1 U1 => ?_⟩
      have V1 : Same (ct p Hk) A1 := same_ext ct_all e1
      have hpA := ext_lst e1 hpk
      refine ⟨_, rfl, _, rfl, p, 3, 7 * 3 + 1, rfl, str_of sH hpk hpA, by omega, by decide, by decide, fun H5 vn dn b5 t5 hn5 mn5 => ?_⟩
      obtain ⟨st5, hp5⟩ := t5.some
      have V5 := same_but V1 b5
      have U5 := tabs_but U1 hpA b5
      refine ⟨vo, vn, dO, dn, rfl, Dt.same V5 _ _ okO, Dt.same ct_all _ _ hn5, fun B1 s1' => ite_f nO fun dx hdx => outNum hdx (Dt.same (V5.trans s1') _ _ okO) shO ?_⟩
      have SB := V5.trans s1'
      have UB := tabs_sm U5 s1'
      have hpB := s1' _ _ hp5
      generalize hwn : (("number " : Str) ++ dO.shown) = wn at kO ⊢
      refine ⟨(by show 1 ≤ sizeLine; decide), fun D1 nD1 => ?_⟩
      have yD := smu (o := .lst [V.str wn]) nD1
      have mD := upd_same (H := B1) (a := D1) (o := .lst [V.str wn])
      have fD : ct p Hk D1 = none := same_free SB nD1
      have pD : p ≠ D1 := ne_of_none hpB nD1
      have SC := same_put (o := .lst [V.str wn]) SB fD
      have UC := tabs_sm UB yD
      have hpC := yD _ _ hpB
      generalize upd B1 D1 (.lst [V.str wn]) = C1 at SC UC hpC mD ⊢
      show tSeq _ _ _ ([_, _, _, _, _, _] : L2.St) _
      refine ⟨_, rfl, .inl ⟨rfl, _, SqL.of mD⟩, UC, fun A2 e2' U2 => ?_⟩
      have V2 := same_ext SC e2'
      refine ⟨_, rfl, (by show 1 ≤ sizeLine; decide), fun qx nx => ?_⟩
      have yx := smu (o := .tup [V.int 1]) nx
      have mx := upd_same (H := A2) (a := qx) (o := .tup [V.int 1])
      generalize upd A2 qx (.tup [V.int 1]) = Gx at yx mx ⊢
      refine ⟨vo, .ref qx, dO, .tuple [.int 1], rfl, Dt.same (V2.trans yx) _ _ okO, .tup (SqT.of mx) (.cons (.int 1) .nil), fun B2 s2' => ite_f nO fun dx hdx => outNum hdx (Dt.same ((V2.trans yx).trans s2') _ _ okO) shO ?_⟩
      have SE := (V2.trans yx).trans s2'
      have UE := tabs_sm U2 (yx.trans s2')
      have mE := (yx.trans s2') _ _ (ext_lst e2' mD)
      have hpE := (yx.trans s2') _ _ (ext_lst e2' hpC)
      rw [hwn]
      refine ⟨D1, _, _, rfl, rfl, mE, small1000 (by show 1 ≤ 1000; decide), ?_⟩
      rw [show [V.str wn] ++ [V.str wn] = [V.str wn, V.str wn] from rfl]
      have SF := same_put (o := .lst [V.str wn, V.str wn]) SE fD
      have UF := tabs_but UE mE (But.upd D1 B2 (.lst [V.str wn, V.str wn]))
      have mF := upd_same (H := B2) (a := D1) (o := .lst [V.str wn, V.str wn])
      generalize upd B2 D1 (.lst [V.str wn, V.str wn]) = F2 at SF UF mF ⊢
      have lenO : dO.shown.length ≤ 200 := zO.2.2
      refine ⟨_, rfl, _, rfl, vo, dO, rfl, Dt.same SF _ _ okO, shO.1, shO.2.1, (by rw [sizeLine_eq]; omega), _, _, rfl, rfl, (by rw [sizeLine_eq]; show 7 + _ ≤ _; omega), ?_⟩
      rw [hwn]
      refine ⟨(by show 1 ≤ sizeLine; decide), fun qy ny => ?_⟩
      have yy := smu (o := .lst [V.str wn]) ny
      have my := upd_same (H := F2) (a := qy) (o := .lst [V.str wn])
      generalize upd F2 qy (.lst [V.str wn]) = Gy at yy my ⊢
      refine ⟨_, _, _, rfl, rfl, my, by decide, by decide, by show 1 * 2 ≤ sizeLine; decide, fun qz nz => ?_⟩
      rw [show (List.replicate (Int.toNat 2) [V.str wn]).flatten = [V.str wn, V.str wn] from rfl]
      have yz := smu (o := .lst [V.str wn, V.str wn]) nz
      have mz := upd_same (H := Gy) (a := qz) (o := .lst [V.str wn, V.str wn])
      generalize upd Gy qz (.lst [V.str wn, V.str wn]) = Gz at yz mz ⊢
      refine ⟨.list [.str wn, .str wn], .list [.str wn, .str wn], .lst (SqL.of ((yy.trans yz) _ _ mF)) (.cons (.str _) (.cons (.str _) .nil)), .lst (SqL.of mz) (.cons (.str _) (.cons (.str _) .nil)), shaped2 kO, shaped2 kO, _, rfl, ite_f (ne_self (shaped2 kO)) ?_⟩
      exact ⟨_, _, _, _, _, rfl, (((SF.trans yy).trans yz).seq sqk), tabs_sm UF (yy.trans yz)⟩
    rintro σ Hm ⟨x1, x2, x3, x4, x5, rfl, _, Tm⟩
    show tSeq _ _ _ ([_, _, _, _, _, _] : L2.St) _
    refine ⟨Tm, fun At1 et1 Ut1 => ?_⟩
    refine ⟨.int 10, .non, .int 10, .none, rfl, .int _, .non, fun Bt1 st1 => ite_t rfl ?_⟩
    have Tt1 := tabs_sm Ut1 st1
    refine ⟨(by show 1 ≤ sizeLine; decide), fun Dt1 nDt1 => ?_⟩
    have yDt1 := smu (o := .lst [V.str "fine"]) nDt1
    have Tt1l := tabs_sm Tt1 yDt1
    have hDt1l := upd_same (H := Bt1) (a := Dt1) (o := .lst [V.str "fine"])
    generalize upd Bt1 Dt1 (.lst [V.str "fine"]) = Ct1 at Tt1l hDt1l ⊢
    show tSeq _ _ _ ([_, _, _, _, _, _] : L2.St) _
    refine ⟨_, rfl, .inl ⟨rfl, _, SqL.of hDt1l⟩, Tt1l, fun At2 et2 Ut2 => ?_⟩
    refine ⟨(by show 0 ≤ sizeLine; decide), fun qt2a nt2a => ?_⟩
    have yt2a := smu (o := HO.lst []) nt2a
    have mt2a := upd_same (H := At2) (a := qt2a) (o := HO.lst [])
    generalize upd At2 qt2a (HO.lst []) = Gt2a at yt2a mt2a ⊢
    refine ⟨.int 0, .ref qt2a, .int 0, .list [], rfl, .int _, .lst (SqL.of mt2a) .nil, fun Bt2 st2 => ite_t rfl ?_⟩
    have Tt2 := tabs_sm Ut2 ((yt2a).trans st2)
    have hDt2 := ((yt2a).trans st2) _ _ (ext_lst et2 hDt1l)
    refine ⟨Dt1, _, _, rfl, rfl, hDt2, small1000 (by show 1 ≤ 1000; decide), ?_⟩
    rw [show [V.str "fine"] ++ [V.str "fine"] = [V.str "fine", V.str "fine"] from rfl]
    have Tt2l := tabs_but Tt2 hDt2 (But.upd Dt1 Bt2 (.lst [V.str "fine", V.str "fine"]))
    have hDt2l := upd_same (H := Bt2) (a := Dt1) (o := .lst [V.str "fine", V.str "fine"])
    generalize upd Bt2 Dt1 (.lst [V.str "fine", V.str "fine"]) = Ct2 at Tt2l hDt2l ⊢
    show tSeq _ _ _ ([_, _, _, _, _, _] : L2.St) _
    refine ⟨_, rfl, .inl ⟨rfl, _, SqL.of hDt2l⟩, Tt2l, fun At3 et3 Ut3 => ?_⟩
    refine ⟨(by show 0 ≤ sizeLine; decide), fun qt3a nt3a => ?_⟩
    have yt3a := smu (o := HO.tup []) nt3a
    have mt3a := upd_same (H := At3) (a := qt3a) (o := HO.tup [])
    generalize upd At3 qt3a (HO.tup []) = Gt3a at yt3a mt3a ⊢
    refine ⟨.int 11, .ref qt3a, .int 11, .tuple [], rfl, .int _, .tup (SqT.of mt3a) .nil, fun Bt3 st3 => ite_f rfl fun dx hdx => outNum hdx (.int _) ⟨rfl, by decide, by decide +kernel⟩ ?_⟩
    have Tt3 := tabs_sm Ut3 ((yt3a).trans st3)
    have hDt3 := ((yt3a).trans st3) _ _ (ext_lst et3 hDt2l)
    rw [show (("number " : Str) ++ (PyData.int 11).shown) = "number 11" by decide +kernel]
    refine ⟨Dt1, _, _, rfl, rfl, hDt3, small1000 (by show 2 ≤ 1000; decide), ?_⟩
    rw [show [V.str "fine", V.str "fine"] ++ [V.str "number 11"] = [V.str "fine", V.str "fine", V.str "number 11"] from rfl]
    have Tt3l := tabs_but Tt3 hDt3 (But.upd Dt1 Bt3 (.lst [V.str "fine", V.str "fine", V.str "number 11"]))
    have hDt3l := upd_same (H := Bt3) (a := Dt1) (o := .lst [V.str "fine", V.str "fine", V.str "number 11"])
    generalize upd Bt3 Dt1 (.lst [V.str "fine", V.str "fine", V.str "number 11"]) = Ct3 at Tt3l hDt3l ⊢
    show tSeq _ _ _ ([_, _, _, _, _, _] : L2.St) _
    refine ⟨_, rfl, .inl ⟨rfl, _, SqL.of hDt3l⟩, Tt3l, fun At4 et4 Ut4 => ?_⟩
    refine ⟨(by show 1 ≤ sizeLine; decide), fun qt4a nt4a => ?_⟩
    have yt4a := smu (o := HO.tup [V.int 0]) nt4a
    have mt4a := upd_same (H := At4) (a := qt4a) (o := HO.tup [V.int 0])
    generalize upd At4 qt4a (HO.tup [V.int 0]) = Gt4a at yt4a mt4a ⊢
    refine ⟨_, _, _, rfl, rfl, SqT.of mt4a, List.cons_ne_nil _ _, by decide, by decide, by show 1 ≤ 1000; decide, fun Gt4b qt4b yt4b rt4b => ?_⟩
    rw [Tp.rep_flat] at rt4b
    refine ⟨(by show 1 ≤ sizeLine; decide), fun qt4c nt4c => ?_⟩
    have yt4c := smu (o := HO.tup [V.int 1]) nt4c
    have mt4c := upd_same (H := Gt4b) (a := qt4c) (o := HO.tup [V.int 1])
    generalize upd Gt4b qt4c (HO.tup [V.int 1]) = Gt4c at yt4c mt4c ⊢
    refine ⟨_, _, _, rfl, rfl, SqT.of mt4c, List.cons_ne_nil _ _, by decide, by decide, by show 1 ≤ 1000; decide, fun Gt4d qt4d yt4d rt4d => ?_⟩
    rw [Tp.rep_flat] at rt4d
    refine ⟨(by show 2 ≤ sizeLine; decide), fun qt4e nt4e => ?_⟩
    have yt4e := smu (o := HO.tup [V.int 0, V.int 9]) nt4e
    have mt4e := upd_same (H := Gt4d) (a := qt4e) (o := HO.tup [V.int 0, V.int 9])
    generalize upd Gt4d qt4e (HO.tup [V.int 0, V.int 9]) = Gt4e at yt4e mt4e ⊢
    refine ⟨rfl, rfl, _, _, _, .tuple (List.replicate (Int.toNat 10) (.int 0)), .tuple (List.replicate (Int.toNat 10) (.int 1)), .tuple [.int 0, .int 9], rfl, .tup (sqt_same ((yt4c.trans yt4d).trans yt4e) rt4b) (dt_rep (.int 0) (Int.toNat 10)), .tup (sqt_same (yt4e) rt4d) (dt_rep (.int 1) (Int.toNat 10)), .tup (SqT.of mt4e) (.cons (.int 0) (.cons (.int 9) .nil)), fun Bt4 st4 => ite_t (by decide +kernel) <| ite_t (by decide +kernel) <| ?_⟩
    have Tt4 := tabs_sm Ut4 ((((((yt4a).trans yt4b).trans yt4c).trans yt4d).trans yt4e).trans st4)
    have hDt4 := ((((((yt4a).trans yt4b).trans yt4c).trans yt4d).trans yt4e).trans st4) _ _ (ext_lst et4 hDt3l)
    refine ⟨Dt1, _, _, rfl, rfl, hDt4, small1000 (by show 3 ≤ 1000; decide), ?_⟩
    rw [show [V.str "fine", V.str "fine", V.str "number 11"] ++ [V.str "fine"] = [V.str "fine", V.str "fine", V.str "number 11", V.str "fine"] from rfl]
    have Tt4l := tabs_but Tt4 hDt4 (But.upd Dt1 Bt4 (.lst [V.str "fine", V.str "fine", V.str "number 11", V.str "fine"]))
    have hDt4l := upd_same (H := Bt4) (a := Dt1) (o := .lst [V.str "fine", V.str "fine", V.str "number 11", V.str "fine"])
    generalize upd Bt4 Dt1 (.lst [V.str "fine", V.str "fine", V.str "number 11", V.str "fine"]) = Ct4 at Tt4l hDt4l ⊢
    show tSeq _ _ _ ([_, _, _, _, _, _] : L2.St) _
    refine ⟨_, rfl, .inl ⟨rfl, _, SqL.of hDt4l⟩, Tt4l, fun At5 et5 Ut5 => ?_⟩
    refine ⟨(by show 1 ≤ sizeLine; decide), fun qt5a nt5a => ?_⟩
    have yt5a := smu (o := HO.tup [V.int 0]) nt5a
    have mt5a := upd_same (H := At5) (a := qt5a) (o := HO.tup [V.int 0])
    generalize upd At5 qt5a (HO.tup [V.int 0]) = Gt5a at yt5a mt5a ⊢
    refine ⟨_, _, _, rfl, rfl, SqT.of mt5a, List.cons_ne_nil _ _, by decide, by decide, by show 1 ≤ 1000; decide, fun Gt5b qt5b yt5b rt5b => ?_⟩
    rw [Tp.rep_flat] at rt5b
    refine ⟨(by show 1 ≤ sizeLine; decide), fun qt5c nt5c => ?_⟩
    have yt5c := smu (o := HO.tup [V.int 1]) nt5c
    have mt5c := upd_same (H := Gt5b) (a := qt5c) (o := HO.tup [V.int 1])
    generalize upd Gt5b qt5c (HO.tup [V.int 1]) = Gt5c at yt5c mt5c ⊢
    refine ⟨_, _, _, rfl, rfl, SqT.of mt5c, List.cons_ne_nil _ _, by decide, by decide, by show 1 ≤ 1000; decide, fun Gt5d qt5d yt5d rt5d => ?_⟩
    rw [Tp.rep_flat] at rt5d
    refine ⟨_, _, _, .tuple (List.replicate (Int.toNat 11) (.int 0)), .tuple (List.replicate (Int.toNat 11) (.int 1)), .tuple [], rfl, .tup (sqt_same (yt5c.trans yt5d) rt5b) (dt_rep (.int 0) (Int.toNat 11)), .tup (rt5d) (dt_rep (.int 1) (Int.toNat 11)), .tup (B.a.eb _) .nil, fun Bt5 st5 => ite_f (by decide +kernel) <| outRow ?_⟩
    have Tt5 := tabs_sm Ut5 (((((yt5a).trans yt5b).trans yt5c).trans yt5d).trans st5)
    have hDt5 := (((((yt5a).trans yt5b).trans yt5c).trans yt5d).trans st5) _ _ (ext_lst et5 hDt4l)
    refine ⟨Dt1, _, _, rfl, rfl, hDt5, small1000 (by show 4 ≤ 1000; decide), ?_⟩
    rw [show [V.str "fine", V.str "fine", V.str "number 11", V.str "fine"] ++ [V.str "row"] = [V.str "fine", V.str "fine", V.str "number 11", V.str "fine", V.str "row"] from rfl]
    have Tt5l := tabs_but Tt5 hDt5 (But.upd Dt1 Bt5 (.lst [V.str "fine", V.str "fine", V.str "number 11", V.str "fine", V.str "row"]))
    have hDt5l := upd_same (H := Bt5) (a := Dt1) (o := .lst [V.str "fine", V.str "fine", V.str "number 11", V.str "fine", V.str "row"])
    generalize upd Bt5 Dt1 (.lst [V.str "fine", V.str "fine", V.str "number 11", V.str "fine", V.str "row"]) = Ct5 at Tt5l hDt5l ⊢
    show tSeq _ _ _ ([_, _, _, _, _, _] : L2.St) _
    refine ⟨_, rfl, .inl ⟨rfl, _, SqL.of hDt5l⟩, Tt5l, fun At6 et6 Ut6 => ?_⟩
    refine ⟨(by show 1 ≤ sizeLine; decide), fun qt6a nt6a => ?_⟩
    have yt6a := smu (o := HO.tup [V.int 0]) nt6a
    have mt6a := upd_same (H := At6) (a := qt6a) (o := HO.tup [V.int 0])
    generalize upd At6 qt6a (HO.tup [V.int 0]) = Gt6a at yt6a mt6a ⊢
    refine ⟨_, _, _, rfl, rfl, SqT.of mt6a, List.cons_ne_nil _ _, by decide, by decide, by show 1 ≤ 1000; decide, fun Gt6b qt6b yt6b rt6b => ?_⟩
    rw [Tp.rep_flat] at rt6b
    refine ⟨(by show 1 ≤ sizeLine; decide), fun qt6c nt6c => ?_⟩
    have yt6c := smu (o := HO.tup [V.ref qt6b]) nt6c
    have mt6c := upd_same (H := Gt6b) (a := qt6c) (o := HO.tup [V.ref qt6b])
    generalize upd Gt6b qt6c (HO.tup [V.ref qt6b]) = Gt6c at yt6c mt6c ⊢
    refine ⟨_, _, .tuple [.tuple (List.replicate (Int.toNat 11) (.int 0))], .tuple [], rfl, .tup (SqT.of mt6c) (.cons (.tup (sqt_same (yt6c) rt6b) (dt_rep (.int 0) (Int.toNat 11))) .nil), .tup (B.a.es _) .nil, (by decide), (by decide +kernel), fun Bt6 st6 => ite_f (by decide +kernel) <| outRow ?_⟩
    have Tt6 := tabs_sm Ut6 ((((yt6a).trans yt6b).trans yt6c).trans st6)
    have hDt6 := ((((yt6a).trans yt6b).trans yt6c).trans st6) _ _ (ext_lst et6 hDt5l)
    refine ⟨Dt1, _, _, rfl, rfl, hDt6, small1000 (by show 5 ≤ 1000; decide), ?_⟩
    rw [show [V.str "fine", V.str "fine", V.str "number 11", V.str "fine", V.str "row"] ++ [V.str "row"] = [V.str "fine", V.str "fine", V.str "number 11", V.str "fine", V.str "row", V.str "row"] from rfl]
    have Tt6l := tabs_but Tt6 hDt6 (But.upd Dt1 Bt6 (.lst [V.str "fine", V.str "fine", V.str "number 11", V.str "fine", V.str "row", V.str "row"]))
    have hDt6l := upd_same (H := Bt6) (a := Dt1) (o := .lst [V.str "fine", V.str "fine", V.str "number 11", V.str "fine", V.str "row", V.str "row"])
    generalize upd Bt6 Dt1 (.lst [V.str "fine", V.str "fine", V.str "number 11", V.str "fine", V.str "row", V.str "row"]) = Ct6 at Tt6l hDt6l ⊢
    show tSeq _ _ _ ([_, _, _, _, _, _] : L2.St) _
    refine ⟨_, rfl, .inl ⟨rfl, _, SqL.of hDt6l⟩, Tt6l, fun At7 et7 Ut7 => ?_⟩
    refine ⟨(by show 0 ≤ sizeLine; decide), fun qt7a nt7a => ?_⟩
    have yt7a := smu (o := HO.tup []) nt7a
    have mt7a := upd_same (H := At7) (a := qt7a) (o := HO.tup [])
    generalize upd At7 qt7a (HO.tup []) = Gt7a at yt7a mt7a ⊢
    refine ⟨(by show 1 ≤ sizeLine; decide), fun qt7b nt7b => ?_⟩
    have yt7b := smu (o := HO.tup [V.int 0]) nt7b
    have mt7b := upd_same (H := Gt7a) (a := qt7b) (o := HO.tup [V.int 0])
    generalize upd Gt7a qt7b (HO.tup [V.int 0]) = Gt7b at yt7b mt7b ⊢
    refine ⟨_, _, _, rfl, rfl, SqT.of mt7b, List.cons_ne_nil _ _, by decide, by decide, by show 1 ≤ 1000; decide, fun Gt7c qt7c yt7c rt7c => ?_⟩
    rw [Tp.rep_flat] at rt7c
    refine ⟨_, _, _, .tuple [], .tuple (List.replicate (Int.toNat 11) (.int 0)), .tuple [], rfl, .tup (sqt_same (yt7b.trans yt7c) (SqT.of mt7a)) .nil, .tup (rt7c) (dt_rep (.int 0) (Int.toNat 11)), .tup (B.a.ep _) .nil, (by decide), fun Bt7 st7 => ite_t (by decide +kernel) <| ite_f (by decide +kernel) <| outRow ?_⟩
    have Tt7 := tabs_sm Ut7 ((((yt7a).trans yt7b).trans yt7c).trans st7)
    have hDt7 := ((((yt7a).trans yt7b).trans yt7c).trans st7) _ _ (ext_lst et7 hDt6l)
    refine ⟨Dt1, _, _, rfl, rfl, hDt7, small1000 (by show 6 ≤ 1000; decide), ?_⟩
    rw [show [V.str "fine", V.str "fine", V.str "number 11", V.str "fine", V.str "row", V.str "row"] ++ [V.str "row"] = [V.str "fine", V.str "fine", V.str "number 11", V.str "fine", V.str "row", V.str "row", V.str "row"] from rfl]
    have Tt7l := tabs_but Tt7 hDt7 (But.upd Dt1 Bt7 (.lst [V.str "fine", V.str "fine", V.str "number 11", V.str "fine", V.str "row", V.str "row", V.str "row"]))
    have hDt7l := upd_same (H := Bt7) (a := Dt1) (o := .lst [V.str "fine", V.str "fine", V.str "number 11", V.str "fine", V.str "row", V.str "row", V.str "row"])
    generalize upd Bt7 Dt1 (.lst [V.str "fine", V.str "fine", V.str "number 11", V.str "fine", V.str "row", V.str "row", V.str "row"]) = Ct7 at Tt7l hDt7l ⊢
    show tSeq _ _ _ ([_, _, _, _, _, _] : L2.St) _
    refine ⟨_, rfl, .inl ⟨rfl, _, SqL.of hDt7l⟩, Tt7l, fun At8 et8 Ut8 => ?_⟩
    refine ⟨(by show 0 ≤ sizeLine; decide), fun qt8a nt8a => ?_⟩
    have yt8a := smu (o := HO.tup []) nt8a
    have mt8a := upd_same (H := At8) (a := qt8a) (o := HO.tup [])
    generalize upd At8 qt8a (HO.tup []) = Gt8a at yt8a mt8a ⊢
    refine ⟨(by show 1 ≤ sizeLine; decide), fun qt8b nt8b => ?_⟩
    have yt8b := smu (o := HO.tup [V.int 0]) nt8b
    have mt8b := upd_same (H := Gt8a) (a := qt8b) (o := HO.tup [V.int 0])
    generalize upd Gt8a qt8b (HO.tup [V.int 0]) = Gt8b at yt8b mt8b ⊢
    refine ⟨_, _, _, rfl, rfl, SqT.of mt8b, List.cons_ne_nil _ _, by decide, by decide, by show 1 ≤ 1000; decide, fun Gt8c qt8c yt8c rt8c => ?_⟩
    rw [Tp.rep_flat] at rt8c
    refine ⟨(by show 1 ≤ sizeLine; decide), fun qt8d nt8d => ?_⟩
    have yt8d := smu (o := HO.tup [V.int 9]) nt8d
    have mt8d := upd_same (H := Gt8c) (a := qt8d) (o := HO.tup [V.int 9])
    generalize upd Gt8c qt8d (HO.tup [V.int 9]) = Gt8d at yt8d mt8d ⊢
    refine ⟨rfl, rfl, _, _, _, .tuple [], .tuple (List.replicate (Int.toNat 10) (.int 0)), .tuple [.int 9], rfl, .tup (sqt_same ((yt8b.trans yt8c).trans yt8d) (SqT.of mt8a)) .nil, .tup (sqt_same (yt8d) rt8c) (dt_rep (.int 0) (Int.toNat 10)), .tup (SqT.of mt8d) (.cons (.int 9) .nil), (by decide), fun Bt8 st8 => ite_t (by decide +kernel) <| ite_t (by decide +kernel) <| ite_t (by decide +kernel) <| ite_t (by decide +kernel) <| ?_⟩
    have Tt8 := tabs_sm Ut8 (((((yt8a).trans yt8b).trans yt8c).trans yt8d).trans st8)
    have hDt8 := (((((yt8a).trans yt8b).trans yt8c).trans yt8d).trans st8) _ _ (ext_lst et8 hDt7l)
    refine ⟨Dt1, _, _, rfl, rfl, hDt8, small1000 (by show 7 ≤ 1000; decide), ?_⟩
    rw [show [V.str "fine", V.str "fine", V.str "number 11", V.str "fine", V.str "row", V.str "row", V.str "row"] ++ [V.str "fine"] = [V.str "fine", V.str "fine", V.str "number 11", V.str "fine", V.str "row", V.str "row", V.str "row", V.str "fine"] from rfl]
    have Tt8l := tabs_but Tt8 hDt8 (But.upd Dt1 Bt8 (.lst [V.str "fine", V.str "fine", V.str "number 11", V.str "fine", V.str "row", V.str "row", V.str "row", V.str "fine"]))
    have hDt8l := upd_same (H := Bt8) (a := Dt1) (o := .lst [V.str "fine", V.str "fine", V.str "number 11", V.str "fine", V.str "row", V.str "row", V.str "row", V.str "fine"])
    generalize upd Bt8 Dt1 (.lst [V.str "fine", V.str "fine", V.str "number 11", V.str "fine", V.str "row", V.str "row", V.str "row", V.str "fine"]) = Ct8 at Tt8l hDt8l ⊢
    refine ⟨_, rfl, (by show 8 ≤ sizeLine; decide), fun qw nw => ?_⟩
    have yw := smu (o := .lst [V.str "fine", V.str "fine", V.str "number 11", V.str "fine", V.str "row", V.str "row", V.str "row", V.str "fine"]) nw
    have mw := upd_same (H := Ct8) (a := qw) (o := .lst [V.str "fine", V.str "fine", V.str "number 11", V.str "fine", V.str "row", V.str "row", V.str "row", V.str "fine"])
    generalize upd Ct8 qw (.lst [V.str "fine", V.str "fine", V.str "number 11", V.str "fine", V.str "row", V.str "row", V.str "row", V.str "fine"]) = Gw at yw mw ⊢
    refine ⟨.list [.str "fine", .str "fine", .str "number 11", .str "fine", .str "row", .str "row", .str "row", .str "fine"], .list [.str "fine", .str "fine", .str "number 11", .str "fine", .str "row", .str "row", .str "row", .str "fine"], .lst (SqL.of (yw _ _ hDt8l)) (.cons (.str _) (.cons (.str _) (.cons (.str _) (.cons (.str _) (.cons (.str _) (.cons (.str _) (.cons (.str _) (.cons (.str _) .nil)))))))), .lst (SqL.of mw) (.cons (.str _) (.cons (.str _) (.cons (.str _) (.cons (.str _) (.cons (.str _) (.cons (.str _) (.cons (.str _) (.cons (.str _) .nil)))))))), by decide +kernel, by decide +kernel, ?_⟩
    rw [Rp.eq_self (by decide +kernel)]
    exact fin _
end
end K02

namespace K02
open PySem PySem.Spec PyProof.Rows L2 Dr Ex Rp LamX
open He (ga ma)
def t6 (K : PySem.W.Frag) : Bool := !decide ((He.cT K ("_law_right", none)).2 = (He.cT K ("law", none)).2)
def ts7 (K : PySem.W.Frag) : Bool := t6 K && ts K
abbrev hk7 : PySem.W.Hook := Hx.hookT 5 ts7 fn tf
def ob7 (s : PySem.W.SharedT) : He.AlD := Hx.obsTG 5 ts7 fn tf (HandSHeadRun.getT s)
theorem ob7_eq (s : PySem.W.SharedT) : ob7 s = hk7.obs s.abs := Hx.obsTG_eq (HandSHeadRun.getT_eq s)
theorem run7 (w : World) : HandSHeadRun.RunEq R (PySem.W.view R.prog [26]) hk7 ob7 4000 loose w := by
  intro os
  kernel_rfl
theorem msg_ok {K : PySem.W.Frag} {x : Str} (h : Hx.msgB K x = true) : PySem.W.excIn K (ga K x) He.veBase "ValueError.__new__" = true ∧ PySem.W.keepIn K (.ref (ga K x)) = true ∧ PySem.W.typeIn K (.ref (ga K x)) = some (.type "type") := by
  unfold Hx.msgB at h
  obtain ⟨a1, h⟩ := He.ba h
  obtain ⟨a2, a3⟩ := He.ba h
  exact ⟨a1, a2, of_decide_eq_true a3⟩
/-- the tables of the lambdas, and what those are called -/
def TbK (K : PySem.W.Frag) : List (Addr × Str) := [((He.cT K ("_law_right", none)).2, qR), ((He.cT K ("law", none)).2, qL)]
def csK (K : PySem.W.Frag) : List (Addr × Addr) := [He.cT K ("_law_right", none), He.cT K ("law", none)]
theorem facts {P : Program} {w : World} {K : PySem.W.Frag} {mg : Str → Option Value} {h : Heap} {f : Addr} (X : K.In h) (G : h.Ns mainGlobals mg) (hfa : mg ("law" : Str) = some (.ref f)) (c : Hx.SaysT ts7 fn tf h K) :
    ∃ fd : FuncData, (∀ (s : Shared) (v : Value), BindsTo s fd ⟨[v], []⟩ [("_law_script", v)]) ∧ ∀ base : Heap, K.In base → base.Ns mainGlobals mg → (∀ p ∈ csK K, TabB base mg p.1 p.2) → FnG P w K mg base CX0 8 f fd ["_law_script"] (spLaw K (TbK K)) := by
  have c1 : ts7 K = true := c.c.test
  unfold ts7 at c1
  obtain ⟨h6, c1⟩ := He.ba c1
  unfold ts at c1
  obtain ⟨h1, c1⟩ := He.ba c1
  obtain ⟨h2, c1⟩ := He.ba c1
  obtain ⟨h3, c1⟩ := He.ba c1
  obtain ⟨h4, c1⟩ := He.ba c1
  obtain ⟨h5, h8⟩ := He.ba c1
  have ne : (He.cT K ("_law_right", none)).2 ≠ (He.cT K ("law", none)).2 := by
    unfold t6 at h6
    exact of_decide_eq_false (by simpa using h6)
  unfold t1 at h1
  obtain ⟨h1a, h1b⟩ := He.ba h1
  obtain ⟨h1b, h1c⟩ := He.ba h1b
  have gAll : ∀ x, x ∈ (("law" : Str) :: gn) → mg x = some (.ref (ga K x)) := fun x hx => Hx.gloB_ok X G (xs := "law" :: gn) h1a hx
  have T : TG K mg := ⟨fun x hx => Hx.freeB_ok X G h1b hx, fun x hx => gAll x (List.mem_cons_of_mem _ hx), He.int_ok X G h1c⟩
  unfold t2 at h2
  obtain ⟨i1, h2⟩ := He.ba h2
  obtain ⟨i2, h2⟩ := He.ba h2
  obtain ⟨i3, i4⟩ := He.ba h2
  unfold t3 at h3
  obtain ⟨x1, x2⟩ := He.ba h3
  have M : EF K := ⟨Hx.icB_ok i1, Hx.icB_ok i2, msg_ok i3, msg_ok i4, Hx.xcB_ok x1, x2⟩
  unfold t4 at h4
  obtain ⟨v1, h4⟩ := He.ba h4
  obtain ⟨v2, h4⟩ := He.ba h4
  obtain ⟨v3, h4⟩ := He.ba h4
  obtain ⟨v4, h4⟩ := He.ba h4
  obtain ⟨v5, v6⟩ := He.ba h4
  have E9 : EM K := ⟨of_decide_eq_true v1, of_decide_eq_true v2, of_decide_eq_true v3, of_decide_eq_true v4, of_decide_eq_true v5, of_decide_eq_true v6, Hx.sysB_ok h8⟩
  have em : ∀ x, x ∈ ["before", "sorted_rows", "place_of"] → ∀ H, SqT K H (Hx.kwA x "down" K) [] := fun x hx H => Hx.emB_ok (List.all_eq_true.mp h5 x hx) H
  have gg : ∀ x, x ∈ gn → mg x = some (.ref (ga K x)) := T.g
  have fns : Fns K mg := {
    g1 := gg "is_integer" (by decide +kernel)
    g2 := gg "are_integers" (by decide +kernel)
    g3 := gg "is_ascending" (by decide +kernel)
    gk := gg "sort_key" (by decide +kernel)
    gr := gg "check_rows" (by decide +kernel)
    gd := gg "check_down" (by decide +kernel)
    f1 := c.c.def_ 1 rfl
    f2 := c.c.def_ 2 rfl
    f3 := c.c.def_ 3 rfl
    fk := c.c.def_ 8 rfl
    fr := c.c.def_ 9 rfl
    fdn := c.c.def_ 10 rfl }
  have fns2 : Fns2 K mg := {
    b := fns
    gb := gg "before" (by decide +kernel)
    gs := gg "sorted_rows" (by decide +kernel)
    gp := gg "place_of" (by decide +kernel)
    gi := gg "is_row" (by decide +kernel)
    fb := c.c.def_ 5 rfl
    fs := c.c.def_ 6 rfl
    fp := c.c.def_ 7 rfl
    fi := c.c.def_ 4 rfl
    fN := c.c.def_ 0 rfl
    eb := em "before" (by decide +kernel)
    es := em "sorted_rows" (by decide +kernel)
    ep := em "place_of" (by decide +kernel) }
  have fns3 : Fns3 K mg := {
    a := fns2
    gw := gg "_law_draw" (by decide +kernel)
    gp := gg "_law_pick" (by decide +kernel)
    gt := gg "_law_told" (by decide +kernel)
    gn := gg "_law_no_line" (by decide +kernel)
    gu := gg "_law_no_turned" (by decide +kernel)
    gl := gg "_law_no_lines" (by decide +kernel)
    fw := c.c.def_ 12 rfl
    fp := c.c.def_ 13 rfl
    ft := c.c.def_ 14 rfl
    fn := c.c.def_ 15 rfl
    fu := c.c.def_ 16 rfl
    fl := c.c.def_ 17 rfl }
  obtain ⟨fdS, FS⟩ := c.c.def_ 11 (d := dF "_law_stream" sStream) rfl
  obtain ⟨fdR, FR⟩ := c.c.def_ 18 (d := dF "_law_right" sRight) rfl
  obtain ⟨fd, F⟩ := c.c.def_ 19 (d := dF "law" sLaw) rfl
  have gl := gAll "law" List.mem_cons_self
  have e := hfa.symm.trans gl
  cases e
  have b := FunD.bindsA (ps := ["_law_script"]) F fun _ _ _ _ _ _ us hl => match us, hl with | [_], _ => rfl
  refine ⟨fd, fun s v => b s [v] rfl, fun base _ _ TB => ok_law F FR FS (gg "_law_right" (by decide +kernel)) (gg "_law_stream" (by decide +kernel)) fns3 T M E9 (TB _ List.mem_cons_self) (TB _ (List.mem_cons_of_mem _ List.mem_cons_self))
    List.mem_cons_self (fun z hz hp => ?_) (List.mem_cons_of_mem _ List.mem_cons_self) (fun z hz hp => ?_)⟩
  · rcases List.mem_cons.mp hz with rfl | hz
    · rfl
    · rw [List.mem_singleton.mp hz] at hp
      exact absurd hp.symm ne
  · rcases List.mem_cons.mp hz with rfl | hz
    · exact absurd hp ne
    · rw [List.mem_singleton.mp hz]
end K02
open PySem PySem.W PySem.Calls PyProof.Rows
theorem PySem.Challenge.cw_pagewise_k02_errors_of_rows_holds : PySem.Challenge.rw_pagewise_k02_errors_of_rows.Holds := by
  w_on; o_law
  refine HandSHeadRun.head_any (r := OpenLaw.row PySem.Challenge.rw_pagewise_k02_errors_of_rows) (q := view (OpenLaw.row PySem.Challenge.rw_pagewise_k02_errors_of_rows).prog [26]) (H := K02.hk7) (ob := K02.ob7) (M := 4000) (loose := K02.loose)
    (d := HandSHeadRun.topDef (OpenLaw.row PySem.Challenge.rw_pagewise_k02_errors_of_rows).prog 26) (kwd := []) K02.ob7_eq
    (by kernel_rfl) (fun s => by kernel_rfl) K02.run7 (by kernel_rfl) (by kernel_rfl) (by kernel_rfl) (by rfl) (by first | assumption | decide +kernel) (by decide +kernel) ⟨rfl, rfl, rfl, rfl, rfl, by decide +kernel⟩ ?hw ?hc
  case hw => w_witness2
  case hc =>
    refine Rp.walk_GT (l := PySem.Challenge.rw_pagewise_k02_errors_of_rows) (n := 63) (k := 8) (x := "_law_script") (CX := L2.CX0) rfl (by decide) (by kernel_rfl) ⟨rfl, by decide, by decide⟩ ?F (fun _ _ _ _ z => z)
    intro w mg fa h Y G hmg0
    obtain ⟨K, KX, c⟩ := Y
    have hmg : mg ("law" : PySem.Str) = some (.ref fa) := by
      have e : (HandSHeadRun.topDef (OpenLaw.row PySem.Challenge.rw_pagewise_k02_errors_of_rows).prog 26).name = ("law" : PySem.Str) := by kernel_rfl
      rw [← e]
      exact hmg0
    obtain ⟨fd, hb, hF⟩ := K02.facts (P := (PySem.Challenge.rw_pagewise_k02_errors_of_rows).prog) (w := w) KX G hmg c
    have of : ∀ p ∈ K02.csK K, ∃ d ∈ K02.tf, p = He.cT K d := fun p hp => by
      rcases List.mem_cons.mp hp with rfl | hp
      · exact ⟨_, List.mem_cons_self, rfl⟩
      · rw [List.mem_singleton.mp hp]
        exact ⟨_, List.mem_cons_of_mem _ List.mem_cons_self, rfl⟩
    refine ⟨K, fd, K02.csK K, K02.spLaw K (K02.TbK K), KX, fun p hp => ?_, fun p hp => ?_, fun p hp => ?_, hb, fun H a ns hl hT hS => ⟨a, ns, rfl, hS, hl, fun z hz => ?_, fun _ => rfl⟩, hF⟩
    · obtain ⟨d, hd, rfl⟩ := of p hp
      exact c.empty d hd
    · obtain ⟨d, hd, rfl⟩ := of p hp
      exact c.out d hd
    · obtain ⟨d, hd, rfl⟩ := of p hp
      exact PySem.W.codeHd_of_K KX (c.hd d hd)
    · have hz' : ∃ p ∈ K02.csK K, z.1 = p.2 := by
        rcases List.mem_cons.mp hz with rfl | hz
        · exact ⟨_, List.mem_cons_self, rfl⟩
        · rw [List.mem_singleton.mp hz]
          exact ⟨_, List.mem_cons_of_mem _ List.mem_cons_self, rfl⟩
      obtain ⟨p, hp, e⟩ := hz'
      rw [e]
      exact LamX.TabS.nil (hT p hp)
