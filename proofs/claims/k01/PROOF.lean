import PyProof.Rows.All
import Wide.All
import OpenK.AllK
import Wide.FinOn
import KE.KExcIs
import KE.KExcInit
import HandS.ForMost
import HandS.Exc
import HandS.ExcOwn
import HandS.ExcValue
import HandS.ExcInit
import HandS.IsInst
import PyProof.ReprRoads
import HandS.RaiseMore
import HandS.Defaults
import HandS.Ends
import HandS.HeadEnd
import KE.KStateDown
import HandS.Head0
import HandS.Head1
import HandS.Head2
import HandS.HeadHook1
import HandS.HeadHook2
import HandS.HeadHook4
import HandS.NestedK
import HandS.EndTab
import HandS.Wide
import PyProof.ReprLen
import PyProof.CallFns
import KE.GoesMore
import HandS.Iter
import HandS.List
import HandS.SetBool
import HandS.Strs
import HandS.Zip
import HandS.Walk
import HandS.TupAny
import HandS.TupMul
import HandS.Star
import HandS.Conv
import HandS.Flow
import HandS.WordsExc
import KE.SortKeyHeap
import KE.LtData
import HandS.Lambda
import HandS.SortKw
import HandS.Evl
import HandS.DictComp
import HandS.Text
import HandS.Deep
import HandS.More
import PyProof.NeKinds
import PyProof.FactsAll.dict_2
import PyProof.FactsAll.subtypes_4
import HandS.TupSets
import KE.SortData
import PySem.Challenge.RW_pagewise_k01_names_rows_and_order
set_option Elab.async false
set_option linter.all false
set_option maxRecDepth 100000
set_option maxHeartbeats 0
/-! Own exceptions over any built-in base, as values: made by their own __init__, their fields read, asked by isinstance. -/
namespace Ex
open PySem PySem.Spec PySem.Calls PyProof.Rows L2

/-- what a built-in base tells: its mro, who makes, who fills -/
structure Base (B nid iid : String) (ml : List Value) : Prop where
  mak : ∃ (Bn inN : String) (mN : List Value), ExcBaseFacts Bn nid inN mN ∧ ml.contains (.type Bn) = true
  noA : ml.contains (.type "AttributeError") = false
  noN : ml.contains (.type "NameError") = false
  hasB : ml.contains (.type B) = true
  hasO : ml.contains (.type "object") = true
  pass : ∀ self : Value, refuseLoop self "__setattr__" ml = pure ()
  iPlain : plainId iid = true
  iEntry : entryFor table iid = some Builtin.«BaseException.__init__»
  iSplit : splitId iid = some (B, "__init__")
  iKind : builtinKind iid = some .slot
  iRow : Manifest.signature? iid = some ⟨.positional, "*", B, .self, [⟨"args", .varPos, false⟩]⟩
  star : (B != "*") = true
theorem base_of {B nid iid : String} {ml : List Value} (F : ExcBaseFacts B nid iid ml) (ho : ml.contains (.type "object") = true) (hp : ∀ self : Value, refuseLoop self "__setattr__" ml = pure ()) : Base B nid iid ml where
  mak := ⟨B, iid, ml, F, F.hasB⟩
  noA := F.noAttr
  noN := F.noName
  hasB := F.hasB
  hasO := ho
  pass := hp
  iPlain := F.init.plain
  iEntry := F.initEntry
  iSplit := F.initSplit
  iKind := F.initKind
  iRow := F.initRow
  star := F.noStar

/-- an exception object, fresh -/
abbrev eob (C t : Addr) : Obj := { cls := .ref C, data := .fields #[.ref t, .none, .none, .none, .bool false, .none] }
section
variable {M : Model} {A : Around} {E : Value → Shared → Prop} {h : Heap} {g : Array GenState} {d : Drawn} {t : Nat} {os : OsState}
variable {nm q : Str} {C N : Addr} {bs ml : List Value} {hy : Bool} {sn : List Str} {sub : List Value} {ab : Bool} {col : Option Bool} {dd : Option Addr} {k0 k1 k2 k3 k5 : Option Value} {B nid iid Bn inN : String} {mN : List Value}
theorem look_new (F : ExcBaseFacts Bn nid inN mN) (hb : ml.contains (.type Bn) = true) {us : List Value} {Q : Unit → Shared → Prop}
    (oC : h.get? C = some (excClassObj nm q C N bs ml hy sn sub ab col dd k0 k1 k2 k3 k5 nid)) (hq : Q () ⟨h, g, d, t, os⟩) : wpAny M A (checkBuiltinCall nid ⟨.ref C :: us, []⟩) Q E ⟨h, g, d, t, os⟩ := by
  have c1 : (Value.ref C :: ml).contains (.type Bn) = true := by
    rw [List.contains_cons, hb, Bool.or_true]
  have c2 := F.noStar
  simp only [checkBuiltinCall, F.newKind, F.newSplit,
    F.newRow]
  repeat (first
    | refine wpAny_loadPart_at oC ?_
    | (refine wpAny_isSubtype_exc oC ?_; rw [c1])
    | refine wpAny_staticBase_exc oC ?_
    | refine wpAny_madeBy_exc oC ?_
    | simp only [bne_self_eq_false, Bool.false_eq_true, if_false]
    | wp_step)
  exact hq
theorem look_init (Y : Base B nid iid ml) {e : Addr} {oe : Obj} {us : List Value} {nw : String} {Q : Unit → Shared → Prop}
    (oC : h.get? C = some (excClassObj nm q C N bs ml hy sn sub ab col dd k0 k1 k2 k3 k5 nw)) (he : h.get? e = some oe) (hc : oe.cls = .ref C) (hq : Q () ⟨h, g, d, t, os⟩) :
    wpAny M A (checkBuiltinCall iid ⟨.ref e :: us, []⟩) Q E ⟨h, g, d, t, os⟩ := by
  have c1 : (Value.ref C :: ml).contains (.type B) = true := by
    rw [List.contains_cons, Y.hasB, Bool.or_true]
  have c2 := Y.star
  simp only [checkBuiltinCall, Y.iKind, Y.iSplit,
    Y.iRow]
  repeat (first
    | (with_reducible refine wpAny_loadPart_at he ?_; rw [hc])
    | with_reducible refine wpAny_loadPart_at oC ?_
    | (with_reducible refine wpAny_isSubtype_exc oC ?_; rw [c1])
    | wp_step)
  refine wpAny_onRaise ?_
  rw [show ∀ (x y : String) (n : Nat), Bind.check ⟨.positional, "*", B, .self, [⟨"args", .varPos, false⟩]⟩ x y n (List.map (fun z => z.fst) ({ pos := Value.ref e :: us } : Args).kw) = pure () from
    fun x y n => check_star_args _ _ _ _ _ _]
  exact wpAny_pure hq
end
section
variable {prog : Program} {w : World} {A : Around} {E : Value → Shared → Prop} {R : Result → Shared → Prop} {h : Heap} {g : Array GenState} {d : Drawn} {t : Nat} {os : OsState}
variable {nm q : Str} {C N : Addr} {bs ml : List Value} {hy : Bool} {sn : List Str} {sub : List Value} {ab : Bool} {col : Option Bool} {dd : Option Addr} {k0 k1 k2 k3 k5 : Option Value} {B nid iid Bn inN : String} {mN : List Value}
theorem run_new (F : ExcBaseFacts Bn nid inN mN) (hb : ml.contains (.type Bn) = true) (ha : ml.contains (.type "AttributeError") = false) (hn : ml.contains (.type "NameError") = false) {us : List Value}
    (oC : h.get? C = some (excClassObj nm q C N bs ml hy sn sub ab col dd k0 k1 k2 k3 k5 nid))
    (hq : R (.ok (.ret (.ref (h.objs.size + 1)))) ⟨(h.push { cls := .type "tuple", data := .seq us.toArray }).push (eob C h.objs.size), g, d, t, os⟩) (hl : us.length ≤ sizeLine) :
    codeAny (model prog w) A (.builtin nid ⟨.ref C :: us, []⟩) R ⟨h, g, d, t, os⟩ := by
  have c0 := F.ends
  have c1 : (Value.ref C :: ml).contains (.type Bn) = true := by
    rw [List.contains_cons, hb, Bool.or_true]
  have c2 : (Value.ref C :: ml).contains (.type "AttributeError") = false := by
    rw [List.contains_cons, ha]; rfl
  have c3 : (Value.ref C :: ml).contains (.type "NameError") = false := by
    rw [List.contains_cons, hn]; rfl
  have hrest : us.length ≤ sizeLine := hl
  refine codeAny_builtinAt F.entry ?_
  unfold Builtin.«BaseException.__new__»
  refine PySem.wpAt_bind ?_
  show PySem.wpAt _ _ _ (stack >>= _) _ _ _
  refine PySem.wpAt_bind (PySem.wpAt_stack fun p under => PySem.wpAt_of_wpAny ?_)
  wp_walk
  refine PySem.wpAt_of_wpAny ?_
  rw [F.owner]
  repeat (first
    | with_reducible refine wpAny_madeHere_exc F.canon oC ?_
    | with_reducible refine wpAny_loadPart_at oC ?_
    | (with_reducible refine wpAny_isSubtype_exc oC ?_; first | rw [c1] | rw [c2] | rw [c3])
    | wp_step)
  show R _ _
  rw [Heap.size_push]
  exact hq
theorem run_type_call (Y : Base B nid iid ml) {us : List Value} {fI : Addr} {Q : Fin → Shared → Prop}
    (oC : h.get? C = some (excClassObj nm q C N bs ml hy sn sub ab col dd k0 k1 k2 k3 k5 nid))
    (hi : W.Looks (model prog w) h (typeLookup (.ref C) "__init__") (some (.ref fI))) (hf : ∀ self, W.Looks (model prog w) h (bindSpecial (.ref fI) self) (.ref fI, [self])) (hl : us.length ≤ sizeLine)
    (hq : codeAny (model prog w) A (.call (.ref fI) ⟨.ref (h.objs.size + 1) :: us, []⟩)
      (fun r s' => match r with | .ok (.ret v) => v = .none ∧ Q (.done (.ret (.ref (h.objs.size + 1)))) s' | .ok _ => False | .error e => E e s')
      ⟨(h.push (W.kdv_tup us)).push (eob C h.objs.size), g, d, t, os⟩) :
    wpAny (model prog w) A (Builtin.«type.__call__» ⟨.ref C :: us, []⟩) Q E ⟨h, g, d, t, os⟩ := by
  obtain ⟨Bn, inN, mN, F, hb⟩ := Y.mak
  repeat (first
    | with_reducible refine wpAny_loadPart_at oC ?_
    | with_reducible refine wpAny_madeBy_exc oC ?_
    | wp_step)
  refine codeAny_call_builtin_code (Code.quiet_builtin _ F.quiet) (look_new F hb oC ?_)
  refine run_new F hb Y.noA Y.noN oC ?_ hl
  show wpAny _ _ _ _ _ _
  have k : ∀ b o, h.get? b = some o → ((h.push (W.kdv_tup us)).push (eob C h.objs.size)).get? b = some o :=
    fun b o e => Heap.get?_push_of_some _ (Heap.get?_push_of_some _ e)
  have oC1 := k _ _ oC
  have hg1 : ((h.push (W.kdv_tup us)).push (eob C h.objs.size)).get? (h.objs.size + 1) = some (eob C h.objs.size) := by
    heap_get
  have cC : (Value.ref C :: ml).contains (.ref C) = true := by simp
  have i1 := hi.keeps k
  have b1 := (hf (.ref (h.objs.size + 1))).keeps k
  unfold isInstance
  repeat (first
    | with_reducible refine wpAny_loadPart_at hg1 ?_
    | (with_reducible refine wpAny_isSubtype_exc oC1 ?_; rw [cC])
    | wp_step)
  show wpAny _ _ (typeLookup (.ref C) _) _ _ _
  refine i1.at ?_
  refine wpAny_holding (wpAny_bind (b1.at ?_))
  refine wpAny_bind (wpAny_call (codeAny_mono hq fun r s' z => ?_))
  rcases r with e | (v | _ | _ | _)
  all_goals first
    | exact z
    | exact z.elim
    | skip
  obtain ⟨rfl, z⟩ := z
  first
    | exact wpAny_pure (wpAny_pure z)
    | (wp_walk; exact z)
/-- C(..), C's own __init__ -/
theorem run_call (Y : Base B nid iid ml) {us : List Value} {fI : Addr}
    (oC : h.get? C = some (excClassObj nm q C N bs ml hy sn sub ab col dd k0 k1 k2 k3 k5 nid))
    (hi : W.Looks (model prog w) h (typeLookup (.ref C) "__init__") (some (.ref fI))) (hf : ∀ self, W.Looks (model prog w) h (bindSpecial (.ref fI) self) (.ref fI, [self])) (hl : us.length ≤ sizeLine)
    (hq : codeAny (model prog w) (A.under (.builtin "type.__call__" ⟨.ref C :: us, []⟩)) (.call (.ref fI) ⟨.ref (h.objs.size + 1) :: us, []⟩) (W.InitBack (h.objs.size + 1) R)
      ⟨(h.push (W.kdv_tup us)).push (eob C h.objs.size), g, d, t, os⟩) :
    codeAny (model prog w) A (.call (.ref C) ⟨us, []⟩) R ⟨h, g, d, t, os⟩ := by
  have f1 := tc_lookup
  have f2 := tc_bind (.ref C)
  have hTy : (⟨h, g, d, t, os⟩ : Shared).TypeIs (.ref C) "type" := ⟨_, oC, rfl⟩
  refine codeAny_of_tree ?_
  show wpAny _ _ (callAny (.ref C) _) _ _ _
  repeat (any_goals (first
    | assumption
    | with_reducible refine wpAny_loadPart_at oC ?_
    | wp_step))
  refine ⟨rfl, ?_⟩
  refine codeAny_call_builtin_at (Code.quiet_builtin _ (by decide +kernel)) entry_typeCall (wpAny_check_type_call_sub oC (run_type_call Y oC hi hf hl ?_))
  refine codeAny_mono hq fun r s' z => ?_
  rcases r with e | (v | _ | _ | _) <;> exact z
/-- B.__init__(e, ..) -/
theorem run_init (Y : Base B nid iid ml) {e t0 : Addr} {us : List Value} {nw : String}
    (oC : h.get? C = some (excClassObj nm q C N bs ml hy sn sub ab col dd k0 k1 k2 k3 k5 nw)) (he : h.get? e = some (eob C t0)) (hl : us.length ≤ sizeLine)
    (hq : ∀ h' t1, (∀ b o, b ≠ e → h.get? b = some o → h'.get? b = some o) → h'.get? e = some (eob C t1) → R (.ok (.ret .none)) ⟨h', g, d, t, os⟩) :
    codeAny (model prog w) A (.call (.builtin iid) ⟨.ref e :: us, []⟩) R ⟨h, g, d, t, os⟩ := by
  have hrest : us.length ≤ sizeLine := hl
  refine codeAny_call_builtin Y.iPlain Y.iEntry (look_init Y oC he rfl ?_)
  wp_walk
  refine hq _ h.objs.size (fun b o nb ho => ?_) ?_
  · rw [Heap.get?_update_other _ _ (Ne.symm nb)]
    exact Heap.get?_push_of_some _ ho
  · rw [Heap.get?_update_self _ (Heap.get?_push_of_some _ he) rfl]
    rfl
end
end Ex

namespace Ex
open PySem PySem.Spec PySem.Calls PyProof.Rows L2
/-! ### the five bases -/
abbrev mlI : List Value := [.type "IndexError", .type "LookupError", .type "Exception", .type "BaseException", .type "object"]
abbrev mlK : List Value := [.type "KeyError", .type "LookupError", .type "Exception", .type "BaseException", .type "object"]
abbrev mlO : List Value := [.type "OverflowError", .type "ArithmeticError", .type "Exception", .type "BaseException", .type "object"]
abbrev mlA : List Value := [.type "ArithmeticError", .type "Exception", .type "BaseException", .type "object"]
abbrev mlL : List Value := [.type "LookupError", .type "Exception", .type "BaseException", .type "object"]
theorem bI : Base "IndexError" "IndexError.__new__" "IndexError.__init__" mlI :=
  base_of F.excBase_IndexError (by decide +kernel) fun self => by kernel_rfl
theorem bO : Base "OverflowError" "OverflowError.__new__" "OverflowError.__init__" mlO :=
  base_of F.excBase_OverflowError (by decide +kernel) fun self => by kernel_rfl
theorem bA : Base "ArithmeticError" "ArithmeticError.__new__" "ArithmeticError.__init__" mlA :=
  base_of F.excBase_ArithmeticError (by decide +kernel) fun self => by kernel_rfl
theorem bL : Base "LookupError" "LookupError.__new__" "LookupError.__init__" mlL :=
  base_of F.excBase_LookupError (by decide +kernel) fun self => by kernel_rfl
theorem bK : Base "KeyError" "LookupError.__new__" "KeyError.__init__" mlK where
  mak := ⟨_, _, _, F.excBase_LookupError, by decide +kernel⟩
  noA := by decide +kernel
  noN := by decide +kernel
  hasB := by decide +kernel
  hasO := by decide +kernel
  pass := fun self => by kernel_rfl
  iPlain := by decide +kernel
  iEntry := excClass_KeyError.initEntry
  iSplit := by kernel_rfl
  iKind := by kernel_rfl
  iRow := by kernel_rfl
  star := by decide +kernel

section
open Builtin Builtin.ObjectAttr
variable {prog : Program} {w : World} {A : Around} {E : Value → Shared → Prop} {R : Result → Shared → Prop} {hp : Heap} {g : Array GenState} {d : Drawn} {t : Nat} {os : OsState}
/-- self.name = v on an exception without a dict -/
theorem osa_first {K : W.Frag} {name : Str} {tk : Tok} {v : Value} {x C : Addr} {fv : Array Value} {cd : ClassData} {B nid iid : String} {ml : List Value} (Y : Base B nid iid ml)
    (X : K.In hp) (hx : hp.get? x = some { cls := .ref C, data := .fields fv }) (hcd : W.clsIn K C = some cd) (hm : cd.mro = .ref C :: ml) (hh : cd.hasDict = true) (ha : W.findIn K (.ref C) name = some none)
    (hq : ∀ h' tk' dx, (∀ b o, b ≠ x → hp.get? b = some o → h'.get? b = some o) → hp.objs.size ≤ dx → dx ≠ x → h'.get? x = some { cls := .ref C, dict := some dx, data := .fields fv } →
      h'.Ns1 dx (fun y => if y = name then some v else none) → R (.ok (.ret .none)) ⟨h', g, d, tk', os⟩) :
    codeAny (model prog w) A (.call (.builtin "object.__setattr__") ⟨[.ref x, .str name tk, v], []⟩) R ⟨hp, g, d, t, os⟩ := by
  have J : W.InstAt hp x { cls := .ref C, data := .fields fv } C none := ⟨hx, rfl, rfl, trivial⟩
  have SF := F.store_object
  have ne : cd.mro.isEmpty = false := by rw [hm]; rfl
  have hob : cd.mro.contains (.type "object") = true := by
    rw [hm, List.contains_cons, Y.hasO, Bool.or_true]
  have hxs : x ≠ hp.objs.size := Nat.ne_of_lt (Heap.lt_size hx)
  have sub : W.Looks (model prog w) hp (isInstance (.ref x) (.type "object")) true :=
    J.type.andThen (W.looks_mroIn X (by unfold W.mroIn; rw [hcd, Option.bind_some, if_neg (by rw [ne]; decide), hob]))
  refine codeAny_call_builtin SF.slot.plain SF.entry
    (@W.check_slot (model prog w) _ _ ⟨hp, g, d, t, os⟩ "object.__setattr__" "object" "__setattr__" (.ref x) [.str name tk, v] [] _ SF.kind SF.split sub (SF.args (.ref x) (.str name tk) v) ?_)
  have l1 : W.Looks (model prog w) hp (mroOf (.ref C)) cd.mro := (W.looks_clsIn X hcd).andThen .now
  have l2 : W.Looks (model prog w) hp (storeTaker? none) none := .now
  have l3 : W.Looks (model prog w) hp (classData C) cd := W.looks_clsIn X hcd
  rw [W.osa_eq,
    refuse_eq]
  refine wpAny_bind (wpAny_bind (J.type.at (wpAny_bind (l1.at ?_))))
  rw [hm, refuseLoop_ref, Y.pass]
  refine wpAny_pure (wpAny_bind (J.type.at (wpAny_bind ((W.looks_findIn X ha).at (wpAny_bind (l2.at ?_))))))
  show wpAny _ _ (storeInOwnDict (.ref x) (.ref C) (.str name tk) name v false) _ _ _
  obtain ⟨nm, bs, mr, ns, qn, hd, sn, sb, ab, col, del⟩ := cd
  dsimp only at hh
  subst hh
  unfold storeInOwnDict ownDictForStores
  repeat (first
    | with_reducible refine HandSPX.store_in_new ?_ ?_
    | with_reducible refine wpAny_loadPart_at hx ?_
    | with_reducible refine l3.at ?_
    | wp_step)
  · exact ⟨_, #[], _, (Heap.get?_update_ne _ _ _ _ hxs.symm).trans (Heap.get?_push_at rfl rfl), rfl, fun e he => absurd he (by simp), fun _ => rfl⟩
  · intro h' tk' hn' hs
    have hx1 : (hp.push { cls := .type "dict", data := .dict #[] }).get? x = some { cls := .ref C, data := .fields fv } :=
      Heap.get?_push_of_some _ hx
    refine hq h' tk' hp.objs.size (fun b o hb ho => ?_) (Nat.le_refl _) hxs.symm ?_ hn'
    · exact (hs.2 b (Nat.ne_of_lt (Heap.lt_size ho))).trans
        ((Heap.get?_update_ne _ _ _ _ hb).trans (Heap.get?_push_of_some _ ho))
    · exact (hs.2 x hxs).trans (Heap.get?_update_self _ hx1 rfl)
end

/-! ### what the written part says of a class with its own __init__ that keeps one field f -/
structure XC (K : PySem.W.Frag) (C : Addr) (nid : String) (ml : List Value) (f : Str) (fI : Addr) : Prop where
  cls : ∃ nm q N bs sn sub ab col dd k0 k1 k2 k3 k5, K.lookup C = some (excClassObj nm q C N bs ml true sn sub ab col dd k0 k1 k2 k3 k5 nid)
  sa : PySem.W.findIn K (.ref C) "__setattr__" = some (some (.builtin "object.__setattr__"))
  ga : PySem.W.findIn K (.ref C) "__getattribute__" = some (some (.builtin "BaseException.__getattribute__"))
  gg : PySem.W.findIn K (.ref C) "__getattr__" = some none
  noF : PySem.W.findIn K (.ref C) f = some none
  iC : PySem.W.findIn K (.ref C) "__init__" = some (some (.ref fI))
  tI : PySem.W.typeIn K (.ref fI) = some (.type "function")
  kC : PySem.W.keepIn K (.ref C) = true
  exC : PySem.W.subIn K (.ref C) (.type "BaseException") = some true
  tyC : PySem.W.typeIn K (.ref C) = some (.type "type")
  hdC : PySem.W.hasDictIn K C = true
/-- what isinstance asks of an exception class -/
structure IC (K : PySem.W.Frag) (C : Addr) : Prop where
  cl : (PySem.W.clsIn K C).isSome = true
  ga : PySem.W.findIn K (.ref C) "__getattribute__" = some (some (.builtin "BaseException.__getattribute__"))
  gg : PySem.W.findIn K (.ref C) "__getattr__" = some none
  sub : PySem.W.subIn K (.ref C) (.type "BaseException") = some true
  kl : PySem.W.findIn K (.ref C) "__class__" = some (some (.builtin "object.__class__"))
  gt : PySem.W.specialIn K (.builtin "object.__class__") "__get__" = some (some (.builtin "getset_descriptor.__get__"))
  tk : PySem.W.takesIn K (.builtin "object.__class__") = some true
  mo : PySem.W.mroIn K C (.type "object") = some true

/-- at e: an exception of the class at C that keeps v as f -/
def ExcAt (H : Hp) (e C : Addr) (f : Str) (v : V) : Prop := ∃ dx, H e = some (exo e C (some dx)) ∧ H dx = some (exd dx [(f, v)])

section
variable {X : Cx} {pins : List (Addr × Obj)} {σ : L2.St} {H : Hp} {s : Shared} {a C dx fI : Addr} {f : Str} {y : V} {u : Value} {Q : Unit → Shared → Prop} {E : Value → Shared → Prop} {A : Around} {B nid iid : String} {ml : List Value}
theorem cls_data (T : XC X.K C nid ml f fI) : ∃ cd, PySem.W.clsIn X.K C = some cd ∧ cd.mro = .ref C :: ml ∧ cd.hasDict = true := by
  obtain ⟨nm, q, N, bs, sn, sub, ab, col, dd, k0, k1, k2, k3, k5, hC⟩ := T.cls
  have e : PySem.W.clsIn X.K C = some { name := nm, bases := bs, mro := .ref C :: ml, ns := N, qualname := q, hasDict := true, slotNames := sn, subclasses := sub, abstract := ab, collection := col, hasDel := false } := by
    unfold PySem.W.clsIn
    rw [hC] <;> rfl
  exact ⟨_, e, rfl, rfl⟩
/-- self.f = y, the first one -/
theorem ost_first (Y : Base B nid iid ml) (T : XC X.K C nid ml f fI) (I : Inv X pins σ H s) (e : H a = some (exo a C none)) (ry : RelV y u)
    (h : ∀ dx s', H dx = none → dx ≠ a → Inv X pins σ (upd (upd H dx (exd dx [(f, y)])) a (exo a C (some dx))) s' → Q () s') : wpAny (model X.prog X.w) A (setAttr (.ref a) f u) Q E s := by
  obtain ⟨cd, hcl, hm, hh⟩ := cls_data T
  obtain ⟨t1, ho⟩ := exo_at I.hok e
  obtain ⟨hp, g, d, t, os⟩ := s
  refine PySem.W.set_plain I.kIn (ox := { cls := .ref C, dict := none, data := .fields #[.ref t1, .none, .none, .none, .bool false, .none] }) (od := none) ⟨ho, rfl, rfl, trivial⟩ T.sa ?_
  refine osa_first Y I.kIn ho hcl hm hh T.noF (fun h' tk' dx k dn dne hx hn => ?_)
  have hnd : H dx = none := I.hok.fresh dn
  have nd : ∀ {b : Addr} {o : Obj}, hp.get? b = some o → b ≠ dx :=
    fun {b o} q => Nat.ne_of_lt (Nat.lt_of_lt_of_le (Heap.lt_size q) dn)
  have na : ∀ {b : Addr}, H b = none → b ≠ a := fun {b} n z => by
    rw [z, e] at n
    cases n
  have U1 : Un X.fs [] H (upd (upd H dx (exd dx [(f, y)])) a (exo a C (some dx))) hp h' := {
    keep := fun b o q n _ _ => k b o (na n) q
    slot := fun b o q n _ _ => ⟨o.slots, k b o (na n) q⟩
    free := fun b o q n _ => by
      rw [upd_ne (na n), upd_ne (nd q)]
      exact n
    there := fun b o q _ => by
      by_cases hb : b = a
      · exact ⟨_, by rw [hb]; exact hx⟩
      · exact ⟨o, k b o hb q⟩
    tups := fun b xs q => by
      rw [upd_ne (at_ne e q exo_tup), upd_ne (ne_of_none q hnd)]
      exact q
    frzs := fun b o v q => by
      rw [upd_ne (at_ne e q exo_frz), upd_ne (ne_of_none q hnd)]
      exact q
    tbls := fun b ps q => ⟨#[], by
      rw [upd_ne (at_ne e q exo_tbl), upd_ne (ne_of_none q hnd), q]
      simp⟩ }
  refine h dx _ hnd dne (I.un (t' := tk') U1 fun b o q => ?_)
  by_cases hb : b = a
  · subst hb
    rw [upd_same] at q
    cases q
    exact exo_ok hx
  · rw [upd_ne hb] at q
    by_cases hd : b = dx
    · subst hd
      rw [upd_same] at q
      cases q
      exact exd_ok hn (relO_put (fs := []) ry fun g => True.intro)
    · rw [upd_ne hd] at q
      refine (I.hok b o q).stay (fun c v hc r => k c v ?_ r) (fun c hc => ?_) fun c xs hc => ?_
      · rcases hc with z | z
        · rw [z]
          exact hb
        · exact at_ne e z exo_own
      · rw [upd_ne (at_ne e hc exo_own), upd_ne (ne_of_none hc hnd)]
        exact hc
      · rw [upd_ne (at_ne e hc exo_tup), upd_ne (ne_of_none hc hnd)]
        exact hc
/-- B.__init__(self, ..): the args are laid anew, nothing else -/
theorem binit_ok {us : List Value} {Q : Value → Shared → Prop} (Y : Base B nid iid ml) (T : XC X.K C nid ml f fI) (I : Inv X pins σ H s) (e : H a = some (exo a C none)) (hl : us.length ≤ sizeLine) (h : ∀ s', Inv X pins σ H s' → Q .none s') :
    wpAny (model X.prog X.w) A (call (.builtin iid) (.ref a :: us)) Q E s := by
  obtain ⟨nm, q, N, bs, sn, sub, ab, col, dd, k0, k1, k2, k3, k5, hC⟩ := T.cls
  obtain ⟨t1, ho⟩ := exo_at I.hok e
  obtain ⟨hp, g, d, t, os⟩ := s
  refine wpAny_call (run_init Y (I.kIn _ _ hC) ho hl fun h' t2 k hx => ?_)
  have J := I.write (t' := t) (x := a) (e := a) (o := exo a C none) (by rw [e]; exact True.intro) (.inl rfl) k ⟨_, hx⟩ (exo_ok hx)
  have eu : upd H a (exo a C none) = H := by
    funext b
    by_cases hb : b = a
    · rw [hb, upd_same, e]
    · rw [upd_ne hb]
  rw [eu] at J
  exact h _ J
end
end Ex

namespace Ex
open PySem PySem.Spec PySem.Calls PyProof.Rows L2
/-! ### readings -/
/-- B.__init__(self, ..) -/
def tBI (C : Addr) (ta : TA) : TE := fun σ H Q => ta σ H fun vs H1 => ∃ (a : Addr) (ws : List V), vs = .ref a :: ws ∧ ws.length ≤ 1000 ∧ H1 a = some (exo a C none) ∧ Q .non H1
/-- self.f = e -/
def tXst (C : Addr) (f : Str) (to te : TE) : TS := fun D σ H => te σ H fun y H1 => to σ H1 fun x H2 => ∃ a : Addr, x = .ref a ∧ H2 a = some (exo a C none) ∧
  ∀ dx, H2 dx = none → dx ≠ a → D.nx σ (upd (upd H2 dx (exd dx [(f, y)])) a (exo a C (some dx)))
/-- C(e, ..), a value -/
def tXmk (C : Addr) (sp : Sp) (ta : TA) : TE := fun σ H Q => ta σ H fun vs H1 => vs.length ≤ 1000 ∧ ∀ a, H1 a = none → sp (.ref a :: vs) (upd H1 a (exo a C none)) (fun v H2 => v = .non ∧ Q (.ref a) H2) (fun _ _ _ => False)
/-- o.f of such an exception -/
def tXfld (C : Addr) (f : Str) (to : TE) : TE := fun σ H Q => to σ H fun x H1 => ∃ (a : Addr) (v : V), x = .ref a ∧ ExcAt H1 a C f v ∧ Q v H1
/-- isinstance(e, c), e an exception that is tracked -/
inductive IsEx (K : PySem.W.Frag) (H : Hp) : Addr → Addr → Prop where
  | own {a C dx : Addr} {fs : List (Str × V)} (h : H a = some (exo a C (some dx))) (hd : H dx = some (exd dx fs)) : IsEx K H a C
  | msg {a C : Addr} (h : H a = some (ExO (.ref C) a)) : IsEx K H a C
def rIE (K : PySem.W.Frag) : List V → Hp → VK → Prop := fun xs H Q => ∃ (a C : Addr) (c : V) (u : Value) (b : Bool), xs = [.ref a, c] ∧ ClsV c u ∧ IC K C ∧ IsEx K H a C ∧ PySem.W.kitOne K (.ref C) u = some b ∧ Q (.bl b) H
section
variable {X : Cx} {o e : Expr} {es : List Expr} {to te : TE} {ta : TA} {f : Str} {p p' p1 p2 pos : Pos} {C fI : Addr} {B nid iid : String} {ml : List Value}
theorem pe_binit {pl : Sem Bool} {n : Str} (Y : Base B nid iid ml) (T : XC X.K C nid ml f fI) (hg : Gl X n) (hm : X.mg n = none) (hv : bootBuiltins n = some (.type B)) (ht : typeOf (.type B) = pure (.type "type")) (hs : Manifest.isStub B = false) (hh : PySem.W.handedIn (.builtin iid) = true)
    (vV : PySem.W.findCls X.K (.type B) (.type "type") "__init__" = some (.val (.builtin iid))) (ha : PA X (e :: es) ta)
    (hn : n ≠ "__name__" := by decide) (hd : (n == ("__debug__" : Str)) = false := by decide)
    (hc : eval (.Call (.Attribute (.Name n p1) "__init__" p2) (e :: es) [] pos) X.env = (do
      let ov ← eval (.Name n p1) X.env
      standAt p2.atName
      let (f, first) ← holding [ov] (getMethod ov "__init__" pl)
      callWith pos f first (backTo pos (starEach (e :: es) X.env)) (backToKw pos (keywordEach [] X.env))) := by rfl)
    (he : starEach (e :: es) X.env = (false, eval e X.env) :: starEach es X.env := by rfl) (hpl : (backTo pos (starEach es X.env)).any (·.1) = false := by rfl) :
    PE X (.Call (.Attribute (.Name n p1) "__init__" p2) (e :: es) [] pos) (tBI C ta) := by
  refine ⟨fun pins s σ H Q I h => ?_⟩
  refine PySem.W.methodCall_KW (ld_blt I hg hm hv ?_ hn hd) hc
  obtain ⟨m, fr⟩ := I.fr
  refine PySem.W.method_type fr I.ok.mod.kin ht hs vV hh ?_
  show wpAny _ _ (callWith pos (Value.builtin iid) [] (backTo pos (starEach (e :: es) X.env)) []) _ _ _
  refine PyProof.Rows.callWith_method1 (thn (ha.run pos pins _ σ H _ (I.tok _) h) fun us s1 hx => ?_) he hpl
  obtain ⟨vs, H1, I1, r1, a, ws, ev, hl, ea, q⟩ := hx
  subst ev
  cases r1 with
  | @cons _ u0 _ ur ra rw' =>
    obtain rfl : u0 = Value.ref a := ra
    have hlen : ur.length ≤ sizeLine := by
      rw [← Paired.length rw', sizeLine_eq]
      omega
    exact binit_ok Y T I1 ea hlen fun s' J => ⟨.non, H1, J, rfl, q⟩
theorem ps_xst (Y : Base B nid iid ml) (T : XC X.K C nid ml f fI) (ho : PE X o to) (he : PE X e te) (hs : swapsWith e (some (.Attribute o f p')) pos.line X.env = pure false := by rfl) : PS X (.Assign [.Attribute o f p'] e pos) (tXst C f to te) := by
  refine ⟨fun pins s σ H D I h => ?_⟩
  refine plainObj_wpAny_Assign_Attribute (thn (he.run pins s σ H _ I h) fun v s1 h1 => ?_) hs
  obtain ⟨y, H1, I1, r1, q1⟩ := h1
  refine thn (ho.run pins s1 σ H1 _ I1 q1) fun u s2 h2 => ?_
  obtain ⟨x, H2, I2, r2, a, ex, ea, q⟩ := h2
  subst ex
  obtain rfl : u = Value.ref a := r2
  exact ost_first Y T I2 ea r1 fun dx s' n ne J => ⟨σ, _, J, q dx n ne⟩
theorem pe_xmk {x : Str} {CX : CXT} {k : Nat} {fd : FuncData} {ps : List Str} {sp : Sp} (Y : Base B nid iid ml) (T : XC X.K C nid ml f fI) (F : FnOk X.prog X.w X.K X.mg X.base CX k fI fd ps sp) (hr : Room (k + 1) X.A) (hb : Binds X.K fd ps []) (hx : Passes CX X (fun _ _ _ => False))
    (hg : Gl X x) (hm : X.mg x = some (.ref C)) (ha : PA X (e :: es) ta)
    (hdb : (x == ("__debug__" : Str)) = false := by decide) (he : starEach (e :: es) X.env = (false, eval e X.env) :: starEach es X.env := by rfl) (hpl : (backTo pos (starEach es X.env)).any (·.1) = false := by rfl) :
    PE X (.Call (.Name x p) (e :: es) [] pos) (tXmk C sp ta) := by
  refine ⟨fun pins s σ H Q I h => ?_⟩
  obtain ⟨nm, q, N, bs, sn, sub, ab, col, dd, k0, k1, k2, k3, k5, hC⟩ := T.cls
  refine wpAny_Call_Name_kw (ld_glob I hg hm ?_ hdb)
  refine PySem.W.callWith_K (h₀ := X.base) I.ok.mod.kin T.kC (thn (ha.run pos pins s σ H _ I h) fun us s1 h1 => ?_) he hpl
  obtain ⟨vs, H1, I1, r1, hz, q1⟩ := h1
  refine ⟨I1.kIn, ?_⟩
  show wpAny _ _ (call (.ref C) us) _ _ _
  obtain ⟨hp, g, dr, tk, os⟩ := s1
  have hsz : hp.objs.size ≤ hp.objs.size + 1 := Nat.le_succ _
  have hn : H1 (hp.objs.size + 1) = none := I1.hok.fresh hsz
  have hq := q1 (hp.objs.size + 1) hn
  have kk : ∀ b o, hp.get? b = some o → ((hp.push (PySem.W.kdv_tup us)).push (eob C hp.objs.size)).get? b = some o :=
    fun b o e => Heap.get?_push_of_some _ (Heap.get?_push_of_some _ e)
  have hget : ((hp.push (PySem.W.kdv_tup us)).push (eob C hp.objs.size)).get? (hp.objs.size + 1) = some (eob C hp.objs.size) := by
    heap_get
  have I2 : Inv X pins σ (upd H1 (hp.objs.size + 1) (exo (hp.objs.size + 1) C none)) ⟨(hp.push (PySem.W.kdv_tup us)).push (eob C hp.objs.size), g, dr, tk, os⟩ :=
    I1.laid (t' := tk) (a := hp.objs.size + 1) (o := exo (hp.objs.size + 1) C none) (h' := (hp.push (PySem.W.kdv_tup us)).push (eob C hp.objs.size)) kk hsz (exo_ok hget)
  have r2 : Vals (V.ref (hp.objs.size + 1) :: vs) (Value.ref (hp.objs.size + 1) :: us) := .cons rfl r1
  have hl : (Value.ref (hp.objs.size + 1) :: us).length = ps.length := by
    have e := r2.length
    rw [F.len _ _ _ _ hq] at e
    exact e.symm
  have hus : us.length ≤ sizeLine := by
    rw [← Paired.length r1, sizeLine_eq]
    omega
  have hbb := hb (⟨(hp.push (PySem.W.kdv_tup us)).push (eob C hp.objs.size), g, dr, tk, os⟩ : Shared) (Value.ref (hp.objs.size + 1) :: us) I2.kIn (by rw [List.append_nil]; exact hl)
  rw [List.append_nil] at hbb
  refine wpAny_call (run_call Y (I1.kIn _ _ hC) (PySem.W.looks_findIn I1.kIn T.iC) (fun self => PySem.W.bind_fn I1.kIn self T.tI) hus
    (codeAny_mono (F.run _ X.stack _ _ ⟨Value.ref (hp.objs.size + 1) :: us, []⟩ (Value.ref (hp.objs.size + 1) :: us) _ _ (fun _ _ _ => False) (hr.make C us []) (I2.env0.make C us []) hbb r2 hq) fun r s' hq' => ?_))
  cases r with
  | error er => exact hx pins σ _ _ er s' I2 hq'
  | ok fl =>
    cases fl with
    | ret u =>
      obtain ⟨v, H2, I3, rv, ev, q3⟩ := I2.after hq'
      subst ev
      exact ⟨rv, ⟨V.ref (hp.objs.size + 1), H2, I3, rfl, q3⟩⟩
    | next => exact False.elim hq'
    | brk => exact False.elim hq'
    | cont => exact False.elim hq'
theorem pe_xfld (T : XC X.K C nid ml f fI) (ho : PE X o to) (hb : attributeBase o f X.env (eval o X.env) = eval o X.env := by rfl) : PE X (.Attribute o f pos) (tXfld C f to) := by
  refine ⟨fun pins s σ H Q I h => ?_⟩
  refine attr_of hb (thn (ho.run pins s σ H _ I h) fun u s1 hh => ?_)
  obtain ⟨x, H1, I1, rx, a, v, ex, ⟨dx, ea, ed⟩, q⟩ := hh
  subst ex
  obtain rfl : u = Value.ref a := rx
  obtain ⟨t1, hx⟩ := exo_at I1.hok ea
  obtain ⟨mA, hns, rel⟩ := exd_at I1.hok ed
  obtain ⟨od, hod, hl⟩ := lookIn_ns hns
  have l : List.lookup f [(f, v)] = some v := by simp [List.lookup]
  obtain ⟨u, hu, ru⟩ := RelO.some_of (v := v) (o := mA f) (by rw [← l]; exact rel f)
  have J : PySem.W.InstAt s1.heap a { cls := .ref C, dict := some dx, data := .fields #[.ref t1, .none, .none, .none, .bool false, .none] } C (some od) := ⟨hx, rfl, rfl, hod⟩
  exact HandSPX.exc_get I1.kIn J T.ga T.gg T.exC (PySem.W.findObj_own T.hdC T.noF rfl (by rw [hl, hu])) (handed_of ru) ⟨v, H1, I1.tok _, ru, q⟩
theorem call_isX : CallR X (.builtin "isinstance") (rIE X.K) := by
  intro pins s σ H xs us Q I r h
  obtain ⟨a, C, c, cv, b, rfl, hc, T, hx, e, q⟩ := h
  obtain ⟨u1, u2, rfl, r1, r2⟩ := vals2 r
  have e2 := hc.eq r2
  subst e2
  obtain rfl : u1 = Value.ref a := r1
  have fin : ∀ {ox : Obj} {od : Option Obj}, PySem.W.InstAt s.heap a ox C od → wpAny (model X.prog X.w) X.A (call (.builtin "isinstance") [.ref a, u2]) (EP X pins σ Q) X.xe s := fun J =>
    PySem.W.kia_one (PySem.W.kitx_exc T.cl T.ga T.gg T.sub T.kl T.gt T.tk T.mo) I.kIn J e (fun z => nomatch z) fun tk => ⟨.bl b, H, I.tok tk, rfl, q⟩
  cases hx with
  | @own dx fs ea ed =>
    obtain ⟨t1, ho⟩ := exo_at I.hok ea
    obtain ⟨mA, hns, rel⟩ := exd_at I.hok ed
    obtain ⟨od, hod, hl⟩ := lookIn_ns hns
    exact fin (ox := { cls := .ref C, dict := some dx, data := .fields #[.ref t1, .none, .none, .none, .bool false, .none] }) (od := some od) ⟨ho, rfl, rfl, hod⟩
  | msg ea =>
    have z : ObjOk X.prog X.w H s.heap a (ExO (.ref C) a) := I.hok a _ ea
    obtain ⟨⟨oe, vs, ho, hz, hd, _⟩, _⟩ := z
    have J : PySem.W.InstAt s.heap a oe C none := by
      obtain ⟨oc, od, oda, osl⟩ := oe
      obtain ⟨h1, h2⟩ := hz
      dsimp only at h1 h2 hd
      subst h1 h2 hd
      exact ⟨ho, rfl, rfl, trivial⟩
    exact fin J
end
end Ex

/-! repr of data at any depth; defs that are called where no repr runs. -/
namespace Rp
open PySem PySem.Spec PySem.Calls PyProof.Rows L2
def kD : Key → PyData
  | .inl i => .int i
  | .inr x => .str x
mutual
/-- v is data, told by d: lists, tuples, dicts with int and text keys -/
inductive Dt (K : PySem.W.Frag) (H : Hp) : V → PyData → Prop
  | non : Dt K H .non .none
  | bl (b : Bool) : Dt K H (.bl b) (.bool b)
  | int (i : Int) : Dt K H (.int i) (.int i)
  | str (x : Str) : Dt K H (.str x) (.str x)
  | lst {a : Addr} {xs : List V} {ds : List PyData} : SqL K H a xs → DtAll K H xs ds → Dt K H (.ref a) (.list ds)
  | tup {a : Addr} {xs : List V} {ds : List PyData} : SqT K H a xs → DtAll K H xs ds → Dt K H (.ref a) (.tuple ds)
  | dic {a : Addr} {kvs : List (Key × V)} {ds : List (PyData × PyData)} : H a = some (.dK kvs) → DtKv K H kvs ds → Dt K H (.ref a) (.dict ds)
inductive DtAll (K : PySem.W.Frag) (H : Hp) : List V → List PyData → Prop
  | nil : DtAll K H [] []
  | cons {v : V} {vs : List V} {d : PyData} {ds : List PyData} : Dt K H v d → DtAll K H vs ds → DtAll K H (v :: vs) (d :: ds)
inductive DtKv (K : PySem.W.Frag) (H : Hp) : List (Key × V) → List (PyData × PyData) → Prop
  | nil : DtKv K H [] []
  | cons {k : Key} {v : V} {kvs : List (Key × V)} {d : PyData} {ds : List (PyData × PyData)} : Dt K H v d → DtKv K H kvs ds → DtKv K H ((k, v) :: kvs) ((kD k, d) :: ds)
end
/-- the written part shows the dict of the modules -/
def SysD (K : PySem.W.Frag) : Prop := ∃ o, K.lookup sysModules = some o ∧ o.cls = .type "dict"
section
variable {X : Cx} {pins : List (Addr × Obj)} {σ : L2.St} {H : Hp} {s : Shared}
theorem key_reads {h : Heap} {P : Program} {w : World} {k : Key} {v : Value} (e : (mixKind P w).is k v = true) : Reads h v (kD k) [] := by
  rcases keyIs_shape (k := k) (v := v) e with ⟨i, t, rfl, rfl⟩ | ⟨x, t, rfl, rfl⟩
  · exact Reads.int i t
  · exact Reads.str x t
mutual
theorem Dt.reads (hk : SysD X.K) (I : Inv X pins σ H s) : ∀ (d : PyData) (v : V) (u : Value), Dt X.K H v d → RelV v u → ∃ as, Reads s.heap u d as ∧ sysModules ∉ as
  | .none, _, _, h, r => by
    cases h
    cases r
    exact ⟨_, Reads.none, by simp⟩
  | .bool b, _, _, h, r => by
    cases h
    cases r
    exact ⟨_, Reads.bool b, by simp⟩
  | .int i, _, _, h, r => by
    cases h
    obtain ⟨t, rfl⟩ := r
    exact ⟨_, Reads.int i t, by simp⟩
  | .str x, _, _, h, r => by
    cases h
    obtain ⟨t, rfl⟩ := r
    exact ⟨_, Reads.str x t, by simp⟩
  | .list ds, _, _, h, r => by
    cases h with
    | lst hs ha =>
      cases r
      obtain ⟨its, rv, ⟨o, n, ho, hc, _, hd⟩, _⟩ := I.list hs
      obtain ⟨as, hr, hn⟩ := Dt.readsAll hk I ds _ its ha rv
      refine ⟨_, Reads.list ho hc hd hr, fun z => ?_⟩
      rcases List.mem_cons.mp z with z | z
      · obtain ⟨ob, lk, oc⟩ := hk
        have e1 := I.kIn _ _ lk
        rw [z, ho] at e1
        cases e1
        rw [hc] at oc
        exact absurd (Value.type.inj oc) (by decide)
      · exact hn z
  | .tuple ds, _, _, h, r => by
    cases h with
    | tup hs ha =>
      cases r
      obtain ⟨its, rv, ⟨o, ho, hc, n, hd⟩, _⟩ := I.tuple hs
      obtain ⟨as, hr, hn⟩ := Dt.readsAll hk I ds _ its ha rv
      exact ⟨_, Reads.tuple ho hc hd hr, hn⟩
  | .dict ds, _, _, h, r => by
    cases h with
    | @dic a kvs _ hs ha =>
      cases r
      obtain ⟨_, hsy, vs, rk, o, es, ep, ho, hx, hd, _, hp, _⟩ := dk_of I.hok hs
      obtain ⟨as, bs, h1, h2, n1, n2⟩ := Dt.readsKv hk I ds kvs vs es.toList ha rk hp
      refine ⟨_, Reads.dict ho hx.1 hd h1 h2, fun z => ?_⟩
      rcases List.mem_append.mp z with z | z
      · rcases List.mem_cons.mp z with z | z
        · rw [← z] at hsy
          simp at hsy
        · exact n1 z
      · exact n2 z
theorem Dt.readsAll (hk : SysD X.K) (I : Inv X pins σ H s) : ∀ (ds : List PyData) (vs : List V) (us : List Value), DtAll X.K H vs ds → Vals vs us → ∃ as, ReadsAll s.heap us ds as ∧ sysModules ∉ as
  | [], _, _, h, r => by
    cases h
    cases r
    exact ⟨_, ReadsAll.nil, by simp⟩
  | d :: ds, _, _, h, r => by
    cases h with
    | cons h1 h2 =>
      cases r with
      | cons r1 r2 =>
        obtain ⟨as, q1, n1⟩ := Dt.reads hk I d _ _ h1 r1
        obtain ⟨bs, q2, n2⟩ := Dt.readsAll hk I ds _ _ h2 r2
        exact ⟨_, ReadsAll.cons q1 q2, fun z => (List.mem_append.mp z).elim n1 n2⟩
theorem Dt.readsKv (hk : SysD X.K) (I : Inv X pins σ H s) : ∀ (ds : List (PyData × PyData)) (kvs : List (Key × V)) (vs : List (Key × Value)) (es : List DictEntry), DtKv X.K H kvs ds → KV kvs vs → Pairs (mixKind X.prog X.w) es vs →
    ∃ as bs, ReadsAll s.heap (es.map (·.key)) (ds.map (·.1)) as ∧ ReadsAll s.heap (es.map (·.val)) (ds.map (·.2)) bs ∧ sysModules ∉ as ∧ sysModules ∉ bs
  | [], _, _, _, h, r, p => by
    cases h
    cases r
    cases p
    exact ⟨_, _, ReadsAll.nil, ReadsAll.nil, by simp, by simp⟩
  | (kd, d) :: ds, _, _, _, h, r, p => by
    cases h with
    | cons h1 h2 =>
      cases r with
      | cons r1 r2 =>
        cases p with
        | cons p1 p2 p3 =>
          obtain ⟨e1, rv⟩ := r1
          obtain ⟨as, q1, n1⟩ := Dt.reads hk I d _ _ h1 rv
          obtain ⟨as', bs', q2, q3, n2, n3⟩ := Dt.readsKv hk I ds _ _ _ h2 r2 p3
          rw [← p2] at q1
          have e1' := e1
          dsimp only at e1'
          rw [← e1'] at p1
          exact ⟨_, _, ReadsAll.cons (key_reads p1) q2, ReadsAll.cons q1 q3, fun z => (List.mem_append.mp z).elim (by simp) n2, fun z => (List.mem_append.mp z).elim n1 n3⟩
end
/-- repr(x), x a list, a tuple or a dict -/
def rRep (K : PySem.W.Frag) : List V → Hp → VK → Prop := fun xs H Q => ∃ (a : Addr) (d : PyData), xs = [.ref a] ∧ Dt K H (.ref a) d ∧ d.showable = true ∧ d.depth ≤ 60 ∧ d.shown.length ≤ sizeLine ∧ Q (.str d.shown) H
theorem call_repr_data (hk : SysD X.K) (hg : X.A.guards = some []) (hu : X.A.units + 64 < cLine) : CallR X (.builtin "repr") (rRep X.K) := by
  intro pins s σ H xs us Q I r h
  obtain ⟨a, d, rfl, hd, hs, hdep, hz, q⟩ := h
  obtain ⟨u, rfl, hr⟩ := vals1 r
  obtain rfl : u = Value.ref a := hr
  obtain ⟨as, rd, hn⟩ := Dt.reads hk I d _ _ hd rfl
  exact repr_of_reads' rd hs (fun _ => hn) hg (by omega) (fun _ _ e => e) (fun h' u tk k => ⟨.str _, H, I.kept (t' := tk) k, ⟨u, rfl⟩, q⟩) hz
end
end Rp

namespace Rp
open PySem PySem.Spec PySem.Calls PyProof.Rows L2
/-- a def's promise, where no repr runs around the call -/
structure FnG (P : Program) (w : World) (K : PySem.W.Frag) (mg : Str → Option Value) (base : Heap) (CX : CXT) (k : Nat) (f : Addr) (fd : FuncData) (ps : List Str) (sp : Sp) : Prop where
  len : ∀ vs H Q E, sp vs H Q E → vs.length = ps.length
  run : ∀ (A : Around) (outer : List Env) (s : Shared) (H : Hp) (args : Args) (us : List Value) (vs : List V) (Q : VK) (E : XK), Room k A → A.guards = some [] →
    Env0 P w K mg base A outer s H → BindsTo s fd args (ps.zip us) → Vals vs us → sp vs H Q E → codeAny (model P w) A (.call (.ref f) args) (CR CX outer P w H s Q E) s
theorem FnG.of {P : Program} {w : World} {K : PySem.W.Frag} {mg : Str → Option Value} {base : Heap} {CX : CXT} {k : Nat} {f : Addr} {fd : FuncData} {ps : List Str} {sp : Sp} (F : FnOk P w K mg base CX k f fd ps sp) : FnG P w K mg base CX k f fd ps sp :=
  ⟨F.len, fun A outer s H args us vs Q E hr _ => F.run A outer s H args us vs Q E hr⟩
theorem fng_of {CX : CXT} {P : Program} {w : World} {K : PySem.W.Frag} {mg : Str → Option Value} {base : Heap} {k : Nat} {f : Addr} {name qual : Str} {params : Arguments} {body : List Stmt} {scope : Scope} {dV kV doc pm cdv ct oc : Value} {an od : Option Addr}
    {osl : Array (Option Value)} {N ps : List Str} {sp : Sp} (lk : K.lookup f = some ⟨oc, od, .func (PySem.W.fnOf name qual params body scope dV kV doc pm an cdv ct), osl⟩) (hcd : PySem.W.codeIn K cdv qual = true) (S : FnScope N ps scope)
    (len : ∀ vs H Q E, sp vs H Q E → vs.length = ps.length)
    (hb : ∀ (A : Around) (outer : List Env) (s : Shared) (H : Hp) (vs : List V) (Q : VK) (E : XK), Room k (A.deeper (envOfC qual scope s.heap.objs.size f cdv)) → (A.deeper (envOfC qual scope s.heap.objs.size f cdv)).guards = some [] → sp vs H Q E →
      ∃ t, PSs (cxOf CX P w K mg base N qual scope f cdv A outer s H E) body t ∧ t { nx := fun _ H' => Q .non H', rt := Q } (start N vs) H) :
    FnG P w K mg base CX (k + 1) f (PySem.W.fnOf name qual params body scope dV kV doc pm an cdv ct) ps sp := by
  refine ⟨len, fun A outer s H args us vs Q E hr hgd e0 bd r hsp => ?_⟩
  have hl := len _ _ _ _ hsp
  have kx : K.In s.heap := e0.mod.kin.keeps fun b o e => (e0.bs b o e).1
  have nl : s.heap.NoLimit := e0.mod.nolimit.keeps fun b o e => (e0.bs b o e).1
  have kd : ∀ y ∈ ps.zip us, scope.names.lookup y.1 = some .local ∨ (scope.names.lookup y.1 = some .cell ∧ ((cellsFrom (s.heap.objs.size + 1) scope.names []).lookup y.1).isSome = true) := by
    intro ⟨n, v⟩ hy
    rcases S.par n (List.of_mem_zip hy).1 with q | q
    · exact .inl q
    · exact .inr ⟨q, PySem.W.cellsFrom_some _ _ _ (.inl q)⟩
  refine codeAny_call_function hr.depth (kx _ _ lk) rfl S.co S.gen rfl (PySem.W.codeRec_of kx hcd) (bd _ _ _ _ ?_)
  refine wpAny_newFunctionEnv_cells S.kind kd fun env he s1 x => ?_
  subst he
  refine ⟨nl.keeps x.toInCall.keep, codeAny_func ?_⟩
  obtain ⟨t, ht, hq⟩ := hb A outer s H vs Q E (hr.deeper _) hgd hsp
  have I : Inv (cxOf CX P w K mg base N qual scope f cdv A outer s H E) [] (start N vs) H s1 := inv_start S hr.hd e0 hl r x
  refine wpAny_mono (ht.run [] s1 (start N vs) H _ I hq) (fun fl s' hs => ?_) fun e s' hs => hs
  have out : ∀ {σ' : L2.St} {H' : Hp} {v : V} {u : Value}, Inv (cxOf CX P w K mg base N qual scope f cdv A outer s H E) [] σ' H' s' → RelV v u → Q v H' → CE outer P w H s Q u s' :=
    fun {σ' H' v u} J rv q => ⟨v, H', J.os, J.bare, J.base, J.hok, rv, q⟩
  cases fl with
  | ret u =>
    obtain ⟨v, σ', H', J, rv, q⟩ := hs
    exact out J rv q
  | next =>
    obtain ⟨σ', H', J, q⟩ := hs
    exact out (v := V.non) (u := Value.none) J rfl q
  | brk =>
    obtain ⟨_, _, _, q⟩ := hs
    exact q.elim
  | cont =>
    obtain ⟨_, _, _, q⟩ := hs
    exact q.elim
section
variable {P : Program} {w : World} {K : PySem.W.Frag} {mg : Str → Option Value} {base : Heap} {x qual : Str} {params : Arguments} {body : List Stmt} {scope : Scope} {dvs : List V} {kws : List (Str × V)} {f : Addr} {fd : FuncData}
theorem FunD.okG {CX : CXT} {N ps : List Str} {k : Nat} {sp : Sp} (F : FunD K x qual params body scope dvs kws f fd) (S : FnScope N ps scope) (len : ∀ vs H Q E, sp vs H Q E → vs.length = ps.length)
    (hb : ∀ (cdv : Value) (A : Around) (outer : List Env) (s : Shared) (H : Hp) (vs : List V) (Q : VK) (E : XK), Room k (A.deeper (envOfC qual scope s.heap.objs.size f cdv)) → (A.deeper (envOfC qual scope s.heap.objs.size f cdv)).guards = some [] → sp vs H Q E →
      ∃ t, PSs (cxOf CX P w K mg base N qual scope f cdv A outer s H E) body t ∧ t { nx := fun _ H' => Q .non H', rt := Q } (start N vs) H) : FnG P w K mg base CX (k + 1) f fd ps sp := by
  obtain ⟨oc, od, dV, kV, doc, pm, an, cdv, ct, osl, rfl, lk, hcd, _, _⟩ := F.ex
  exact fng_of lk hcd S len fun A outer s H vs Q E hr hg hsp => hb cdv A outer s H vs Q E hr hg hsp
end
section
variable {X : Cx} {pins : List (Addr × Obj)} {σ : L2.St} {H : Hp} {s : Shared} {CX : CXT} {k : Nat} {f : Addr} {fd : FuncData} {ps : List Str} {sp : Sp} {E : XK} {x : Str} {p pos : Pos} {e : Expr} {es : List Expr} {t : TA} {ds : List Value} {dvs : List V}
theorem run_fng {Q : VK} {us : List Value} {vs : List V} (F : FnG X.prog X.w X.K X.mg X.base CX k f fd ps sp) (hr : Room k X.A) (hg : X.A.guards = some []) (hb : Binds X.K fd ps ds) (hd : Vals dvs ds) (hx : Passes CX X E)
    (I : Inv X pins σ H s) (r : Vals vs us) (h : sp (vs ++ dvs) H Q E) : wpAny (model X.prog X.w) X.A (call (.ref f) us) (EP X pins σ Q) X.xe s := by
  have r2 : Vals (vs ++ dvs) (us ++ ds) := r.append hd
  have hl : (us ++ ds).length = ps.length := by
    rw [← r2.length]
    exact F.len _ _ _ _ h
  refine wpAny_call (codeAny_mono (F.run X.A X.stack s H ⟨us, []⟩ (us ++ ds) (vs ++ dvs) Q E hr hg I.env0 (hb s us I.kIn hl) r2 h) fun r s' hq => ?_)
  cases r with
  | error e => exact hx pins σ H s e s' I hq
  | ok fl =>
    cases fl with
    | ret u => exact I.after hq
    | next => exact hq.elim
    | brk => exact hq.elim
    | cont => exact hq.elim
theorem pe_callG (F : FnG X.prog X.w X.K X.mg X.base CX k f fd ps sp) (hr : Room k X.A) (hgd : X.A.guards = some []) (hg : Gl X x) (hm : X.mg x = some (.ref f)) (hk : PySem.W.keepIn X.K (.ref f) = true) (hb : Binds X.K fd ps ds) (hd : Vals dvs ds) (hx : Passes CX X E)
    (ha : PA X (e :: es) t) (hdb : (x == ("__debug__" : Str)) = false := by decide) (he : starEach (e :: es) X.env = (false, eval e X.env) :: starEach es X.env := by rfl) (hpl : (backTo pos (starEach es X.env)).any (·.1) = false := by rfl) :
    PE X (.Call (.Name x p) (e :: es) [] pos) (tCall sp dvs E t) := by
  refine ⟨fun pins s σ H Q I h => ?_⟩
  refine wpAny_Call_Name_kw (ld_glob I hg hm ?_ hdb)
  refine PySem.W.callWith_K (h₀ := X.base) I.ok.mod.kin hk (thn (ha.run pos pins s σ H _ I h) fun us s1 h1 => ?_) he hpl
  obtain ⟨vs, H1, I1, r, q⟩ := h1
  exact ⟨I1.kIn, run_fng F hr hgd hb hd hx I1 r q⟩
end
end Rp

namespace Rp
open PySem PySem.Spec PySem.Calls PyProof.Rows L2
/-- the law's call, from a promise that wants no repr around -/
theorem law_callG {P : Program} {w : World} {K : PySem.W.Frag} {mg mb : Str → Option Value} {CX : CXT} {k : Nat} {fa a : Addr} {fd : FuncData} {x : Str} {sp : Sp} {s1 : Shared} {vs : List Value} {ns : List Int}
    (kx : K.In s1.heap) (hns : s1.heap.Ns mainGlobals mg) (hb : s1.heap.Ns builtinsNs mb) (hbb : ∀ x : Str, x ≠ "__name__" → mb x = bootBuiltins x) (nl : s1.heap.NoLimit) (hg : s1.gens = #[])
    (ha : s1.heap.get? a = some { cls := .type "list", data := .seq vs.toArray }) (hi : IntsAre vs ns) (hl : ns.length ≤ sizeLine) (hr : Room k callerA)
    (F : ∀ base : Heap, K.In base → base.Ns mainGlobals mg → FnG P w K mg base CX k fa fd [x] sp) (bd : ∀ (s : Shared) (u : Value), BindsTo s fd ⟨[u], []⟩ [(x, u)])
    (hsp : ∀ H : Hp, Only H → SqL K H a (ns.map V.int) → sp [.ref a] H (fun v _ => v = .bl true) fun _ _ _ => False)
    (hx : ∀ H e s', CX [] H s1 (fun _ _ _ => False) e s' → False) :
    codeAny (model P w) callerA (.call (.ref fa) ⟨[.ref a], []⟩) (fun r s' => r = .ok (.ret (.bool true)) ∧ OldK s1.heap s'.heap ∧ s'.os = s1.os ∧ AllBare s'.gens) s1 := by
  have rv := vals_ints hi
  have ln := hi.length
  have core : ∀ H : Hp, Only H → SqL K H a (ns.map V.int) → HOk P w H s1.heap → (∀ b, H b ≠ none → b = a) → (H a ≠ none → K.lookup a = none) →
      codeAny (model P w) callerA (.call (.ref fa) ⟨[.ref a], []⟩) (fun r s' => r = .ok (.ret (.bool true)) ∧ OldK s1.heap s'.heap ∧ s'.os = s1.os ∧ AllBare s'.gens) s1 := by
    intro H hO hS hok hA hK
    have base_of : ∀ {b : Addr} {o : Obj}, s1.heap.get? b = some o → H b = none → (hidT s1.heap H).get? b = some o :=
      fun e n => hidT_get e n
    have noA : ∀ {b : Addr} {o : Obj} {es : Array DictEntry} {ep : Nat}, s1.heap.get? b = some o → o.data = .dict es ep → H b = none := by
      intro b o es ep e d
      cases q : H b with
      | none => rfl
      | some u =>
        have e' : b = a := hA b (by rw [q]; simp)
        subst e'
        rw [ha] at e
        cases e
        have d' : Data.seq vs.toArray _ = Data.dict es ep := d
        cases d'
    have nsK : ∀ {b : Addr} {m : Str → Option Value}, s1.heap.Ns b m → (hidT s1.heap H).Ns b m := by
      rintro b m ⟨o, es, ep, e, d, r⟩
      exact ⟨o, es, ep, base_of e (noA e d), d, r⟩
    have hKb : K.In (hidT s1.heap H) := by
      intro b o e
      refine base_of (kx b o e) ?_
      cases q : H b with
      | none => rfl
      | some u =>
        have e' : b = a := hA b (by rw [q]; simp)
        subst e'
        rw [hK (by rw [q]; simp)] at e
        cases e
    have hM : Mod K mg (hidT s1.heap H) := by
      obtain ⟨mc, h1, h2⟩ := nl
      exact ⟨hKb, nsK hns, ⟨mb, nsK hb, hbb⟩, ⟨mc, nsK h1, h2⟩⟩
    have e0 : Env0 P w K mg (hidT s1.heap H) callerA [] s1 H :=
      ⟨rfl, hM, fun b o e => of_hidT e, Nat.le_of_eq (hidT_size _ _), trivial, fun b hb => absurd (show b ∈ ([] : List Addr) from hb) (by simp), hok, .of_eq hg⟩
    refine codeAny_mono ((F _ hKb (nsK hns)).run callerA [] s1 H ⟨[.ref a], []⟩ [.ref a] [.ref a] _ _ hr rfl e0 (bd s1 (.ref a)) (.cons rfl .nil) (hsp H hO hS)) fun r s' h => ?_
    cases r with
    | error e => exact (hx H e s' h).elim
    | ok fl =>
      cases fl with
      | next => exact h.elim
      | brk => exact h.elim
      | cont => exact h.elim
      | ret u =>
        obtain ⟨v, H', os, bare, un, hok', r', q⟩ := h
        have q' : v = .bl true := q
        subst q'
        obtain rfl : u = Value.bool true := r'
        refine ⟨rfl, OldK.of_keep fun b o e => ?_, os, bare⟩
        cases q : H b with
        | none => exact un.keep b o e q (by intro z; exact absurd (show b ∈ ([] : List Addr) from z) (by simp)) (by simp)
        | some u =>
          rcases hO b with z | ⟨ob, xs, z⟩
          · rw [q] at z
            cases z
          · have z2 := un.frzs b ob _ z
            obtain ⟨e1, _⟩ := hok b _ z
            obtain ⟨e2, _⟩ := hok' b _ z2
            rw [e] at e1
            cases e1
            exact e2
  cases hk : K.lookup a with
  | some o =>
    have e := kx a o hk
    rw [ha] at e
    cases e
    refine core (fun _ => none) (fun _ => .inl rfl) ?_ (fun b u z => ?_) (fun b z => absurd rfl z) fun z => absurd rfl z
    · exact .inr ⟨_, vs.toArray, _, hk, rfl, rfl, rfl, by rw [List.size_toArray, ln]; exact hl, by simpa using rv⟩
    · have z' : (none : Option HO) = some u := z
      cases z'
  | none =>
    refine core (fun b => if b = a then some (.frz { cls := .type "list", data := .seq vs.toArray } (.lst (ns.map V.int))) else none)
      (fun b => ?_) (.inl (.inr ⟨{ cls := .type "list", data := .seq vs.toArray }, if_pos rfl⟩)) (fun b u z => ?_) (fun b z => ?_) fun _ => hk
    · by_cases hb : b = a
      · exact .inr ⟨_, _, if_pos hb⟩
      · exact .inl (if_neg hb)
    · by_cases hb : b = a
      · have z' := (if_pos hb).symm.trans z
        cases z'
        subst hb
        exact ⟨ha, by rw [List.length_map]; exact hl, vs, _, rv, ha⟩
      · have z' := (if_neg hb).symm.trans z
        cases z'
    · by_cases hb : b = a
      · exact hb
      · exact absurd (if_neg hb) z
/-- a law over a head by facts, its promise wanting no repr around -/
theorem walk_G {l : PySem.W.OpenLaw} {n k : Nat} {q : Program} {loose : List Str} {XP : (Str → Option Value) → Heap → Prop} {YP : World → Heap → Prop} {d : DefRec} {CX : CXT} {x : Str}
    (hn : l.most = some n) (hn2 : n ≤ sizeLine) (hdf : d.params.defaults = []) (hr : Room k callerA)
    (F : ∀ (w : World) (mg : Str → Option Value) (fa : Addr) (h : Heap), YP w h → h.Ns mainGlobals mg → mg d.name = some (.ref fa) →
      ∃ (K : PySem.W.Frag) (fd : FuncData) (sp : Sp), K.In h ∧ (∀ (s : Shared) (u : Value), BindsTo s fd ⟨[u], []⟩ [(x, u)]) ∧
        (∀ (H : Hp) (a : Addr) (ns : List Int), ns.length ≤ n → Only H → SqL K H a (ns.map V.int) → sp [.ref a] H (fun v _ => v = .bl true) fun _ _ _ => False) ∧
        ∀ base : Heap, K.In base → base.Ns mainGlobals mg → FnG l.prog w K mg base CX k fa fd [x] sp)
    (hx : ∀ (H : Hp) (s : Shared) (e : Value) (s' : Shared), CX [] H s (fun _ _ _ => False) e s' → False) :
    PySem.W.WalkO q loose XP YP l.row.toRowW d [] (fun f vs => PySem.call f vs) := by
  refine Att.attach_call hn hdf fun w s₀ s1 mg mb fa o pm cd doc a vs ns G Y ho hd hcd hmg hobj hints hlen hg => ?_
  obtain ⟨K, fd, sp, kx, hb, hsp, hF⟩ := F w mg fa _ Y G.T.g hmg
  exact law_callG kx G.T.g G.T.b G.T.builtins G.T.nolimit hg hobj hints (Nat.le_trans hlen hn2) hr hF hb
    (fun H hO hS => hsp H a ns hlen hO hS) fun H e s' => hx H s1 e s'
end Rp

/-! The head's facts by tests of one's own. -/
namespace Hx
open PySem PySem.Spec PyProof.Rows L2
open He (ga ma)
/-- from the module's names and the dict of the modules -/
def asX (g : Addr → Option Obj) : Nat → List Addr
  | 0 => [mainGlobals, sysModules]
  | n + 1 => He.growD g (asX g n)
def obsX (ts : PySem.W.Frag → Bool) (fn : List He.DefD) (K : PySem.W.Frag) : He.AlD := (ts K && fn.all fun d => d.ok K, fn.map fun d => He.fnW K d.at_)
def SaysX (ts : PySem.W.Frag → Bool) (fn : List He.DefD) (K : PySem.W.Frag) : Prop := obsX ts fn K = He.valD fn
def obsXG (n : Nat) (ts : PySem.W.Frag → Bool) (fn : List He.DefD) (g : Addr → Option Obj) : He.AlD := obsX ts fn (He.frG g (asX g n))
def hookX (n : Nat) (ts : PySem.W.Frag → Bool) (fn : List He.DefD) : PySem.W.Hook where
  α := He.AlD
  obs := fun s => obsXG n ts fn s.heap.get?
  val := fun _ => He.valD fn
  says := fun _ h => ∃ K : PySem.W.Frag, K.In h ∧ SaysX ts fn K
  of := fun _ _ e => ⟨_, He.frG_in, e⟩
  keeps := fun _ _ _ ⟨K, hK, c⟩ k => ⟨K, PySem.W.Frag.In.keeps hK k, c⟩
theorem obsXG_eq {n : Nat} {ts : PySem.W.Frag → Bool} {fn : List He.DefD} {g : Addr → Option Obj} {s : Shared} (h : ∀ a, g a = s.heap.get? a) : obsXG n ts fn g = (hookX n ts fn).obs s := by
  have e : g = s.heap.get? := funext h
  rw [e] <;> rfl
section
variable {ts : PySem.W.Frag → Bool} {fn : List He.DefD} {K : PySem.W.Frag}
theorem SaysX.test (c : SaysX ts fn K) : ts K = true :=
  (He.ba (show (ts K && fn.all fun d => d.ok K) = true from congrArg (fun z : He.AlD => z.1) c)).1
theorem SaysX.def_ (c : SaysX ts fn K) (i : Nat) {d : He.DefD} (h : fn[i]? = some d := by rfl) : ∃ fd, FunD K d.name d.qual d.params d.body d.scope (d.dvs K) (d.kws K) (He.fAd K d.at_) fd := by
  have c2 := (He.ba (show (ts K && fn.all fun d => d.ok K) = true from congrArg (fun z : He.AlD => z.1) c)).2
  have e : fn.map (fun d => He.fnW K d.at_) = fn.map He.DefD.val := congrArg (fun z : He.AlD => z.2) c
  have e2 : (fn.map fun d => He.fnW K d.at_)[i]? = (fn.map He.DefD.val)[i]? := by
    rw [e]
  rw [List.getElem?_map, List.getElem?_map, h] at e2
  exact He.DefD.funD (Option.some.inj e2) (List.all_eq_true.mp c2 d (List.mem_of_getElem? h))
end
/-! ### tests -/
def eqF (K : PySem.W.Frag) (C : Addr) (f : Str) (v : Option Value) : Bool := decide (PySem.W.findIn K (.ref C) f = some v)
/-- the class named x: an exception class whose instances isinstance may be asked of -/
def icB (K : PySem.W.Frag) (x : Str) : Bool :=
  (PySem.W.clsIn K (ga K x)).isSome && (eqF K (ga K x) "__getattribute__" (some (.builtin "BaseException.__getattribute__")) && (eqF K (ga K x) "__getattr__" none && (decide (PySem.W.subIn K (.ref (ga K x)) (.type "BaseException") = some true) &&
    (eqF K (ga K x) "__class__" (some (.builtin "object.__class__")) && (decide (PySem.W.specialIn K (.builtin "object.__class__") "__get__" = some (some (.builtin "getset_descriptor.__get__"))) &&
      (decide (PySem.W.takesIn K (.builtin "object.__class__") = some true) && decide (PySem.W.mroIn K (ga K x) (.type "object") = some true)))))))
theorem icB_ok {K : PySem.W.Frag} {x : Str} (h : icB K x = true) : Ex.IC K (ga K x) := by
  obtain ⟨h1, h⟩ := He.ba h
  obtain ⟨h2, h⟩ := He.ba h
  obtain ⟨h3, h⟩ := He.ba h
  obtain ⟨h4, h⟩ := He.ba h
  obtain ⟨h5, h⟩ := He.ba h
  obtain ⟨h6, h⟩ := He.ba h
  obtain ⟨h7, h8⟩ := He.ba h
  exact ⟨h1, of_decide_eq_true h2, of_decide_eq_true h3, of_decide_eq_true h4, of_decide_eq_true h5, of_decide_eq_true h6, of_decide_eq_true h7, of_decide_eq_true h8⟩
/-- the class object at C: its mro, its maker -/
def clsB (K : PySem.W.Frag) (C : Addr) (nid : String) (ml : List Value) : Bool := match K.lookup C with
  | some ⟨.type "type", _, .cls cd, sl⟩ => (match sl.toList with
    | [_, _, _, _, some (.builtin n), _] => decide (cd.mro = .ref C :: ml) && (n == nid && (!cd.hasDel && cd.hasDict))
    | _ => false)
  | _ => false
theorem clsB_ok {K : PySem.W.Frag} {C : Addr} {nid : String} {ml : List Value} (q : clsB K C nid ml = true) :
    ∃ nm qn N bs sn sub ab col dd k0 k1 k2 k3 k5, K.lookup C = some (excClassObj nm qn C N bs ml true sn sub ab col dd k0 k1 k2 k3 k5 nid) := by
  unfold clsB at q
  split at q
  · rename_i dd cd sl ho
    split at q
    · rename_i k0 k1 k2 k3 n k5 hs
      obtain ⟨h1, q⟩ := He.ba q
      obtain ⟨h2, q⟩ := He.ba q
      obtain ⟨h3, h4⟩ := He.ba q
      obtain ⟨nm, bs, mro, ns, qn, hd, sn, sub, ab, col, del⟩ := cd
      have hm := of_decide_eq_true h1
      have hn := beq_iff_eq.mp h2
      have hdel : del = false := by simpa using h3
      dsimp only at hm h4
      subst hm hn hdel h4
      have hsl : sl = #[k0, k1, k2, k3, some (.builtin n), k5] := by
        obtain ⟨l⟩ := sl
        simp only at hs
        rw [hs]
      subst hsl
      exact ⟨nm, qn, ns, bs, sn, sub, ab, col, dd, k0, k1, k2, k3, k5, ho⟩
    · cases q
  · cases q
/-- the class named x, with its own __init__, that keeps f -/
def xcB (K : PySem.W.Frag) (x : Str) (nid : String) (ml : List Value) (f : Str) : Bool :=
  clsB K (ga K x) nid ml && (eqF K (ga K x) "__setattr__" (some (.builtin "object.__setattr__")) && (eqF K (ga K x) "__getattribute__" (some (.builtin "BaseException.__getattribute__")) && (eqF K (ga K x) "__getattr__" none && (eqF K (ga K x) f none &&
    (eqF K (ga K x) "__init__" (some (.ref (ma K (ga K x) "__init__"))) && (decide (PySem.W.typeIn K (.ref (ma K (ga K x) "__init__")) = some (.type "function")) && (PySem.W.keepIn K (.ref (ga K x)) &&
      (decide (PySem.W.subIn K (.ref (ga K x)) (.type "BaseException") = some true) && (decide (PySem.W.typeIn K (.ref (ga K x)) = some (.type "type")) && PySem.W.hasDictIn K (ga K x))))))))))
theorem xcB_ok {K : PySem.W.Frag} {x f : Str} {nid : String} {ml : List Value} (h : xcB K x nid ml f = true) : Ex.XC K (ga K x) nid ml f (ma K (ga K x) "__init__") := by
  obtain ⟨h1, h⟩ := He.ba h
  obtain ⟨h2, h⟩ := He.ba h
  obtain ⟨h3, h⟩ := He.ba h
  obtain ⟨h4, h⟩ := He.ba h
  obtain ⟨h5, h⟩ := He.ba h
  obtain ⟨h6, h⟩ := He.ba h
  obtain ⟨h7, h⟩ := He.ba h
  obtain ⟨h8, h⟩ := He.ba h
  obtain ⟨h9, h⟩ := He.ba h
  obtain ⟨h10, h11⟩ := He.ba h
  exact ⟨clsB_ok h1, of_decide_eq_true h2, of_decide_eq_true h3, of_decide_eq_true h4, of_decide_eq_true h5, of_decide_eq_true h6, of_decide_eq_true h7, h8, of_decide_eq_true h9, of_decide_eq_true h10, h11⟩
def gloB (K : PySem.W.Frag) (xs : List Str) : Bool := xs.all fun x => (He.Fa.glo x).ok K
def freeB (K : PySem.W.Frag) (xs : List Str) : Bool := xs.all fun x => (He.Fa.free x).ok K
theorem gloB_ok {K : PySem.W.Frag} {h : Heap} {mg : Str → Option Value} (X : K.In h) (G : h.Ns mainGlobals mg) {xs : List Str} (c : gloB K xs = true) {x : Str} (hx : x ∈ xs) : mg x = some (.ref (ga K x)) :=
  He.glo_ok X G (List.all_eq_true.mp c x hx)
theorem freeB_ok {K : PySem.W.Frag} {h : Heap} {mg : Str → Option Value} (X : K.In h) (G : h.Ns mainGlobals mg) {xs : List Str} (c : freeB K xs = true) {x : Str} (hx : x ∈ xs) : mg x = none :=
  He.free_ok X G (List.all_eq_true.mp c x hx)
def sysB (K : PySem.W.Frag) : Bool := match K.lookup sysModules with
  | some o => decide (o.cls = .type "dict")
  | none => false
theorem sysB_ok {K : PySem.W.Frag} (h : sysB K = true) : Rp.SysD K := by
  unfold sysB at h
  split at h
  · rename_i o ho
    exact ⟨o, ho, of_decide_eq_true h⟩
  · cases h
end Hx

/-! HeadX with defs that make lambdas: their empty tables are left out of what is written. -/
namespace Hx
open PySem PySem.Spec PyProof.Rows L2
open He (ga ma)
def obsT (ts : PySem.W.Frag → Bool) (fn : List He.DefD) (tf : List He.Defn) (g : Addr → Option Obj) (K : PySem.W.Frag) : He.AlD := ((ts K && He.tabsB g tf K) && fn.all fun d => d.ok K, fn.map fun d => He.fnW K d.at_)
def obsTG (n : Nat) (ts : PySem.W.Frag → Bool) (fn : List He.DefD) (tf : List He.Defn) (g : Addr → Option Obj) : He.AlD := obsT ts fn tf g (He.frT g (asX g n))
/-- what is told of the written part K and the heap h -/
structure SaysT (ts : PySem.W.Frag → Bool) (fn : List He.DefD) (tf : List He.Defn) (h : Heap) (K : PySem.W.Frag) : Prop where
  c : SaysX ts fn K
  hd : ∀ p ∈ tf, PySem.W.codeHdIn K (He.cT K p).1 (He.cT K p).2 = true
  out : ∀ p ∈ tf, K.lookup (He.cT K p).2 = none
  empty : ∀ p ∈ tf, h.get? (He.cT K p).2 = some { cls := .none, data := .fields #[] }
theorem saysT_of {n : Nat} {ts : PySem.W.Frag → Bool} {fn : List He.DefD} {tf : List He.Defn} {h : Heap} (e : obsTG n ts fn tf h.get? = He.valD fn) : SaysT ts fn tf h (He.frT h.get? (asX h.get? n)) := by
  unfold obsTG obsT at e
  have e1 := congrArg (fun z : He.AlD => z.1) e
  have e2 := congrArg (fun z : He.AlD => z.2) e
  generalize hK : He.frT h.get? (asX h.get? n) = K at e1 e2 ⊢
  obtain ⟨a1, a2⟩ := He.ba (show ((ts K && He.tabsB h.get? tf K) && fn.all fun d => d.ok K) = true from e1)
  obtain ⟨a3, a4⟩ := He.ba a1
  have key : ∀ p ∈ tf, PySem.W.codeHdIn K (He.cT K p).1 (He.cT K p).2 = true ∧ ∃ o, h.get? (He.cT K p).2 = some o ∧ He.emptyTab o = true := fun p hp => by
    obtain ⟨b1, b2⟩ := He.ba (List.all_eq_true.mp a4 p hp)
    refine ⟨b1, ?_⟩
    cases q : h.get? (He.cT K p).2 with
    | none =>
      rw [q] at b2
      cases b2
    | some o =>
      rw [q] at b2
      exact ⟨o, rfl, b2⟩
  refine ⟨Prod.ext ?_ e2, fun p hp => (key p hp).1, fun p hp => ?_, fun p hp => ?_⟩
  · show (ts K && fn.all fun d => d.ok K) = true
    rw [a3, a2] <;> rfl
  · obtain ⟨_, o, q, z⟩ := key p hp
    rw [← hK] at q ⊢
    exact He.frT_none q z
  · obtain ⟨_, o, q, z⟩ := key p hp
    rw [q, He.emptyTab_eq z]
def hookT (n : Nat) (ts : PySem.W.Frag → Bool) (fn : List He.DefD) (tf : List He.Defn) : PySem.W.Hook where
  α := He.AlD
  obs := fun s => obsTG n ts fn tf s.heap.get?
  val := fun _ => He.valD fn
  says := fun _ h => ∃ K : PySem.W.Frag, K.In h ∧ SaysT ts fn tf h K
  of := fun _ _ e => ⟨_, He.frT_in, saysT_of e⟩
  keeps := fun _ _ _ ⟨K, hK, c⟩ k => ⟨K, PySem.W.Frag.In.keeps hK k, ⟨c.c, c.hd, c.out, fun p hp => k _ _ (c.empty p hp)⟩⟩
theorem obsTG_eq {n : Nat} {ts : PySem.W.Frag → Bool} {fn : List He.DefD} {tf : List He.Defn} {g : Addr → Option Obj} {s : Shared} (h : ∀ a, g a = s.heap.get? a) : obsTG n ts fn tf g = (hookT n ts fn tf).obs s := by
  have e : g = s.heap.get? := funext h
  rw [e] <;> rfl
/-- the keyword-only default y of the def named x, an object -/
def kwA (x y : Str) (K : PySem.W.Frag) : Addr := match K.lookup (ga K x) with
  | some ⟨_, _, .func fd, _⟩ => (match fd.kwdefaults with
    | .ref D => (match PySem.W.nsIn K D y with
      | some (some (.ref a)) => a
      | _ => 0)
    | _ => 0)
  | _ => 0
/-- an empty tuple stands at a -/
def emB (K : PySem.W.Frag) (a : Addr) : Bool := match K.lookup a with
  | some ⟨.type c, _, .seq its _, _⟩ => decide (c = "tuple") && its.isEmpty
  | _ => false
theorem emB_ok {K : PySem.W.Frag} {a : Addr} (h : emB K a = true) (H : Hp) : SqT K H a [] := by
  unfold emB at h
  split at h
  · rename_i c dd its n sl q
    obtain ⟨h1, h2⟩ := He.ba h
    have e := Array.isEmpty_iff.mp h2
    subst e
    exact .inr ⟨_, #[], n, q, congrArg Value.type (of_decide_eq_true h1), rfl, Nat.zero_le _, .nil⟩
  · cases h
def exB (K : PySem.W.Frag) (x y : Str) (b : Bool) : Bool := decide (PySem.W.exmOne K (.ref (ga K x)) (.ref (ga K y)) = some b)
def iniB (K : PySem.W.Frag) (b i : String) : Bool := match PySem.W.findCls K (.type b) (.type "type") "__init__" with
  | some (.val (.builtin j)) => j == i
  | _ => false
/-- the class named x: derived without an own __init__ from ValueError -/
def msgB (K : PySem.W.Frag) (x : Str) : Bool := PySem.W.excIn K (ga K x) He.veBase "ValueError.__new__" && (PySem.W.keepIn K (.ref (ga K x)) && decide (PySem.W.typeIn K (.ref (ga K x)) = some (.type "type")))
end Hx

namespace K01
open PySem PySem.Spec PyProof.Rows L2
open He (ga ma)
def top (i : Nat) : Stmt := PySem.Challenge.pw_pagewise_k01_names_rows_and_order.main.body.getD i (.Pass ⟨0, 0, 0, 0⟩)
abbrev iN : Stmt := inClass (top 4) 0
abbrev sIsI : Stmt := top 8
abbrev sAre : Stmt := top 9
abbrev sAsc : Stmt := top 10
abbrev sIsName : Stmt := top 11
abbrev sIsRow : Stmt := top 12
abbrev sBefore : Stmt := top 13
abbrev sSorted : Stmt := top 14
abbrev sPlace : Stmt := top 15
abbrev sKey : Stmt := top 16
abbrev sChkR : Stmt := top 17
abbrev sChkD : Stmt := top 18
abbrev sStream : Stmt := top 20
abbrev sDraw : Stmt := top 21
abbrev sPick : Stmt := top 22
abbrev sMixed : Stmt := top 23
abbrev sIsWord : Stmt := top 24
abbrev sIsLine : Stmt := top 25
abbrev sThing : Stmt := top 26
abbrev sAhead : Stmt := top 27
abbrev sSortL : Stmt := top 28
abbrev sLines : Stmt := top 29
abbrev sRowsR : Stmt := top 30
abbrev sLaw : Stmt := top 31
def dM (x : Str) (q : Str) (st : Stmt) : He.DefD := ⟨(x, some "__init__"), "__init__", q, defArgs st, defBody st, defScope st, [], []⟩
def dF (x : Str) (st : Stmt) : He.DefD := ⟨(x, none), x, x, defArgs st, defBody st, defScope st, [], []⟩
def dK (x : Str) (st : Stmt) : He.DefD := ⟨(x, none), x, x, defArgs st, defBody st, defScope st, [], [("down", .adr (Hx.kwA x "down"))]⟩
def fn : List He.DefD := [dM "InvalidNumber" "InvalidNumber.__init__" iN,
  dF "is_integer" sIsI, dF "are_integers" sAre, dF "is_ascending" sAsc, dF "is_name" sIsName, dF "is_row" sIsRow, dK "before" sBefore, dK "sorted_rows" sSorted, dK "place_of" sPlace, dF "sort_key" sKey, dF "check_rows" sChkR, dF "check_down" sChkD,
  dF "_law_stream" sStream, dF "_law_draw" sDraw, dF "_law_pick" sPick, dF "_law_mixed" sMixed, dF "_law_is_word" sIsWord, dF "_law_is_line" sIsLine, dF "_law_thing" sThing, dF "_law_ahead" sAhead, dF "_law_sorted" sSortL, dF "_law_lines" sLines, dF "_law_rows_right" sRowsR, dF "law" sLaw]
def tf : List He.Defn := [("sorted_rows", none)]
def cn : List Str := ["PageError", "InvalidRow", "InvalidOperation", "InvalidNumber"]
def pn : List Str := ["is_integer", "are_integers", "is_ascending", "is_name", "is_row", "before", "sorted_rows", "place_of", "sort_key", "check_rows", "check_down"]
def ln : List Str := ["_law_stream", "_law_draw", "_law_pick", "_law_mixed", "_law_is_word", "_law_is_line", "_law_thing", "_law_ahead", "_law_sorted", "_law_lines", "_law_rows_right"]
def bn : List Str := ["IndexError", "isinstance", "len", "int", "bool", "str", "tuple", "all", "zip", "sorted", "list", "set", "enumerate", "abs", "max", "min", "range", "repr"]
def gn : List Str := cn ++ (pn ++ ln)
def t1 (K : PySem.W.Frag) : Bool := Hx.gloB K ("law" :: gn) && (Hx.freeB K bn && ((He.Fa.int "MAX_SIZE" 10).ok K && (He.Fa.int "MAX_LETTERS" 8).ok K))
def t2 (K : PySem.W.Frag) : Bool := Hx.icB K "InvalidRow" && (Hx.icB K "InvalidOperation" && (Hx.msgB K "InvalidRow" && Hx.msgB K "InvalidOperation"))
def t3 (K : PySem.W.Frag) : Bool := Hx.xcB K "InvalidNumber" "IndexError.__new__" Ex.mlI "value" && Hx.iniB K "IndexError" "IndexError.__init__"
def t5 (K : PySem.W.Frag) : Bool := ["before", "sorted_rows", "place_of"].all fun x => Hx.emB K (Hx.kwA x "down" K)
def ts (K : PySem.W.Frag) : Bool := t1 K && (t2 K && (t3 K && (t5 K && Hx.sysB K)))
abbrev R : PySem.W.OpenRow := PySem.W.OpenLaw.row PySem.Challenge.rw_pagewise_k01_names_rows_and_order
abbrev hk : PySem.W.Hook := Hx.hookT 5 ts fn tf
def ob (s : PySem.W.SharedT) : He.AlD := Hx.obsTG 5 ts fn tf (HandSHeadRun.getT s)
theorem ob_eq (s : PySem.W.SharedT) : ob s = hk.obs s.abs := Hx.obsTG_eq (HandSHeadRun.getT_eq s)
def loose : List Str := "MAX_LETTERS" :: "MAX_SIZE" :: gn
theorem run (w : World) : HandSHeadRun.RunEq R (PySem.W.view R.prog [31]) hk ob 4000 loose w := by
  intro os
  kernel_rfl
end K01

/-! The end of a law that makes lambdas, its promise wanting no repr around. -/
namespace Rp
open PySem PySem.Spec PySem.Calls PyProof.Rows L2
open LamX (TabB)
abbrev oTab : Obj := { cls := .none, data := .fields #[] }
/-- the abstract heap where the law begins: the script (if it is not written), the tables -/
def H0T (T : List Addr) (a : Addr) (so : Option HO) : Hp := fun b => if b = a then so else if b ∈ T then some (.tbl #[]) else none
theorem law_callGT {P : Program} {w : World} {K : PySem.W.Frag} {mg mb : Str → Option Value} {CX : CXT} {k : Nat} {fa a : Addr} {cs : List (Addr × Addr)} {fd : FuncData} {x : Str} {sp : Sp} {s1 : Shared} {vs : List Value} {ns : List Int}
    (kx : K.In s1.heap) (hns : s1.heap.Ns mainGlobals mg) (hb : s1.heap.Ns builtinsNs mb) (hbb : ∀ x : Str, x ≠ "__name__" → mb x = bootBuiltins x) (nl : s1.heap.NoLimit) (hg : s1.gens = #[])
    (hT : ∀ p ∈ cs, s1.heap.get? p.2 = some oTab) (nT : ∀ p ∈ cs, K.lookup p.2 = none) (hC : ∀ p ∈ cs, PySem.W.CodeHd s1.heap p.1 p.2)
    (hbm : ∃ (bm : Addr) (ob : Obj), mg "__builtins__" = some (.ref bm) ∧ bm ≠ builtinsNs ∧ s1.heap.get? bm = some ob ∧ ob.cls = .type "module" ∧ ob.dict = some builtinsNs ∧ ob.data = .plain)
    (ha : s1.heap.get? a = some { cls := .type "list", data := .seq vs.toArray }) (hi : IntsAre vs ns) (hl : ns.length ≤ sizeLine) (hr : Room k callerA)
    (F : ∀ base : Heap, K.In base → base.Ns mainGlobals mg → (∀ p ∈ cs, TabB base mg p.1 p.2) → FnG P w K mg base CX k fa fd [x] sp) (bd : ∀ (s : Shared) (u : Value), BindsTo s fd ⟨[u], []⟩ [(x, u)])
    (hsp : ∀ H : Hp, (∀ p ∈ cs, H p.2 = some (.tbl #[])) → SqL K H a (ns.map V.int) → sp [.ref a] H (fun v _ => v = .bl true) fun _ _ _ => False)
    (hx : ∀ H e s', CX [] H s1 (fun _ _ _ => False) e s' → False) :
    codeAny (model P w) callerA (.call (.ref fa) ⟨[.ref a], []⟩) (fun r s' => r = .ok (.ret (.bool true)) ∧ OldK s1.heap s'.heap ∧ s'.os = s1.os ∧ AllBare s'.gens) s1 := by
  have rv := vals_ints hi
  have ln := hi.length
  have tab : ∀ {b : Addr}, b ∈ cs.map (·.2) → s1.heap.get? b = some oTab ∧ K.lookup b = none ∧ ∃ c, PySem.W.CodeHd s1.heap c b := fun {b} m => by
    obtain ⟨p, hp, rfl⟩ := List.mem_map.mp m
    exact ⟨hT p hp, nT p hp, _, hC p hp⟩
  have aT : a ∉ cs.map (·.2) := fun z => by
    have e := (tab z).1
    rw [ha] at e
    exact absurd (congrArg Obj.data (Option.some.inj e)) (by simp)
  -- the script: tracked, if it is not written
  obtain ⟨so, hso, hKa, hSq, hOb⟩ : ∃ so : Option HO, (so = none ∨ so = some (.frz { cls := .type "list", data := .seq vs.toArray } (.lst (ns.map V.int)))) ∧ (so ≠ none → K.lookup a = none) ∧
      (∀ H : Hp, H a = so → SqL K H a (ns.map V.int)) ∧ ∀ H : Hp, ∀ u, so = some u → ObjOk P w H s1.heap a u := by
    cases hk : K.lookup a with
    | some o =>
      have e := kx a o hk
      rw [ha] at e
      cases e
      exact ⟨none, .inl rfl, fun z => absurd rfl z, fun H _ => .inr ⟨_, vs.toArray, _, hk, rfl, rfl, rfl, by rw [List.size_toArray, ln]; exact hl, by simpa using rv⟩, fun H u z => nomatch z⟩
    | none =>
      refine ⟨_, .inr rfl, fun _ => rfl, fun H e => .inl (.inr ⟨_, e⟩), fun H u z => ?_⟩
      cases z
      exact ⟨ha, by rw [List.length_map]; exact hl, vs, _, rv, ha⟩
  generalize hHd : H0T (cs.map (·.2)) a so = H
  have atA : H a = so := by
    rw [← hHd]
    exact if_pos rfl
  have atT : ∀ {b : Addr}, b ∈ cs.map (·.2) → H b = some (.tbl #[]) := fun {b} m => by
    rw [← hHd]
    exact (if_neg (show ¬ b = a from fun z => aT (z ▸ m))).trans (if_pos m)
  have only : ∀ {b : Addr} {u : HO}, H b = some u → (b = a ∧ so = some u) ∨ (b ∈ cs.map (·.2) ∧ u = .tbl #[]) := fun {b u} e => by
    rw [← hHd] at e
    unfold H0T at e
    by_cases h1 : b = a
    · rw [if_pos h1] at e
      exact .inl ⟨h1, e⟩
    · rw [if_neg h1] at e
      by_cases h2 : b ∈ cs.map (·.2)
      · rw [if_pos h2] at e
        cases e
        exact .inr ⟨h2, rfl⟩
      · rw [if_neg h2] at e
        cases e
  have hok : HOk P w H s1.heap := fun b u e => by
    rcases only e with ⟨rfl, h2⟩ | ⟨h1, rfl⟩
    · exact hOb H u h2
    · exact (tab h1).1
  -- what is no list and no table is not tracked
  have loose : ∀ {b : Addr} {o : Obj}, s1.heap.get? b = some o → (∀ ws n, o.data ≠ .seq ws n) → o ≠ oTab → H b = none := fun {b o} e h1 h2 => by
    cases q : H b with
    | none => rfl
    | some u =>
      rcases only q with ⟨rfl, _⟩ | ⟨m, _⟩
      · rw [ha] at e
        cases e
        exact absurd rfl (h1 _ _)
      · rw [(tab m).1] at e
        exact absurd (Option.some.inj e).symm h2
  have nsK : ∀ {b : Addr} {m : Str → Option Value}, s1.heap.Ns b m → (hidT s1.heap H).Ns b m := by
    rintro b m ⟨o, es, ep, e, d, r⟩
    refine ⟨o, es, ep, hidT_get e (loose e (fun ws n z => ?_) fun z => ?_), d, r⟩
    · rw [d] at z
      cases z
    · rw [z] at d
      cases d
  have hKb : K.In (hidT s1.heap H) := fun b o e => by
    refine hidT_get (kx b o e) ?_
    cases q : H b with
    | none => rfl
    | some u =>
      rcases only q with ⟨rfl, h2⟩ | ⟨m, _⟩
      · rw [hKa (by rw [h2]; simp)] at e
        cases e
      · rw [(tab m).2.1] at e
        cases e
  have hM : Mod K mg (hidT s1.heap H) := by
    obtain ⟨mc, h1, h2⟩ := nl
    exact ⟨hKb, nsK hns, ⟨mb, nsK hb, hbb⟩, ⟨mc, nsK h1, h2⟩⟩
  have nM : ∀ {b : Addr}, s1.heap.get? b = some oTab → mainGlobals ≠ b := fun {b} e z => by
    obtain ⟨o, es, ep, e2, d, _⟩ := hns
    rw [z, e] at e2
    cases e2
    cases d
  have TB : ∀ p ∈ cs, TabB (hidT s1.heap H) mg p.1 p.2 := fun p hp => by
    refine ⟨?_, ?_, nM (hT p hp)⟩
    · obtain ⟨o, us, file, tf, flags, tg, inF, text, tt, e1, r1, r2, r3, r⟩ := hC p hp
      refine ⟨o, us, file, tf, flags, tg, inF, text, tt, hidT_get e1 (loose e1 (fun ws n z => ?_) fun z => ?_), r1, r2, r3, r⟩
      · rw [r2] at z
        cases z
      · rw [z] at r2
        cases r2
        simp at r3
    · obtain ⟨bm, ob, b1, b2, b3, b4, b5, b6⟩ := hbm
      refine ⟨bm, ob, b1, b2, fun q => ?_, fun q => ?_, hidT_get b3 (loose b3 (fun ws n z => ?_) fun z => ?_), b4, b5, b6⟩
      · obtain ⟨o, es, ep, e, d, _⟩ := hns
        rw [q, e] at b3
        cases b3
        rw [d] at b6
        cases b6
      · rw [q, hT p hp] at b3
        cases b3
        cases b6
      · rw [b6] at z
        cases z
      · rw [z] at b6
        cases b6
  have e0 : Env0 P w K mg (hidT s1.heap H) callerA [] s1 H :=
    ⟨rfl, hM, fun b o e => of_hidT e, Nat.le_of_eq (hidT_size _ _), trivial, fun b hb => absurd (show b ∈ ([] : List Addr) from hb) (by simp), hok, .of_eq hg⟩
  refine codeAny_mono ((F _ hKb (nsK hns) TB).run callerA [] s1 H ⟨[.ref a], []⟩ [.ref a] [.ref a] _ _ hr rfl e0 (bd s1 (.ref a)) (.cons rfl .nil) (hsp H (fun p hp => atT (List.mem_map.mpr ⟨p, hp, rfl⟩)) (hSq H atA))) fun r s' h => ?_
  cases r with
  | error e => exact (hx H e s' h).elim
  | ok fl =>
    cases fl with
    | next => exact h.elim
    | brk => exact h.elim
    | cont => exact h.elim
    | ret u =>
      obtain ⟨v, H', os, bare, un, hok', r', q⟩ := h
      have q' : v = .bl true := q
      subst q'
      obtain rfl : u = Value.bool true := r'
      have key : ∀ b o, b ∉ cs.map (·.2) → s1.heap.get? b = some o → s'.heap.get? b = some o := fun b o nb e => by
        cases q : H b with
        | none => exact un.keep b o e q (by intro z; exact absurd (show b ∈ ([] : List Addr) from z) (by simp)) (by simp)
        | some u =>
          rcases only q with ⟨rfl, h2⟩ | ⟨m, _⟩
          · rcases hso with z | z
            · rw [h2] at z
              cases z
            · rw [h2] at z
              cases z
              obtain ⟨e2, _⟩ := hok' b _ (un.frzs b _ _ q)
              rw [ha] at e
              cases e
              exact e2
          · exact absurd m nb
      have grown : ∀ {b : Addr}, b ∈ cs.map (·.2) → ∃ more : Array Value, s'.heap.get? b = some { cls := .none, data := .fields more } := fun {b} m => by
        obtain ⟨more, z⟩ := un.tbls b #[] (atT m)
        exact ⟨_, hok' b _ z⟩
      refine ⟨rfl, ⟨fun b o e => ?_, fun b o e => ?_⟩, os, bare⟩
      · by_cases m : b ∈ cs.map (·.2)
        · obtain ⟨t1, _, c, t3⟩ := tab m
          obtain ⟨more, hm⟩ := grown m
          rw [t1] at e
          cases e
          exact .inr (.inl ⟨(t3.tab t1).isCodeTable, rfl, #[], more, rfl, by rw [Array.empty_append]; exact hm⟩)
        · exact .inl (key b o m e)
      · by_cases m : b ∈ cs.map (·.2)
        · obtain ⟨more, hm⟩ := grown m
          exact ⟨_, hm⟩
        · exact ⟨o, key b o m e⟩
/-- a law that makes lambdas, over a head by facts -/
theorem walk_GT {l : PySem.W.OpenLaw} {n k : Nat} {q : Program} {loose : List Str} {XP : (Str → Option Value) → Heap → Prop} {YP : World → Heap → Prop} {d : DefRec} {CX : CXT} {x : Str}
    (hn : l.most = some n) (hn2 : n ≤ sizeLine) (hdf : d.params.defaults = []) (hr : Room k callerA)
    (F : ∀ (w : World) (mg : Str → Option Value) (fa : Addr) (h : Heap), YP w h → h.Ns mainGlobals mg → mg d.name = some (.ref fa) →
      ∃ (K : PySem.W.Frag) (fd : FuncData) (cs : List (Addr × Addr)) (sp : Sp), K.In h ∧ (∀ p ∈ cs, h.get? p.2 = some oTab) ∧ (∀ p ∈ cs, K.lookup p.2 = none) ∧ (∀ p ∈ cs, PySem.W.CodeHd h p.1 p.2) ∧ (∀ (s : Shared) (u : Value), BindsTo s fd ⟨[u], []⟩ [(x, u)]) ∧
        (∀ (H : Hp) (a : Addr) (ns : List Int), ns.length ≤ n → (∀ p ∈ cs, H p.2 = some (.tbl #[])) → SqL K H a (ns.map V.int) → sp [.ref a] H (fun v _ => v = .bl true) fun _ _ _ => False) ∧
        ∀ base : Heap, K.In base → base.Ns mainGlobals mg → (∀ p ∈ cs, TabB base mg p.1 p.2) → FnG l.prog w K mg base CX k fa fd [x] sp)
    (hx : ∀ (H : Hp) (s : Shared) (e : Value) (s' : Shared), CX [] H s (fun _ _ _ => False) e s' → False) :
    PySem.W.WalkO q loose XP YP l.row.toRowW d [] (fun f vs => PySem.call f vs) := by
  refine Att.attach_call hn hdf fun w s₀ s1 mg mb fa o pm cd doc a vs ns G Y ho hd hcd hmg hobj hints hlen hg => ?_
  obtain ⟨K, fd, cs, sp, kx, hT, nT, hC, hb, hsp, hF⟩ := F w mg fa _ Y G.T.g hmg
  exact law_callGT kx G.T.g G.T.b G.T.builtins G.T.nolimit hg hT nT hC G.T.bmain hobj hints (Nat.le_trans hlen hn2) hr hF hb
    (fun H hH hS => hsp H a ns hlen hH hS) fun H e s' => hx H s1 e s'
end Rp

namespace Rp
open PySem PySem.Spec PyProof.Rows L2
/-- for i, x in enumerate(list) -/
theorem for_enum {K : PySem.W.Frag} {a : Addr} {xs : List V} {g : TG} {tb : TS} {D : Ends} {σ : L2.St} {H : Hp} (Pv : Nat → L2.St → Hp → Prop) (h0 : Pv 0 σ H) (hl : ∀ i σ H, i ≤ xs.length → Pv i σ H → SqL K H a xs)
    (hs : ∀ i x σ H T, xs[i]? = some x → Pv i σ H → H T = none → g (.ref T) σ (upd H T (.tup [.int (i : Nat), x])) fun σ2 H2 => tb { D with nx := Pv (i + 1), ct := Pv (i + 1), bk := D.nx } σ2 H2) (hd : ∀ σ H, Pv xs.length σ H → D.nx σ H) :
    ∃ W : Nat → Nat → L2.St → Hp → Prop, (∃ m, W 0 m σ H) ∧ ∀ i m σ H, W i m σ H →
      ((Ite K a).stop i H ∧ D.nx σ H) ∨ ((Ite K a).go i H ∧ ∃ N : L2.St → Hp → Prop, (∀ σ' H', N σ' H' → ∃ m', m' < m ∧ W (i + 1) m' σ' H') ∧ ∀ x H', (Ite K a).yld i H x H' → g x σ H' fun σ2 H2 => tb { D with nx := N, ct := N, bk := D.nx } σ2 H2) := by
  refine ⟨fun i m σ H => m = xs.length - i ∧ i ≤ xs.length ∧ Pv i σ H, ⟨xs.length, by simp, Nat.zero_le _, h0⟩, ?_⟩
  rintro i m σ H ⟨rfl, hi, p⟩
  have q := hl i σ H hi p
  by_cases hlt : i < xs.length
  · refine .inr ⟨⟨xs, xs[i], q, by simp [hlt]⟩, Pv (i + 1), fun σ' H' p' => ⟨xs.length - (i + 1), by omega, rfl, hlt, p'⟩, fun x H' y => ?_⟩
    obtain ⟨T, z, rfl, hT, rfl, hz⟩ := y
    exact hs i z σ H T (hz xs q) p hT
  · refine .inl ⟨⟨xs, q, by omega⟩, hd σ H ?_⟩
    have e : i = xs.length := by omega
    rw [← e]
    exact p
/-- lists of truths as data -/
theorem dp_bools {K : PySem.W.Frag} {H : Hp} : ∀ bs : List Bool, DpAll K H (bs.map V.bl) (bs.map PyData.bool)
  | [] => .nil
  | b :: r => .cons (.bl b) (dp_bools r)
theorem ite_f {c : Bool} {A B : Prop} (hc : c = false) (h : B) : if c = true then A else B := by
  rw [hc, if_neg Bool.false_ne_true]
  exact h
theorem ite_t {c : Bool} {A B : Prop} (hc : c = true) (h : A) : if c = true then A else B := by
  rw [if_pos hc]
  exact h
theorem ne_self {d : PyData} (h : SeqAt.shaped d = true) : (!PyData.eqv d d) = false := by
  rw [SeqAt.eqv_refl d (SeqAt.canLay_of_shaped h)]
  rfl
theorem eq_self {d : PyData} (h : SeqAt.shaped d = true) : PyData.eqv d d = true := SeqAt.eqv_refl d (SeqAt.canLay_of_shaped h)
end Rp

namespace Rp
open PySem PySem.Spec PyProof.Rows L2 Ex
theorem sqt_same {K : PySem.W.Frag} {H H' : Hp} {a : Addr} {xs : List V} (e : Same H H') (h : SqT K H a xs) : SqT K H' a xs := by
  rcases h with (h | ⟨o, h⟩) | h
  · exact .inl (.inl (e _ _ h))
  · exact .inl (.inr ⟨o, e _ _ h⟩)
  · exact .inr h
mutual
/-- data stays data where nothing tracked is lost -/
theorem Dt.same {K : PySem.W.Frag} {H H' : Hp} (s : Same H H') : ∀ (d : PyData) (v : V), Dt K H v d → Dt K H' v d
  | .none, _, h => by cases h; exact .non
  | .bool b, _, h => by cases h; exact .bl b
  | .int i, _, h => by cases h; exact .int i
  | .str x, _, h => by cases h; exact .str x
  | .list ds, _, h => by
    cases h with
    | lst h1 h2 => exact .lst (s.seq h1) (Dt.sameAll s ds _ h2)
  | .tuple ds, _, h => by
    cases h with
    | tup h1 h2 => exact .tup (sqt_same s h1) (Dt.sameAll s ds _ h2)
  | .dict ds, _, h => by
    cases h with
    | dic h1 h2 => exact .dic (s _ _ h1) (Dt.sameKv s ds _ h2)
theorem Dt.sameAll {K : PySem.W.Frag} {H H' : Hp} (s : Same H H') : ∀ (ds : List PyData) (vs : List V), DtAll K H vs ds → DtAll K H' vs ds
  | [], _, h => by cases h; exact .nil
  | d :: ds, _, h => by
    cases h with
    | cons h1 h2 => exact .cons (Dt.same s d _ h1) (Dt.sameAll s ds _ h2)
theorem Dt.sameKv {K : PySem.W.Frag} {H H' : Hp} (s : Same H H') : ∀ (ds : List (PyData × PyData)) (kvs : List (Key × V)), DtKv K H kvs ds → DtKv K H' kvs ds
  | [], _, h => by cases h; exact .nil
  | (k, d) :: ds, _, h => by
    cases h with
    | cons h1 h2 => exact .cons (Dt.same s d _ h1) (Dt.sameKv s ds _ h2)
end
theorem ExcAt.same {H H' : Hp} {e C : Addr} {f : Str} {v : V} (h : ExcAt H e C f v) (s : Same H H') : ExcAt H' e C f v := by
  obtain ⟨dx, h1, h2⟩ := h
  exact ⟨dx, s _ _ h1, s _ _ h2⟩
theorem ExcAt.is {K : PySem.W.Frag} {H : Hp} {e C : Addr} {f : Str} {v : V} (h : ExcAt H e C f v) : IsEx K H e C := by
  obtain ⟨dx, h1, h2⟩ := h
  exact .own h1 h2
/-- the heap behind C(v) -/
theorem made {H : Hp} {a dx C : Addr} {f : Str} {v : V} (ha : H a = none) (hd : upd H a (exo a C none) dx = none) (ne : dx ≠ a) :
    Same H (upd (upd (upd H a (exo a C none)) dx (exd dx [(f, v)])) a (exo a C (some dx))) ∧ ExcAt (upd (upd (upd H a (exo a C none)) dx (exd dx [(f, v)])) a (exo a C (some dx))) a C f v := by
  have hd' : H dx = none := by
    rw [upd_ne ne] at hd
    exact hd
  refine ⟨fun b o e => ?_, dx, upd_same, ?_⟩
  · rw [upd_ne (ne_of_none e ha), upd_ne (ne_of_none e hd'), upd_ne (ne_of_none e ha)]
    exact e
  · rw [upd_ne ne, upd_same]
end Rp

/-! The streams of draws: what a stream holds, what each draw leaves. -/
namespace Dr
open PySem PySem.Spec PyProof.Rows L2
/-- a power whose size stays below the line -/
theorem op_powW {X : Cx} : OpR X (binaryOp .Pow) (rI (fun i j => 0 ≤ j ∧ (Builtin.Int.intBits i : Int) * j ≤ 2 ^ 27) fun i j => .int (i ^ j.toNat)) :=
  opI fun _ _ _ _ _ _ _ hc q => pow_int hc.1 hc.2 q
/-- all but p is as it was -/
def But (p : Addr) (H H' : Hp) : Prop := ∀ b o, b ≠ p → H b = some o → H' b = some o
theorem But.refl (p : Addr) (H : Hp) : But p H H := fun _ _ _ h => h
theorem But.trans {p : Addr} {H H1 H2 : Hp} (a : But p H H1) (b : But p H1 H2) : But p H H2 := fun c o n h => b c o n (a c o n h)
theorem But.upd (p : Addr) (H : Hp) (o : HO) : But p H (upd H p o) := fun b u n h => by
  rw [upd_ne n]
  exact h
theorem But.new {p q : Addr} {H H1 : Hp} {o : HO} (a : But p H H1) (hq : H1 q = none) : But p H (L2.upd H1 q o) := fun b u n h => by
  have h1 := a b u n h
  rw [upd_ne (ne_of_none h1 hq)]
  exact h1
theorem But.same {p : Addr} {H H1 H2 : Hp} (a : But p H H1) (b : Same H1 H2) : But p H H2 := fun c o n h => b c o (a c o n h)
theorem But.free {p q : Addr} {H H1 : Hp} (a : But p H H1) (n : q ≠ p) (h : H1 q = none) : H q = none := by
  cases e : H q with
  | none => rfl
  | some o =>
    rw [a q o n e] at h
    cases h
/-- at p: a stream, at most m draws behind its first digits -/
def StrAt (H : Hp) (p : Addr) (m : Nat) : Prop := ∃ a b c : Int, H p = some (.lst [.int a, .int b, .int c]) ∧ 0 ≤ a ∧ a.natAbs < 2 ^ 2000 ∧ 0 ≤ b ∧ b < 2147483648 ∧ 0 ≤ c ∧ c ≤ m
theorem StrAt.mono {H : Hp} {p : Addr} {m n : Nat} (s : StrAt H p m) (h : m ≤ n) : StrAt H p n := by
  obtain ⟨a, b, c, h1, h2, h3, h4, h5, h6, h7⟩ := s
  exact ⟨a, b, c, h1, h2, h3, h4, h5, h6, by omega⟩
theorem StrAt.keep {H H' : Hp} {p : Addr} {m : Nat} (s : StrAt H p m) (h : ∀ o, H p = some o → H' p = some o) : StrAt H' p m := by
  obtain ⟨a, b, c, h1, r⟩ := s
  exact ⟨a, b, c, h _ h1, r⟩
theorem StrAt.same {H H' : Hp} {p : Addr} {m : Nat} (s : StrAt H p m) (h : Same H H') : StrAt H' p m := s.keep fun o => h p o
theorem StrAt.some {H : Hp} {p : Addr} {m : Nat} (s : StrAt H p m) : ∃ xs, H p = some (.lst xs) := by
  obtain ⟨a, b, c, h1, _⟩ := s
  exact ⟨_, h1⟩
/-- _law_stream(script, at) -/
def spStream (K : PySem.W.Frag) : Sp := fun vs H Q _ => ∃ (a : Addr) (ns : List Int) (i : Nat), vs = [.ref a, .int i] ∧ SqL K H a (ns.map V.int) ∧ ns.length ≤ 63 ∧ i ≤ 100 ∧
  ∀ H' p, Same H H' → H p = none → StrAt H' p 0 → Q (.ref p) H'
/-- _law_draw(stream, high) -/
def spDraw : Sp := fun vs H Q _ => ∃ (p : Addr) (n : Int) (m : Nat), vs = [.ref p, .int n] ∧ StrAt H p m ∧ m ≤ 100000 ∧ 0 < n ∧ n < 1000000 ∧
  ∀ H' v, 0 ≤ v → v < n → But p H H' → StrAt H' p (m + 1) → Q (.int v) H'
/-- _law_pick(stream, items), items a list -/
def spPick (K : PySem.W.Frag) : Sp := fun vs H Q _ => ∃ (p q : Addr) (xs : List V) (m : Nat), vs = [.ref p, .ref q] ∧ StrAt H p m ∧ m ≤ 100000 ∧ p ≠ q ∧ SqL K H q xs ∧ 0 < xs.length ∧ xs.length < 1000000 ∧
  ∀ H' (i : Nat) x, xs[i]? = some x → But p H H' → StrAt H' p (m + 1) → Q x H'
end Dr

/-! Data that does not reach some addresses; small data. -/
namespace Rp
open PySem PySem.Spec PyProof.Rows L2 Ex Dr
/-- the abstract heap without some addresses -/
def cut (ex : List Addr) (H : Hp) : Hp := fun b => if b ∈ ex then none else H b
theorem cut_at {ex : List Addr} {H : Hp} {b : Addr} {o : HO} (h : H b = some o) (n : b ∉ ex) : cut ex H b = some o := by
  unfold cut
  rw [if_neg n]
  exact h
theorem cut_of {ex : List Addr} {H : Hp} {b : Addr} {o : HO} (h : cut ex H b = some o) : b ∉ ex ∧ H b = some o := by
  unfold cut at h
  by_cases n : b ∈ ex
  · rw [if_pos n] at h
    cases h
  · rw [if_neg n] at h
    exact ⟨n, h⟩
theorem cut_same {ex ex' : List Addr} {H H' : Hp} (k : ∀ b o, b ∉ ex → H b = some o → b ∉ ex' ∧ H' b = some o) : Same (cut ex H) (cut ex' H') := fun b o e => by
  obtain ⟨n, h⟩ := cut_of e
  obtain ⟨n', h'⟩ := k b o n h
  exact cut_at h' n'
theorem cut_all {ex : List Addr} {H : Hp} : Same (cut ex H) H := fun b o e => (cut_of e).2
/-- small data -/
def Sm (d : PyData) : Prop := d.showable = true ∧ d.depth ≤ 5 ∧ d.shown.length ≤ 1000
theorem smAll : ∀ ds : List PyData, (∀ d, d ∈ ds → Sm d) → PyData.showableAll ds = true ∧ PyData.depthAll ds ≤ 5 ∧ ((PyData.shownAll ds).map (·.length)).sum ≤ 1000 * ds.length ∧ (PyData.shownAll ds).length = ds.length
  | [], _ => ⟨rfl, Nat.zero_le _, Nat.le_refl _, rfl⟩
  | d :: r, h => by
    obtain ⟨h1, h2, h3⟩ := h d List.mem_cons_self
    obtain ⟨r1, r2, r3, r4⟩ := smAll r fun x hx => h x (List.mem_cons_of_mem _ hx)
    refine ⟨?_, ?_, ?_, ?_⟩
    · simp only [PyData.showableAll, h1, r1, Bool.and_self]
    · simp only [PyData.depthAll]
      omega
    · simp only [PyData.shownAll, List.map_cons, List.sum_cons, List.length_cons]
      omega
    · simp only [PyData.shownAll, List.length_cons, r4]
theorem sm_list {ds : List PyData} (h : ∀ d, d ∈ ds → Sm d) (hl : ds.length ≤ 100) : (PyData.list ds).showable = true ∧ (PyData.list ds).depth ≤ 60 ∧ (PyData.list ds).shown.length ≤ sizeLine := by
  obtain ⟨r1, r2, r3, r4⟩ := smAll ds h
  refine ⟨?_, ?_, ?_⟩
  · simp only [PyData.showable, r1]
  · simp only [PyData.depth]
    omega
  · have z := listText_len_le (PyData.shownAll ds)
    have e : (PyData.list ds).shown = listText (PyData.shownAll ds) := by simp only [PyData.shown]
    rw [e, sizeLine_eq]
    omega
/-- an item of a menu of small data -/
theorem DtAll.get {K : PySem.W.Frag} {H : Hp} : ∀ {xs : List V} {ds : List PyData} {i : Nat} {x : V}, DtAll K H xs ds → (∀ d, d ∈ ds → Sm d) → xs[i]? = some x → ∃ d, Dt K H x d ∧ Sm d
  | _, _, _, _, .nil, _, e => by simp at e
  | _, _, 0, _, .cons h _, s, e => by
    simp at e
    subst e
    exact ⟨_, h, s _ List.mem_cons_self⟩
  | _, _, i + 1, _, .cons _ t, s, e => DtAll.get (i := i) t (fun d hd => s d (List.mem_cons_of_mem _ hd)) (by simpa using e)
theorem DtAll.len {K : PySem.W.Frag} {H : Hp} : ∀ {xs : List V} {ds : List PyData}, DtAll K H xs ds → ds.length = xs.length
  | _, _, .nil => rfl
  | _, _, .cons _ t => by rw [List.length_cons, List.length_cons, DtAll.len t]
theorem dt_strs {K : PySem.W.Frag} {H : Hp} : ∀ xs : List Str, DtAll K H (xs.map V.str) (xs.map PyData.str)
  | [] => .nil
  | x :: r => .cons (.str x) (dt_strs r)
theorem dt_ints {K : PySem.W.Frag} {H : Hp} : ∀ xs : List Int, DtAll K H (xs.map V.int) (xs.map PyData.int)
  | [] => .nil
  | x :: r => .cons (.int x) (dt_ints r)
theorem str_item {zs : List Str} {j : Nat} {x : V} (h : (zs.map V.str)[j]? = some x) : ∃ z, z ∈ zs ∧ x = .str z := by
  rw [List.getElem?_map] at h
  cases e : zs[j]? with
  | none =>
    rw [e] at h
    cases h
  | some z =>
    rw [e] at h
    exact ⟨z, List.mem_of_getElem? e, (Option.some.inj h).symm⟩
theorem int_item {zs : List Int} {j : Nat} {x : V} (h : (zs.map V.int)[j]? = some x) : ∃ z, z ∈ zs ∧ x = .int z := by
  rw [List.getElem?_map] at h
  cases e : zs[j]? with
  | none =>
    rw [e] at h
    cases h
  | some z =>
    rw [e] at h
    exact ⟨z, List.mem_of_getElem? e, (Option.some.inj h).symm⟩
/-- all but p and f is as it was -/
def By (p f : Addr) (A B : Hp) : Prop := ∀ b o, b ≠ p → b ≠ f → A b = some o → B b = some o
theorem By.of {p f : Addr} {A B : Hp} (h : But p A B) : By p f A B := fun b o n _ e => h b o n e
theorem By.sm {p f : Addr} {A B : Hp} (h : Same A B) : By p f A B := fun b o _ _ e => h b o e
theorem By.trans {p f : Addr} {A B C : Hp} (h : By p f A B) (g : By p f B C) : By p f A C := fun b o n m e => g b o n m (h b o n m e)
theorem By.upd (p f : Addr) (A : Hp) (o : HO) : By p f A (L2.upd A f o) := fun b u _ m e => by
  rw [upd_ne m]
  exact e
theorem But.sm {p : Addr} {A B : Hp} (h : Same A B) : But p A B := fun b o _ e => h b o e
/-- data of a tuple of small names -/
theorem sm_names {zs : List Str} (h : ∀ z, z ∈ zs → z = "a" ∨ z = "b" ∨ z = "xx") (hl : zs.length ≤ 5) : (PyData.tuple (zs.map PyData.str)).showable = true ∧ (PyData.tuple (zs.map PyData.str)).depth ≤ 1 ∧ (PyData.tuple (zs.map PyData.str)).shown.length ≤ 300 := by
  have hz : ∀ d, d ∈ zs.map PyData.str → d.showable = true ∧ d.depth = 0 ∧ d.shown.length ≤ 10 := by
    intro d hd
    obtain ⟨z, hz, rfl⟩ := List.mem_map.mp hd
    rcases h z hz with rfl | rfl | rfl <;> exact ⟨rfl, rfl, by decide +kernel⟩
  have all : ∀ ds : List PyData, (∀ d, d ∈ ds → d.showable = true ∧ d.depth = 0 ∧ d.shown.length ≤ 10) → PyData.showableAll ds = true ∧ PyData.depthAll ds = 0 ∧ ((PyData.shownAll ds).map (·.length)).sum ≤ 10 * ds.length ∧ (PyData.shownAll ds).length = ds.length := by
    intro ds
    induction ds with
    | nil => intro _; exact ⟨rfl, rfl, Nat.le_refl _, rfl⟩
    | cons d r ih =>
      intro q
      obtain ⟨h1, h2, h3⟩ := q d List.mem_cons_self
      obtain ⟨r1, r2, r3, r4⟩ := ih fun x hx => q x (List.mem_cons_of_mem _ hx)
      refine ⟨?_, ?_, ?_, ?_⟩
      · simp only [PyData.showableAll, h1, r1, Bool.and_self]
      · simp only [PyData.depthAll, h2, r2]
        rfl
      · simp only [PyData.shownAll, List.map_cons, List.sum_cons, List.length_cons]
        omega
      · simp only [PyData.shownAll, List.length_cons, r4]
  obtain ⟨r1, r2, r3, r4⟩ := all _ hz
  rw [List.length_map] at r3 r4
  refine ⟨?_, ?_, ?_⟩
  · simp only [PyData.showable, r1]
  · simp only [PyData.depth, r2]
    omega
  · have z := tupleText_len_le (PyData.shownAll (zs.map PyData.str))
    have e : (PyData.tuple (zs.map PyData.str)).shown = tupleText (PyData.shownAll (zs.map PyData.str)) := by simp only [PyData.shown]
    rw [e]
    omega
/-- a pair of a short text and small data -/
theorem sm_pair {x : Str} {d : PyData} (hx : (PyData.str x).shown.length ≤ 50) (h : d.showable = true ∧ d.depth ≤ 1 ∧ d.shown.length ≤ 300) : Sm (.tuple [.str x, d]) := by
  obtain ⟨h1, h2, h3⟩ := h
  refine ⟨?_, ?_, ?_⟩
  · simp only [PyData.showable, PyData.showableAll, h1, Bool.and_self]
  · simp only [PyData.depth, PyData.depthAll]
    omega
  · have z := tupleText_len_le (PyData.shownAll [.str x, d])
    have e : (PyData.tuple [.str x, d]).shown = tupleText (PyData.shownAll [.str x, d]) := by simp only [PyData.shown]
    rw [e]
    simp only [PyData.shownAll, List.map_cons, List.map_nil, List.sum_cons, List.sum_nil, List.length_cons, List.length_nil] at z ⊢
    omega
end Rp

/-! repr of any data; the data part of a heap (no stream, no table). -/
namespace Rp
open PySem PySem.Spec PyProof.Rows L2 Ex Dr
open LamX (ExtN TabS Tabs CodeO)
def rRepA (K : PySem.W.Frag) : List V → Hp → VK → Prop := fun xs H Q => ∃ (v : V) (d : PyData), xs = [v] ∧ Dt K H v d ∧ d.showable = true ∧ d.depth ≤ 60 ∧ d.shown.length ≤ sizeLine ∧ Q (.str d.shown) H
theorem call_repr_any {X : Cx} (hk : SysD X.K) (hg : X.A.guards = some []) (hu : X.A.units + 64 < cLine) : CallR X (.builtin "repr") (rRepA X.K) := by
  intro pins s σ H xs us Q I r h
  obtain ⟨v, d, rfl, hd, hs, hdep, hz, q⟩ := h
  obtain ⟨u, rfl, hr⟩ := vals1 r
  have go : ∀ {a : Addr}, v = .ref a → wpAny (model X.prog X.w) X.A (call (.builtin "repr") [u]) (EP X pins σ Q) X.xe s := fun {a} e => by
    subst e
    exact call_repr_data hk hg hu pins s σ H [.ref a] [u] Q I (.cons hr .nil) ⟨a, d, rfl, hd, hs, hdep, hz, q⟩
  cases d with
  | none =>
    cases hd
    obtain rfl : u = Value.none := hr
    exact PySem.P.repr_of_none ⟨.str _, H, I.tok _, ⟨_, rfl⟩, q⟩
  | bool b =>
    cases hd
    obtain rfl : u = Value.bool b := hr
    exact PySem.P.repr_of_bool ⟨.str _, H, I.tok _, ⟨_, rfl⟩, q⟩
  | int i =>
    cases hd
    obtain ⟨t, rfl⟩ := hr
    exact PySem.P.repr_of_int (of_decide_eq_true hs) ⟨.str _, H, I.tok _, ⟨_, rfl⟩, q⟩
  | str x =>
    cases hd
    obtain ⟨t, rfl⟩ := hr
    exact PySem.P.repr_of_str ⟨.str _, H, I.tok _, ⟨_, rfl⟩, q⟩ hz
  | list ds =>
    cases hd with
    | lst h1 h2 => exact go rfl
  | tuple ds =>
    cases hd with
    | tup h1 h2 => exact go rfl
  | dict ds =>
    cases hd with
    | dic h1 h2 => exact go rfl
theorem smu {H : Hp} {p : Addr} {o : HO} (h : H p = none) : Same H (upd H p o) := fun b u e => by
  rw [upd_ne (ne_of_none e h)]
  exact e
/-- the heap without the stream at p and without tables -/
def ct (p : Addr) (H : Hp) : Hp := fun b => if b = p then none else match H b with
  | some (.tbl _) => none
  | o => o
theorem ct_at {p b : Addr} {H : Hp} {o : HO} (h : H b = some o) (n : b ≠ p) (nt : ∀ ps, o ≠ .tbl ps) : ct p H b = some o := by
  unfold ct
  rw [if_neg n, h]
  cases o <;> first | rfl | exact absurd rfl (nt _)
theorem ct_of {p b : Addr} {H : Hp} {o : HO} (h : ct p H b = some o) : b ≠ p ∧ H b = some o ∧ ∀ ps, o ≠ .tbl ps := by
  unfold ct at h
  by_cases n : b = p
  · rw [if_pos n] at h
    cases h
  · rw [if_neg n] at h
    refine ⟨n, ?_, fun ps z => ?_⟩
    · cases e : H b with
      | none =>
        rw [e] at h
        cases h
      | some u =>
        rw [e] at h
        cases u <;> first | exact h | cases h
    · subst z
      cases e : H b with
      | none =>
        rw [e] at h
        cases h
      | some u =>
        rw [e] at h
        cases u <;> cases h
theorem ct_all {p : Addr} {H : Hp} : Same (ct p H) H := fun b o e => (ct_of e).2.1
theorem ct_same {p : Addr} {H H' : Hp} (k : ∀ b o, b ≠ p → H b = some o → (∀ ps, o ≠ .tbl ps) → H' b = some o) : Same (ct p H) (ct p H') := fun b o e => by
  obtain ⟨n, h, t⟩ := ct_of e
  exact ct_at (k b o n h t) n t
theorem ct_but {p : Addr} {H H' : Hp} (b : But p H H') : Same (ct p H) (ct p H') := ct_same fun _ _ n h _ => b _ _ n h
theorem ct_sm {p : Addr} {H H' : Hp} (s : Same H H') : Same (ct p H) (ct p H') := ct_same fun _ _ _ h _ => s _ _ h
theorem ct_ext {p : Addr} {H H' : Hp} (e : ExtN H H') : Same (ct p H) (ct p H') := ct_same fun _ _ _ h t => e _ _ h t
/-- a new object -/
theorem ct_new {p q : Addr} {H : Hp} {o : HO} (hp : H p ≠ none) (hq : H q = none) (nt : ∀ ps, o ≠ .tbl ps) : Same (ct p H) (ct p (upd H q o)) ∧ ct p (upd H q o) q = some o :=
  ⟨ct_sm (smu hq), ct_at upd_same (fun z => hp (by rw [← z]; exact hq)) nt⟩
/-- what is free in the data part -/
theorem tabs_sm {T : List (Addr × Str)} {H H' : Hp} (t : Tabs T H) (s : Same H H') : Tabs T H' := t.ext fun b o e => s b o e
theorem tabs_but {T : List (Addr × Str)} {p : Addr} {xs : List V} {H H' : Hp} (t : Tabs T H) (hp : H p = some (.lst xs)) (b : But p H H') : Tabs T H' := fun z hz => by
  obtain ⟨ps, h1, h2, h3⟩ := t z hz
  refine ⟨ps, b _ _ (fun e => ?_) h1, h2, fun pos cv hc => ?_⟩
  · rw [e, hp] at h1
    cases h1
  · obtain ⟨c, e1, e2⟩ := h3 pos cv hc
    refine ⟨c, e1, b _ _ (fun e => ?_) e2⟩
    rw [e, hp] at e2
    cases e2
/-- the type of data -/
def tyD : PyData → String
  | .none => "NoneType"
  | .bool _ => "bool"
  | .int _ => "int"
  | .str _ => "str"
  | .list _ => "list"
  | .tuple _ => "tuple"
  | .dict _ => "dict"
theorem Dt.ty {K : PySem.W.Frag} {H : Hp} {v : V} : ∀ {d : PyData}, Dt K H v d → TyX K H v (.type (tyD d))
  | .none, h => by cases h; exact .base .non
  | .bool b, h => by cases h; exact .base (.bl b)
  | .int i, h => by cases h; exact .base (.int i)
  | .str x, h => by cases h; exact .base (.str x)
  | .list ds, h => by
    cases h with
    | lst h1 h2 =>
      rcases h1 with (h | ⟨o, h⟩) | ⟨o, its, n, h, hc, _⟩
      · exact .base (.lst h)
      · exact .base (.frz h)
      · exact .kList h hc
  | .tuple ds, h => by
    cases h with
    | tup h1 h2 =>
      rcases h1 with (h | ⟨o, h⟩) | ⟨o, its, n, h, hc, _⟩
      · exact .base (.tup h)
      · exact .fTuple h
      · exact .kTuple h hc
  | .dict ds, h => by
    cases h with
    | dic h1 h2 => exact .base (.dK h1)
end Rp

/-! enumerate(a tuple), walked. -/
namespace Tp
open PySem PySem.Spec PyProof.Rows L2
open AutoSeq1 (wpAny_loadPart')
abbrev oIt (t : Addr) : Obj := { cls := .type "tuple_iterator", data := .fields #[.ref t, .int 0 0] }
abbrev oEn (it : Addr) : Obj := { cls := .type "enumerate", data := .fields #[.none, .bool false, .ref it, rawInt 0, .none, .none] }
theorem newEn (t : Addr) (items : Array Value) (n : Nat) (dct : Option Addr) (sl : Array (Option Value)) :
    Meets (Builtin.«enumerate.__new__» ⟨[.type "enumerate", .ref t], []⟩) (fun _ R s => s.heap.get? t = some { cls := .type "tuple", dict := dct, data := .seq items n, slots := sl } ∧
      R (.ok (.ret (.ref (s.heap.push (oIt t)).objs.size))) { s with heap := (s.heap.push (oIt t)).push (oEn s.heap.objs.size) }) :=
  .of_wp fun prog w A R s h => by
    obtain ⟨hp, g, d, tk, os⟩ := s
    obtain ⟨ho, h⟩ := h
    have hsub := sub_enumerate
    have hT : Heap.IsTuple (Shared.heap ⟨hp, g, d, tk, os⟩) t items := ⟨_, ho, rfl, n, rfl⟩
    wp_walk using wpAny_loadPart' ho
    refine wpAny_stack_any fun st => wpAny_pure ?_
    split
    · rename_i c _ _ _ _ _
      cases (c == Value.type "enumerate")
      all_goals
        wp_walk using wpAny_loadPart' ho, wpAny_pyIter_tuple hT
        exact ⟨_, rfl, h⟩
    · wp_walk using wpAny_loadPart' ho, wpAny_pyIter_tuple hT
      exact ⟨_, rfl, h⟩
theorem call_en {prog : Program} {w : World} {A : Around} {E : Value → Shared → Prop} {s : Shared} {t : Addr} {items : Array Value} {Q : Value → Shared → Prop} (hT : s.heap.IsTuple t items)
    (h : ∀ h', IsEnum h' (s.heap.objs.size + 1) s.heap.objs.size 0 .none → h'.IsTupleIter s.heap.objs.size t 0 → (∀ b o, s.heap.get? b = some o → h'.get? b = some o) → Q (.ref (s.heap.objs.size + 1)) { s with heap := h' }) :
    wpAny (model prog w) A (call (.type "enumerate") [.ref t]) Q E s := by
  obtain ⟨⟨c, dct, dt, sl⟩, ho, hc, n, hd⟩ := hT
  dsimp only at hc hd
  subst hc hd
  have hz : (s.heap.push (oIt t)).objs.size = s.heap.objs.size + 1 := Heap.size_push ..
  have e1 := Heap.get?_push_size (s.heap.push (oIt t)) (o := oEn s.heap.objs.size) rfl
  rw [hz] at e1
  refine callType_new F.called_enumerate (by decide) (F.typeCall_enumerate_1 _) (F.newCall_enumerate_1 _) (fun obj => F.args_object_init_2 obj _) F.entry_enumerate_new (newEn t items n dct sl) ⟨ho, ?_⟩
  show _ ∧ _
  rw [hz]
  exact ⟨⟨_, e1, rfl⟩, h _ e1 ⟨_, Heap.get?_push_of_some _ (Heap.get?_push_size _ rfl), rfl, rfl⟩ fun b o x => Heap.get?_push_of_some _ (Heap.get?_push_of_some _ x)⟩
theorem enum_endT {prog : Program} {w : World} {A : Around} {E : Value → Shared → Prop} {s : Shared} {e it t : Addr} {i : Nat} {k : Int} {old : Value} {items : Array Value} {Q : Option Value → Shared → Prop} (hh : A.handled = none)
    (he : IsEnum s.heap e it k old) (hit : s.heap.IsTupleIter it t i) (hT : s.heap.IsTuple t items) (hx : items[i]? = none)
    (hQ : ∀ h', Heap.ExtBut it s.heap h' → Q none { s with heap := h' }) : wpAny (model prog w) A (pyNext (.ref e)) Q E s := by
  have hc : s.TypeIs (.ref e) "enumerate" := ⟨_, he, rfl⟩
  unfold pyNext
  refine wpAny_bind (wpAny_attempt (wpAny_callSpecial?_slot (name := Str.ofString "__next__") hc F.slot_enumerate_next
    (wpAny_call_entry F.slot_enumerate_next hc F.entry_enumerate_next ?_ (F.args_enumerate_next_1 _))))
  show wpAny _ _ (field (.ref e) 2 >>= _) _ _ _
  refine wpAny_bind (wpAny_field he rfl (x := .ref it) rfl ?_)
  refine wpAny_bind (wpAny_nextOf_tuple_end (A := A.in1) hh hit hT hx fun h' x hb hs => ?_)
  obtain ⟨o, ho, hk⟩ := hs
  refine wpAny_bind (wpAny_isInstance (T := "StopIteration") (b := true) ⟨o, ho, hk⟩ isSubtype_stop ?_)
  exact wpAny_pure (hQ _ hb)
/-- the tuple at a, each item with its place in a new pair -/
def IteT (K : PySem.W.Frag) (a : Addr) : It :=
  ⟨fun i H => ∃ (xs : List V) (x : V), SqT K H a xs ∧ xs[i]? = some x,
    fun i H v H' => ∃ T x, v = .ref T ∧ H T = none ∧ H' = upd H T (.tup [.int (i : Nat), x]) ∧ ∀ xs, SqT K H a xs → xs[i]? = some x,
    fun i H => ∃ xs : List V, SqT K H a xs ∧ xs.length ≤ i⟩
theorem turn_enT {P : Program} {w : World} {K : PySem.W.Frag} {elts : List Expr} {kk : Nat} {tpos : Pos} (a e it : Addr) :
    Turn P w K (.Tuple elts kk tpos) (IteT K a) [e, it] e (fun i h => (∃ old, IsEnum h e it ((i : Nat) : Int) old) ∧ h.IsTupleIter it a i ∧ e ≠ it) where
  mem := by simp
  obj := fun i h st b hb => by
    obtain ⟨⟨old, he⟩, ⟨o, ho, hc, hd⟩, _⟩ := st
    rcases (show b = e ∨ b = it by simpa using hb) with z | z
    · subst z
      exact ⟨_, he, fun v q => nomatch q⟩
    · subst z
      exact ⟨o, ho, fun v q => by rw [hd] at q; cases q⟩
  keep := fun i h h' st k => by
    obtain ⟨⟨old, he⟩, hi, hne⟩ := st
    exact ⟨⟨old, k e (by simp) _ he⟩, hi.at fun o q => k it (by simp) o q, hne⟩
  item := by
    intro X hP hw hK hc i pins s σ H E I hf st hg
    subst hP hw hK
    obtain ⟨⟨old, he⟩, hit, hne⟩ := st
    obtain ⟨xs, x, hq, hx⟩ := hg
    obtain ⟨its, rv, p, hz⟩ := I.tuple hq
    obtain ⟨u, hu, ru⟩ := rv.get hx
    have hT : s.heap.IsTuple a its.toArray := p
    have hel : e < s.heap.objs.size := Heap.lt_size he
    have hil : it < s.heap.objs.size := by
      obtain ⟨_, q, _⟩ := hit
      exact Heap.lt_size q
    have nae : a ≠ e := fun z => by
      obtain ⟨o, h1, h2, _⟩ := hT
      subst z
      rw [he] at h1
      cases h1
      exact absurd (Value.type.inj h2) (by decide)
    have nai : a ≠ it := fun z => by
      obtain ⟨o, h1, h2, _⟩ := hT
      obtain ⟨o', h3, h4, _⟩ := hit
      subst z
      rw [h3] at h1
      cases h1
      rw [h4] at h2
      exact absurd (Value.type.inj h2) (by decide)
    have hlt : i < its.toArray.size := by
      have := List.getElem?_eq_some_iff.mp hu
      obtain ⟨q, _⟩ := this
      simpa using q
    have D := Draws.tuple (prog := X.prog) (w := X.w) (A := X.A.in1) (I.ok.hd hc) it a nai its.toArray
    refine wpAny_pyNext_enum_itemD D he ⟨hit, hT⟩ hlt hne (by simp [hne, nae.symm]) fun u' h' tk hP ho hs' hT' hsz hk => ?_
    obtain rfl : u' = u := by
      have q : its[i]? = some u' := by simpa using hP
      rw [hu] at q
      exact (Option.some.inj q).symm
    refine ⟨_, rfl, wpAny_letOwnedTupleGo_enum (s := { s with heap := h', toks := tk + 1 }) ho fun h'' he' sb => ?_⟩
    have hT2 : h''.get? s.heap.objs.size = some { cls := .type "tuple", data := .seq #[.int i tk, u'] } := (sb.2 _ (Nat.ne_of_gt hel)).trans hT'
    have kk2 : ∀ b ob, b ∉ [e, it] → s.heap.get? b = some ob → h''.get? b = some ob := fun b ob hb q =>
      (sb.2 b fun z => hb (by simp [z])).trans (hk b ob (fun z => hb (by simp [z])) (fun z => hb (by simp [z])) q)
    have new : ObjOk X.prog X.w (upd H s.heap.objs.size (.tup [.int (i : Nat), x])) h'' s.heap.objs.size (.tup [.int (i : Nat), x]) :=
      ⟨by show 2 ≤ sizeLine; decide, [.int i tk, u'], .cons ⟨_, rfl⟩ (.cons ru .nil), ⟨_, hT2, rfl, _, rfl⟩⟩
    have I1 : Inv X pins σ (upd H s.heap.objs.size (.tup [.int (i : Nat), x])) { s with heap := h'', toks := tk + 1 } := I.turnedNew (ch := [e, it]) kk2 hf (Nat.le_refl _) new
    refine ⟨.ref s.heap.objs.size, _, I1, rfl, ⟨_, x, rfl, I.hok.fresh (Nat.le_refl _), rfl, fun ys hy => by rw [I.tuple_inj hy hq]; exact hx⟩, ⟨⟨u', he'⟩, hs'.1.at fun o q => (sb.2 it (Ne.symm hne)).trans q, hne⟩, fun b hb => ?_⟩
    have hb' : b < s.heap.objs.size := by
      rcases (show b = e ∨ b = it by simpa using hb) with z | z
      · rw [z]; exact hel
      · rw [z]; exact hil
    rw [upd_ne (Nat.ne_of_lt hb')]
    exact (hf b hb).1
  done := by
    intro X hP hw hK hc i pins s σ H E I hf st hg
    subst hP hw hK
    obtain ⟨⟨old, he⟩, hit, hne⟩ := st
    obtain ⟨xs, hq, hx⟩ := hg
    obtain ⟨its, rv, p, hz⟩ := I.tuple hq
    have hT : s.heap.IsTuple a its.toArray := p
    obtain ⟨f0, f1, f2, f3, f4, f5⟩ := hf it (by simp)
    have hl := rv.length
    refine enum_endT (I.ok.hd hc) he hit hT (by simp; omega) fun h' eb => ⟨rfl, I.turned (t' := s.toks) (fun b o hb q => eb b o hb q) f0 f1 f3 f4 f5⟩
  self := fun A i s Q E st h => by
    obtain ⟨⟨_, he⟩, _⟩ := st
    exact wpAny_pyIter_enum he h
def iEnT (K : PySem.W.Frag) (ta : TA) : TI := fun σ H R => ta σ H fun vs H1 => ∃ a xs, vs = [.ref a] ∧ SqT K H1 a xs ∧ R (IteT K a) H1
theorem pi_enT {X : Cx} {e : Expr} {ta : TA} {p pos tpos : Pos} {elts : List Expr} {kk : Nat} (hg : Gl X "enumerate") (hm : X.mg "enumerate" = none) (ha : PA X [e] ta) (hs : starEach [e] X.env = [(false, eval e X.env)] := by rfl) :
    PI X (.Tuple elts kk tpos) (.Call (.Name "enumerate" p) [e] [] pos) (iEnT X.K ta) := by
  refine ⟨fun pins s σ H R I h => Call_ (ld_blt I hg hm boot_enumerate (PyProof.Rows.callWith_type1 (thn (ha.run pos pins s σ H _ I h) fun us s1 ⟨vs, H1, I1, r1, q1⟩ => ?_) hs rfl))⟩
  obtain ⟨a, xs, ex, hq, q⟩ := q1
  subst ex
  obtain ⟨u, rfl, hr⟩ := vals1 r1
  obtain rfl : u = Value.ref a := hr
  obtain ⟨its, rv, p', hz⟩ := I1.tuple hq
  refine call_en (show s1.heap.IsTuple a its.toArray from p') fun h' he hit hk => wpAny_pyIter_enum he ?_
  have I2 : Inv X pins σ H1 { s1 with heap := h' } := I1.kept (t' := s1.toks) hk
  refine ⟨s1.heap.objs.size + 1, [s1.heap.objs.size + 1, s1.heap.objs.size], _, _, H1, rfl, I2, turn_enT a (s1.heap.objs.size + 1) s1.heap.objs.size, ⟨⟨.none, he⟩, hit, Nat.succ_ne_self _⟩, fun b hb => ?_, q⟩
  have hle : s1.heap.objs.size ≤ b := by
    rcases (show b = s1.heap.objs.size + 1 ∨ b = s1.heap.objs.size by simpa using hb) with z | z
    · rw [z]; exact Nat.le_succ _
    · rw [z]; exact Nat.le_refl _
  exact I1.fpOk hle (I1.hok.fresh hle)
end Tp

/-! tuple * int, once or not at all. -/
namespace Tp
open PySem PySem.Spec PyProof.Rows L2
open AutoSeq1 (wpAny_loadPart')
theorem noFillT : fillsNumberSlot (.type "tuple") "mul" = pure false :=
  PySem.fillsNumberSlot_seq (id := "tuple.__mul__") (r := some (.builtin "tuple.__rmul__")) PySem.F.slot_tuple_mul.lookup (by decide +kernel) PySem.F.slot_tuple_rmul.lookup (by decide +kernel)
theorem repT : seqRepeat? (.type "tuple") = pure (some (.builtin "tuple.__mul__")) := by
  unfold seqRepeat?
  rw [PySem.seqSlot_of (T := "tuple") (name := "__mul__") (id := "tuple.__mul__") PySem.F.slot_tuple_mul.lookup (by decide +kernel)]
  rw [PySem.seqSlot_of (T := "tuple") (name := "__rmul__") (id := "tuple.__rmul__") PySem.F.slot_tuple_rmul.lookup (by decide +kernel)]
  rfl
theorem rmulT (k : Int) (u : Tok) (t : Addr) (items : Array Value) (n : Nat) (dd : Option Addr) (sl : Array (Option Value)) :
    Meets (Builtin.«int.__rmul__» ⟨[.int k u, .ref t], []⟩) (fun _ R s => s.heap.get? t = some { cls := .type "tuple", dict := dd, data := .seq items n, slots := sl } ∧ R (.ok (.ret Value.notImplemented)) s) :=
  .of_wp fun prog w A R s h => by
    obtain ⟨hp, g, d, tk, os⟩ := s
    obtain ⟨ht, q⟩ := h
    wp_walk using wpAny_loadPart' ht
    exact ⟨_, rfl, q⟩
/-- once: the tuple itself -/
theorem mulT1 (t : Addr) (items : Array Value) (n : Nat) (dd : Option Addr) (sl : Array (Option Value)) (u : Tok) :
    Meets (Builtin.«tuple.__mul__» ⟨[.ref t, .int 1 u], []⟩) (fun _ R s => s.heap.get? t = some { cls := .type "tuple", dict := dd, data := .seq items n, slots := sl } ∧ R (.ok (.ret (.ref t))) s) :=
  .of_wp fun prog w A R s h => by
    obtain ⟨hp, g, d, tk, os⟩ := s
    obtain ⟨ht, q⟩ := h
    have f1 := AutoSeq1.idx_int
    have c1 : (items.isEmpty || (1 : Int) == 1) = true := by simp
    wp_walk using wpAny_loadPart' ht
    repeat (first
      | (refine wpAny_ite_true (decide_eq_true c1) ?_; wp_walk using wpAny_loadPart' ht)
      | (refine wpAny_ite_true (by simp) ?_; wp_walk using wpAny_loadPart' ht))
    exact ⟨_, rfl, q⟩
/-- not at all: a new empty tuple -/
theorem mulT0 (t : Addr) (items : Array Value) (n : Nat) (dd : Option Addr) (sl : Array (Option Value)) (k : Int) (u : Tok) (hk : k ≤ 0) (hk2 : -(2 ^ 63) ≤ k) (hi : items.isEmpty = false) :
    Meets (Builtin.«tuple.__mul__» ⟨[.ref t, .int k u], []⟩) (fun _ R s => s.heap.get? t = some { cls := .type "tuple", dict := dd, data := .seq items n, slots := sl } ∧
      R (.ok (.ret (.ref s.heap.objs.size))) { s with heap := s.heap.push { cls := .type "tuple", data := .seq #[] } }) :=
  .of_wp fun prog w A R s h => by
    obtain ⟨hp, g, d, tk, os⟩ := s
    obtain ⟨ht, q⟩ := h
    have f1 := AutoSeq1.idx_int
    have c0 : (decide (k < -(2 ^ 63)) || decide (k ≥ 2 ^ 63)) = false := by
      rw [decide_eq_false (by omega), decide_eq_false (by omega)] <;> rfl
    have c1 : (items.isEmpty || k == 1) = false := by
      rw [hi, Bool.false_or]
      exact beq_eq_false_iff_ne.mpr (by omega)
    have c2 : (decide (k ≤ 0) || items.isEmpty) = true := by
      rw [decide_eq_true hk] <;> rfl
    wp_walk using wpAny_loadPart' ht
    repeat (first
      | (refine wpAny_ite_false (decide_eq_false (by rw [c0]; exact Bool.false_ne_true)) ?_; wp_walk using wpAny_loadPart' ht)
      | (refine wpAny_ite_false (decide_eq_false (by rw [c1]; exact Bool.false_ne_true)) ?_; wp_walk using wpAny_loadPart' ht)
      | (refine wpAny_ite_true (decide_eq_true c2) ?_; wp_walk using wpAny_loadPart' ht))
    exact ⟨_, rfl, q⟩
/-- t * k, t of at least one item, k at most 1 -/
def rRep1 (K : PySem.W.Frag) : R2 := fun x y H Q => ∃ t k xs, x = .ref t ∧ y = .int k ∧ SqT K H t xs ∧ xs ≠ [] ∧ -(2 ^ 63) ≤ k ∧ k ≤ 1 ∧ (k = 1 → Q (.ref t) H) ∧ (k ≤ 0 → ∀ p, H p = none → Q (.ref p) (upd H p (.tup [])))
theorem op_rep1 {X : Cx} : OpR X (binaryOp .Mult) (rRep1 X.K) := by
  intro pins s σ H x y v u Q I rx ry h
  obtain ⟨t, k, xs, rfl, rfl, hT, hne, hb, h1, q1, q0⟩ := h
  cases rx
  obtain ⟨tk, rfl⟩ := ry
  obtain ⟨its, r, ⟨⟨cls, dd, data, sl⟩, ho, hc, n, hd⟩, hs⟩ := I.tuple hT
  dsimp only at hc hd
  subst hc hd
  have hi : its.toArray.isEmpty = false := by
    cases its with
    | nil =>
      cases r
      exact absurd rfl hne
    | cons a b => rfl
  have go : ∀ {R : Value → Shared → Prop}, wpAny (model X.prog X.w) X.A (call (.builtin "tuple.__mul__") [.ref t, .int k tk]) R X.xe s → wpAny (model X.prog X.w) X.A (binaryOp .Mult (.ref t) (.int k tk)) R X.xe s := fun z =>
    wpAny_binaryOp_repeat_ref (T := "tuple") (U := "int") (by decide) ⟨_, ho, rfl⟩ (fun s' => typeIs_int s' k tk) noFillT F.fills_int_mul F.slot_int_rmul repT F.slot_int_index.lookup
      (call_meets F.slot_int_rmul (typeIs_int s k tk) F.entry_int_rmul (F.args_int_rmul_2 _ _) (rmulT k tk t its.toArray n dd sl) ⟨ho, rfl, ⟨_, ho, rfl⟩, z⟩)
  by_cases e : k = 1
  · subst e
    exact go (call_meets F.slot_tuple_mul ⟨_, ho, rfl⟩ F.entry_tuple_mul (F.args_tuple_mul_2 _ _) (mulT1 t its.toArray n dd sl tk) ⟨ho, ⟨.ref t, H, I, rfl, q1 rfl⟩⟩)
  · refine go (call_meets F.slot_tuple_mul ⟨_, ho, rfl⟩ F.entry_tuple_mul (F.args_tuple_mul_2 _ _) (mulT0 t its.toArray n dd sl k tk (by omega) hb hi) ⟨ho, ?_⟩)
    have new : ObjOk X.prog X.w (upd H s.heap.objs.size (.tup [])) (s.heap.push { cls := .type "tuple", data := .seq #[] }) s.heap.objs.size (.tup []) :=
      ⟨by show 0 ≤ sizeLine; decide, [], .nil, ⟨_, Heap.get?_push_size _ rfl, rfl, _, rfl⟩⟩
    have I1 := I.laid (t' := s.toks) (fun b o e => Heap.get?_push_of_some _ e) (Nat.le_refl _) new
    exact ⟨.ref s.heap.objs.size, _, I1, rfl, q0 (by omega) _ (I.hok.fresh (Nat.le_refl _))⟩
end Tp

/-! A set comprehension whose items any rule of set.add takes; such of ints. -/
namespace Tp
open PySem PySem.Spec PyProof.Rows L2
open PpSet (compLoopS_any codeAny_compStart_set newSet_ok)
abbrev oSet (w : World) : Obj := { cls := .type "set", dict := none, data := .set #[] 0 (.fresh 0 0 (!w.params.followText "set-order")) }
/-- r: what set.add asks; new: what is known of the new set -/
def tSg (new : Addr → HO) (r : V → List V → Hp → VK → Prop) (wi : TI) (g : TG) (tt : TT) (te : TE) (ow : List Nat) : TE := fun σ H Q => wi σ H fun J H1 => ∀ D, H1 D = none →
  ∃ W : Nat → Nat → Hp → Prop, (∃ m, W 0 m (upd H1 D (new D))) ∧ ∀ i m G, W i m G → (J.stop i G ∧ Q (.ref D) G) ∨
    (J.go i G ∧ ∃ Nx : Hp → Prop, (∀ G', Nx G' → ∃ m', m' < m ∧ W (i + 1) m' G') ∧ ∀ x G', J.yld i G x G' → g x (wipe σ ow) G' fun τ G2 => wipe τ ow = wipe σ ow ∧ tt τ G2 fun b G3 => if b = true then te τ G3 fun y G4 => r (.ref D) [y] G4 fun _ G5 => Nx G5 else Nx G3)
section
variable {X : Cx}
theorem pe_sg {elt tg iter : Expr} {ifs : List Expr} {scope : Scope} {own : List (PySem.Str × Nat)} {pos : Pos} {wi : TI} {g : TG} {tt : TT} {te : TE} {new : Addr → HO} {r : V → List V → Hp → VK → Prop} (hc : X.calm = true) (hN : X.N.Nodup)
    (hnew : ∀ {h : Heap} {H : Hp}, ObjOk X.prog X.w H (h.push (oSet X.w)) h.objs.size (new h.objs.size)) (hadd : ∀ Y : Cx, Y.prog = X.prog → Y.w = X.w → MtR Y "set.add" r) (hi : PI X tg iter wi) (ok : BlkOk X.N X.env.scope scope own)
    (hg : ∀ (s : Shared) (H : Hp) (C : Addr) (cl : List (PySem.Str × Addr)) (fp : List Addr), PG (X.blk s H scope (compEnvC scope cl C X.env) fp) tg g)
    (ht : ∀ (s : Shared) (H : Hp) (C : Addr) (cl : List (PySem.Str × Addr)) (fp : List Addr), PTs (X.blk s H scope (compEnvC scope cl C X.env) fp) ifs tt)
    (he : ∀ (s : Shared) (H : Hp) (C : Addr) (cl : List (PySem.Str × Addr)) (fp : List Addr), PE (X.blk s H scope (compEnvC scope cl C X.env) fp) elt te)
    (hs : ∀ x, foldedSetIterable iter X.env x = pure x := by intro _; rfl) : PE X (.SetComp elt [⟨tg, iter, ifs, 0⟩] scope pos) (tSg new r wi g tt te (own.map (·.2))) := by
  refine ⟨fun pins s σ H Q I h => ?_⟩
  rw [PpSet.eval_SetComp]
  have fr : ∀ y ∈ scope.names, y.2 = .free → ∃ c, X.env.cells.lookup y.1 = some c := fun y hy e => (ok.free y hy e).elim (fun k => I.ok.has _ (.inl k)) fun k => I.ok.has _ (.inr k)
  refine wpAny_comprehension_free (use := none) rfl hs (closure_ok fr) ok.kind (fun y hy e => by rw [ok.uniq y hy, e]) (thn (hi.run pins s σ H _ I h) fun xv s1 hx => thn hx fun itv s2 h2 => ?_)
  obtain ⟨it, fp, tn, J, H2, e, I2, T, st2, f2, q⟩ := h2
  subst e
  refine newSet_ok (newEnv_comp ?_)
  generalize hD : s2.heap.objs.size = D
  have nD : H2 D = none := I2.hok.fresh (Nat.le_of_eq hD)
  obtain ⟨W, ⟨m0, w0⟩, turn⟩ := q D nD
  generalize hs3 : ({ s2 with heap := s2.heap.push (oSet X.w) } : Shared) = s3
  have h3 : s3.heap = s2.heap.push (oSet X.w) := by rw [← hs3]
  have I3 : Inv X pins σ (upd H2 D (new D)) s3 := by
    rw [← hs3]
    refine I2.laid (t' := s2.toks) (fun b o e => Heap.get?_push_of_some _ e) (Nat.le_of_eq hD) ?_
    rw [← hD]
    exact hnew
  have old : ∀ b ∈ fp, b < s2.heap.objs.size := fun b hb => by
    obtain ⟨o, e, _⟩ := T.obj _ _ st2 b hb
    exact Heap.lt_size e
  have f3 : ∀ b ∈ fp, FpOk X pins (upd H2 D (new D)) b ∧ b < s3.heap.objs.size := fun b hb => by
    have lt := old b hb
    refine ⟨⟨?_, (f2 b hb).2⟩, by rw [h3, Heap.size_push]; exact Nat.lt_succ_of_lt lt⟩
    rw [upd_ne (by rw [← hD]; exact Nat.ne_of_lt lt)]
    exact (f2 b hb).1
  have st3 : tn 0 s3.heap := T.keep _ _ _ st2 fun b _ o e => by
    rw [h3]
    exact Heap.get?_push_of_some _ e
  have I4 := block_start I3 ok hN f3
  have pg := hg s3 (upd H2 D (new D)) s3.heap.objs.size (cellsFrom (s3.heap.objs.size + 1) scope.names (cloFrom X.env.cells scope.names [])) fp
  have pt := ht s3 (upd H2 D (new D)) s3.heap.objs.size (cellsFrom (s3.heap.objs.size + 1) scope.names (cloFrom X.env.cells scope.names [])) fp
  have pe := he s3 (upd H2 D (new D)) s3.heap.objs.size (cellsFrom (s3.heap.objs.size + 1) scope.names (cloFrom X.env.cells scope.names [])) fp
  show codeAny _ _ (.compStart (.SetComp elt [⟨tg, iter, ifs, 0⟩] scope pos) 0 (.ref it) (.ref D) (compEnvC scope (cellsFrom (s3.heap.objs.size + 1) scope.names (cloFrom X.env.cells scope.names [])) s3.heap.objs.size X.env)) (compPost (model X.prog X.w) X.A X.xe none (EP X pins σ Q) (.ref D) s3.heap.objs.size) { s3 with heap := pushCells (s3.heap.push { cls := .type "dict", data := .dict #[] }) scope.names }
  have nfp : ∀ b ∈ fp, (upd H2 D (new D)) b = none := fun b hb => (f3 b hb).1.1
  generalize hce : compEnvC scope (cellsFrom (s3.heap.objs.size + 1) scope.names (cloFrom X.env.cells scope.names [])) s3.heap.objs.size X.env = ce at I4 pg pt pe ⊢
  have cL : ce.locals = s3.heap.objs.size := by
    subst hce
    rfl
  generalize hH3 : upd H2 D (new D) = H3 at I3 I4 pg pt pe w0 nfp f3
  generalize hs4 : ({ s3 with heap := pushCells (s3.heap.push { cls := .type "dict", data := .dict #[] }) scope.names } : Shared) = s4 at I4 ⊢
  have st4 : tn 0 s4.heap := T.keep _ _ _ st3 fun b _ o e => by
    rw [← hs4]
    exact pushCells_keeps _ _ _ _ (Heap.get?_push_of_some _ e)
  have stat : ∀ {τ : L2.St} {G : Hp} {t : Shared}, Inv (X.blk s3 H3 scope ce fp) [] τ G t → (∀ b ∈ fp, G b = none) → ∀ b ∈ fp, FpOk (X.blk s3 H3 scope ce fp) [] G b := fun {τ G t} K hn b hb =>
    ⟨hn b hb, (K.ok.exf b hb).1, K.ok.exfs b hb, .inl hb, fun x c e => (K.ok.exf b hb).2 x c e, fun p hp => absurd (show p ∈ ([] : List (Addr × Obj)) ++ [] from hp) (by simp)⟩
  have loop : codeAny (model X.prog X.w) X.A (.compLoop (.SetComp elt [⟨tg, iter, ifs, 0⟩] scope pos) 0 (.ref it) (.ref D) ce) (compPost (model X.prog X.w) X.A X.xe none (EP X pins σ Q) (.ref D) s3.heap.objs.size) s4 := by
    refine compLoopS_any (fun n t => ∃ i G, Inv (X.blk s3 H3 scope ce fp) [] (wipe σ (own.map (·.2))) G t ∧ tn i t.heap ∧ (∀ b ∈ fp, G b = none) ∧ W i n G) ?_ m0 ⟨0, H3, I4, st4, nfp, w0⟩
    rintro n s5 ⟨i, H5, I5, st5, n5, w5⟩
    rcases turn i n H5 w5 with ⟨stop, qq⟩ | ⟨go, Nx, hNx, step⟩
    · refine thnF (T.done (X.blk s3 H3 scope ce fp) rfl rfl rfl hc i [] s5 _ H5 (fun _ _ => False) I5 (stat I5 n5) st5 stop) fun z s6 ⟨hz, I6⟩ => ?_
      subst hz
      have I7 : Inv X pins σ H5 s6 := I3.call' (ch := fp) I6.os I6.base I6.hok I6.bare fun b hb => ⟨(f3 b hb).1.2.2.2.1, (f3 b hb).1.2.1, (f3 b hb).1.2.2.2.2.1, (f3 b hb).1.2.2.2.2.2⟩
      have nC : H5 s3.heap.objs.size = none := by
        rw [← cL]
        exact I6.free
      obtain ⟨m, hn, _⟩ := I6.loc
      have hn2 : s6.heap.Ns s3.heap.objs.size m := by
        rw [← cL]
        exact hn
      obtain ⟨g0, g1, g2, g3, g4, g5⟩ := I3.fpOk (b := s3.heap.objs.size) (Nat.le_refl _) nC
      exact ⟨m, hn2, fun h'' sb => ⟨.ref D, H5, I7.turned (t' := s6.toks) (fun b o hb e => (sb.2 b hb).trans e) g0 g1 g3 g4 g5, rfl, qq⟩⟩
    · refine thnF (T.item (X.blk s3 H3 scope ce fp) rfl rfl rfl hc i [] s5 _ H5 (fun _ _ => False) I5 (stat I5 n5) st5 go) fun z s6 ⟨u, hz, h6⟩ => ?_
      subst hz
      refine thnF h6 fun _ s7 ⟨x, H7, I7, r7, y7, st7, n7⟩ => ?_
      have P7 := I7.pinned (stat I7 n7) (T.obj _ _ st7)
      refine thnF (pg.run _ s7 _ H7 x u _ P7 r7 (step x H7 y7)) fun _ s8 ⟨σ8, H8, I8, hw8, q8⟩ => ?_
      refine thnF (pt.run _ s8 σ8 H8 _ I8 q8) fun b s9 ⟨H9, I9, q9⟩ => ?_
      have fin : ∀ {t : Shared} {G : Hp}, Inv (X.blk s3 H3 scope ce fp) ([] ++ pinsAt fp s7.heap) σ8 G t → Nx G → ∃ m, m < n ∧ ∃ i G, Inv (X.blk s3 H3 scope ce fp) [] (wipe σ (own.map (·.2))) G t ∧ tn i t.heap ∧ (∀ b ∈ fp, G b = none) ∧ W i m G := fun {t G} K nx => by
        obtain ⟨m', hm, w'⟩ := hNx G nx
        have pin2 : ∀ b ∈ fp, ∀ o, s7.heap.get? b = some o → t.heap.get? b = some o ∧ G b = none := fun b hb o e => by
          have z := K.pin (b, o) (List.mem_append_right _ (List.mem_append_right _ (mem_pinsAt hb e)))
          exact ⟨z.1, z.2.1⟩
        have hl : (wipe σ (own.map (·.2))).length = σ8.length := by rw [← hw8, wipe_length]
        refine ⟨m', hm, i + 1, G, (K.unpinned (pins := [])).weak hl (fun j v e => ?_), T.keep _ _ _ st7 fun b hb o e => (pin2 b hb o e).1, fun b hb => ?_, w'⟩
        · rw [← hw8] at e
          exact (wipe_some e).1
        · obtain ⟨o, e, _⟩ := T.obj _ _ st7 b hb
          exact (pin2 b hb o e).2
      cases b with
      | false =>
        rw [if_neg (by simp)] at q9 ⊢
        exact fin I9 q9
      | true =>
        rw [if_pos rfl] at q9 ⊢
        refine thnF (pe.run _ s9 σ8 H9 _ I9 q9) fun z s10 ⟨yv, H10, I10, r10, qa⟩ => ?_
        refine thnF (hadd (X.blk s3 H3 scope ce fp) rfl rfl _ s10 σ8 H10 (.ref D) [yv] (.ref D) [z] (fun _ G5 => Nx G5) I10 rfl (.cons r10 .nil) qa) fun _ s11 ⟨_, H11, I11, _, nx⟩ => ?_
        exact fin I11 nx
  exact codeAny_compStart_set loop (T.self X.A 0 _ _ _ st4 loop)
/-- of ints -/
theorem pe_si {elt tg iter : Expr} {ifs : List Expr} {scope : Scope} {own : List (PySem.Str × Nat)} {pos : Pos} {wi : TI} {g : TG} {tt : TT} {te : TE} (hc : X.calm = true) (hN : X.N.Nodup) (hi : PI X tg iter wi) (ok : BlkOk X.N X.env.scope scope own)
    (hg : ∀ (s : Shared) (H : Hp) (C : Addr) (cl : List (PySem.Str × Addr)) (fp : List Addr), PG (X.blk s H scope (compEnvC scope cl C X.env) fp) tg g)
    (ht : ∀ (s : Shared) (H : Hp) (C : Addr) (cl : List (PySem.Str × Addr)) (fp : List Addr), PTs (X.blk s H scope (compEnvC scope cl C X.env) fp) ifs tt)
    (he : ∀ (s : Shared) (H : Hp) (C : Addr) (cl : List (PySem.Str × Addr)) (fp : List Addr), PE (X.blk s H scope (compEnvC scope cl C X.env) fp) elt te)
    (hs : ∀ x, foldedSetIterable iter X.env x = pure x := by intro _; rfl) : PE X (.SetComp elt [⟨tg, iter, ifs, 0⟩] scope pos) (tSg (fun D => SetO X.w D (fun _ => false) 0) (rSAdd X.w) wi g tt te (own.map (·.2))) :=
  pe_sg hc hN (fun {h H} => setO_new (setR_fresh X.w)) (fun Y hp hw => by
    have z := mt_sadd (X := Y)
    rw [hw] at z
    exact z) hi ok hg ht he hs
end
end Tp

/-! The mathematics of rows; data as tuples of ints. -/
namespace K01
open PySem PySem.Spec PyProof.Rows L2 Dr Ex Rp
open He (ga ma)
abbrev FnP (K : PySem.W.Frag) (x : Str) (st : Stmt) (f : Addr) (fd : FuncData) : Prop := FunD K x x (defArgs st) (defBody st) (defScope st) [] [] f fd
abbrev FnK (K : PySem.W.Frag) (x : Str) (st : Stmt) (f : Addr) (fd : FuncData) : Prop := FunD K x x (defArgs st) (defBody st) (defScope st) [] [("down", V.ref (Hx.kwA x "down" K))] f fd
/-- what the module's names hold -/
structure TG (K : PySem.W.Frag) (mg : Str → Option Value) : Prop where
  f : ∀ x, x ∈ bn → mg x = none
  g : ∀ x, x ∈ gn → mg x = some (.ref (ga K x))
  m : ∃ t, mg "MAX_SIZE" = some (.int 10 t)
/-! ### mathematics -/
def isI : PyData → Bool
  | .int _ => true
  | _ => false
def iv : PyData → Int
  | .int i => i
  | _ => 0
def areI : PyData → Bool
  | .tuple ds => ds.all isI
  | _ => false
def its : PyData → List PyData
  | .tuple ds => ds
  | _ => []
def ivs (d : PyData) : List Int := (its d).map iv
def asc (xs : List Int) : Bool := (List.zipWith (fun a b => decide (a < b)) xs (xs.drop 1)).all id
def ascL (xs : List (List Int)) : Bool := (List.zipWith HT.lexLt xs (xs.drop 1)).all id
def wideOk (ns : List Nat) : Bool := match ns with
  | [] => true
  | n :: r => (r.all fun m => m == n) && decide (n ≤ 10)
/-- a tuple of rows of one length -/
def rowsOk : PyData → Bool
  | .tuple ds => ds.all areI && wideOk (ds.map fun d => (its d).length)
  | _ => false
def inRange (xs : List Int) : Bool := xs.all fun x => decide (0 ≤ x) && decide (x < 10)
def downOk (d : PyData) : Bool := areI d && asc (ivs d) && inRange (ivs d)
/-- the key of a row -/
def sk (ds xs : List Int) : List Int := xs.zipIdx.map fun p => if ds.contains ((p.2 : Nat) : Int) then -p.1 else p.1
/-! ### data as ints -/
theorem ints_of {K : PySem.W.Frag} {H : Hp} : ∀ {xs : List V} {ds : List PyData}, DtAll K H xs ds → ds.all isI = true → xs = (ds.map iv).map V.int
  | _, _, .nil, _ => rfl
  | _, _, .cons (d := d) h t, e => by
    rw [List.all_cons, Bool.and_eq_true] at e
    have r := ints_of t e.2
    cases d with
    | int i =>
      cases h
      rw [r]
      rfl
    | _ => cases e.1
theorem tup_of {K : PySem.W.Frag} {H : Hp} {v : V} {d : PyData} (h : Dt K H v d) (e : areI d = true) : ∃ a, v = .ref a ∧ SqT K H a ((ivs d).map V.int) := by
  cases d with
  | tuple ds =>
    cases h with
    | tup h1 h2 => exact ⟨_, rfl, by rw [show ivs (.tuple ds) = ds.map iv from rfl, ← ints_of h2 e]; exact h1⟩
  | _ => cases e
theorem dt_all_get {K : PySem.W.Frag} {H : Hp} : ∀ {xs : List V} {ds : List PyData} {i : Nat} {x : V}, DtAll K H xs ds → xs[i]? = some x → ∃ d, ds[i]? = some d ∧ Dt K H x d
  | _, _, _, _, .nil, e => by simp at e
  | _, _, 0, _, .cons h _, e => by
    simp at e
    subst e
    exact ⟨_, rfl, h⟩
  | _, _, i + 1, _, .cons _ t, e => by
    obtain ⟨d, h1, h2⟩ := dt_all_get (i := i) t (by simpa using e)
    exact ⟨d, by simpa using h1, h2⟩
theorem dt_tup {K : PySem.W.Frag} {H : Hp} {a : Addr} {ns : List Int} (h : SqT K H a (ns.map V.int)) : Dt K H (.ref a) (.tuple (ns.map PyData.int)) := .tup h (dt_ints ns)
theorem areI_ints (ns : List Int) : areI (.tuple (ns.map PyData.int)) = true := by
  show (ns.map PyData.int).all isI = true
  rw [List.all_map]
  exact List.all_eq_true.mpr fun _ _ => rfl
theorem ivs_ints (ns : List Int) : ivs (.tuple (ns.map PyData.int)) = ns := by
  show (ns.map PyData.int).map iv = ns
  rw [List.map_map]
  exact List.map_id'' (fun _ => rfl) _
theorem its_len_ints (ns : List Int) : (its (.tuple (ns.map PyData.int))).length = ns.length := List.length_map _
/-! ### what stands below the line -/
section
variable {X : Cx}
/-- a tuple of the heap is no longer than the line -/
theorem pe_sz {e : Expr} {t : TE} (h : PE X e t) : PE X e (fun σ H Q => (∀ a xs, SqT X.K H a xs → xs.length ≤ sizeLine) → t σ H Q) :=
  ⟨fun pins s σ H Q I q => h.run pins s σ H Q I (q fun _ _ hx => by
    obtain ⟨_, _, _, z⟩ := I.tuple hx
    exact z)⟩
theorem pss_sz {b : List Stmt} {t : TS} (h : PSs X b t) : PSs X b (fun D σ H => (∀ a xs, SqT X.K H a xs → xs.length ≤ sizeLine) → t D σ H) :=
  ⟨fun pins s σ H D I q => h.run pins s σ H D I (q fun _ _ hx => by
    obtain ⟨_, _, _, z⟩ := I.tuple hx
    exact z)⟩
theorem pss_szL {b : List Stmt} {t : TS} (h : PSs X b t) : PSs X b (fun D σ H => (∀ a xs, SqL X.K H a xs → xs.length ≤ sizeLine) → t D σ H) :=
  ⟨fun pins s σ H D I q => h.run pins s σ H D I (q fun _ _ hx => by
    obtain ⟨_, _, _, z⟩ := I.list hx
    exact z)⟩
variable {x : Str} {a : Addr} {n : String} {pos : Pos}
/-- a built-in class as a value -/
theorem p_bty (hm : X.mg x = none) (hv : bootBuiltins x = some (.type n)) (hg : Gl X x := by rfl) (hn : x ≠ "__name__" := by decide) (hd : (x == ("__debug__" : Str)) = false := by decide) : PE X (.Name x pos) (tC (.ty n)) := pe_bltn hg hm hv rfl hn hd
end
/-- enumerate of a tuple, as walked -/
theorem walk_enT {K : PySem.W.Frag} {a : Addr} {xs : List V} : Walk (Tp.IteT K a) xs.length (fun H => SqT K H a xs) (YPair (fun i => some (.int (i : Nat))) (fun i => xs[i]?)) := by
  refine ⟨fun i _ hi q => ⟨xs, xs[i], q, by simp [hi]⟩, fun _ q => ⟨xs, q, Nat.le_refl _⟩, fun i H v H' _ q y => ?_⟩
  obtain ⟨T, x, h1, h2, h3, h4⟩ := y
  exact ⟨T, _, x, h1, h2, h3, rfl, h4 xs q⟩
theorem walk_zipT {K : PySem.W.Frag} {a b : Addr} {xs ys : List V} {n : Nat} (hn : n = min xs.length ys.length) : Walk (RZ.ItzT K a b) n (fun H => SqT K H a xs ∧ SqT K H b ys) (YPair (fun i => xs[i]?) (fun i => ys[i]?)) := by
  subst hn
  refine ⟨fun i _ hi q => ?_, fun _ q => ⟨xs, ys, q.1, q.2, by omega⟩, fun i H v H' _ q y => ?_⟩
  · have h1 : i < xs.length := by omega
    have h2 : i < ys.length := by omega
    exact ⟨xs, ys, xs[i], ys[i], q.1, q.2, by simp [h1], by simp [h2]⟩
  · obtain ⟨T, x, y', h1, h2, h3, h4, h5⟩ := y
    exact ⟨T, x, y', h1, h2, h3, h4 xs q.1, h5 ys q.2⟩
theorem yes_in {σ : L2.St} {H : Hp} {A B : Hp → Prop} (h : A H) : tYes σ H (fun b H3 => if b = true then A H3 else B H3) := iteT (B := B H) h
end K01

/-! is_integer, are_integers, is_ascending, sort_key. -/
namespace K01
open PySem PySem.Spec PyProof.Rows L2 Dr Ex Rp
open He (ga ma)
def spIsI (K : PySem.W.Frag) : Sp := fun vs H Q _ => ∃ (v : V) (d : PyData), vs = [v] ∧ Dt K H v d ∧ Q (.bl (isI d)) H
def spAre (K : PySem.W.Frag) : Sp := fun vs H Q _ => ∃ (v : V) (d : PyData), vs = [v] ∧ Dt K H v d ∧ ∀ H', Same H H' → Q (.bl (areI d)) H'
def spAscT (K : PySem.W.Frag) : Sp := fun vs H Q _ => ∃ (a : Addr) (ns : List Int), vs = [.ref a] ∧ SqT K H a (ns.map V.int) ∧ ∀ H', Same H H' → Q (.bl (asc ns)) H'
def spAscL (K : PySem.W.Frag) : Sp := fun vs H Q _ => ∃ (a : Addr) (ps : List Addr) (rs : List (List Int)), vs = [.ref a] ∧ SqL K H a (ps.map V.ref) ∧ rs.length = ps.length ∧
  (∀ (i : Nat) (p : Addr) (r : List Int), ps[i]? = some p → rs[i]? = some r → SqT K H p (r.map V.int)) ∧ ∀ H', Same H H' → Q (.bl (ascL rs)) H'
def spKey (K : PySem.W.Frag) : Sp := fun vs H Q _ => ∃ (a b : Addr) (xs ds : List Int), vs = [.ref a, .ref b] ∧ SqT K H a (xs.map V.int) ∧ SqT K H b (ds.map V.int) ∧
  ∀ H' p, Same H H' → H p = none → H' p = some (.tup ((sk ds xs).map V.int)) → Q (.ref p) H'
abbrev nIsI : List Str := ["value"]
abbrev nAre : List Str := ["value", "part"]
abbrev nAsc : List Str := ["values", "value", "other"]
abbrev nKey : List Str := ["row", "down", "at", "part"]
theorem scIsI : FnScope nIsI ["value"] (defScope sIsI) := ⟨rfl, rfl, rfl, by decide +kernel, rfl, by decide +kernel, by decide +kernel⟩
theorem scAre : FnScope nAre ["value"] (defScope sAre) := ⟨rfl, rfl, rfl, by decide +kernel, rfl, by decide +kernel, by decide +kernel⟩
theorem scAsc : FnScope nAsc ["values"] (defScope sAsc) := ⟨rfl, rfl, rfl, by decide +kernel, rfl, by decide +kernel, by decide +kernel⟩
theorem scKey : FnScope nKey ["row", "down"] (defScope sKey) := ⟨rfl, rfl, rfl, by decide +kernel, rfl, by decide +kernel, by decide +kernel⟩
theorem kit_int (d : PyData) {K : PySem.W.Frag} : PySem.W.kitOne K (.type (tyD d)) (.type "int") = some (isI d || decide (tyD d = "bool")) := by
  cases d
  · exact kit_ty (a := "NoneType") (b := "int") (r := false) (by decide +kernel)
  · exact kit_ty (a := "bool") (b := "int") (r := true) (by decide +kernel)
  · exact kit_ty (a := "int") (b := "int") (r := true) (by decide +kernel)
  · exact kit_ty (a := "str") (b := "int") (r := false) (by decide +kernel)
  · exact kit_ty (a := "list") (b := "int") (r := false) (by decide +kernel)
  · exact kit_ty (a := "tuple") (b := "int") (r := false) (by decide +kernel)
  · exact kit_ty (a := "dict") (b := "int") (r := false) (by decide +kernel)
theorem kit_bool (d : PyData) {K : PySem.W.Frag} : PySem.W.kitOne K (.type (tyD d)) (.type "bool") = some (decide (tyD d = "bool")) := by
  cases d
  · exact kit_ty (a := "NoneType") (b := "bool") (r := false) (by decide +kernel)
  · exact kit_ty (a := "bool") (b := "bool") (r := true) (by decide +kernel)
  · exact kit_ty (a := "int") (b := "bool") (r := false) (by decide +kernel)
  · exact kit_ty (a := "str") (b := "bool") (r := false) (by decide +kernel)
  · exact kit_ty (a := "list") (b := "bool") (r := false) (by decide +kernel)
  · exact kit_ty (a := "tuple") (b := "bool") (r := false) (by decide +kernel)
  · exact kit_ty (a := "dict") (b := "bool") (r := false) (by decide +kernel)
theorem kit_tup (d : PyData) {K : PySem.W.Frag} : PySem.W.kitOne K (.type (tyD d)) (.type "tuple") = some (decide (tyD d = "tuple")) := by
  cases d
  · exact kit_ty (a := "NoneType") (b := "tuple") (r := false) (by decide +kernel)
  · exact kit_ty (a := "bool") (b := "tuple") (r := false) (by decide +kernel)
  · exact kit_ty (a := "int") (b := "tuple") (r := false) (by decide +kernel)
  · exact kit_ty (a := "str") (b := "tuple") (r := false) (by decide +kernel)
  · exact kit_ty (a := "list") (b := "tuple") (r := false) (by decide +kernel)
  · exact kit_ty (a := "tuple") (b := "tuple") (r := true) (by decide +kernel)
  · exact kit_ty (a := "dict") (b := "tuple") (r := false) (by decide +kernel)
section
variable {P : Program} {w : World} {K : PySem.W.Frag} {mg : Str → Option Value} {base : Heap}
theorem ok_isI {CX : CXT} {f : Addr} {fd : FuncData} (F : FnP K "is_integer" sIsI f fd) (T : TG K mg) : FnOk P w K mg base CX 1 f fd ["value"] (spIsI K) := by
  have ti := T.f "isinstance" (by decide +kernel)
  have t1 := T.f "int" (by decide +kernel)
  have t2 := T.f "bool" (by decide +kernel)
  refine F.ok scIsI (fun vs H Q E h => ?_) (fun cdv A outer s H vs Q E hr h => ?_)
  · obtain ⟨v, d, rfl, _⟩ := h
    rfl
  · obtain ⟨v, d, rfl, hd, k⟩ := h
    refine ⟨_, PSs.nox (pss_one (ps_ret (pe_and (pe_callB call_isi (by rfl) ti (by decide +kernel) (pa_cons (pv 0) (pa_cons (p_bty (n := "int") t1 (by decide +kernel)) pa_nil)))
      (pe_one (pe_not (pe_callB call_isi (by rfl) ti (by decide +kernel) (pa_cons (pv 0) (pa_cons (p_bty (n := "bool") t2 (by decide +kernel)) pa_nil)))))))), ?_⟩
    refine ⟨_, rfl, _, _, _, _, _, rfl, .ty _, hd.ty, kit_int d, _, rfl, ?_⟩
    cases d with
    | int i => exact iteT ⟨_, rfl, _, _, _, _, _, rfl, .ty _, hd.ty, kit_bool (.int i), _, rfl, k⟩
    | bool b => exact iteT ⟨_, rfl, _, _, _, _, _, rfl, .ty _, hd.ty, kit_bool (.bool b), _, rfl, k⟩
    | none => exact iteF k
    | str x => exact iteF k
    | list ds => exact iteF k
    | tuple ds => exact iteF k
    | dict ds => exact iteF k
theorem ok_are {CX : CXT} {f f1 : Addr} {fd fd1 : FuncData} (F : FnP K "are_integers" sAre f fd) (F1 : FnP K "is_integer" sIsI f1 fd1) (T : TG K mg) (g1 : mg "is_integer" = some (.ref f1)) : FnOk P w K mg base CX 2 f fd ["value"] (spAre K) := by
  have ti := T.f "isinstance" (by decide +kernel)
  have tt := T.f "tuple" (by decide +kernel)
  have ta := T.f "all" (by decide +kernel)
  have G : FnOk P w K mg base CX0 1 f1 fd1 ["value"] (spIsI K) := ok_isI F1 T
  have b1 : Binds K fd1 ["value"] [] := F1.bindsN fun _ _ _ _ _ _ us hl => match us, hl with | [_], _ => rfl
  refine F.ok scAre (fun vs H Q E h => ?_) (fun cdv A outer s H vs Q E hr h => ?_)
  · obtain ⟨v, d, rfl, _⟩ := h
    rfl
  · obtain ⟨v, d, rfl, hd, k⟩ := h
    refine ⟨_, pss_sz (PSs.nox (pss_one (ps_ret (pe_and (pe_callB call_isi (by rfl) ti (by decide +kernel) (pa_cons (pv 0) (pa_cons (p_bty (n := "tuple") tt (by decide +kernel)) pa_nil)))
      (pe_one (pe_callB (cr_all rfl) (by rfl) ta (by decide +kernel) (pa_cons (pe_lc (own := [("part", 1)]) (g := gName 1) (tt := tYes) rfl scAre.nd (pi_tup (pv 0)) (blkOk_by (own := [("part", 1)]) (N := nAre) (sc := defScope sAre) (by decide +kernel))
        (fun _ _ _ _ _ => pg_name (i := 1) scAre.nd rfl (Or.inl rfl)) (fun _ _ _ _ _ => pts_nil) (fun _ _ _ _ _ => pe_call G hr rfl g1 F1.kp b1 .nil pass0 (pa_cons (pv 1) pa_nil))) pa_nil))))))), fun hz => ?_⟩
    refine ⟨_, rfl, _, _, _, _, _, rfl, .ty _, hd.ty, kit_tup d, _, rfl, ?_⟩
    cases d with
    | tuple ds =>
      cases hd with
      | tup h1 h2 =>
        rename_i a xs
        refine iteT ?_
        refine ⟨_, rfl, a, rfl, ⟨xs, h1⟩, fun D hD => lc_tup (xs := xs) (fun i H' => Same H H' ∧ H' D = some (.lst (((ds.take i).map isI).map V.bl))) ⟨smu hD, upd_same⟩ (fun i H' _ h => sqt_same h.1 h1) ?_ ?_⟩
        · rintro i x H' hx ⟨s1, hL⟩
          obtain ⟨d, e1, e2⟩ := dt_all_get h2 hx
          refine ⟨rfl, yes_in ?_⟩
          refine ⟨_, rfl, x, d, rfl, Dt.same s1 d _ e2, _, hL, ?_, fun b o e => ?_, ?_⟩
          · have l1 := (List.getElem?_eq_some_iff.mp hx).choose
            have l2 := hz a xs h1
            rw [List.length_map, List.length_map, List.length_take]
            omega
          · rw [upd_ne (ne_of_none e hD)]
            exact s1 b o e
          · rw [upd_same, List.take_add_one, e1]
            simp
        · rintro H' ⟨s1, hL⟩
          refine ⟨D, (ds.map isI), rfl, SqL.of ?_, ?_⟩
          · rw [hL, ← DtAll.len h2, List.take_length]
          · have e : (ds.map isI).all id = ds.all isI := by rw [List.all_map] <;> rfl
            rw [e]
            exact k H' s1
    | none => exact iteF (k H (Same.refl H))
    | bool b => exact iteF (k H (Same.refl H))
    | int i => exact iteF (k H (Same.refl H))
    | str x => exact iteF (k H (Same.refl H))
    | list ds => exact iteF (k H (Same.refl H))
    | dict ds => exact iteF (k H (Same.refl H))
end
end K01

/-! is_ascending, of a tuple of ints and of a list of rows; sort_key. -/
namespace K01
open PySem PySem.Spec PyProof.Rows L2 Dr Ex Rp
open He (ga ma)
theorem cut1 (xs : List V) : cutV xs (some 1) none = xs.drop 1 := by
  unfold cutV
  have e : HT.sIx xs.length 0 (some 1) = min 1 xs.length := HT.sIx_nat _ _ 1
  rw [e, HT.sIx_none]
  by_cases h : xs.length = 0
  · have z := List.eq_nil_of_length_eq_zero h
    subst z
    rfl
  · rw [show min 1 xs.length = 1 by omega, List.take_of_length_le (by rw [List.length_drop]; omega)]
theorem whole1 (xs : List V) : (HT.sIx xs.length 0 (some 1) = 0 ∧ HT.sIx xs.length xs.length none = xs.length) ↔ xs = [] := by
  rw [show HT.sIx xs.length 0 (some 1) = min 1 xs.length from HT.sIx_nat _ _ 1, HT.sIx_none]
  constructor
  · intro h
    exact List.eq_nil_of_length_eq_zero (by omega)
  · intro h
    subst h
    exact ⟨rfl, rfl⟩
/-- the truths of a walk in pairs, so far -/
def upto {α : Type} (f : α → α → Bool) (xs : List α) (i : Nat) : List Bool := (List.zipWith f xs (xs.drop 1)).take i
theorem upto_succ {α : Type} {f : α → α → Bool} {xs : List α} {i : Nat} {x y : α} (hx : xs[i]? = some x) (hy : (xs.drop 1)[i]? = some y) : upto f xs (i + 1) = upto f xs i ++ [f x y] := by
  unfold upto
  rw [List.take_add_one, List.getElem?_zipWith, hx, hy]
  rfl
section
variable {P : Program} {w : World} {K : PySem.W.Frag} {mg : Str → Option Value} {base : Heap}
theorem ok_ascT {CX : CXT} {f : Addr} {fd : FuncData} (F : FnP K "is_ascending" sAsc f fd) (T : TG K mg) : FnOk P w K mg base CX 1 f fd ["values"] (spAscT K) := by
  have tz := T.f "zip" (by decide +kernel)
  have ta := T.f "all" (by decide +kernel)
  refine F.ok scAsc (fun vs H Q E h => ?_) (fun cdv A outer s H vs Q E hr h => ?_)
  · obtain ⟨a, ns, rfl, _⟩ := h
    rfl
  · obtain ⟨a, ns, rfl, hS, k⟩ := h
    refine ⟨_, pss_sz (PSs.nox (pss_one (ps_ret (pe_callB (cr_all rfl) (by rfl) ta (by decide +kernel) (pa_cons (pe_lc (own := [("value", 1), ("other", 2)]) (g := gTup K 2 (gCons (gName 1) (gCons (gName 2) gNil))) (tt := tYes) rfl scAsc.nd (RZ.pi_zipA (by rfl) tz (pa_cons (pv 0) (pa_cons (pe_slice sl_tupA (pv 0) (po_some pe_int) po_none) pa_nil)))
        (blkOk_by (own := [("value", 1), ("other", 2)]) (N := nAsc) (sc := defScope sAsc) (by decide +kernel))
        (fun _ _ _ _ _ => pg_tup (by rfl) (pgs_cons (pg_name (i := 1) scAsc.nd rfl (Or.inl rfl)) (pgs_cons (pg_name (i := 2) scAsc.nd rfl (Or.inl rfl)) pgs_nil))) (fun _ _ _ _ _ => pts_nil) (fun _ _ _ _ _ => pe_cmpR op_lt (pv 1) (pv 2) (nomark _))) pa_nil))))), fun hz => ?_⟩
    have hl := hz a _ hS
    rw [List.length_map] at hl
    have fin : ∀ H2 D, Same H H2 → H2 D = some (.lst ((upto (fun a b => decide (a < b)) ns ns.length).map V.bl)) → ∃ (q : Addr) (bs : List Bool), [V.ref D] = [V.ref q] ∧ SqL K H2 q (bs.map V.bl) ∧ Q (.bl (bs.all id)) H2 := fun H2 D s2 hD => by
      refine ⟨D, _, rfl, SqL.of hD, ?_⟩
      have e : upto (fun a b => decide (a < b)) ns ns.length = List.zipWith (fun a b => decide (a < b)) ns (ns.drop 1) := List.take_of_length_le (by rw [List.length_zipWith]; omega)
      rw [e]
      exact k H2 s2
    have len0 : ns.length - 1 = min (ns.map V.int).length ((ns.map V.int).drop 1).length := by
      rw [List.length_drop, List.length_map]
      omega
    have endU : upto (fun a b => decide (a < b)) ns (ns.length - 1) = upto (fun a b => decide (a < b)) ns ns.length := by
      unfold upto
      rw [List.take_of_length_le (by rw [List.length_zipWith, List.length_drop]; omega), List.take_of_length_le (by rw [List.length_zipWith, List.length_drop]; omega)]
    refine ⟨_, rfl, _, rfl, _, rfl, a, _, rfl, hS, fun hw => ?_, fun hw p np => ?_⟩
    case' refine_1 =>
      have hw' := (whole1 _).mp hw
      have hb : SqT K H a ((ns.map V.int).drop 1) := by
        rw [hw'] at hS ⊢
        exact hS
      have s1 := Same.refl H
      refine ⟨a, a, _, _, rfl, .inr ⟨hS, hb, fun D hD => ?_⟩⟩
    case' refine_2 =>
      have hb : SqT K (upd H p (.tup (cutV (ns.map V.int) (some 1) none))) p ((ns.map V.int).drop 1) := by
        rw [← cut1]
        exact SqT.of upd_same
      have s1 := smu (o := .tup (cutV (ns.map V.int) (some 1) none)) np
      generalize upd H p (.tup (cutV (ns.map V.int) (some 1) none)) = H1 at hb s1 ⊢
      refine ⟨a, p, _, _, rfl, .inr ⟨sqt_same s1 hS, hb, fun D hD => ?_⟩⟩
    all_goals
      refine lc_it (walk_zipT len0) (fun i H' => Same _ H' ∧ H' D = some (.lst ((upto (fun a b => decide (a < b)) ns i).map V.bl))) ⟨smu hD, upd_same⟩ (fun i H' _ h => ⟨sqt_same (s1.trans h.1) hS, sqt_same h.1 hb⟩) ?_ ?_
      · rintro i x H2 H3 hi ⟨s2, h2⟩ ⟨Tp, y, z, rfl, nT, rfl, ey, ez⟩
        have ey : (ns.map V.int)[i]? = some y := ey
        have ez : (List.drop 1 (ns.map V.int))[i]? = some z := ez
        rw [List.getElem?_map] at ey
        rw [← List.map_drop, List.getElem?_map] at ez
        obtain ⟨y', ey2, rfl⟩ := Option.map_eq_some_iff.mp ey
        obtain ⟨z', ez2, rfl⟩ := Option.map_eq_some_iff.mp ez
        have s3 := smu (o := .tup [V.int y', V.int z']) nT
        refine ⟨Tp, _, rfl, SqT.of upd_same, rfl, _, _, rfl, _, _, rfl, rfl, rfl, yes_in ?_⟩
        refine ⟨_, rfl, _, rfl, _, _, rfl, rfl, _, s3 _ _ h2, ?_, fun b o e => ?_, ?_⟩
        · rw [List.length_map]
          unfold upto
          rw [List.length_take]
          omega
        · rw [upd_ne (ne_of_none e hD)]
          exact s3 _ _ (s2 _ _ e)
        · rw [upd_same, upto_succ ey2 ez2, List.map_append]
          rfl
      · rintro H2 ⟨s2, h2⟩
        exact fin H2 D (s1.trans s2) (by rw [← endU]; exact h2)
theorem ok_ascL {CX : CXT} {f : Addr} {fd : FuncData} (F : FnP K "is_ascending" sAsc f fd) (T : TG K mg) : FnOk P w K mg base CX 1 f fd ["values"] (spAscL K) := by
  have tz := T.f "zip" (by decide +kernel)
  have ta := T.f "all" (by decide +kernel)
  refine F.ok scAsc (fun vs H Q E h => ?_) (fun cdv A outer s H vs Q E hr h => ?_)
  · obtain ⟨a, ps, rs, rfl, _⟩ := h
    rfl
  · obtain ⟨a, ps, rs, rfl, hS, hlen, hrs, k⟩ := h
    refine ⟨_, pss_szL (PSs.nox (pss_one (ps_ret (pe_callB (cr_all rfl) (by rfl) ta (by decide +kernel) (pa_cons (pe_lc (own := [("value", 1), ("other", 2)]) (g := gTup K 2 (gCons (gName 1) (gCons (gName 2) gNil))) (tt := tYes) rfl scAsc.nd (RZ.pi_zipA (by rfl) tz (pa_cons (pv 0) (pa_cons (pe_slice sl_list (pv 0) (po_some pe_int) po_none) pa_nil)))
        (blkOk_by (own := [("value", 1), ("other", 2)]) (N := nAsc) (sc := defScope sAsc) (by decide +kernel))
        (fun _ _ _ _ _ => pg_tup (by rfl) (pgs_cons (pg_name (i := 1) scAsc.nd rfl (Or.inl rfl)) (pgs_cons (pg_name (i := 2) scAsc.nd rfl (Or.inl rfl)) pgs_nil))) (fun _ _ _ _ _ => pts_nil) (fun _ _ _ _ _ => pe_cmpR (show OpR _ _ (rLtT K) from op_ltT hr.units0) (pv 1) (pv 2) (nomark _))) pa_nil))))), fun hz => ?_⟩
    have hl := hz a _ hS
    rw [List.length_map] at hl
    have len0 : ps.length - 1 = min (ps.map V.ref).length ((ps.map V.ref).drop 1).length := by
      rw [List.length_drop, List.length_map]
      omega
    refine ⟨_, rfl, _, rfl, _, rfl, a, _, rfl, hS, fun p np => ?_⟩
    have hb : SqL K (upd H p (.lst (cutV (ps.map V.ref) (some 1) none))) p ((ps.map V.ref).drop 1) := by
      rw [← cut1]
      exact SqL.of upd_same
    have s1 := smu (o := .lst (cutV (ps.map V.ref) (some 1) none)) np
    generalize upd H p (.lst (cutV (ps.map V.ref) (some 1) none)) = H1 at hb s1 ⊢
    refine ⟨a, p, _, _, rfl, .inl ⟨s1.seq hS, hb, fun D hD => ?_⟩⟩
    refine lc_it (walk_zip len0) (fun i H' => Same H1 H' ∧ H' D = some (.lst ((upto HT.lexLt rs i).map V.bl))) ⟨smu hD, upd_same⟩ (fun i H' _ h => ⟨(s1.trans h.1).seq hS, h.1.seq hb⟩) ?_ ?_
    · rintro i x H2 H3 hi ⟨s2, h2⟩ ⟨Tp, y, z, rfl, nT, rfl, ey, ez⟩
      have ey : (ps.map V.ref)[i]? = some y := ey
      have ez : (List.drop 1 (ps.map V.ref))[i]? = some z := ez
      rw [List.getElem?_map] at ey
      rw [← List.map_drop, List.getElem?_map] at ez
      obtain ⟨y', ey2, rfl⟩ := Option.map_eq_some_iff.mp ey
      obtain ⟨z', ez2, rfl⟩ := Option.map_eq_some_iff.mp ez
      have ez3 : ps[i + 1]? = some z' := by
        rw [List.getElem?_drop] at ez2
        rw [Nat.add_comm]
        exact ez2
      have l1 : i < rs.length := by
        rw [hlen]
        omega
      have l2 : i + 1 < rs.length := by
        rw [hlen]
        omega
      have r1 := List.getElem?_eq_getElem l1
      have r2 := List.getElem?_eq_getElem l2
      have q1 := hrs i y' _ ey2 r1
      have q2 := hrs (i + 1) z' _ ez3 r2
      have s3 := smu (o := .tup [V.ref y', V.ref z']) nT
      have s4 : Same H (upd H2 Tp (.tup [V.ref y', V.ref z'])) := (s1.trans s2).trans s3
      refine ⟨Tp, _, rfl, SqT.of upd_same, rfl, _, _, rfl, _, _, rfl, rfl, rfl, yes_in ?_⟩
      refine ⟨_, rfl, _, rfl, _, _, _, _, rfl, rfl, sqt_same s4 q1, sqt_same s4 q2, _, s3 _ _ h2, ?_, fun b o e => ?_, ?_⟩
      · rw [List.length_map]
        unfold upto
        rw [List.length_take]
        omega
      · rw [upd_ne (ne_of_none e hD)]
        exact s3 _ _ (s2 _ _ e)
      · rw [upd_same, upto_succ r1 (by rw [List.getElem?_drop, Nat.add_comm]; exact r2), List.map_append]
        rfl
    · rintro H2 ⟨s2, h2⟩
      refine ⟨D, _, rfl, SqL.of h2, ?_⟩
      have e : upto HT.lexLt rs (ps.length - 1) = List.zipWith HT.lexLt rs (rs.drop 1) := List.take_of_length_le (by rw [List.length_zipWith, List.length_drop]; omega)
      rw [e]
      exact k H2 (s1.trans s2)
theorem sk_take {ds xs : List Int} {i : Nat} {x : Int} (h : xs[i]? = some x) : (sk ds xs).take (i + 1) = (sk ds xs).take i ++ [if ds.contains ((i : Nat) : Int) then -x else x] := by
  unfold sk
  rw [List.take_add_one, List.getElem?_map, List.getElem?_zipIdx, h]
  simp
theorem sk_len (ds xs : List Int) : (sk ds xs).length = xs.length := by
  unfold sk
  rw [List.length_map, List.length_zipIdx]
theorem flat_int (ns : List Int) : (ns.map V.int).all flatV = true := by
  rw [List.all_map]
  exact List.all_eq_true.mpr fun _ _ => rfl
theorem inV_int (ds : List Int) (i : Nat) : inV (.int (i : Int)) (ds.map V.int) = ds.contains ((i : Nat) : Int) := by
  unfold inV
  rw [List.any_map, List.contains_eq_any_beq]
  congr 1
  funext d
  show ((d : Int) == (i : Int)) = ((i : Int) == d)
  exact Bool.beq_comm
theorem ok_key {CX : CXT} {f : Addr} {fd : FuncData} (F : FnP K "sort_key" sKey f fd) (T : TG K mg) : FnOk P w K mg base CX 1 f fd ["row", "down"] (spKey K) := by
  have te := T.f "enumerate" (by decide +kernel)
  have tt := T.f "tuple" (by decide +kernel)
  refine F.ok scKey (fun vs H Q E h => ?_) (fun cdv A outer s H vs Q E hr h => ?_)
  · obtain ⟨a, b, xs, ds, rfl, _⟩ := h
    rfl
  · obtain ⟨a, b, xs, ds, rfl, hA, hB, k⟩ := h
    refine ⟨_, pss_sz (PSs.nox (pss_one (ps_ret (pe_callTy call_tuple_of (by rfl) tt (by decide +kernel) (pa_cons (pe_lc (own := [("at", 2), ("part", 3)]) (g := gTup K 2 (gCons (gName 2) (gCons (gName 3) gNil))) (tt := tYes) rfl scKey.nd (Tp.pi_enT (by rfl) te (pa_cons (pv 0) pa_nil))
        (blkOk_by (own := [("at", 2), ("part", 3)]) (N := nKey) (sc := defScope sKey) (by decide +kernel))
        (fun _ _ _ _ _ => pg_tup (by rfl) (pgs_cons (pg_name (i := 2) scKey.nd rfl (Or.inl rfl)) (pgs_cons (pg_name (i := 3) scKey.nd rfl (Or.inl rfl)) pgs_nil))) (fun _ _ _ _ _ => pts_nil)
        (fun _ _ _ _ _ => pe_ifExp (pt_cmpR (show OpR _ _ (rIn K false) from op_in_seq) (pv 2) (pv 1) (by rfl)) (pe_un un_neg (pv 3)) (pv 3))) pa_nil))))), fun hz => ?_⟩
    have hl := hz a _ hA
    rw [List.length_map] at hl
    refine ⟨_, rfl, a, _, rfl, hA, fun D hD => ?_⟩
    refine lc_it walk_enT (fun i H' => Same H H' ∧ H' D = some (.lst (((sk ds xs).take i).map V.int))) ⟨smu hD, upd_same⟩ (fun i H' _ h => sqt_same h.1 hA) ?_ ?_
    · rintro i x H2 H3 hi ⟨s2, h2⟩ ⟨Tp, y, z, rfl, nT, rfl, ey, ez⟩
      cases ey
      have ez : (xs.map V.int)[i]? = some z := ez
      rw [List.getElem?_map] at ez
      obtain ⟨z', ez2, rfl⟩ := Option.map_eq_some_iff.mp ez
      have s3 := smu (o := .tup [V.int (i : Int), V.int z']) nT
      have s4 : Same H (upd H2 Tp (.tup [V.int (i : Int), V.int z'])) := s2.trans s3
      have small : (((sk ds xs).take i).map V.int).length < sizeLine := by
        rw [List.length_map] at hi
        rw [List.length_map, List.length_take]
        omega
      refine ⟨Tp, _, rfl, SqT.of upd_same, rfl, _, _, rfl, _, _, rfl, rfl, rfl, yes_in ?_⟩
      refine ⟨_, rfl, _, rfl, b, _, rfl, .inr (sqt_same s4 hB), rfl, flat_int ds, _, rfl, ?_⟩
      have e1 := sk_take (ds := ds) ez2
      rw [if_neg Bool.false_ne_true, inV_int]
      cases hc : ds.contains ((i : Nat) : Int) with
      | true =>
        rw [hc, if_pos rfl] at e1
        refine iteT ⟨_, rfl, _, rfl, _, s3 _ _ h2, small, fun b o e => ?_, ?_⟩
        · rw [upd_ne (ne_of_none e hD)]
          exact s4 _ _ e
        · rw [upd_same, e1, List.map_append]
          rfl
      | false =>
        rw [hc, if_neg Bool.false_ne_true] at e1
        refine iteF ⟨_, rfl, _, s3 _ _ h2, small, fun b o e => ?_, ?_⟩
        · rw [upd_ne (ne_of_none e hD)]
          exact s4 _ _ e
        · rw [upd_same, e1, List.map_append]
          rfl
    · rintro H2 ⟨s2, h2⟩
      rw [List.length_map, show (sk ds xs).take xs.length = sk ds xs from List.take_of_length_le (by rw [sk_len]; exact Nat.le_refl _)] at h2
      refine ⟨D, _, rfl, .inl ⟨SqL.of h2, fun q nq => ?_⟩⟩
      exact k _ q (s2.trans (smu nq)) (s2.free nq) upd_same
end
end K01

/-! Such exceptions raised and caught in one def. -/
namespace Ex
open PySem PySem.Spec PySem.Calls PyProof.Rows L2
section
variable {X : Cx} {e : Expr} {te : TE} {f : Str} {pos : Pos} {C fI : Addr} {nid : String} {ml : List Value}
/-- raise e, e a new exception of such a class -/
theorem pmk_val (T : XC X.K C nid ml f fI) (hx : X.ex = []) (he : PE X e te) :
    PMk X e (fun σ H Q => te σ H fun x H1 => ∃ (a dx : Addr) (v : V), x = .ref a ∧ H1 a = some (exo a C (some dx)) ∧ H1 dx = some (exd dx [(f, v)]) ∧ Fr0 X.H_0 a ∧ Q (.ref C) (some dx) (delH H1 a)) := by
  intro pins s σ H Q I h
  refine wpAny_mono (he.run pins s σ H _ I h) (fun u s1 hu => ?_) fun _ _ x => x
  obtain ⟨v, H1, I1, r1, a, dx, y, rfl, ha, hd, h0, q⟩ := hu
  cases r1
  obtain ⟨t1, ho⟩ := exo_at I1.hok ha
  obtain ⟨G, gs, gn, J⟩ := I1.untrack ha h0 hx
  exact ⟨a, _, _, { s1 with heap := G }, delH H1 a, .ref C, some dx, rfl, J, gs, gn, ho, ⟨rfl, rfl⟩, rfl, rfl, delH_same, rfl, I1.bare, raises_own T.exC T.tyC, q⟩
/-- n.f, n the exception that the suite holds -/
def tSfld (C a : Addr) (f : Str) (cls : Value) (d : Option Addr) (te : TE) : TE := fun σ H Q => te σ H fun x H1 => x = .ref a ∧ cls = .ref C ∧ ∃ (dd : Addr) (v : V), d = some dd ∧ H1 dd = some (exd dd [(f, v)]) ∧ Q v H1
theorem pe_sfld {a : Addr} {oe : Obj} {cls : Value} {d : Option Addr} {pn : List (Addr × Obj)} (T : XC X.K C nid ml f fI) (hz : Zc cls d oe) (hf : ∃ vs, oe.data = .fields vs) (he : PE (X.suite a ((a, oe) :: pn)) e te)
    (hb : attributeBase e f X.env (eval e X.env) = eval e X.env := by rfl) : PE (X.suite a ((a, oe) :: pn)) (.Attribute e f pos) (tSfld C a f cls d te) := by
  refine ⟨fun pins s σ H Q I h => ?_⟩
  refine attr_of hb (thn (he.run pins s σ H _ I h) fun u s1 hh => ?_)
  obtain ⟨x, H1, I1, rx, ex, ec, dd, v, ed, ea, q⟩ := hh
  subst ex
  obtain rfl : u = Value.ref a := rx
  subst ec
  subst ed
  obtain ⟨ha, _⟩ := I1.pin (a, oe) (List.mem_append_left _ List.mem_cons_self)
  obtain ⟨vs, hd⟩ := hf
  obtain ⟨mA, hns, rel⟩ := exd_at I1.hok ea
  obtain ⟨od, hod, hl⟩ := lookIn_ns hns
  have l : List.lookup f [(f, v)] = some v := by simp [List.lookup]
  obtain ⟨w, hw, rw'⟩ := RelO.some_of (v := v) (o := mA f) (by rw [← l]; exact rel f)
  have J : PySem.W.InstAt s1.heap a oe C (some od) := by
    refine ⟨ha, hz.1, ?_, ?_⟩
    · unfold PySem.W.notCls
      rw [hd] <;> rfl
    · rw [hz.2]
      exact hod
  exact HandSPX.exc_get I1.kIn J T.ga T.gg T.exC (PySem.W.findObj_own T.hdC T.noF rfl (by rw [hl, hw])) (handed_of rw') ⟨v, H1, I1.tok _, rw', q⟩
/-- isinstance(n, c), n the exception that the suite holds, without a dict -/
def rIS (K : PySem.W.Frag) (a : Addr) (cls : Value) (d : Option Addr) : List V → Hp → VK → Prop := fun xs H Q => ∃ (c : V) (u : Value) (D : Addr) (b : Bool), xs = [.ref a, c] ∧ ClsV c u ∧ cls = .ref D ∧ d = none ∧ IC K D ∧ PySem.W.kitOne K (.ref D) u = some b ∧ Q (.bl b) H
theorem call_isS {a : Addr} {oe : Obj} {cls : Value} {d : Option Addr} {pn : List (Addr × Obj)} (hz : Zc cls d oe) (hf : ∃ vs, oe.data = .fields vs) : CallR (X.suite a ((a, oe) :: pn)) (.builtin "isinstance") (rIS X.K a cls d) := by
  intro pins s σ H xs us Q I r h
  obtain ⟨c, cv, D, b, rfl, hc, ec, ed, T, e, q⟩ := h
  subst ec
  subst ed
  obtain ⟨u1, u2, rfl, r1, r2⟩ := vals2 r
  have e2 := hc.eq r2
  subst e2
  obtain rfl : u1 = Value.ref a := r1
  obtain ⟨hget, _⟩ := I.pin (a, oe) (List.mem_append.mpr (.inl List.mem_cons_self))
  obtain ⟨vs, hv⟩ := hf
  have J : PySem.W.InstAt s.heap a oe D none := by
    obtain ⟨oc, od, oda, osl⟩ := oe
    obtain ⟨h1, h2⟩ := hz
    dsimp only at h1 h2 hv
    subst h1 h2 hv
    exact ⟨hget, rfl, rfl, trivial⟩
  exact PySem.W.kia_one (PySem.W.kitx_exc T.cl T.ga T.gg T.sub T.kl T.gt T.tk T.mo) I.kIn J e (fun z => nomatch z) fun tk => ⟨.bl b, H, I.tok tk, rfl, q⟩
end
end Ex

/-! check_rows, check_down, is_row. -/
namespace K01
open PySem PySem.Spec PyProof.Rows L2 Dr Ex Rp
open He (ga ma)
/-- raise C(..), an exception of such a class -/
def tRs (H0 : Hp) (C : Addr) (f : Str) (te : TE) (W : WX) : TS := fun _ σ H => te σ H fun x H1 => ∃ (a dx : Addr) (v : V), x = .ref a ∧ H1 a = some (exo a C (some dx)) ∧ H1 dx = some (exd dx [(f, v)]) ∧ Fr0 H0 a ∧ W (.ref C) (some dx) σ (delH H1 a)
theorem ps_rs {X : Cx} {W : WX} {e : Expr} {te : TE} {pos : Pos} {C fI : Addr} {nid : String} {ml : List Value} {f : Str} (hc : X.calm = true) (tk : Takes X W) (T : XC X.K C nid ml f fI) (hx : X.ex = []) (he : PE X e te) : PS X (.Raise (some e) none pos) (tRs X.H_0 C f te W) := by
  have h := ps_raise (pos := pos) hc tk (pmk_val T hx he)
  refine ⟨fun pins s σ H D I q => h.run pins s σ H D I ?_⟩
  exact q
theorem flown {H : Hp} {a dx C : Addr} {f : Str} {v : V} (ha : H a = none) (hd : upd H a (exo a C none) dx = none) (ne : dx ≠ a) :
    Same H (delH (upd (upd (upd H a (exo a C none)) dx (exd dx [(f, v)])) a (exo a C (some dx))) a) ∧ delH (upd (upd (upd H a (exo a C none)) dx (exd dx [(f, v)])) a (exo a C (some dx))) a dx = some (exd dx [(f, v)]) := by
  obtain ⟨s, _⟩ := made (f := f) (v := v) ha hd ne
  refine ⟨fun b o e => ?_, ?_⟩
  · rw [delH_ne (ne_of_none e ha)]
    exact s b o e
  · rw [delH_ne ne, upd_ne ne, upd_same]
def spIni (C : Addr) (f : Str) : Sp := fun vs H Q _ => ∃ (a : Addr) (v : V), vs = [.ref a, v] ∧ H a = some (exo a C none) ∧ ∀ dx, H dx = none → dx ≠ a → Q .non (upd (upd H dx (exd dx [(f, v)])) a (exo a C (some dx)))
theorem iniB_ok {K : PySem.W.Frag} {b i : String} (h : Hx.iniB K b i = true) : PySem.W.findCls K (.type b) (.type "type") "__init__" = some (.val (.builtin i)) := by
  unfold Hx.iniB at h
  split at h
  · rename_i j e
    rw [e, beq_iff_eq.mp h]
  · cases h
abbrev FnM (K : PySem.W.Frag) (q : Str) (st : Stmt) (f : Addr) (fd : FuncData) : Prop := FunD K "__init__" q (defArgs st) (defBody st) (defScope st) [] [] f fd
/-- what the head tells of the errors -/
structure EF (K : PySem.W.Frag) : Prop where
  ir : IC K (ga K "InvalidRow")
  io : IC K (ga K "InvalidOperation")
  mr : PySem.W.excIn K (ga K "InvalidRow") He.veBase "ValueError.__new__" = true ∧ PySem.W.keepIn K (.ref (ga K "InvalidRow")) = true ∧ PySem.W.typeIn K (.ref (ga K "InvalidRow")) = some (.type "type")
  mo : PySem.W.excIn K (ga K "InvalidOperation") He.veBase "ValueError.__new__" = true ∧ PySem.W.keepIn K (.ref (ga K "InvalidOperation")) = true ∧ PySem.W.typeIn K (.ref (ga K "InvalidOperation")) = some (.type "type")
  n : XC K (ga K "InvalidNumber") "IndexError.__new__" mlI "value" (ma K (ga K "InvalidNumber") "__init__")
  ni : Hx.iniB K "IndexError" "IndexError.__init__" = true
theorem sg_it {J : It} {n : Nat} {G : Hp → Prop} {Y : Nat → Hp → V → Hp → Prop} (wk : Walk J n G Y) {new : Addr → HO} {r : V → List V → Hp → VK → Prop} {g : L2.TG} {tt : TT} {te : TE} {ow : List Nat} {σ : L2.St} {H1 : Hp} {D : Addr} {Qd : Hp → Prop} (Pv : Nat → Hp → Prop)
    (h0 : Pv 0 (upd H1 D (new D))) (hG : ∀ i H, i ≤ n → Pv i H → G H)
    (hs : ∀ i x H H', i < n → Pv i H → Y i H x H' → g x (wipe σ ow) H' fun τ H2 => wipe τ ow = wipe σ ow ∧ tt τ H2 fun b H3 => if b = true then te τ H3 fun y H4 => r (.ref D) [y] H4 fun _ H5 => Pv (i + 1) H5 else Pv (i + 1) H3) (hd : ∀ H, Pv n H → Qd H) :
    ∃ W : Nat → Nat → Hp → Prop, (∃ m, W 0 m (upd H1 D (new D))) ∧ ∀ i m H, W i m H → (J.stop i H ∧ Qd H) ∨
      (J.go i H ∧ ∃ Nx : Hp → Prop, (∀ H', Nx H' → ∃ m', m' < m ∧ W (i + 1) m' H') ∧ ∀ x H', J.yld i H x H' → g x (wipe σ ow) H' fun τ H2 => wipe τ ow = wipe σ ow ∧ tt τ H2 fun b H3 => if b = true then te τ H3 fun y H4 => r (.ref D) [y] H4 fun _ H5 => Nx H5 else Nx H3) := by
  refine ⟨fun i m H => m = n - i ∧ i ≤ n ∧ Pv i H, ⟨n, by simp, Nat.zero_le _, h0⟩, ?_⟩
  rintro i m H ⟨rfl, hi, p⟩
  have q := hG i H hi p
  by_cases hlt : i < n
  · exact .inr ⟨wk.goes i H hlt q, Pv (i + 1), fun H' p' => ⟨n - (i + 1), by omega, rfl, hlt, p'⟩, fun x H' y => hs i x H H' hlt p (wk.yields i H x H' hlt q y)⟩
  · have e : i = n := by omega
    subst e
    exact .inl ⟨wk.stops H q, hd H p⟩
/-! ### the lengths -/
theorem wide_all {lens : List Nat} {m : Nat} (h : ∀ n ∈ lens, n = m) (hn : lens ≠ []) : wideOk lens = decide (m ≤ 10) := by
  cases lens with
  | nil => exact absurd rfl hn
  | cons n r =>
    have e := h n List.mem_cons_self
    have a : (r.all fun k => k == n) = true := List.all_eq_true.mpr fun k hk => by
      rw [h k (List.mem_cons_of_mem _ hk), e]
      exact beq_self_eq_true m
    show ((r.all fun k => k == n) && decide (n ≤ 10)) = _
    rw [a, e] <;> rfl
theorem wide_two {lens : List Nat} {a b : Nat} (h1 : a ∈ lens) (h2 : b ∈ lens) (ne : a ≠ b) : wideOk lens = false := by
  cases lens with
  | nil => cases h1
  | cons n r =>
    have key : ∀ k, k ∈ n :: r → k ≠ n → (r.all fun k => k == n) = false := fun k hk nk => by
      rcases List.mem_cons.mp hk with z | z
      · exact absurd z nk
      · cases e : r.all fun k => k == n with
        | false => rfl
        | true =>
          have q := List.all_eq_true.mp e k z
          exact absurd (beq_iff_eq.mp q) nk
    show ((r.all fun k => k == n) && decide (n ≤ 10)) = false
    by_cases ea : a = n
    · rw [key b h2 (fun z => ne (ea.trans z.symm))] <;> rfl
    · rw [key a h1 ea] <;> rfl
/-- len(a list or a tuple) -/
def rLenS (K : PySem.W.Frag) : List V → Hp → VK → Prop := fun xs H Q => ∃ p ys, xs = [V.ref p] ∧ (SqL K H p ys ∨ SqT K H p ys) ∧ Q (V.int (ys.length : Nat)) H
def spChkR (K : PySem.W.Frag) : Sp := fun vs H Q E => ∃ (v : V) (d : PyData), vs = [v] ∧ Dt K H v d ∧ (its d).length < 64 ∧ ∀ H', Same H H' → if rowsOk d = true then Q .non H' else E (.ref (ga K "InvalidRow")) none H'
def spChkD (K : PySem.W.Frag) : Sp := fun vs H Q E => ∃ (v : V) (d : PyData), vs = [v] ∧ Dt K H v d ∧ ∀ H', Same H H' → if downOk d = true then Q .non H' else E (.ref (ga K "InvalidOperation")) none H'
def sizeOk (d : PyData) : Bool := isI d && (decide (0 ≤ iv d) && decide (iv d ≤ 10))
def spIsRow (K : PySem.W.Frag) : Sp := fun vs H Q E => ∃ (v u : V) (z d : PyData), vs = [v, u] ∧ Dt K H v z ∧ Dt K H u d ∧
  ∀ H', Same H H' → if sizeOk z = true then Q (.bl (areI d && decide (((its d).length : Int) = iv z))) H' else ∀ dx, H' dx = some (exd dx [("value", v)]) → E (.ref (ga K "InvalidNumber")) (some dx) H'
abbrev nChkR : List Str := ["rows", "sizes", "row"]
abbrev nChkD : List Str := ["down", "at"]
abbrev nIsRow : List Str := ["size", "value"]
theorem scChkR : FnScope nChkR ["rows"] (defScope sChkR) := ⟨rfl, rfl, rfl, by decide +kernel, rfl, by decide +kernel, by decide +kernel⟩
theorem scChkD : FnScope nChkD ["down"] (defScope sChkD) := ⟨rfl, rfl, rfl, by decide +kernel, rfl, by decide +kernel, by decide +kernel⟩
theorem scIsRow : FnScope nIsRow ["size", "value"] (defScope sIsRow) := ⟨rfl, rfl, rfl, by decide +kernel, rfl, by decide +kernel, by decide +kernel⟩
section
variable {P : Program} {w : World} {K : PySem.W.Frag} {mg : Str → Option Value} {base : Heap}
theorem ok_iN {fI : Addr} {fd : FuncData} (F : FnM K "InvalidNumber.__init__" iN fI fd) (T : TG K mg) (M : XC K (ga K "InvalidNumber") "IndexError.__new__" mlI "value" fI) (v : Hx.iniB K "IndexError" "IndexError.__init__" = true) : FnOk P w K mg base CX0 1 fI fd ["self", "value"] (spIni (ga K "InvalidNumber") "value") := by
  have tb := T.f "IndexError" (by decide +kernel)
  have sc : FnScope ["self", "value"] ["self", "value"] (defScope iN) := ⟨rfl, rfl, rfl, by decide +kernel, rfl, by decide +kernel, by decide +kernel⟩
  refine F.ok sc (fun vs H Q E h => ?_) (fun cdv A outer s H vs Q E hr h => ?_)
  · obtain ⟨a, v, rfl, _⟩ := h
    rfl
  · obtain ⟨a, y, rfl, ha, k⟩ := h
    refine ⟨_, PSs.nox (pss_cons (ps_expr (pe_binit bI M rfl tb (by decide +kernel) (by kernel_rfl) (by decide +kernel) (by decide +kernel) (iniB_ok v) (pa_cons (pv 0) (pa_cons pe_str pa_nil))))
      (pss_one (ps_xst bI M (pv 0) (pv 1)))), ?_⟩
    exact ⟨_, rfl, a, _, rfl, (by show 1 ≤ 1000; decide), ha, _, rfl, _, rfl, a, rfl, ha, fun dx n ne => k dx n ne⟩
theorem ok_chkR {f f1 f2 : Addr} {fd fd1 fd2 : FuncData} (F : FnP K "check_rows" sChkR f fd) (F1 : FnP K "is_integer" sIsI f1 fd1) (F2 : FnP K "are_integers" sAre f2 fd2) (T : TG K mg) (M : EF K) (g1 : mg "is_integer" = some (.ref f1)) (g2 : mg "are_integers" = some (.ref f2)) :
    FnOk P w K mg base (L2.CX P w) 3 f fd ["rows"] (spChkR K) := by
  have ti := T.f "isinstance" (by decide +kernel)
  have tt := T.f "tuple" (by decide +kernel)
  have ta := T.f "all" (by decide +kernel)
  have ts := T.f "sorted" (by decide +kernel)
  have tl := T.f "len" (by decide +kernel)
  have gR := T.g "InvalidRow" (by decide +kernel)
  obtain ⟨tkm, gM⟩ := T.m
  have G2 : FnOk P w K mg base CX0 2 f2 fd2 ["value"] (spAre K) := ok_are F2 F1 T g1
  have b2 : Binds K fd2 ["value"] [] := F2.bindsN fun _ _ _ _ _ _ us hl => match us, hl with | [_], _ => rfl
  refine F.ok scChkR (fun vs H Q E h => ?_) (fun cdv A outer s H vs Q E hr h => ?_)
  · obtain ⟨v, d, rfl, _⟩ := h
    rfl
  · obtain ⟨v, d, rfl, hd, h64, k⟩ := h
    refine ⟨_, pss_sz (pss_cons (ps_if (PW.pt (pw_or (pt_not (pt_val (pe_callB call_isi (by rfl) ti (by decide +kernel) (pa_cons (pv 0) (pa_cons (p_bty (n := "tuple") tt (by decide +kernel)) pa_nil)))))
        (pw_or1 (pt_not (pt_val (pe_callB (cr_all rfl) (by rfl) ta (by decide +kernel) (pa_cons (pe_lc (own := [("row", 2)]) (g := gName 2) (tt := tYes) rfl scChkR.nd (pi_tup (pv 0)) (blkOk_by (own := [("row", 2)]) (N := nChkR) (sc := defScope sChkR) (by decide +kernel))
          (fun _ _ _ _ _ => pg_name (i := 2) scChkR.nd rfl (Or.inl rfl)) (fun _ _ _ _ _ => pts_nil) (fun _ _ _ _ _ => pe_call G2 hr rfl g2 F2.kp b2 .nil pass0 (pa_cons (pv 2) pa_nil))) pa_nil)))))))
        (pss_one (ps_raise rfl (takes_of rfl rfl rfl rfl) (pmk_own PySem.F.excBase_ValueError M.mr.1 gR M.mr.2.1 (raises_own M.ir.sub M.mr.2.2) rfl))) pss_nil)
      (pss_cons (ps_set (i := 1) scChkR.nd rfl (Or.inl rfl) (pe_callB (cr_sortedSet rfl) (by rfl) ts (by decide +kernel) (pa_cons (Tp.pe_si (own := [("row", 2)]) (g := gName 2) (tt := tYes) rfl scChkR.nd (pi_tup (pv 0)) (blkOk_by (own := [("row", 2)]) (N := nChkR) (sc := defScope sChkR) (by decide +kernel))
          (fun _ _ _ _ _ => pg_name (i := 2) scChkR.nd rfl (Or.inl rfl)) (fun _ _ _ _ _ => pts_nil) (fun _ _ _ _ _ => pe_callB (show CallR _ (.builtin "len") (rLenS K) from call_len_seq) (by rfl) tl PySem.boot_len (pa_cons (pv 2) pa_nil))) pa_nil)))
      (pss_cons (ps_if (pt_cmpR op_gt (pe_callB call_len_seq (by rfl) tl PySem.boot_len (pa_cons (pv 1) pa_nil)) pe_int (nomark _))
        (pss_one (ps_raise rfl (takes_of rfl rfl rfl rfl) (pmk_own PySem.F.excBase_ValueError M.mr.1 gR M.mr.2.1 (raises_own M.ir.sub M.mr.2.2) rfl))) pss_nil)
      (pss_one (ps_if (PW.pt (pw_and (pt_truth (pv 1) (by intro _; rfl)) (pw_and1 (pt_cmpR op_gt (pe_ix ix_list (pv 1) pe_int (fun _ _ => rfl)) (pe_glob (v := .int 10) rfl gM ⟨_, rfl⟩) (nomark _)))))
        (pss_one (ps_raise rfl (takes_of rfl rfl rfl rfl) (pmk_own PySem.F.excBase_ValueError M.mr.1 gR M.mr.2.1 (raises_own M.ir.sub M.mr.2.2) rfl))) pss_nil))))), fun hz => ?_⟩
    refine ⟨_, rfl, _, _, _, _, _, rfl, .ty _, hd.ty, kit_tup d, _, rfl, ?_⟩
    have bad : ∀ H', Same H H' → rowsOk d = false → E (.ref (ga K "InvalidRow")) none H' := fun H' s' e => by
      have z := k H' s'
      rw [if_neg (by rw [e]; exact Bool.false_ne_true)] at z
      exact z
    have good : ∀ H', Same H H' → rowsOk d = true → Q .non H' := fun H' s' e => by
      have z := k H' s'
      rw [if_pos e] at z
      exact z
    cases d with
    | tuple ds =>
      cases hd with
      | tup h1 h2 =>
        rename_i a xs
        refine iteF ?_
        have lx : ds.length = xs.length := DtAll.len h2
        have h64 : ds.length < 64 := h64
        refine ⟨_, rfl, a, rfl, ⟨xs, h1⟩, fun D hD => lc_tup (xs := xs) (fun i H' => Same H H' ∧ H' D = some (.lst (((ds.take i).map areI).map V.bl))) ⟨smu hD, upd_same⟩ (fun i H' _ h => sqt_same h.1 h1) ?_ ?_⟩
        · rintro i x H' hx ⟨s1, hL⟩
          obtain ⟨d, e1, e2⟩ := dt_all_get h2 hx
          refine ⟨rfl, yes_in ?_⟩
          refine ⟨_, rfl, x, d, rfl, Dt.same s1 d _ e2, fun H2 s2 => ⟨_, s2 _ _ hL, ?_, fun b o e => ?_, ?_⟩⟩
          · have l1 := (List.getElem?_eq_some_iff.mp hx).choose
            have l2 := hz a xs h1
            rw [List.length_map, List.length_map, List.length_take]
            omega
          · rw [upd_ne (ne_of_none e hD)]
            exact s2 _ _ (s1 b o e)
          · rw [upd_same, List.take_add_one, e1]
            simp
        rintro H1 ⟨s1, hL⟩
        rw [← lx, List.take_length] at hL
        refine ⟨D, (ds.map areI), rfl, SqL.of hL, _, rfl, ?_⟩
        have eall : (ds.map areI).all id = ds.all areI := by rw [List.all_map] <;> rfl
        rw [eall]
        cases hall : ds.all areI with
        | false =>
          refine iteT (bad H1 s1 ?_)
          show (ds.all areI && _) = false
          rw [hall] <;> rfl
        | true =>
          refine iteF ?_
          have okd : rowsOk (.tuple ds) = wideOk (ds.map fun d => (its d).length) := by
            show (ds.all areI && _) = _
            rw [hall] <;> rfl
          generalize hlens : (ds.map fun d => (its d).length) = lens at okd
          have llen : lens.length = xs.length := by rw [← hlens, List.length_map, lx]
          refine ⟨_, rfl, a, rfl, ⟨xs, sqt_same s1 h1⟩, fun B hB => sg_it (walk_tup (xs := xs)) (new := fun D => SetO w D (fun _ => false) 0) (fun i H' => Same H1 H' ∧ ∃ (S : Int → Bool) (n : Nat), H' B = some (SetO w B S n) ∧ n ≤ i ∧ ∀ z : Int, S z = true ↔ ∃ m ∈ lens.take i, z = ((m : Nat) : Int))
            ⟨smu hB, fun _ => false, 0, upd_same, Nat.le_refl _, fun z => by simp⟩ (fun i H' _ h => sqt_same (s1.trans h.1) h1) ?_ ?_⟩
          · rintro i x H2 H3 hi ⟨s2, S, n, hS, hn, hm⟩ ⟨rfl, hx⟩
            obtain ⟨d, e1, e2⟩ := dt_all_get h2 hx
            have hd : areI d = true := List.all_eq_true.mp hall d (List.mem_of_getElem? e1)
            obtain ⟨p, rfl, hp⟩ := tup_of (Dt.same (s1.trans s2) d _ e2) hd
            have elen : lens[i]? = some (its d).length := by rw [← hlens, List.getElem?_map, e1]; rfl
            refine ⟨rfl, yes_in ?_⟩
            refine ⟨_, rfl, p, _, rfl, .inr hp, B, _, S, n, rfl, rfl, hS, ?_, fun b o e => ?_, _, _, upd_same, ?_, fun z => ?_⟩
            · have : n + 1 < 100 := by omega
              exact Nat.lt_trans this (by decide)
            · rw [upd_ne (ne_of_none e hB)]
              exact s2 _ _ e
            · split <;> omega
            · rw [List.length_map, show (ivs d).length = (its d).length from List.length_map _, List.take_add_one, elen]
              simp only [Bool.or_eq_true, decide_eq_true_eq, hm z, List.mem_append, Option.toList_some, List.mem_singleton]
              constructor
              · rintro (⟨m, h1, h2⟩ | h)
                · exact ⟨m, .inl h1, h2⟩
                · exact ⟨_, .inr rfl, h⟩
              · rintro ⟨m, h1 | h1, h2⟩
                · exact .inl ⟨m, h1, h2⟩
                · exact .inr (by rw [h2, h1])
          rintro H2 ⟨s2, S, n, hS, hn, hm⟩
          rw [← llen, List.take_length] at hm
          refine ⟨B, S, n, rfl, hS, by omega, fun ns q asc mem ln nq => ?_⟩
          have s12 := s1.trans s2
          have sq := s12.trans (smu (o := .lst (ns.map V.int)) nq)
          have hq := upd_same (H := H2) (a := q) (o := .lst (ns.map V.int))
          generalize upd H2 q (.lst (ns.map V.int)) = H3 at sq hq ⊢
          have mem2 : ∀ z : Int, z ∈ ns ↔ ∃ m ∈ lens, z = ((m : Nat) : Int) := fun z => (mem z).trans (hm z)
          refine ⟨_, rfl, q, _, rfl, .inl (SqL.of hq), _, _, rfl, rfl, _, rfl, ?_⟩
          match ns, asc, mem2, hq with
          | [], _, mem2, hq =>
            have e0 : lens = [] := by
              cases lens with
              | nil => rfl
              | cons m r => exact absurd ((mem2 m).mpr ⟨m, List.mem_cons_self, rfl⟩) (by simp)
            refine iteF ⟨_, rfl, false, .inl ⟨_, SqL.of hq, rfl⟩, iteF ?_⟩
            exact good H3 sq (by rw [okd, e0]; rfl)
          | [m1], _, mem2, hq =>
            obtain ⟨m, hm1, em⟩ := (mem2 m1).mp List.mem_cons_self
            have ew : wideOk lens = decide (m ≤ 10) := wide_all (fun n hn => by
              have z := (mem2 ((n : Nat) : Int)).mpr ⟨n, hn, rfl⟩
              rw [List.mem_singleton, em] at z
              exact Int.ofNat.inj z) (fun z => by rw [z] at hm1; cases hm1)
            refine iteF ⟨_, rfl, true, .inl ⟨_, SqL.of hq, rfl⟩, iteT ?_⟩
            refine ⟨_, rfl, q, _, _, V.int m1, rfl, rfl, SqL.of hq, atI_nat (j := 0) rfl, _, _, rfl, rfl, _, rfl, ?_⟩
            by_cases hle : m ≤ 10
            · refine ite2 (fun hc => ?_) fun _ => good H3 sq (by rw [okd, ew, decide_eq_true hle])
              have := of_decide_eq_true hc
              omega
            · refine ite2 (fun _ => bad H3 sq (by rw [okd, ew, decide_eq_false hle])) fun hc => ?_
              have : ¬ ((10 : Int) < m1) := fun z => hc (decide_eq_true z)
              omega
          | m1 :: m2 :: r, asc, mem2, hq =>
            obtain ⟨a1, ha1, ea1⟩ := (mem2 m1).mp List.mem_cons_self
            obtain ⟨a2, ha2, ea2⟩ := (mem2 m2).mp (List.mem_cons_of_mem _ List.mem_cons_self)
            have lt : m1 < m2 := (List.pairwise_cons.mp asc).1 m2 List.mem_cons_self
            have ew : wideOk lens = false := wide_two ha1 ha2 (fun z => by subst z; omega)
            refine ite2 (fun _ => bad H3 sq (by rw [okd, ew])) fun hc => ?_
            refine absurd (decide_eq_true ?_) hc
            simp only [List.length_map, List.length_cons]
            omega
    | none => exact iteT (bad H (Same.refl H) rfl)
    | bool b => exact iteT (bad H (Same.refl H) rfl)
    | int i => exact iteT (bad H (Same.refl H) rfl)
    | str x => exact iteT (bad H (Same.refl H) rfl)
    | list ds => exact iteT (bad H (Same.refl H) rfl)
    | dict ds => exact iteT (bad H (Same.refl H) rfl)
end
end K01

namespace K01
open PySem PySem.Spec PyProof.Rows L2 Dr Ex Rp
open He (ga ma)
theorem ite_yes {c : Bool} {A B : Prop} (h : if c = true then A else B) (e : c = true) : A := by
  rw [if_pos e] at h
  exact h
theorem ite_no {c : Bool} {A B : Prop} (h : if c = true then A else B) (e : c = false) : B := by
  rw [if_neg (by rw [e]; exact Bool.false_ne_true)] at h
  exact h
theorem inRange_take {xs : List Int} {i : Nat} {x : Int} (h : xs[i]? = some x) : ((xs.take (i + 1)).map fun x => decide (0 ≤ x) && decide (x < 10)) = ((xs.take i).map fun x => decide (0 ≤ x) && decide (x < 10)) ++ [decide (0 ≤ x) && decide (x < 10)] := by
  rw [List.take_add_one, h]
  simp
section
variable {P : Program} {w : World} {K : PySem.W.Frag} {mg : Str → Option Value} {base : Heap}
theorem ok_chkD {f f1 f2 f3 : Addr} {fd fd1 fd2 fd3 : FuncData} (F : FnP K "check_down" sChkD f fd) (F1 : FnP K "is_integer" sIsI f1 fd1) (F2 : FnP K "are_integers" sAre f2 fd2) (F3 : FnP K "is_ascending" sAsc f3 fd3) (T : TG K mg) (M : EF K)
    (g1 : mg "is_integer" = some (.ref f1)) (g2 : mg "are_integers" = some (.ref f2)) (g3 : mg "is_ascending" = some (.ref f3)) : FnOk P w K mg base (L2.CX P w) 3 f fd ["down"] (spChkD K) := by
  have ta := T.f "all" (by decide +kernel)
  have gO := T.g "InvalidOperation" (by decide +kernel)
  obtain ⟨tkm, gM⟩ := T.m
  have G2 : FnOk P w K mg base CX0 2 f2 fd2 ["value"] (spAre K) := ok_are F2 F1 T g1
  have b2 : Binds K fd2 ["value"] [] := F2.bindsN fun _ _ _ _ _ _ us hl => match us, hl with | [_], _ => rfl
  have G3 : FnOk P w K mg base CX0 1 f3 fd3 ["values"] (spAscT K) := ok_ascT F3 T
  have b3 : Binds K fd3 ["values"] [] := F3.bindsN fun _ _ _ _ _ _ us hl => match us, hl with | [_], _ => rfl
  refine F.ok scChkD (fun vs H Q E h => ?_) (fun cdv A outer s H vs Q E hr h => ?_)
  · obtain ⟨v, d, rfl, _⟩ := h
    rfl
  · obtain ⟨v, d, rfl, hd, k⟩ := h
    have hr1 : Room 1 (A.deeper (envOfC "check_down" (defScope sChkD) s.heap.objs.size f cdv)) := hr.mono (by decide)
    refine ⟨_, pss_sz (pss_cons (ps_if (PW.pt (pw_or (pt_not (pt_val (pe_call G2 hr rfl g2 F2.kp b2 .nil pass0 (pa_cons (pv 0) pa_nil)))) (pw_or1 (pt_not (pt_val (pe_call G3 hr1 rfl g3 F3.kp b3 .nil pass0 (pa_cons (pv 0) pa_nil)))))))
        (pss_one (ps_raise rfl (takes_of rfl rfl rfl rfl) (pmk_own PySem.F.excBase_ValueError M.mo.1 gO M.mo.2.1 (raises_own M.io.sub M.mo.2.2) rfl))) pss_nil)
      (pss_one (ps_if (pt_not (pt_val (pe_callB (cr_all rfl) (by rfl) ta (by decide +kernel) (pa_cons (pe_lc (own := [("at", 1)]) (g := gName 1) (tt := tYes) rfl scChkD.nd (pi_tup (pv 0)) (blkOk_by (own := [("at", 1)]) (N := nChkD) (sc := defScope sChkD) (by decide +kernel))
          (fun _ _ _ _ _ => pg_name (i := 1) scChkD.nd rfl (Or.inl rfl)) (fun _ _ _ _ _ => pts_nil) (fun _ _ _ _ _ => pe_chain op_le op_lt pe_int (pv 1) (pe_glob (v := .int 10) rfl gM ⟨_, rfl⟩))) pa_nil))))
        (pss_one (ps_raise rfl (takes_of rfl rfl rfl rfl) (pmk_own PySem.F.excBase_ValueError M.mo.1 gO M.mo.2.1 (raises_own M.io.sub M.mo.2.2) rfl))) pss_nil))), fun hz => ?_⟩
    have bad : ∀ H', Same H H' → downOk d = false → E (.ref (ga K "InvalidOperation")) none H' := fun H' s' e => ite_no (k H' s') e
    have good : ∀ H', Same H H' → downOk d = true → Q .non H' := fun H' s' e => ite_yes (k H' s') e
    refine ⟨_, rfl, v, d, rfl, hd, fun H1 s1 => ⟨_, rfl, ?_⟩⟩
    cases ha : areI d with
    | false => exact iteT (bad H1 s1 (by unfold downOk; rw [ha] <;> rfl))
    | true =>
      obtain ⟨a, rfl, hS⟩ := tup_of hd ha
      refine iteF ?_
      refine ⟨_, rfl, a, ivs d, rfl, sqt_same s1 hS, fun H2 s2 => ⟨_, rfl, ?_⟩⟩
      have s12 := s1.trans s2
      cases hb : asc (ivs d) with
      | false => exact iteT (bad H2 s12 (by unfold downOk; rw [ha, hb] <;> rfl))
      | true =>
        refine iteF ?_
        have hl := hz a _ hS
        rw [List.length_map] at hl
        refine ⟨_, rfl, a, rfl, ⟨_, sqt_same s12 hS⟩, fun D hD => lc_tup (xs := (ivs d).map V.int) (fun i H' => Same H2 H' ∧ H' D = some (.lst ((((ivs d).take i).map fun x => decide (0 ≤ x) && decide (x < 10)).map V.bl))) ⟨smu hD, upd_same⟩ (fun i H' _ h => sqt_same (s12.trans h.1) hS) ?_ ?_⟩
        · rintro i x H' hx ⟨s3, hL⟩
          rw [List.getElem?_map] at hx
          obtain ⟨z, ez, rfl⟩ := Option.map_eq_some_iff.mp hx
          have lt := (List.getElem?_eq_some_iff.mp ez).choose
          have e1 := inRange_take ez
          have small : ((((ivs d).take i).map fun x => decide (0 ≤ x) && decide (x < 10)).map V.bl).length < sizeLine := by
            rw [List.length_map, List.length_map, List.length_take]
            omega
          have kk : ∀ o : HO, Same H2 (upd H' D o) := fun o b u e => by
            rw [upd_ne (ne_of_none e hD)]
            exact s3 b u e
          refine ⟨rfl, yes_in ?_⟩
          refine ⟨_, rfl, _, _, rfl, rfl, _, rfl, ?_⟩
          by_cases h0 : (0 : Int) ≤ z
          · refine ite2 (fun _ => ⟨_, _, rfl, rfl, _, hL, small, kk _, ?_⟩) fun c => absurd (decide_eq_true h0) c
            rw [upd_same, e1, List.map_append, decide_eq_true h0]
            rfl
          · refine ite2 (fun c => absurd (of_decide_eq_true c) h0) fun _ => ⟨_, hL, small, kk _, ?_⟩
            rw [upd_same, e1, List.map_append, decide_eq_false h0]
            rfl
        · rintro H3 ⟨s3, hL⟩
          rw [List.length_map, List.take_length] at hL
          have eall : (((ivs d).map fun x => decide (0 ≤ x) && decide (x < 10)).all id) = inRange (ivs d) := by
            rw [List.all_map]
            rfl
          refine ⟨D, _, rfl, SqL.of hL, _, rfl, ?_⟩
          rw [eall]
          have s13 := s12.trans s3
          cases hc : inRange (ivs d) with
          | false => exact iteT (bad H3 s13 (by unfold downOk; rw [hc, Bool.and_false]))
          | true => exact iteF (good H3 s13 (by unfold downOk; rw [ha, hb, hc] <;> rfl))
theorem ok_isRow {f f1 f2 : Addr} {fd fd1 fd2 fdI : FuncData} (F : FnP K "is_row" sIsRow f fd) (F1 : FnP K "is_integer" sIsI f1 fd1) (F2 : FnP K "are_integers" sAre f2 fd2) (FI : FnM K "InvalidNumber.__init__" iN (ma K (ga K "InvalidNumber") "__init__") fdI) (T : TG K mg) (M : EF K)
    (g1 : mg "is_integer" = some (.ref f1)) (g2 : mg "are_integers" = some (.ref f2)) : FnOk P w K mg base (L2.CX P w) 3 f fd ["size", "value"] (spIsRow K) := by
  have tl := T.f "len" (by decide +kernel)
  have gN := T.g "InvalidNumber" (by decide +kernel)
  obtain ⟨tkm, gM⟩ := T.m
  have G1 : FnOk P w K mg base CX0 1 f1 fd1 ["value"] (spIsI K) := ok_isI F1 T
  have b1 : Binds K fd1 ["value"] [] := F1.bindsN fun _ _ _ _ _ _ us hl => match us, hl with | [_], _ => rfl
  have G2 : FnOk P w K mg base CX0 2 f2 fd2 ["value"] (spAre K) := ok_are F2 F1 T g1
  have b2 : Binds K fd2 ["value"] [] := F2.bindsN fun _ _ _ _ _ _ us hl => match us, hl with | [_], _ => rfl
  have GI : FnOk P w K mg base CX0 1 _ fdI ["self", "value"] (spIni (ga K "InvalidNumber") "value") := ok_iN FI T M.n M.ni
  have bI' : Binds K fdI ["self", "value"] [] := FI.bindsN fun _ _ _ _ _ _ us hl => match us, hl with | [_, _], _ => rfl
  refine F.ok scIsRow (fun vs H Q E h => ?_) (fun cdv A outer s H vs Q E hr h => ?_)
  · obtain ⟨v, u, z, d, rfl, _⟩ := h
    rfl
  · obtain ⟨v, u, z, d, rfl, hz, hd, k⟩ := h
    have hr1 : Room 1 (A.deeper (envOfC "is_row" (defScope sIsRow) s.heap.objs.size f cdv)) := hr.mono (by decide)
    refine ⟨_, pss_cons (ps_if (PW.pt (pw_or (pt_not (pt_val (pe_call G1 hr1 rfl g1 F1.kp b1 .nil pass0 (pa_cons (pv 0) pa_nil)))) (pw_or1 (pt_not (pt_chain op_le op_le pe_int (pv 0) (pe_glob (v := .int 10) rfl gM ⟨_, rfl⟩))))))
        (pss_one (ps_rs rfl (takes_of rfl rfl rfl rfl) M.n rfl (pe_xmk bI M.n GI hr bI' pass0 rfl gN (pa_cons (pv 0) pa_nil)))) pss_nil)
      (pss_one (ps_ret (pe_and (pe_call G2 hr rfl g2 F2.kp b2 .nil pass0 (pa_cons (pv 1) pa_nil)) (pe_one (pe_cmpR op_eq (pe_callB call_len_seq (by rfl) tl PySem.boot_len (pa_cons (pv 1) pa_nil)) (pv 0) (nomark _)))))), ?_⟩
    have out : sizeOk z = false → tRs H (ga K "InvalidNumber") "value" (tXmk (ga K "InvalidNumber") (spIni (ga K "InvalidNumber") "value") (tCons (tVar 0) tNil)) (fun cls d x H => E cls d H) { nx := fun _ H' => Q .non H', rt := Q } (L2.start nIsRow [v, u]) H := fun e => by
      refine ⟨_, rfl, (by show 1 ≤ 1000; decide), fun a1 na1 => ⟨a1, v, rfl, upd_same, fun d1 nd1 ne1 => ⟨rfl, ?_⟩⟩⟩
      obtain ⟨s1, x1⟩ := flown (f := "value") (v := v) na1 nd1 ne1
      exact ⟨a1, d1, v, rfl, upd_same, (by rw [upd_ne ne1, upd_same]), fr0_none na1, ite_no (k _ s1) e d1 x1⟩
    refine ⟨_, rfl, v, z, rfl, hz, _, rfl, ?_⟩
    have fin : sizeOk z = true → ∀ i, v = .int i → iv z = i → tRet (tAndV (tCall (spAre K) [] E0 (tCons (tVar 1) tNil)) (tOp rEq (tCB (rLenS K) (tCons (tVar 1) tNil)) (tVar 0))) { nx := fun _ H' => Q .non H', rt := Q } (L2.start nIsRow [v, u]) H := fun e i hv hi => by
      subst hv
      refine ⟨_, rfl, u, d, rfl, hd, fun H1 s1 => ⟨_, rfl, ?_⟩⟩
      have q := ite_yes (k H1 s1) e
      cases ha : areI d with
      | false =>
        rw [ha, Bool.false_and] at q
        exact iteF q
      | true =>
        obtain ⟨p, rfl, hp⟩ := tup_of hd ha
        rw [ha, Bool.true_and, hi] at q
        refine iteT ⟨_, rfl, p, _, rfl, .inr (sqt_same s1 hp), _, rfl, rfl, ?_⟩
        have ez : ((ivs d).map V.int).length = (its d).length := by rw [List.length_map, show (ivs d).length = (its d).length from List.length_map _]
        rw [ez]
        have e2 : decide (V.int (((its d).length : Nat) : Int) = V.int i) = decide ((((its d).length : Nat) : Int) = i) := by
          by_cases c : (((its d).length : Nat) : Int) = i
          · rw [c, decide_eq_true rfl, decide_eq_true rfl]
          · rw [decide_eq_false c, decide_eq_false (fun z => c (V.int.inj z))]
        exact e2 ▸ q
    cases z with
    | int i =>
      cases hz
      refine iteF ⟨_, rfl, _, _, rfl, rfl, _, rfl, ?_⟩
      by_cases h0 : (0 : Int) ≤ i
      · refine ite2 (fun _ => ⟨_, _, rfl, rfl, _, rfl, ?_⟩) fun c => absurd (decide_eq_true h0) c
        by_cases h1 : i ≤ 10
        · rw [decide_eq_true h1]
          refine iteF (fin ?_ i rfl rfl)
          show (true && (decide (0 ≤ i) && decide (i ≤ 10))) = true
          rw [decide_eq_true h0, decide_eq_true h1] <;> rfl
        · rw [decide_eq_false h1]
          refine iteT (out ?_)
          show (true && (decide (0 ≤ i) && decide (i ≤ 10))) = false
          rw [decide_eq_false h1, Bool.and_false, Bool.and_false]
      · refine ite2 (fun c => absurd (of_decide_eq_true c) h0) fun _ => ⟨_, rfl, iteT (out ?_)⟩
        show (true && (decide (0 ≤ i) && decide (i ≤ 10))) = false
        rw [decide_eq_false h0] <;> rfl
    | none => exact iteT (out rfl)
    | bool b => exact iteT (out rfl)
    | str x => exact iteT (out rfl)
    | list ds => exact iteT (out rfl)
    | tuple ds => exact iteT (out rfl)
    | dict ds => exact iteT (out rfl)
end
end K01

/-! before, sorted_rows where it raises, place_of. -/
namespace K01
open PySem PySem.Spec PyProof.Rows L2 Dr Ex Rp
open He (ga ma)
def spBefore (K : PySem.W.Frag) : Sp := fun vs H Q E => ∃ (v u x : V) (d e r : PyData), vs = [v, u, x] ∧ Dt K H v d ∧ Dt K H u e ∧ Dt K H x r ∧
  ∀ H', Same H H' → if rowsOk (.tuple [d, e]) = true then (if downOk r = true then Q (.bl (HT.lexLt (sk (ivs r) (ivs d)) (sk (ivs r) (ivs e)))) H' else E (.ref (ga K "InvalidOperation")) none H') else E (.ref (ga K "InvalidRow")) none H'
def spSorted (K : PySem.W.Frag) : Sp := fun vs H Q E => ∃ (v x : V) (d r : PyData), vs = [v, x] ∧ Dt K H v d ∧ Dt K H x r ∧ (its d).length < 64 ∧ (rowsOk d && downOk r) = false ∧
  ∀ H', Same H H' → if rowsOk d = true then E (.ref (ga K "InvalidOperation")) none H' else E (.ref (ga K "InvalidRow")) none H'
/-- the keys of rows -/
def keys (r d : PyData) : List (List Int) := (its d).map fun z => sk (ivs r) (ivs z)
def placeN (r d e : PyData) : Nat := ((keys r d).filter fun k => HT.lexLt k (sk (ivs r) (ivs e))).length
def spPlace (K : PySem.W.Frag) : Sp := fun vs H Q E => ∃ (v u x : V) (d e r : PyData), vs = [v, u, x] ∧ Dt K H v d ∧ Dt K H u e ∧ Dt K H x r ∧ (its d).length < 60 ∧
  ∀ H', Same H H' → if rowsOk d = true then (if rowsOk (.tuple ((its d).take 1 ++ [e])) = true then (if downOk r = true then (if ascL (keys r d) = true then Q (.int (placeN r d e : Nat)) H' else E (.ref (ga K "InvalidOperation")) none H')
    else E (.ref (ga K "InvalidOperation")) none H') else E (.ref (ga K "InvalidRow")) none H') else E (.ref (ga K "InvalidRow")) none H'
theorem sqt_lst {K : PySem.W.Frag} {H : Hp} {D p : Addr} {ys xs : List V} {o : HO} (hD : H D = some (.lst ys)) (h : SqT K H p xs) : SqT K (upd H D o) p xs := by
  rcases h with (h | ⟨ob, h⟩) | h
  · exact .inl (.inl (by
      rw [upd_ne (fun z => by rw [z, hD] at h; cases h)]
      exact h))
  · exact .inl (.inr ⟨ob, by
      rw [upd_ne (fun z => by rw [z, hD] at h; cases h)]
      exact h⟩)
  · exact .inr h
abbrev nBefore : List Str := ["row", "other", "down"]
abbrev nSorted : List Str := ["rows", "down", "different"]
abbrev nPlace : List Str := ["rows", "row", "down", "places", "place", "one"]
theorem scBefore : FnScope nBefore ["row", "other", "down"] (defScope sBefore) := ⟨rfl, rfl, rfl, by decide +kernel, rfl, by decide +kernel, by decide +kernel⟩
theorem scSorted : FnScope nSorted ["rows", "down"] (defScope sSorted) := ⟨rfl, rfl, rfl, by decide +kernel, rfl, by decide +kernel, by decide +kernel⟩
theorem scPlace : FnScope nPlace ["rows", "row", "down"] (defScope sPlace) := ⟨rfl, rfl, rfl, by decide +kernel, rfl, by decide +kernel, by decide +kernel⟩
/-- the package's defs that the others call -/
structure Fns (K : PySem.W.Frag) (mg : Str → Option Value) : Prop where
  g1 : mg "is_integer" = some (.ref (ga K "is_integer"))
  g2 : mg "are_integers" = some (.ref (ga K "are_integers"))
  g3 : mg "is_ascending" = some (.ref (ga K "is_ascending"))
  gk : mg "sort_key" = some (.ref (ga K "sort_key"))
  gr : mg "check_rows" = some (.ref (ga K "check_rows"))
  gd : mg "check_down" = some (.ref (ga K "check_down"))
  f1 : ∃ fd, FnP K "is_integer" sIsI (ga K "is_integer") fd
  f2 : ∃ fd, FnP K "are_integers" sAre (ga K "are_integers") fd
  f3 : ∃ fd, FnP K "is_ascending" sAsc (ga K "is_ascending") fd
  fk : ∃ fd, FnP K "sort_key" sKey (ga K "sort_key") fd
  fr : ∃ fd, FnP K "check_rows" sChkR (ga K "check_rows") fd
  fdn : ∃ fd, FnP K "check_down" sChkD (ga K "check_down") fd
section
variable {P : Program} {w : World} {K : PySem.W.Frag} {mg : Str → Option Value} {base : Heap}
theorem rows_fst {d e : PyData} (h : rowsOk (.tuple [d, e]) = true) : areI d = true ∧ areI e = true := by
  have h1 : ([d, e].all areI && _) = true := h
  rw [Bool.and_eq_true] at h1
  have h2 := h1.1
  simp only [List.all_cons, List.all_nil, Bool.and_true, Bool.and_eq_true] at h2
  exact h2
theorem down_are {r : PyData} (h : downOk r = true) : areI r = true := by
  unfold downOk at h
  rw [Bool.and_eq_true, Bool.and_eq_true] at h
  exact h.1.1
theorem ok_before {f : Addr} {fd : FuncData} (F : FnK K "before" sBefore f fd) (B : Fns K mg) (T : TG K mg) (M : EF K) : FnOk P w K mg base (L2.CX P w) 4 f fd ["row", "other", "down"] (spBefore K) := by
  obtain ⟨d1, F1⟩ := B.f1
  obtain ⟨d2, F2⟩ := B.f2
  obtain ⟨d3, F3⟩ := B.f3
  obtain ⟨dk, FK⟩ := B.fk
  obtain ⟨dr, FR⟩ := B.fr
  obtain ⟨dd, FD⟩ := B.fdn
  have GR : FnOk P w K mg base (L2.CX P w) 3 _ dr ["rows"] (spChkR K) := ok_chkR FR F1 F2 T M B.g1 B.g2
  have bR : Binds K dr ["rows"] [] := FR.bindsN fun _ _ _ _ _ _ us hl => match us, hl with | [_], _ => rfl
  have GD : FnOk P w K mg base (L2.CX P w) 3 _ dd ["down"] (spChkD K) := ok_chkD FD F1 F2 F3 T M B.g1 B.g2 B.g3
  have bD : Binds K dd ["down"] [] := FD.bindsN fun _ _ _ _ _ _ us hl => match us, hl with | [_], _ => rfl
  have GK : FnOk P w K mg base CX0 1 _ dk ["row", "down"] (spKey K) := ok_key FK T
  have bK : Binds K dk ["row", "down"] [] := FK.bindsN fun _ _ _ _ _ _ us hl => match us, hl with | [_, _], _ => rfl
  refine F.ok scBefore (fun vs H Q E h => ?_) (fun cdv A outer s H vs Q E hr h => ?_)
  · obtain ⟨v, u, x, d, e, r, rfl, _⟩ := h
    rfl
  · obtain ⟨v, u, x, d, e, r, rfl, hv, hu, hx, k⟩ := h
    have hr1 : Room 1 (A.deeper (envOfC "before" (defScope sBefore) s.heap.objs.size f cdv)) := hr.mono (by decide)
    refine ⟨_, pss_cons (ps_expr (pe_call GR hr rfl B.gr FR.kp bR .nil (passes_call (E := E) (takes_of rfl rfl rfl rfl) (fun _ _ _ _ h => h)) (pa_cons (pe_tup (pa_cons (pv 0) (pa_cons (pv 1) pa_nil))) pa_nil)))
      (pss_cons (ps_expr (pe_call GD hr rfl B.gd FD.kp bD .nil (passes_call (E := E) (takes_of rfl rfl rfl rfl) (fun _ _ _ _ h => h)) (pa_cons (pv 2) pa_nil)))
      (pss_one (ps_ret (pe_cmpR (show OpR _ _ (rLtT K) from op_ltT hr.units0) (pe_call GK hr1 rfl B.gk FK.kp bK .nil pass0 (pa_cons (pv 0) (pa_cons (pv 2) pa_nil))) (pe_call GK hr1 rfl B.gk FK.kp bK .nil pass0 (pa_cons (pv 1) (pa_cons (pv 2) pa_nil))) (nomark _))))), ?_⟩
    refine ⟨_, rfl, _, rfl, (by show 2 ≤ sizeLine; decide), fun t nt => ?_⟩
    have st := smu (o := .tup [v, u]) nt
    have mt := upd_same (H := H) (a := t) (o := .tup [v, u])
    generalize upd H t (.tup [v, u]) = H1 at st mt ⊢
    refine ⟨.ref t, .tuple [d, e], rfl, .tup (SqT.of mt) (.cons (Dt.same st _ _ hv) (.cons (Dt.same st _ _ hu) .nil)), (by show 2 < 64; decide), fun H2 s2 => ?_⟩
    have s02 := st.trans s2
    cases h1 : rowsOk (.tuple [d, e]) with
    | false => exact iteF (ite_no (k H2 s02) h1)
    | true =>
      obtain ⟨a1, a2⟩ := rows_fst h1
      refine iteT ⟨_, rfl, x, r, rfl, Dt.same s02 _ _ hx, fun H3 s3 => ?_⟩
      have s03 := s02.trans s3
      have k3 := ite_yes (k H3 s03) h1
      cases h2 : downOk r with
      | false => exact iteF (ite_no k3 h2)
      | true =>
        obtain ⟨p1, rfl, q1⟩ := tup_of (Dt.same s03 _ _ hv) a1
        obtain ⟨p2, rfl, q2⟩ := tup_of (Dt.same s03 _ _ hu) a2
        obtain ⟨p3, rfl, q3⟩ := tup_of (Dt.same s03 _ _ hx) (down_are h2)
        refine iteT ⟨_, rfl, _, rfl, p1, p3, _, _, rfl, q1, q3, fun H4 t1 s4 n1 m1 => ?_⟩
        refine ⟨_, rfl, _, rfl, p2, p3, _, _, rfl, sqt_same s4 q2, sqt_same s4 q3, fun H5 t2 s5 n2 m2 => ?_⟩
        exact ⟨t1, t2, _, _, rfl, rfl, SqT.of (s5 _ _ m1), SqT.of m2, ite_yes (ite_yes (k H5 (s03.trans (s4.trans s5))) h1) h2⟩
theorem ok_sorted {f : Addr} {fd : FuncData} (F : FnK K "sorted_rows" sSorted f fd) (B : Fns K mg) (T : TG K mg) (M : EF K) : FnOk P w K mg base (L2.CX P w) 4 f fd ["rows", "down"] (spSorted K) := by
  obtain ⟨d1, F1⟩ := B.f1
  obtain ⟨d2, F2⟩ := B.f2
  obtain ⟨d3, F3⟩ := B.f3
  obtain ⟨dr, FR⟩ := B.fr
  obtain ⟨dd, FD⟩ := B.fdn
  have GR : FnOk P w K mg base (L2.CX P w) 3 _ dr ["rows"] (spChkR K) := ok_chkR FR F1 F2 T M B.g1 B.g2
  have bR : Binds K dr ["rows"] [] := FR.bindsN fun _ _ _ _ _ _ us hl => match us, hl with | [_], _ => rfl
  have GD : FnOk P w K mg base (L2.CX P w) 3 _ dd ["down"] (spChkD K) := ok_chkD FD F1 F2 F3 T M B.g1 B.g2 B.g3
  have bD : Binds K dd ["down"] [] := FD.bindsN fun _ _ _ _ _ _ us hl => match us, hl with | [_], _ => rfl
  refine F.ok scSorted (fun vs H Q E h => ?_) (fun cdv A outer s H vs Q E hr h => ?_)
  · obtain ⟨v, x, d, r, rfl, _⟩ := h
    rfl
  · obtain ⟨v, x, d, r, rfl, hv, hx, h64, hno, k⟩ := h
    refine ⟨_, pss_cons (ps_expr (pe_call GR hr rfl B.gr FR.kp bR .nil (passes_call (E := E) (takes_of rfl rfl rfl rfl) (fun _ _ _ _ h => h)) (pa_cons (pv 0) pa_nil)))
      (pss_cons (ps_expr (pe_call GD hr rfl B.gd FD.kp bD .nil (passes_call (E := E) (takes_of rfl rfl rfl rfl) (fun _ _ _ _ h => h)) (pa_cons (pv 1) pa_nil)))
      (pss_cons ps_never (pss_one ps_never))), ?_⟩
    refine ⟨_, rfl, v, d, rfl, hv, h64, fun H2 s2 => ?_⟩
    cases h1 : rowsOk d with
    | false => exact iteF (ite_no (k H2 s2) h1)
    | true =>
      refine iteT ⟨_, rfl, x, r, rfl, Dt.same s2 _ _ hx, fun H3 s3 => ?_⟩
      have k3 := ite_yes (k H3 (s2.trans s3)) h1
      rw [h1, Bool.true_and] at hno
      rw [hno]
      exact iteF k3
end
end K01

/-! place_of. -/
namespace K01
open PySem PySem.Spec PyProof.Rows L2 Dr Ex Rp
open He (ga ma)
/-- what is cut off ahead: the first item -/
theorem cut01 (xs : List V) : cutV xs none (some 1) = xs.take 1 := by
  unfold cutV
  rw [show HT.sIx xs.length xs.length (some 1) = min 1 xs.length from HT.sIx_nat _ _ 1, HT.sIx_none, Nat.sub_zero, List.drop_zero]
  by_cases h : xs.length = 0
  · have z := List.eq_nil_of_length_eq_zero h
    subst z
    rfl
  · rw [show min 1 xs.length = 1 by omega]
theorem whole01 (xs : List V) : (HT.sIx xs.length 0 none = 0 ∧ HT.sIx xs.length xs.length (some 1) = xs.length) → xs.take 1 = xs := by
  rw [show HT.sIx xs.length xs.length (some 1) = min 1 xs.length from HT.sIx_nat _ _ 1, HT.sIx_none]
  intro h
  exact List.take_of_length_le (by omega)
theorem dt_take {K : PySem.W.Frag} {H : Hp} : ∀ {xs : List V} {ds : List PyData} (n : Nat), DtAll K H xs ds → DtAll K H (xs.take n) (ds.take n)
  | _, _, 0, _ => by
    rw [List.take_zero, List.take_zero]
    exact .nil
  | _, _, n + 1, .nil => by
    rw [List.take_nil, List.take_nil]
    exact .nil
  | _, _, n + 1, .cons h t => .cons h (dt_take n t)
theorem dt_app {K : PySem.W.Frag} {H : Hp} : ∀ {xs ys : List V} {ds es : List PyData}, DtAll K H xs ds → DtAll K H ys es → DtAll K H (xs ++ ys) (ds ++ es)
  | _, _, _, _, .nil, h => h
  | _, _, _, _, .cons h t, q => .cons h (dt_app t q)
theorem rows_all {ds : List PyData} (h : rowsOk (.tuple ds) = true) : ∀ d ∈ ds, areI d = true := by
  have h1 : (ds.all areI && _) = true := h
  rw [Bool.and_eq_true] at h1
  exact List.all_eq_true.mp h1.1
theorem rows_tup {d : PyData} (h : rowsOk d = true) : ∃ ds, d = .tuple ds := by
  cases d with
  | tuple ds => exact ⟨ds, rfl⟩
  | _ => cases h
section
variable {P : Program} {w : World} {K : PySem.W.Frag} {mg : Str → Option Value} {base : Heap}
theorem ok_place {f : Addr} {fd : FuncData} (F : FnK K "place_of" sPlace f fd) (B : Fns K mg) (T : TG K mg) (M : EF K) : FnOk P w K mg base (L2.CX P w) 4 f fd ["rows", "row", "down"] (spPlace K) := by
  obtain ⟨d1, F1⟩ := B.f1
  obtain ⟨d2, F2⟩ := B.f2
  obtain ⟨d3, F3⟩ := B.f3
  obtain ⟨dk, FK⟩ := B.fk
  obtain ⟨dr, FR⟩ := B.fr
  obtain ⟨dd, FD⟩ := B.fdn
  have tl := T.f "len" (by decide +kernel)
  have gO := T.g "InvalidOperation" (by decide +kernel)
  have GR : FnOk P w K mg base (L2.CX P w) 3 _ dr ["rows"] (spChkR K) := ok_chkR FR F1 F2 T M B.g1 B.g2
  have bR : Binds K dr ["rows"] [] := FR.bindsN fun _ _ _ _ _ _ us hl => match us, hl with | [_], _ => rfl
  have GD : FnOk P w K mg base (L2.CX P w) 3 _ dd ["down"] (spChkD K) := ok_chkD FD F1 F2 F3 T M B.g1 B.g2 B.g3
  have bD : Binds K dd ["down"] [] := FD.bindsN fun _ _ _ _ _ _ us hl => match us, hl with | [_], _ => rfl
  have GK : FnOk P w K mg base CX0 1 _ dk ["row", "down"] (spKey K) := ok_key FK T
  have bK : Binds K dk ["row", "down"] [] := FK.bindsN fun _ _ _ _ _ _ us hl => match us, hl with | [_, _], _ => rfl
  have GA : FnOk P w K mg base CX0 1 _ d3 ["values"] (spAscL K) := ok_ascL F3 T
  have bA : Binds K d3 ["values"] [] := F3.bindsN fun _ _ _ _ _ _ us hl => match us, hl with | [_], _ => rfl
  refine F.ok scPlace (fun vs H Q E h => ?_) (fun cdv A outer s H vs Q E hr h => ?_)
  · obtain ⟨v, u, x, d, e, r, rfl, _⟩ := h
    rfl
  · obtain ⟨v, u, x, d, e, r, rfl, hv, hu, hx, h60, k⟩ := h
    have hr1 : Room 1 (A.deeper (envOfC "place_of" (defScope sPlace) s.heap.objs.size f cdv)) := hr.mono (by decide)
    refine ⟨_, pss_cons (ps_expr (pe_call GR hr rfl B.gr FR.kp bR .nil (passes_call (E := E) (takes_of rfl rfl rfl rfl) (fun _ _ _ _ h => h)) (pa_cons (pv 0) pa_nil)))
      (pss_cons (ps_expr (pe_call GR hr rfl B.gr FR.kp bR .nil (passes_call (E := E) (takes_of rfl rfl rfl rfl) (fun _ _ _ _ h => h)) (pa_cons (pe_tup (StX.pa_star (pe_slice sl_tupA (pv 0) po_none (po_some pe_int)) (pa_cons (pv 1) pa_nil))) pa_nil)))
      (pss_cons (ps_expr (pe_call GD hr rfl B.gd FD.kp bD .nil (passes_call (E := E) (takes_of rfl rfl rfl rfl) (fun _ _ _ _ h => h)) (pa_cons (pv 2) pa_nil)))
      (pss_cons (ps_setLc (i := 3) (own := [("one", 5)]) (g := gName 5) (tt := tYes) rfl scPlace.nd rfl rfl (sw_true rfl rfl rfl (by decide +kernel)) (pi_tup (pv 0)) (blkOk_by (own := [("one", 5)]) (N := nPlace) (sc := defScope sPlace) (by decide +kernel))
          (fun _ _ _ _ _ => pg_name (i := 5) scPlace.nd rfl (Or.inl rfl)) (fun _ _ _ _ _ => pts_nil) (fun _ _ _ _ _ => pe_call GK hr1 rfl B.gk FK.kp bK .nil pass0 (pa_cons (pv 5) (pa_cons (pv 2) pa_nil))))
      (pss_cons (ps_if (pt_not (pt_val (pe_call GA hr1 rfl B.g3 F3.kp bA .nil pass0 (pa_cons (pv 3) pa_nil)))) (pss_one (ps_raise rfl (takes_of rfl rfl rfl rfl) (pmk_own PySem.F.excBase_ValueError M.mo.1 gO M.mo.2.1 (raises_own M.io.sub M.mo.2.2) rfl))) pss_nil)
      (pss_cons (ps_set (i := 4) scPlace.nd rfl (Or.inr rfl) (pe_call GK hr1 rfl B.gk FK.kp bK .nil pass0 (pa_cons (pv 1) (pa_cons (pv 2) pa_nil))))
      (pss_one (ps_ret (pe_callB call_len_seq (by rfl) tl PySem.boot_len (pa_cons (pe_lc (own := [("one", 5)]) (g := gName 5) rfl scPlace.nd (pi_list (pv 3)) (blkOk_by (own := [("one", 5)]) (N := nPlace) (sc := defScope sPlace) (by decide +kernel))
          (fun _ _ _ _ _ => pg_name (i := 5) scPlace.nd rfl (Or.inl rfl)) (fun _ _ _ _ _ => pts_one (pt_cmpR (show OpR _ _ (rLtT K) from op_ltT hr.units0) (pv 5) (pv 4) (nomark _))) (fun _ _ _ _ _ => pv 5)) pa_nil))))))))), ?_⟩
    refine ⟨_, rfl, v, d, rfl, hv, by omega, fun H2 s2 => ?_⟩
    cases h1 : rowsOk d with
    | false => exact iteF (ite_no (k H2 s2) h1)
    | true =>
      refine iteT ?_
      obtain ⟨ds, rfl⟩ := rows_tup h1
      cases hv with
      | tup hS hA =>
      rename_i a xs
      have lx : ds.length = xs.length := DtAll.len hA
      have h60 : ds.length < 60 := h60
      have ar := rows_all h1
      have kk : ∀ G, Same H G → if rowsOk (.tuple (ds.take 1 ++ [e])) = true then _ else E (.ref (ga K "InvalidRow")) none G := fun G sG => ite_yes (k G sG) h1
      have ln : ∀ ys : List V, ys.length ≤ xs.length → (ys ++ [u]).length ≤ sizeLine := fun ys hy => by
        rw [List.length_append, sizeLine_eq, List.length_singleton]
        omega
      refine ⟨_, rfl, _, rfl, a, xs, rfl, sqt_same s2 hS, fun hw => ?w, fun hw p np => ?nw⟩
      case' w =>
        have hw' := whole01 xs hw
        refine ⟨a, xs, rfl, .inl (sqt_same s2 hS), _, rfl, ln _ (Nat.le_refl _), fun t nt => ?_⟩
        have st := smu (o := .tup (xs ++ [u])) nt
        have mt := upd_same (H := H2) (a := t) (o := .tup (xs ++ [u]))
        generalize upd H2 t (.tup (xs ++ [u])) = G1 at st mt ⊢
        have sG := s2.trans st
        have tG : SqT K G1 t (xs.take 1 ++ [u]) := by
          rw [hw']
          exact SqT.of mt
      case' nw =>
        have sp := smu (o := .tup (cutV xs none (some 1))) np
        have mp := upd_same (H := H2) (a := p) (o := .tup (cutV xs none (some 1)))
        generalize upd H2 p (.tup (cutV xs none (some 1))) = G0 at sp mp ⊢
        refine ⟨p, cutV xs none (some 1), rfl, .inl (SqT.of mp), _, rfl, ln _ (cutV_length _ _ _), fun t nt => ?_⟩
        have st := smu (o := .tup (cutV xs none (some 1) ++ [u])) nt
        have mt := upd_same (H := G0) (a := t) (o := .tup (cutV xs none (some 1) ++ [u]))
        generalize upd G0 t (.tup (cutV xs none (some 1) ++ [u])) = G1 at st mt ⊢
        have sG := (s2.trans sp).trans st
        have tG : SqT K G1 t (xs.take 1 ++ [u]) := by
          rw [← cut01]
          exact SqT.of mt
      all_goals
        refine ⟨.ref t, .tuple (ds.take 1 ++ [e]), rfl, .tup tG (dt_app (dt_take 1 (Dt.sameAll sG _ _ hA)) (.cons (Dt.same sG _ _ hu) .nil)), ?_, fun G2 s12 => ?_⟩
        · show (ds.take 1 ++ [e]).length < 64
          rw [List.length_append, List.length_take, List.length_singleton]
          omega
        have s02 := sG.trans s12
        cases h2 : rowsOk (.tuple (ds.take 1 ++ [e])) with
        | false => exact iteF (ite_no (kk G2 s02) h2)
        | true =>
        refine iteT ⟨_, rfl, x, r, rfl, Dt.same s02 _ _ hx, fun G3 s3 => ?_⟩
        have s03 := s02.trans s3
        cases h3 : downOk r with
        | false => exact iteF (ite_no (ite_yes (kk G3 s03) h2) h3)
        | true =>
        refine iteT ?_
        have k3 : ∀ G, Same H G → if ascL (keys r (.tuple ds)) = true then Q (.int (placeN r (.tuple ds) e : Nat)) G else E (.ref (ga K "InvalidOperation")) none G := fun G sG => ite_yes (ite_yes (kk G sG) h2) h3
        have ae : areI e = true := rows_all h2 e (List.mem_append_right _ (List.mem_singleton.mpr rfl))
        obtain ⟨p3, rfl, q3⟩ := tup_of (Dt.same s03 _ _ hx) (down_are h3)
        obtain ⟨p2, rfl, q2⟩ := tup_of (Dt.same s03 _ _ hu) ae
        have keyAt : ∀ {i : Nat} {d : PyData}, ds[i]? = some d → (keys r (.tuple ds))[i]? = some (sk (ivs r) (ivs d)) := fun {i d} h => by
          show (ds.map fun z => sk (ivs r) (ivs z))[i]? = _
          rw [List.getElem?_map, h]
          rfl
        have keyLen : (keys r (.tuple ds)).length = xs.length := by
          rw [← lx]
          exact List.length_map _
        refine ⟨_, rfl, a, rfl, ⟨xs, sqt_same s03 hS⟩, fun D hD => lc_tup (xs := xs) (fun i G => Same G3 G ∧ ∃ ps : List Addr, ps.length = i ∧ G D = some (.lst (ps.map V.ref)) ∧
          ∀ (j : Nat) (p : Addr) (c : List Int), ps[j]? = some p → (keys r (.tuple ds))[j]? = some c → SqT K G p (c.map V.int)) ⟨smu hD, [], rfl, upd_same, fun j p c hj _ => by simp at hj⟩ (fun i G _ h => sqt_same (s03.trans h.1) hS) ?_ ?_⟩
        · rintro i y G hy ⟨s4, ps, hps, hL, hks⟩
          obtain ⟨d, e1, e2⟩ := dt_all_get hA hy
          obtain ⟨p1, rfl, q1⟩ := tup_of (Dt.same (s03.trans s4) _ _ e2) (ar d (List.mem_of_getElem? e1))
          have li := (List.getElem?_eq_some_iff.mp hy).choose
          refine ⟨rfl, yes_in ⟨_, rfl, _, rfl, p1, p3, _, _, rfl, q1, sqt_same s4 q3, fun G' q s' nq mq => ⟨_, s' _ _ hL, ?_, fun b o eb => ?_, ps ++ [q], ?_, ?_, fun j p c hj hc => ?_⟩⟩⟩
          · rw [List.length_map, hps, sizeLine_eq]
            omega
          · rw [upd_ne (ne_of_none eb hD)]
            exact s' _ _ (s4 _ _ eb)
          · rw [List.length_append, hps]
            rfl
          · rw [upd_same, List.map_append]
            rfl
          · refine sqt_lst (s' _ _ hL) ?_
            by_cases hji : j < ps.length
            · rw [List.getElem?_append_left hji] at hj
              exact sqt_same s' (hks j p c hj hc)
            · have lj := (List.getElem?_eq_some_iff.mp hj).choose
              rw [List.length_append, List.length_singleton] at lj
              have ej : j = ps.length := by omega
              subst ej
              rw [List.getElem?_append_right (Nat.le_refl _), Nat.sub_self] at hj
              obtain rfl : q = p := Option.some.inj hj
              rw [hps, keyAt e1] at hc
              obtain rfl := Option.some.inj hc
              exact SqT.of mq
        rintro G4 ⟨s4, ps, hps, hL, hks⟩
        have s04 := s03.trans s4
        refine ⟨_, rfl, D, ps, keys r (.tuple ds), rfl, SqL.of hL, by rw [keyLen, hps], hks, fun G5 s5 => ⟨_, rfl, ?_⟩⟩
        have s05 := s04.trans s5
        cases h4 : ascL (keys r (.tuple ds)) with
        | false => exact iteT (ite_no (k3 G5 s05) h4)
        | true =>
        refine iteF ?_
        refine ⟨_, rfl, _, rfl, p2, p3, _, _, rfl, sqt_same (s4.trans s5) q2, sqt_same (s4.trans s5) q3, fun G6 pk s6 n6 m6 => ?_⟩
        have s06 := s05.trans s6
        have s46 := s5.trans s6
        refine ⟨_, rfl, D, rfl, ⟨_, SqL.of (s46 _ _ hL)⟩, fun D2 hD2 => lc_list (xs := ps.map V.ref) (fun i G => Same G6 G ∧ ∃ acc, G D2 = some (.lst acc) ∧ acc.length = (((keys r (.tuple ds)).take i).filter fun c => HT.lexLt c (sk (ivs r) (ivs e))).length)
          ⟨smu hD2, [], upd_same, by rw [List.take_zero]; rfl⟩ (fun i G _ h => SqL.of ((s46.trans h.1) _ _ hL)) ?_ ?_⟩
        · rintro i y G hy ⟨s7, acc, hL2, hn⟩
          rw [List.getElem?_map] at hy
          obtain ⟨p, ep, rfl⟩ := Option.map_eq_some_iff.mp hy
          have li : i < (keys r (.tuple ds)).length := by
            have := (List.getElem?_eq_some_iff.mp ep).choose
            omega
          have ek := List.getElem?_eq_getElem li
          have q := sqt_same (s46.trans s7) (hks i p _ ep ek)
          have hacc : acc.length < sizeLine := by
            have z := List.length_filter_le (fun c => HT.lexLt c (sk (ivs r) (ivs e))) ((keys r (.tuple ds)).take i)
            rw [List.length_take] at z
            rw [hn, sizeLine_eq]
            omega
          have step : ∀ b, HT.lexLt (keys r (.tuple ds))[i] (sk (ivs r) (ivs e)) = b → (((keys r (.tuple ds)).take (i + 1)).filter fun c => HT.lexLt c (sk (ivs r) (ivs e))).length = acc.length + if b = true then 1 else 0 := fun b eb => by
            rw [List.take_add_one, ek, List.filter_append, List.length_append, hn]
            congr 1
            rw [Option.toList_some, List.filter_cons, List.filter_nil, eb]
            cases b <;> rfl
          refine ⟨rfl, _, rfl, _, rfl, p, pk, _, _, rfl, rfl, q, SqT.of (s7 _ _ m6), _, rfl, ?_⟩
          cases hc : HT.lexLt (keys r (.tuple ds))[i] (sk (ivs r) (ivs e)) with
          | true =>
            refine iteT ⟨_, rfl, acc, hL2, hacc, fun b o eb => ?_, acc ++ [.ref p], upd_same, ?_⟩
            · rw [upd_ne (ne_of_none eb hD2)]
              exact s7 _ _ eb
            · rw [step true hc, List.length_append]
              rfl
          | false =>
            refine iteF ⟨s7, acc, hL2, ?_⟩
            rw [step false hc]
            rfl
        · rintro G7 ⟨s7, acc, hL2, hn⟩
          rw [List.length_map, hps, ← keyLen, List.take_length] at hn
          refine ⟨D2, acc, rfl, .inl (SqL.of hL2), ?_⟩
          rw [hn]
          exact ite_yes (k3 G7 (s06.trans s7)) h4
end
end K01

/-! streams, draws, picks. -/
namespace K01
open PySem PySem.Spec PyProof.Rows L2 Dr Ex Rp
open He (ga ma)
abbrev nStream : List Str := ["_law_script", "_law_at", "_law_cell", "_law_great", "_law_mixed_here"]
theorem scStream : FnScope nStream ["_law_script", "_law_at"] (defScope sStream) := ⟨rfl, rfl, rfl, by decide +kernel, rfl, by decide +kernel, by decide +kernel⟩
section
variable {P : Program} {w : World} {K : PySem.W.Frag} {mg : Str → Option Value} {base : Heap}
theorem ok_stream {f : Addr} {fd : FuncData} (F : FnP K "_law_stream" sStream f fd) (T : TG K mg) : FnOk P w K mg base CX0 1 f fd ["_law_script", "_law_at"] (spStream K) := by
  have tl := T.f "len" (by decide +kernel)
  have ti := T.f "int" (by decide +kernel)
  have ta := T.f "abs" (by decide +kernel)
  have tm := T.f "max" (by decide +kernel)
  refine F.ok scStream (fun vs H Q E h => ?_) (fun cdv A outer s H vs Q E hr h => ?_)
  · obtain ⟨a, ns, i, rfl, _⟩ := h
    rfl
  · obtain ⟨a, ns, i, rfl, hS, hlen, hi1, k⟩ := h
    refine ⟨_, PSs.nox (pss_cons (ps_set (i := 2) scStream.nd rfl (Or.inl rfl) (pe_op op_add (pe_op op_mul pe_int (pv 1)) pe_int))
      (pss_cons (ps_if (pt_cmpR op_lt (pv 1) (pe_callB call_len_seq (by rfl) tl PySem.boot_len (pa_cons (pv 0) pa_nil)) (nomark _)) (pss_one (ps_set (i := 2) scStream.nd rfl (Or.inl rfl) (pe_ix ix_list (pv 0) (pv 1) (fun _ _ => rfl)))) pss_nil)
      (pss_cons (ps_set (i := 3) scStream.nd rfl (Or.inl rfl) (pe_op op_modN (pe_callTy call_int1 (by rfl) ti (by decide +kernel) (pa_cons (pe_callB call_abs (by rfl) ta (by decide +kernel) (pa_cons (pv 2) pa_nil)) pa_nil)) (pe_op op_powW (pe_op op_pow pe_int pe_int) pe_int)))
      (pss_cons (ps_set (i := 4) scStream.nd rfl (Or.inl rfl) (pe_op op_add (pe_op op_add (pe_op op_add (pe_op op_mul (pe_op op_mod (pe_callTy call_int1 (by rfl) ti (by decide +kernel) (pa_cons (pv 3) pa_nil)) pe_int) pe_int) (pe_op op_mul pe_int (pv 1)))
        (pe_op op_mul pe_int (pe_callTy call_int1 (by rfl) ti (by decide +kernel) (pa_cons (pe_cmpR op_lt (pv 2) pe_int (nomark _)) pa_nil)))) pe_int))
      (pss_one (ps_ret (pe_lst (pa_cons (pe_callB (call_max2 rfl) (by rfl) tm (by decide +kernel) (pa_cons pe_int (pa_cons (pe_op op_sub (pv 3) (pe_op op_pow pe_int pe_int)) pa_nil)))
        (pa_cons (pe_op op_mod (pe_callTy call_int1 (by rfl) ti (by decide +kernel) (pa_cons (pv 4) pa_nil)) pe_int) (pa_cons pe_int pa_nil)))))))))), ?_⟩
    refine ⟨_, rfl, _, _, rfl, rfl, .inl ⟨by decide, by decide⟩, _, _, rfl, rfl, ?_⟩
    refine ⟨_, rfl, _, rfl, a, _, rfl, .inl hS, _, _, rfl, rfl, _, rfl, ?_⟩
    have g0 : (0 : Int) < (10 ^ Int.toNat 60) ^ Int.toNat 10 := by decide +kernel
    have g1 : ((10 ^ Int.toNat 60 : Int) ^ Int.toNat 10).natAbs < 2 ^ 2000 := by decide +kernel
    have g2 : (0 : Int) ≤ 10 ∧ (Builtin.Int.intBits (10 ^ Int.toNat 60) : Int) * 10 ≤ 2 ^ 27 := by decide +kernel
    have g3 : (0 : Int) < 10 ^ Int.toNat 18 := by decide +kernel
    have hgr : ∀ c : Int, 0 ≤ c.fmod ((10 ^ Int.toNat 60) ^ Int.toNat 10) ∧ c.fmod ((10 ^ Int.toNat 60) ^ Int.toNat 10) < (10 ^ Int.toNat 60) ^ Int.toNat 10 := by
      intro c
      rw [Int.fmod_eq_emod_of_nonneg _ (Int.le_of_lt g0)]
      exact ⟨Int.emod_nonneg _ (by omega), Int.emod_lt_of_pos _ g0⟩
    refine ite2 (fun hc => ?b1) (fun _ => ?b2)
    case' b2 =>
      refine ⟨_, rfl, _, rfl, .inl ⟨_, rfl, _, _, rfl, rfl, ⟨by decide, by decide, by decide⟩, ?_⟩⟩
    case' b1 =>
      have hlt : i < ns.length := by
        have := of_decide_eq_true hc
        rw [List.length_map] at this
        omega
      refine ⟨_, rfl, _, rfl, a, _, _, V.int ns[i], rfl, rfl, hS, atI_nat (j := i) (by rw [List.getElem?_map, List.getElem?_eq_getElem hlt]; rfl), ?_⟩
      refine ⟨_, rfl, _, rfl, .inl ⟨_, rfl, _, _, rfl, rfl, ⟨by decide, by decide, by decide⟩, ?_⟩⟩
    all_goals
      refine ⟨_, _, rfl, rfl, g2, _, _, rfl, rfl, by (intro z; rw [z] at g0; exact absurd g0 (by decide)), ?_⟩
      refine ⟨_, rfl, .inl ⟨_, rfl, ?_⟩⟩
      refine ⟨_, _, rfl, rfl, (by show (0 : Int) < 2147483543; decide), ?_⟩
      refine ⟨_, _, rfl, rfl, .inr ⟨by decide, by decide⟩, ?_⟩
      refine ⟨_, rfl, _, _, rfl, rfl, .inl ⟨by decide, by decide⟩, ?_⟩
      refine ⟨_, _, rfl, rfl, ?_⟩
      refine ⟨_, rfl, _, _, rfl, rfl, .inr ⟨_, rfl, ?_⟩⟩
      refine ⟨_, _, rfl, rfl, .inl ⟨by decide, by decide⟩, ?_⟩
      refine ⟨_, _, rfl, rfl, ?_⟩
      refine ⟨_, _, rfl, rfl, ?_⟩
      refine ⟨_, rfl, _, _, rfl, rfl, ⟨by decide, by decide, by decide⟩, _, _, rfl, rfl, _, _, rfl, ?_⟩
      refine ⟨_, rfl, .inl ⟨_, rfl, _, _, rfl, rfl, (by show (0 : Int) < 2147483399; decide), ?_⟩⟩
      refine ⟨(by show 3 ≤ sizeLine; decide), fun p hp => ?_⟩
      refine k _ p (fun b o e => by rw [upd_ne (ne_of_none e hp)]; exact e) hp ⟨_, _, 0, upd_same, ?_, ?_, Int.emod_nonneg _ (by decide), ?_, Int.le_refl _, Int.le_refl _⟩
      rotate_right
      · exact Int.lt_trans (Int.emod_lt_of_pos _ (by decide)) (by decide)
      all_goals
        have q := hgr
        generalize (10 ^ Int.toNat 60 : Int) ^ Int.toNat 10 = G at q g0 g1
        generalize (10 : Int) ^ Int.toNat 18 = D at g3
        first
          | (have q1 := q (if (ns[i] : Int) < 0 then -ns[i] else ns[i])
             generalize Int.fmod _ G = z at q1
             split <;> omega)
          | (have q1 := q (if (19 * (i : Int) + 5) < 0 then -(19 * (i : Int) + 5) else 19 * (i : Int) + 5)
             generalize Int.fmod _ G = z at q1
             split <;> omega)
end
abbrev nDraw : List Str := ["_law_stream_here", "_law_high", "_law_found", "_law_one", "_law_two"]
theorem scDraw : FnScope nDraw ["_law_stream_here", "_law_high"] (defScope sDraw) := ⟨rfl, rfl, rfl, by decide +kernel, rfl, by decide +kernel, by decide +kernel⟩
section
variable {P : Program} {w : World} {K : PySem.W.Frag} {mg : Str → Option Value} {base : Heap}
theorem ok_draw {f : Addr} {fd : FuncData} (F : FnP K "_law_draw" sDraw f fd) (T : TG K mg) : FnOk P w K mg base CX0 1 f fd ["_law_stream_here", "_law_high"] spDraw := by
  have ti := T.f "int" (by decide +kernel)
  refine F.ok scDraw (fun vs H Q E h => ?_) (fun cdv A outer s H vs Q E hr h => ?_)
  · obtain ⟨p, n, m, rfl, _⟩ := h
    rfl
  · obtain ⟨p, n, m, rfl, ⟨a, b, c, hp, a0, a1, b0, b1, c0, c1⟩, hm, n0, n1, k⟩ := h
    refine ⟨_, PSs.nox (pss_cons (ps_if (pt_cmpR op_gt (pe_ix ix_list (pv 0) pe_int (fun _ _ => rfl)) pe_int (nomark _))
        (pss_cons (ps_set (i := 2) scDraw.nd rfl (Or.inl rfl) (pe_op op_modN (pe_callTy call_int1 (by rfl) ti (by decide +kernel) (pa_cons (pe_ix ix_list (pv 0) pe_int (fun _ _ => rfl)) pa_nil)) (pv 1)))
          (pss_cons (ps_asg (pe_op op_fdivW (pe_ix ix_list (pv 0) pe_int (fun _ _ => rfl)) (pv 1)) (pg_sub (pv 0) pe_int set_list)) (pss_one (ps_ret (pv 2))))) pss_nil)
      (pss_cons (ps_asg (pe_op op_add (pe_ix ix_list (pv 0) pe_int (fun _ _ => rfl)) pe_int) (pg_sub (pv 0) pe_int set_list))
      (pss_cons (ps_set (i := 3) scDraw.nd rfl (Or.inl rfl) (pe_op op_mod (pe_callTy call_int1 (by rfl) ti (by decide +kernel) (pa_cons (pe_op op_add (pe_ix ix_list (pv 0) pe_int (fun _ _ => rfl)) (pe_op op_mul pe_int (pe_ix ix_list (pv 0) pe_int (fun _ _ => rfl)))) pa_nil)) pe_int))
      (pss_cons (ps_set (i := 4) scDraw.nd rfl (Or.inl rfl) (pe_op op_add (pe_op op_mul (pe_op op_mod (pe_callTy call_int1 (by rfl) ti (by decide +kernel) (pa_cons (pe_op op_mul (pv 3) (pv 3)) pa_nil)) pe_int) (pv 3)) (pe_op op_mul pe_int (pe_ix ix_list (pv 0) pe_int (fun _ _ => rfl)))))
      (pss_cons (ps_set (i := 4) scDraw.nd rfl (Or.inl rfl) (pe_op op_mod (pe_callTy call_int1 (by rfl) ti (by decide +kernel) (pa_cons (pv 4) pa_nil)) pe_int))
      (pss_one (ps_ret (pe_op op_modN (pe_callTy call_int1 (by rfl) ti (by decide +kernel) (pa_cons (pe_op op_fdiv (pv 4) pe_int) pa_nil)) (pv 1))))))))), ?_⟩
    have hS := SqL.of (K := K) hp
    refine ⟨_, rfl, p, _, _, V.int a, rfl, rfl, hS, atI_nat (j := 0) rfl, _, _, rfl, rfl, _, rfl, ?_⟩
    refine ite2 (fun hc => ?_) (fun _ => ?_)
    · refine ⟨_, rfl, p, _, _, V.int a, rfl, rfl, hS, atI_nat (j := 0) rfl, .inl ⟨_, rfl, _, rfl, _, _, rfl, rfl, (by omega), ?_⟩⟩
      refine ⟨_, rfl, p, _, _, V.int a, rfl, rfl, hS, atI_nat (j := 0) rfl, _, rfl, _, _, rfl, rfl, wide_div n0 (b := 20) (by omega) (by decide) (by decide), ?_⟩
      refine ⟨_, rfl, p, _, _, 0, rfl, rfl, hp, rfl, _, rfl, ?_⟩
      have q : a.fmod n = a % n := Int.fmod_eq_emod_of_nonneg _ (by omega)
      refine k _ _ ?_ ?_ (But.upd _ _ _) ⟨_, b, c, upd_same, ?_, ?_, b0, b1, c0, ?_⟩
      · show 0 ≤ a.fmod n
        rw [q]
        exact Int.emod_nonneg _ (by omega)
      · show a.fmod n < n
        rw [q]
        exact Int.emod_lt_of_pos _ n0
      · exact Int.ediv_nonneg a0 (by omega)
      · have h1 : a / n ≤ a := Int.ediv_le_self _ a0
        have h2 : 0 ≤ a / n := Int.ediv_nonneg a0 (by omega)
        exact wide_le h2 h1 a1
      · omega
    · refine ⟨_, rfl, p, _, _, V.int c, rfl, rfl, hS, atI_nat (j := 2) rfl, _, _, rfl, rfl, ?_⟩
      refine ⟨_, rfl, p, _, _, 2, rfl, rfl, hp, rfl, ?_⟩
      have hp2 : SqL K (upd H p (.lst [.int a, .int b, .int (c + 1)])) p [.int a, .int b, .int (c + 1)] := SqL.of upd_same
      refine ⟨_, rfl, p, _, _, V.int b, rfl, rfl, hp2, atI_nat (j := 1) rfl, _, rfl, p, _, _, V.int (c + 1), rfl, rfl, hp2, atI_nat (j := 2) rfl, _, _, rfl, rfl, .inl ⟨by decide, by decide⟩, _, _, rfl, rfl, .inl ⟨_, rfl, ?_⟩⟩
      refine ⟨_, _, rfl, rfl, (by show (0 : Int) < 2305843009213693951; decide), ?_⟩
      have x0 : 0 ≤ (b + 1000117 * (c + 1)) % 2305843009213693951 := Int.emod_nonneg _ (by decide)
      have x1 : (b + 1000117 * (c + 1)) % 2305843009213693951 < 2305843009213693951 := Int.emod_lt_of_pos _ (by decide)
      have y0 : ∀ z : Int, 0 ≤ z % 2305843009213693921 := fun z => Int.emod_nonneg _ (by decide)
      have y1 : ∀ z : Int, z % 2305843009213693921 < 2305843009213693921 := fun z => Int.emod_lt_of_pos _ (by decide)
      refine ⟨_, rfl, _, rfl, _, _, rfl, rfl, .inl ⟨?u1, ?u2⟩, .inl ⟨_, rfl, _, _, rfl, rfl, (by show (0 : Int) < 2305843009213693921; decide), _, rfl, _, _, rfl, rfl, .inl ⟨?u3, ?u4⟩, ?rest⟩⟩
      case u1 => exact Int.lt_of_lt_of_le (by decide) x0
      case u2 => exact Int.lt_trans x1 (by decide)
      case u3 => exact Int.lt_of_lt_of_le (by decide) (y0 _)
      case u4 => exact Int.lt_trans (y1 _) (by decide)
      refine ⟨_, rfl, p, _, _, V.int (c + 1), rfl, rfl, hp2, atI_nat (j := 2) rfl, _, _, rfl, rfl, .inl ⟨by decide, by decide⟩, _, _, rfl, rfl, ?_⟩
      refine ⟨_, rfl, .inl ⟨_, rfl, _, _, rfl, rfl, (by show (0 : Int) < 2305843009213693907; decide), ?_⟩⟩
      refine ⟨_, rfl, _, _, rfl, rfl, ⟨by decide, by decide⟩, .inl ⟨_, rfl, _, rfl, _, _, rfl, rfl, (by omega), ?_⟩⟩
      refine k _ _ ?_ ?_ (But.upd _ _ _) ⟨a, b, c + 1, upd_same, a0, a1, b0, b1, by omega, by omega⟩
      · rw [Int.fmod_eq_emod_of_nonneg _ (by omega)]
        exact Int.emod_nonneg _ (by omega)
      · rw [Int.fmod_eq_emod_of_nonneg _ (by omega)]
        exact Int.emod_lt_of_pos _ n0
abbrev nPick : List Str := ["_law_stream_here", "_law_items"]
theorem scPick : FnScope nPick ["_law_stream_here", "_law_items"] (defScope sPick) := ⟨rfl, rfl, rfl, by decide +kernel, rfl, by decide +kernel, by decide +kernel⟩
theorem ok_pick {f fD : Addr} {fd fdD : FuncData} (F : FnP K "_law_pick" sPick f fd) (FD : FnP K "_law_draw" sDraw fD fdD) (T : TG K mg) (gD : mg "_law_draw" = some (.ref fD)) : FnOk P w K mg base CX0 2 f fd ["_law_stream_here", "_law_items"] (spPick K) := by
  have tl := T.f "len" (by decide +kernel)
  have G : FnOk P w K mg base CX0 1 fD fdD ["_law_stream_here", "_law_high"] spDraw := ok_draw FD T
  have bD : Binds K fdD ["_law_stream_here", "_law_high"] [] := FD.bindsN fun _ _ _ _ _ _ us hl => match us, hl with | [_, _], _ => rfl
  refine F.ok scPick (fun vs H Q E h => ?_) (fun cdv A outer s H vs Q E hr h => ?_)
  · obtain ⟨p, q, xs, m, rfl, _⟩ := h
    rfl
  · obtain ⟨p, q, xs, m, rfl, hS, hm, npq, hq, l0, l1, k⟩ := h
    refine ⟨_, PSs.nox (pss_one (ps_ret (pe_ix ix_list (pv 1) (pe_call G hr rfl gD FD.kp bD .nil pass0 (pa_cons (pv 0) (pa_cons (pe_callB call_len_seq (by rfl) tl PySem.boot_len (pa_cons (pv 1) pa_nil)) pa_nil))) (fun _ _ => rfl)))), ?_⟩
    refine ⟨_, rfl, _, rfl, _, rfl, q, _, rfl, .inl hq, p, _, m, rfl, hS, hm, (by omega), (by omega), fun H' v v0 v1 hb hs => ?_⟩
    have hq' : SqL K H' q xs := by
      rcases hq with (h | ⟨o, h⟩) | h
      · exact .inl (.inl (hb _ _ (Ne.symm npq) h))
      · exact .inl (.inr ⟨o, hb _ _ (Ne.symm npq) h⟩)
      · exact .inr h
    have hv : v.toNat < xs.length := by omega
    have ev : ((v.toNat : Nat) : Int) = v := by omega
    refine ⟨q, _, _, xs[v.toNat], rfl, rfl, hq', ?_, ?_⟩
    · have z := atI_nat (xs := xs) (j := v.toNat) (List.getElem?_eq_getElem hv)
      rw [ev] at z
      exact z
    · exact k H' v.toNat _ (List.getElem?_eq_getElem hv) hb hs
end
end K01

/-! t[::-1] of a tuple. -/
namespace Tp
open PySem PySem.Spec PyProof.Rows L2
theorem pick_all (l : List Value) : (List.range l.length).filterMap (fun k => l[k]?) = l := by
  have z := congrArg Array.toList (HT.pick_gen l.toArray 0 l.length)
  simp only [List.toList_toArray, List.drop_zero, List.take_length] at z
  have e : (fun (m : Nat) => l.toArray[(((0 : Nat) : Int) + (m : Int) * 1).toNat]?) = fun k => l[k]? := by
    funext m
    rw [show (((0 : Nat) : Int) + (m : Int) * 1).toNat = m by omega]
    simp
  rw [e] at z
  exact z
theorem fm_congr {α β : Type} {f g : α → Option β} : ∀ (l : List α), (∀ x ∈ l, f x = g x) → l.filterMap f = l.filterMap g
  | [], _ => rfl
  | x :: r, h => by rw [List.filterMap_cons, List.filterMap_cons, h x List.mem_cons_self, fm_congr r fun y hy => h y (List.mem_cons_of_mem _ hy)]
theorem pick_rev (xs : Array Value) : ((List.range xs.size).filterMap fun (k : Nat) => xs[(((xs.size : Nat) : Int) - 1 + (k : Int) * (-1)).toNat]?) = xs.toList.reverse := by
  have z := pick_all xs.toList.reverse
  rw [List.length_reverse, Array.length_toList] at z
  refine Eq.trans (fm_congr _ fun k hk => ?_) z
  have hk : k < xs.size := List.mem_range.mp hk
  rw [show (((xs.size : Nat) : Int) - 1 + (k : Int) * (-1)).toNat = xs.size - 1 - k by omega, List.getElem?_reverse (by rw [Array.length_toList]; exact hk), Array.length_toList]
  simp
theorem applied_rev {prog : Program} {w : World} {A : Around} {E : Value → Shared → Prop} {s : Shared} {sl : Addr} {vl vu vs : Value} {n : Nat} {Q : Int × Int × Nat → Shared → Prop} (hs : s.heap.IsSliceOf sl vl vu vs) (pl : IsPart vl none) (pu : IsPart vu none) (ps : IsPart vs (some (-1)))
    (h : Q ((n : Int) - 1, -1, n) s) : wpAny (model prog w) A (Builtin.Slice.sliceApplied (.ref sl) (pure (n : Int))) Q E s := by
  obtain ⟨os, hos, hcs, hds⟩ := id hs
  unfold Builtin.Slice.sliceApplied Builtin.Slice.sliceFields
  refine wpAny_bind (wpAny_bind (wpAny_field hos hds (x := vl) rfl (wpAny_bind (wpAny_field hos hds (x := vu) rfl (wpAny_bind (wpAny_field hos hds (x := vs) rfl (wpAny_pure ?_)))))))
  refine wpAny_bind (HT.slicePart_ ps ?_)
  show wpAny _ _ (if ((-1 : Int) == 0) = true then _ else _) _ _ s
  rw [if_neg (by decide)]
  refine wpAny_bind (HT.slicePart_ pl (wpAny_bind (HT.slicePart_ pu (wpAny_bind (wpAny_pure ?_)))))
  show wpAny _ _ (pure ((n : Int) - 1, (-1 : Int), Builtin.Slice.slicePlaces ((n : Int) - 1) (-1) (-1))) _ _ s
  have e : Builtin.Slice.slicePlaces ((n : Int) - 1) (-1) (-1) = n := by
    unfold Builtin.Slice.slicePlaces
    rw [if_neg (by decide), show -(-1 : Int) = 1 from rfl, Int.ediv_one]
    split <;> omega
  rw [e]
  exact wpAny_pure h
def tRevT (K : PySem.W.Frag) (te : TE) : TE := fun σ H Q => te σ H fun x H1 => ∃ a xs, x = .ref a ∧ SqT K H1 a xs ∧ ∀ p, H1 p = none → Q (.ref p) (upd H1 p (.tup xs.reverse))
section
variable {X : Cx}
theorem pe_revT {e : Expr} {te : TE} {k : Nat} {p1 p2 p3 pos : Pos} (he : PE X e te) : PE X (.Subscript e (.Slice none none (some (.UnaryOp .USub (.Constant (.int 1) k p1) p2)) p3) pos) (tRevT X.K te) := by
  refine ⟨fun pins s σ H Q I h => Subscript_ (thn (he.run pins s σ H _ I h) fun v s1 ⟨x, H1, I1, r1, q1⟩ => ?_)⟩
  obtain ⟨a, xs, ex, hx, q⟩ := q1
  subst ex
  obtain rfl : v = Value.ref a := r1
  have hst : PO X (some (.UnaryOp .USub (.Constant (.int 1) k p1) p2)) (tPart (tUn (rU fun i => .int (-i)) (tC (.int 1)))) := po_some (pe_un un_neg pe_int)
  refine wpAny_Slice (thn (po_none.run pins s1 σ H1 (fun o H2 => o = none ∧ H2 = H1) I1 ⟨rfl, rfl⟩) fun vl s2 ⟨l, H2, I2, pl, el, e2⟩ => ?_)
  subst el e2
  refine thn (po_none.run pins s2 σ H2 (fun o H3 => o = none ∧ H3 = H2) I2 ⟨rfl, rfl⟩) fun vu s3 ⟨u, H3, I3, pu, eu, e3⟩ => ?_
  subst eu e3
  refine thn (hst.run pins s3 σ H3 (fun o H4 => o = some (-1) ∧ H4 = H3) I3 ⟨1, rfl, -1, rfl, rfl, rfl⟩) fun vs s4 ⟨o, H4, I4, ps, eo, e4⟩ => ?_
  subst eo e4
  generalize hs5 : ({ s4 with heap := s4.heap.push { cls := .type "slice", data := .fields #[vl, vu, vs] } } : Shared) = s5
  have I5 : Inv X pins σ H4 s5 := by
    rw [← hs5]
    exact I4.kept (t' := s4.toks) fun b ob q => Heap.get?_push_of_some _ q
  have hsl : s5.heap.IsSliceOf s4.heap.objs.size vl vu vs := by
    rw [← hs5]
    exact Heap.IsSliceOf.new _ vl vu vs
  obtain ⟨its, r, ht, hz⟩ := I5.tuple hx
  obtain ⟨os, hos, hcs, hds⟩ := id hsl
  have hTs : s5.TypeIs (.ref s4.heap.objs.size) "slice" := ⟨os, hos, hcs⟩
  have hlen := r.length
  show wpAny (model X.prog X.w) X.A (subscriptTail e (.Slice none none (some (.UnaryOp .USub (.Constant (.int 1) k p1) p2)) p3) (.ref a) (.ref s4.heap.objs.size)) (EP X pins σ Q) X.xe _
  refine tail_any (ops := [.ref a, .ref s4.heap.objs.size]) ht.typeIs PyProof.Rows.slot_tuple_getitem.lookup ?_ (by with_unfolding_all rfl)
  unfold getItem
  try with_reducible refine wpAny_holding ?_
  first | refine wpAny_bind (wpAny_pure ?_) | skip
  refine wpAny_bind (wpAny_sequenceKey ht.typeIs (by decide) ?_)
  refine wpAny_bind (wpAny_callSpecial?_slot (name := Str.ofString "__getitem__") ht.typeIs PyProof.Rows.slot_tuple_getitem
    (wpAny_call_entry PyProof.Rows.slot_tuple_getitem ht.typeIs entry_tuple_getitem ?_ (args_tuple_getitem _ _)))
  show wpAny _ _ (Builtin.Tuple.tupleItemsOf (.ref a) >>= _) _ _ s5
  refine wpAny_bind (PyProof.Rows.tupleItemsOf_ ht ?_)
  refine wpAny_bind (wpAny_typeOf hTs ?_)
  rw [if_pos (by decide)]
  refine wpAny_bind (applied_rev hsl pl pu ps ?_)
  show wpAny _ _ (if ((((its.toArray.size : Nat) : Int) - 1) == 0 && (-1 : Int) == 1 && its.toArray.size == its.toArray.size) = true then _ else _) _ _ s5
  rw [if_neg (by rw [show ((-1 : Int) == 1) = false from rfl, Bool.and_false, Bool.false_and]; exact Bool.false_ne_true), pick_rev, List.toList_toArray]
  have hsz : sizeOk (.seq its.reverse.toArray) := by
    show its.reverse.toArray.size ≤ sizeLine
    rw [List.size_toArray, List.length_reverse, ← hlen]
    exact hz
  have new : ObjOk X.prog X.w (upd H4 s5.heap.objs.size (.tup xs.reverse)) (s5.heap.push { cls := .type "tuple", data := .seq its.reverse.toArray }) s5.heap.objs.size (.tup xs.reverse) :=
    ⟨by rw [List.length_reverse]; exact hz, its.reverse, r.reverse, ⟨_, Heap.get?_push_size _ rfl, rfl, _, rfl⟩⟩
  have I6 := I5.laid (t' := s5.toks) (fun b ob q => Heap.get?_push_of_some _ q) (Nat.le_refl _) new
  have fin := (⟨.ref s5.heap.objs.size, _, I6, rfl, q _ (I5.hok.fresh (Nat.le_refl _))⟩ : EP X pins σ Q (.ref s5.heap.objs.size) { s5 with heap := s5.heap.push { cls := .type "tuple", data := .seq its.reverse.toArray }, toks := s5.toks })
  first
    | exact wpAny_bind (m := Builtin.Tuple.tupleExact _) (wpAny_newObj_type (wpAny_pure ⟨_, rfl, wpAny_pure fin⟩) hsz)
    | exact wpAny_bind (wpAny_bind (wpAny_newObj_type (wpAny_pure (wpAny_pure ⟨_, rfl, wpAny_pure fin⟩)) hsz))
end
end Tp

/-! calls with keyword-only parameters; defs whose code object is known; _law_told of a lambda. -/
namespace Rp
open PySem PySem.Spec PyProof.Rows L2
/-- keyword-only defaults alone, all of them passed -/
theorem kbN {K : PySem.W.Frag} {x qual : Str} {params : Arguments} {body : List Stmt} {scope : Scope} {kws : List (Str × V)} {f : Addr} {fd : FuncData} {ps : List Str} (F : FunD K x qual params body scope [] kws f fd) (n : Nat) (ks : List Str)
    (h : ∀ (kV doc pm : Value) (an : Option Addr) (cdv ct : Value) (us ws : List Value), us.length = n → ws.length = ks.length → bindArgs (PySem.W.fnOf x qual params body scope .none kV doc pm an cdv ct) ⟨us, ks.zip ws⟩ = pure (ps.zip (us ++ ws))) :
    KBn K fd ps n ks (fun us ws => us ++ ws) (fun vs zs => vs ++ zs) := by
  obtain ⟨oc, od, dV, kV, doc, pm, an, cdv, ct, osl, rfl, lk, hcd, hD, hK⟩ := F.ex
  rcases hD with ⟨_, rfl⟩ | ⟨e, _⟩
  · exact ⟨fun s us ws _ l1 l2 => .of_eq (h kV doc pm an cdv ct us ws l1 l2), fun r1 r2 => r1.append r2⟩
  · exact absurd rfl e
/-- a def whose promise wants no repr around, its code object told -/
theorem okGC {P : Program} {w : World} {K : PySem.W.Frag} {mg : Str → Option Value} {base : Heap} {x qual : Str} {params : Arguments} {body : List Stmt} {scope : Scope} {dvs : List V} {kws : List (Str × V)} {p : He.Defn} {fd : FuncData} {CX : CXT} {N ps : List Str} {k : Nat} {sp : Sp}
    (F : FunD K x qual params body scope dvs kws (He.fAd K p) fd) (S : FnScope N ps scope) (len : ∀ vs H Q E, sp vs H Q E → vs.length = ps.length)
    (hb : ∀ (A : Around) (outer : List Env) (s : Shared) (H : Hp) (vs : List V) (Q : VK) (E : XK), Room k (A.deeper (envOfC qual scope s.heap.objs.size (He.fAd K p) (.ref (He.codeOf K p)))) → A.guards = some [] → sp vs H Q E →
      ∃ t, PSs (cxOf CX P w K mg base N qual scope (He.fAd K p) (.ref (He.codeOf K p)) A outer s H E) body t ∧ t { nx := fun _ H' => Q .non H', rt := Q } (start N vs) H) : FnG P w K mg base CX (k + 1) (He.fAd K p) fd ps sp := by
  obtain ⟨oc, od, dV, kV, doc, pm, an, cdv, ct, osl, rfl, lk, hcd, _, _⟩ := F.ex
  obtain ⟨c, rfl⟩ := He.codeIn_ref hcd
  have e : He.codeOf K p = c := He.codeOf_eq lk rfl
  rw [e] at hb
  exact fng_of lk hcd S len fun A outer s H vs Q E hr hg hsp => hb A outer s H vs Q E hr hg hsp
end Rp
namespace K01
open PySem PySem.Spec PyProof.Rows L2 Dr Ex Rp
open He (ga ma)
/-- what else is called in the lambdas -/
structure Fns2 (K : PySem.W.Frag) (mg : Str → Option Value) : Prop where
  b : Fns K mg
  gb : mg "before" = some (.ref (ga K "before"))
  gs : mg "sorted_rows" = some (.ref (ga K "sorted_rows"))
  gp : mg "place_of" = some (.ref (ga K "place_of"))
  gi : mg "is_row" = some (.ref (ga K "is_row"))
  fb : ∃ fd, FnK K "before" sBefore (ga K "before") fd
  fs : ∃ fd, FnK K "sorted_rows" sSorted (ga K "sorted_rows") fd
  fp : ∃ fd, FnK K "place_of" sPlace (ga K "place_of") fd
  fi : ∃ fd, FnP K "is_row" sIsRow (ga K "is_row") fd
  fN : ∃ fd, FnM K "InvalidNumber.__init__" iN (ma K (ga K "InvalidNumber") "__init__") fd
  eb : ∀ H, SqT K H (Hx.kwA "before" "down" K) []
  es : ∀ H, SqT K H (Hx.kwA "sorted_rows" "down" K) []
  ep : ∀ H, SqT K H (Hx.kwA "place_of" "down" K) []
section
variable {K : PySem.W.Frag} {fd : FuncData}
theorem kb_before (F : FnK K "before" sBefore (ga K "before") fd) : KBn K fd ["row", "other", "down"] 2 ["down"] (fun us ws => us ++ ws) (fun vs zs => vs ++ zs) :=
  kbN F 2 ["down"] fun kV doc pm an cdv ct us ws l1 l2 => match us, ws, l1, l2 with | [_, _], [_], _, _ => rfl
theorem kb_sorted (F : FnK K "sorted_rows" sSorted (ga K "sorted_rows") fd) : KBn K fd ["rows", "down"] 1 ["down"] (fun us ws => us ++ ws) (fun vs zs => vs ++ zs) :=
  kbN F 1 ["down"] fun kV doc pm an cdv ct us ws l1 l2 => match us, ws, l1, l2 with | [_], [_], _, _ => rfl
theorem kb_place (F : FnK K "place_of" sPlace (ga K "place_of") fd) : KBn K fd ["rows", "row", "down"] 2 ["down"] (fun us ws => us ++ ws) (fun vs zs => vs ++ zs) :=
  kbN F 2 ["down"] fun kV doc pm an cdv ct us ws l1 l2 => match us, ws, l1, l2 with | [_, _], [_], _, _ => rfl
theorem b0_before (F : FnK K "before" sBefore (ga K "before") fd) : ∃ ds, Vals [V.ref (Hx.kwA "before" "down" K)] ds ∧ Binds K fd ["row", "other", "down"] ds :=
  F.binds0 2 (List.cons_ne_nil _ _) rfl fun D doc pm an cdv ct us ks l1 l2 => match us, ks, l1, l2 with | [_, _], [_], _, _ => ⟨_, _, _, _, _, _, rfl, rfl, rfl⟩
theorem b0_sorted (F : FnK K "sorted_rows" sSorted (ga K "sorted_rows") fd) : ∃ ds, Vals [V.ref (Hx.kwA "sorted_rows" "down" K)] ds ∧ Binds K fd ["rows", "down"] ds :=
  F.binds0 1 (List.cons_ne_nil _ _) rfl fun D doc pm an cdv ct us ks l1 l2 => match us, ks, l1, l2 with | [_], [_], _, _ => ⟨_, _, _, _, _, _, rfl, rfl, rfl⟩
theorem b0_place (F : FnK K "place_of" sPlace (ga K "place_of") fd) : ∃ ds, Vals [V.ref (Hx.kwA "place_of" "down" K)] ds ∧ Binds K fd ["rows", "row", "down"] ds :=
  F.binds0 2 (List.cons_ne_nil _ _) rfl fun D doc pm an cdv ct us ks l1 l2 => match us, ks, l1, l2 with | [_, _], [_], _, _ => ⟨_, _, _, _, _, _, rfl, rfl, rfl⟩
end
end K01

/-! sorted(xs, key=f) where f's calls keep what a promise of one's own tells. -/
namespace SoK
open PySem PySem.W PySem.Calls PyProof.Rows
section
variable {prog : Program} {w : World} {A : Around} {E : Value → Shared → Prop} {s : Shared} {a : Addr} {vs : List Value} {kz : List PyData} {P : PySem.Fin → Shared → Prop}
/-- at most one key: nothing is compared -/
theorem sorts_one {ks : List Value} (e : EachIs (fun v d => ∃ as, Reads s.heap v d as) ks kz) (hal : AllAlike kz) (hnn : ∀ d ∈ kz, d ≠ .none) (h1 : kz.length ≤ 1) (hu : ∀ d, d ∈ kz → A.units + d.depth < cLine) : SortsAt prog w A s (dataKind s.heap kz) ks := by
  refine ⟨fun v hv => ?_, ⟨general', fun E x y p q Q ha hb hq => ?_, fun h2 => ?_⟩⟩
  · obtain ⟨d, hd, as, r⟩ := e.left v hv
    exact ⟨_, dataKind_some hal hd r⟩
  · obtain ⟨d, as, hd, ra, rfl⟩ := dataKind_inv ha
    obtain ⟨d', as', hd', rb, rfl⟩ := dataKind_inv hb
    show wpAny (model prog w) A (oneLt' false x y) Q E s
    exact oneLt_alike (fun z => nomatch z) ra rb (hal d hd d' hd') (hnn d hd) (Nat.lt_of_le_of_lt (Nat.add_le_add_left (Nat.min_le_left _ _) _) (hu d hd)) hq
  · have := e.length
    omega
/-- the list's own sort: a is empty while f runs, the keys stand in a list of their own -/
theorem keyM_tree {f : Value} {n : Nat} (J : Nat → Nat → Shared → Prop) (ho : s.heap.get? a = some (seqObj "list" vs.toArray n)) (hZ : vs.length < sizeLine) (hal : AllAlike kz) (hnn : ∀ d ∈ kz, d ≠ .none) (hsk : Sortable kz ∨ kz.length ≤ 1) (hu : ∀ d, d ∈ kz → A.units + d.depth < cLine)
    (start : ∀ e1, (sortingHeap s.heap a vs).get? a = some (seqObj "list" #[] e1) → (sortingHeap s.heap a vs).get? (s.heap.objs.size + 1) = some (seqObj "list" #[] 0) → J e1 0 { s with heap := sortingHeap s.heap a vs })
    (turn : ∀ e1 j v s', vs[j]? = some v → J e1 j s' → wpAny (model prog w) A (call f [v]) (fun u s2 => ∃ kA e, s2.heap.get? (s.heap.objs.size + 1) = some (seqObj "list" kA e) ∧ kA.size < sizeLine ∧
      J e1 (j + 1) { s2 with heap := s2.heap.update (s.heap.objs.size + 1) (Obj.mapSeq (·.push u)) }) (fun _ _ => False) s')
    (done : ∀ e1 s', J e1 vs.length s' → s'.heap.get? a = some (seqObj "list" #[] e1) ∧ ∃ keys e, s'.heap.get? (s.heap.objs.size + 1) = some (seqObj "list" keys e) ∧ keys.size = vs.length ∧ EachIs (fun v k => ∃ as, Reads s'.heap v k as) keys.toList kz)
    (h : ∀ e1 s' out c h' tk, J e1 vs.length s' → (∀ b o, b ≠ a → b ≠ s.heap.objs.size + 1 → s'.heap.get? b = some o → h'.get? b = some o) → h'.get? a = some (seqObj "list" (List.toArray out) c) → KeyedOut false kz vs out → P (.done (.ret .none)) { s' with heap := h', toks := tk }) :
    wpAny (model prog w) A (ksk_tree a f false) P E s := by
  have ha : a < s.heap.objs.size := Heap.lt_size ho
  obtain ⟨e1, ho1⟩ : ∃ e1, (s.heap.update a (Obj.mapSeq fun _ => (#[] : Array Value))).get? a = some (seqObj "list" #[] e1) := ⟨_, get?_update_seq ho fun _ => #[]⟩
  have size1 : ((s.heap.update a (Obj.mapSeq fun _ => (#[] : Array Value))).push (seqObj "tuple" vs.toArray 0)).objs.size = s.heap.objs.size + 1 := by rw [size_push', Heap.size_update]
  have atA : (sortingHeap s.heap a vs).get? a = some (seqObj "list" #[] e1) := Heap.get?_push_of_some _ (Heap.get?_push_of_some _ ho1)
  have atK : (sortingHeap s.heap a vs).get? (s.heap.objs.size + 1) = some (seqObj "list" #[] 0) := by
    have z := Heap.get?_push_size ((s.heap.update a (Obj.mapSeq fun _ => (#[] : Array Value))).push (seqObj "tuple" vs.toArray 0)) (o := seqObj "list" #[] 0) rfl
    rw [size1] at z
    exact z
  have j0 := start e1 atA atK
  unfold ksk_tree
  refine wpAny_bind (listItems_at ho rfl (wpAny_bind (listUpdate_at ho rfl ?_ (by rw [List.size_toArray]; exact Nat.le_of_lt hZ) (Nat.zero_le _))))
  refine wpAny_bind (seqEpoch_at ho1 rfl (wpAny_bind (wpAny_newTuple ?_ (Nat.le_of_lt hZ))))
  refine wpAny_bind (wpAny_newList (wpAny_holding ?_) (Nat.zero_le _))
  show wpAny (model prog w) A (ksk_rest a f false vs.toArray e1 (.ref ((s.heap.update a (Obj.mapSeq fun _ => (#[] : Array Value))).push (seqObj "tuple" vs.toArray 0)).objs.size)) P E { s with heap := sortingHeap s.heap a vs }
  rw [size1]
  generalize hk : s.heap.objs.size + 1 = kS at turn done h ⊢
  generalize ({ s with heap := sortingHeap s.heap a vs } : Shared) = s1 at j0 ⊢
  unfold ksk_rest
  refine wpAny_bind (wpAny_rule ?_)
  first
    | rw [List.forIn_toArray]
    | (rw [← Array.forIn_toList]; simp only [List.toList_toArray])
  refine wpAny_bind (ksk_fold (fun i s' => J e1 i s') vs 0 s1 j0 (fun j x s' hx hj => ?_) fun s' hj => ?_)
  · rw [Nat.zero_add] at hj ⊢
    refine wpAny_bind (wpAny_attempt (wpAny_mono (turn e1 j x s' hx hj) (fun u s2 he => ?_) fun _ _ hF => hF.elim))
    obtain ⟨kA, e, hk2, hz, hJ⟩ := he
    refine wpAny_bind (listUpdate_at hk2 rfl ?_ (Nat.le_of_lt hz) (by show (kA.push u).size ≤ _; rw [Array.size_push]; omega))
    exact wpAny_pure ⟨rfl, hJ⟩
  · rw [Nat.zero_add] at hj
    obtain ⟨na, keys, e, nk, hsz, hr⟩ := done e1 s' hj
    refine wpAny_bind (listItems_at nk rfl ?_)
    obtain ⟨g, g1, g2⟩ := L2.restrict s'.heap fun b => decide (b ≠ kS)
    have gk : g.get? kS = none := g2 kS (by simp)
    have kp : KeepsBut a g s'.heap := fun b o hb q => by
      by_cases z : b = kS
      · rw [z, gk] at q
        cases q
      · rw [g1 b (decide_eq_true z)] at q
        exact q
    have S : SortsAt prog w A s' (dataKind s'.heap kz) keys.toList := by
      rcases hsk with z | z
      · exact SortsAt.data hr hal z hu
      · exact sorts_one hr hal hnn z hu
    refine keyH_end (κ := dataKind s'.heap kz) (h₁ := g) kp gk nk na (by rw [← hk]; exact Nat.ne_of_gt (Nat.lt_succ_of_lt ha)) S hsz (Nat.le_of_lt hZ) fun h3 tk3 c k3 n3 => ?_
    refine h e1 s' _ c h3 tk3 hj (fun b o h1 h2 q => k3 b o h1 ?_) n3 ⟨s'.heap, keys.toList, hal, rfl, hr⟩
    rw [g1 b (decide_eq_true h2)]
    exact q
/-- sorted(xs, key=f) -/
theorem sortedM {l : Addr} {f : Addr} {Q : Value → Shared → Prop} (J : Nat → Nat → Shared → Prop) (hl : s.heap.IsList l vs.toArray) (hZ : vs.length < sizeLine) (hal : AllAlike kz) (hnn : ∀ d ∈ kz, d ≠ .none) (hsk : Sortable kz ∨ kz.length ≤ 1) (hu : ∀ d, d ∈ kz → A.units + 2 + d.depth < cLine)
    (start : ∀ e1 h, (∀ b o, s.heap.get? b = some o → h.get? b = some o) → h.get? (s.heap.objs.size + 1) = some (seqObj "list" #[] e1) → h.get? (s.heap.objs.size + 3) = some (seqObj "list" #[] 0) → J e1 0 { s with heap := h })
    (turn : ∀ e1 j v s', vs[j]? = some v → J e1 j s' → wpAny (model prog w) A.in1.in1 (call (.ref f) [v]) (fun u s2 => ∃ kA e, s2.heap.get? (s.heap.objs.size + 3) = some (seqObj "list" kA e) ∧ kA.size < sizeLine ∧
      J e1 (j + 1) { s2 with heap := s2.heap.update (s.heap.objs.size + 3) (Obj.mapSeq (·.push u)) }) (fun _ _ => False) s')
    (done : ∀ e1 s', J e1 vs.length s' → s'.heap.get? (s.heap.objs.size + 1) = some (seqObj "list" #[] e1) ∧ ∃ keys e, s'.heap.get? (s.heap.objs.size + 3) = some (seqObj "list" keys e) ∧ keys.size = vs.length ∧ EachIs (fun v k => ∃ as, Reads s'.heap v k as) keys.toList kz)
    (h : ∀ e1 s' out c h' tk, J e1 vs.length s' → (∀ b o, b ≠ s.heap.objs.size + 1 → b ≠ s.heap.objs.size + 3 → s'.heap.get? b = some o → h'.get? b = some o) → h'.get? (s.heap.objs.size + 1) = some (seqObj "list" (List.toArray out) c) → KeyedOut false kz vs out → Q (.ref (s.heap.objs.size + 1)) { s' with heap := h', toks := tk }) :
    wpAny (model prog w) A (call (.builtin "sorted") [.ref l] [(Str.ofString "key", .ref f)]) Q E s := by
  have cs : (copyHeap s.heap vs).objs.size = s.heap.objs.size + 2 := by
    unfold copyHeap
    rw [size_push', Heap.size_update, size_push']
  refine sorted_of_sort hl (Nat.le_of_lt hZ) (ksk_s1 _ _) (fun _ => ksk_l1 _ _) fun E' => ?_
  rw [ksk_t1]
  refine keyM_tree (kz := kz) (s := { s with heap := copyHeap s.heap vs }) J (copyHeap_at s.heap vs) hZ hal hnn hsk (fun d hd => by have := hu d hd; show A.units + 1 + 1 + d.depth < cLine; omega) (fun e1 h1 h2 => ?_) (fun e1 j v s' hv hj => ?_) (fun e1 s' hj => ?_) (fun e1 s' out c h' tk hj k hD ko => ⟨rfl, ?_⟩)
  · refine start e1 _ (fun b o q => ?_) h1 (by rw [show (copyHeap s.heap vs).objs.size + 1 = s.heap.objs.size + 3 by omega] at h2; exact h2)
    exact sortingHeap_old (Nat.ne_of_lt (Nat.lt_succ_of_lt (Heap.lt_size q))) (copyHeap_old q)
  · show wpAny (model prog w) A.in1.in1 _ (fun u s2 => ∃ kA e, s2.heap.get? ((copyHeap s.heap vs).objs.size + 1) = _ ∧ _ ∧ J e1 (j + 1) { s2 with heap := s2.heap.update ((copyHeap s.heap vs).objs.size + 1) _ }) _ s'
    rw [show (copyHeap s.heap vs).objs.size + 1 = s.heap.objs.size + 3 by omega]
    exact turn e1 j v s' hv hj
  · show _ ∧ ∃ keys e, s'.heap.get? ((copyHeap s.heap vs).objs.size + 1) = _ ∧ _
    rw [show (copyHeap s.heap vs).objs.size + 1 = s.heap.objs.size + 3 by omega]
    exact done e1 s' hj
  · refine h e1 s' out c h' tk hj (fun b o h1 h2 q => k b o h1 (fun z => h2 ?_) q) hD ko
    rw [z]
    show (copyHeap s.heap vs).objs.size + 1 = _
    omega
end
end SoK

/-! a lambda of one parameter, and sorted(.., key=lambda). -/
namespace LamK
open PySem PySem.Spec PyProof.Rows L2 LamX
/-- one parameter x, no other name of its own -/
structure LamP (sc scope : Scope) (x : Str) : Prop where
  kind : scope.kind = .function
  co : scope.isCoroutine = false
  gen : scope.isGenerator = false
  par : scope.names.lookup x = some .local
  cell : ∀ y ∈ scope.names, y.2 ≠ .cell
  loc : ∀ y ∈ scope.names, y.2 = .local → y.1 = x
  free : ∀ y ∈ scope.names, y.2 = .free → sc.names.lookup y.1 = some .cell ∨ sc.names.lookup y.1 = some .free
def lamPB (sc scope : Scope) (x : Str) : Bool :=
  decide (scope.kind = .function) && (!scope.isCoroutine && (!scope.isGenerator && (decide (scope.names.lookup x = some .local) && scope.names.all fun y => !decide (y.2 = .cell) && ((!decide (y.2 = .local) || decide (y.1 = x)) && (!decide (y.2 = .free) || (decide (sc.names.lookup y.1 = some .cell) || decide (sc.names.lookup y.1 = some .free)))))))
theorem lamP_by {sc scope : Scope} {x : Str} (h : lamPB sc scope x = true) : LamP sc scope x := by
  unfold lamPB at h
  simp only [Bool.and_eq_true, Bool.or_eq_true, Bool.not_eq_true', decide_eq_true_eq, decide_eq_false_iff_not, List.all_eq_true] at h
  obtain ⟨h1, h2, h3, h4, h5⟩ := h
  refine ⟨h1, h2, h3, h4, fun y hy => (h5 y hy).1, fun y hy e => ?_, fun y hy e => ?_⟩
  · exact (h5 y hy).2.1.resolve_left fun z => z e
  · exact (h5 y hy).2.2.resolve_left fun z => z e
theorem LamP.has {X : Cx} {scope : Scope} {x : Str} (L : LamP X.env.scope scope x) (ok : X.Ok) : ∀ y ∈ scope.names, y.2 = .free → ∃ c, X.env.cells.lookup y.1 = some c := fun y hy e =>
  (L.free y hy e).elim (fun z => ok.has _ (.inl z)) fun z => ok.has _ (.inr z)
/-- the names of the lambda's body: x, then those of the maker, but for what the body does not see -/
def seenB (scope : Scope) (x : Str) (M N : List Str) : Bool := decide (M.length = N.length) && (M.zip N).all fun p => decide (scope.names.lookup p.1 = none) || (!decide (p.1 = x) && decide (p.1 = p.2))
theorem seen_at {scope : Scope} {x : Str} : ∀ {M N : List Str} {i : Nat} {y : Str}, seenB scope x M N = true → M[i]? = some y → scope.names.lookup y = none ∨ (y ≠ x ∧ N[i]? = some y) := by
  intro M N i y h hy
  unfold seenB at h
  obtain ⟨h1, h2⟩ := Bool.and_eq_true_iff.mp h
  have hl : M.length = N.length := of_decide_eq_true h1
  have hi : i < N.length := by
    have := (List.getElem?_eq_some_iff.mp hy).1
    omega
  have hz : (y, N[i]) ∈ M.zip N := List.mem_of_getElem? (i := i) (by rw [List.getElem?_zip_eq_some]; exact ⟨hy, List.getElem?_eq_getElem hi⟩)
  have q := List.all_eq_true.mp h2 _ hz
  simp only [Bool.or_eq_true, Bool.and_eq_true, Bool.not_eq_true', decide_eq_true_eq, decide_eq_false_iff_not] at q
  rcases q with q | ⟨q1, q2⟩
  · exact .inl q
  · exact .inr ⟨q1, by rw [List.getElem?_eq_getElem hi, ← q2]⟩
def lamCxP (X : Cx) (A : Around) (outer : List Env) (s : Shared) (H : Hp) (E : XK) (scope : Scope) (f c' : Addr) (N' : List Str) : Cx := { lamCx X A outer s H E scope f c' with N := N' }
section
variable {X : Cx} {pins : List (Addr × Obj)} {σ : L2.St} {H : Hp} {s : Shared} {x : Str} {M : List Str} {v : V} {u : Value}
theorem lam_startP {A : Around} {outer : List Env} {E : XK} {scope : Scope} {f c' : Addr} {h₁ : Heap} {tk : Nat} (I : Inv X pins σ H s) (L : LamP X.env.scope scope x) (e0 : Env0 X.prog X.w X.K X.mg X.base A outer s H) (hd : A.handled = none) (hM : seenB scope x M X.N = true) (rv : RelV v u)
    (hns : h₁.Ns s.heap.objs.size fun y => ([(x, u)] : List (Str × Value)).reverse.lookup y) (kp : ∀ b o, s.heap.get? b = some o → h₁.get? b = some o) :
    Inv (lamCxP X A outer s H E scope f c' (x :: M)) [] (some v :: σ) H { s with heap := h₁, toks := tk } := by
  have back : ∀ {y c}, (cloFrom X.env.cells scope.names []).lookup y = some c → X.env.cells.lookup y = some c := fun {y c} e => by
    rcases cloFrom_mem (PySem.mem_of_lookup e) with hm | ⟨h1, h2⟩
    · cases hm
    · obtain ⟨c1, hc⟩ := L.has I.ok _ h1 rfl
      have hc1 : X.env.cells.lookup y = some c1 := hc
      rw [h2, hc1]
      rfl
  have look : ∀ {y}, scope.names.lookup y = some .free → ∃ c, (cloFrom X.env.cells scope.names []).lookup y = some c := fun {y} hl => mem_lookup (cloFrom_has (cells := X.env.cells) (acc := []) (show (y, NameKind.free) ∈ scope.names from PySem.mem_of_lookup hl))
  have isC : ∀ {c : Addr} {z : Option Value}, s.heap.IsCell c z → h₁.IsCell c z := fun {c z} ⟨o, ho, hdt⟩ => ⟨o, kp _ _ ho, hdt⟩
  have noA : ∀ b : Addr, b ∉ (lamCxP X A outer s H E scope f c' (x :: M)).ex := fun b z => nomatch (show b ∈ ([] : List Addr) from z)
  refine ⟨⟨e0.mod, L.kind, rfl, rfl, Nat.le_refl _, fun y z c e1 e2 => I.ok.inj y z c (back e1) (back e2), fun y hy => ?_, fun y c z _ => (nomatch (show false = true from z)), fun _ => hd, Around.frames_deeper e0.frames, .inr ⟨rfl, rfl⟩, fun b z => absurd z (noA b), e0.bs, e0.bsz,
      fun b _ _ => noA b, fun b z => absurd z (noA b), e0.funs, e0.frf⟩,
    rfl, e0.bare, Un.kept kp, ⟨_, hns, fun i y v' e1 e2 e3 => ?_⟩, fun y c e => ?_, e0.hok.fresh (Nat.le_refl _), fun y c e => ?_, fun q hq => (nomatch (show q ∈ ([] : List (Addr × Obj)) ++ [] from hq)), e0.hok.kept kp, ?_⟩
  · rcases (show scope.names.lookup y = some .cell ∨ scope.names.lookup y = some .free from hy) with k | k
    · exact absurd rfl (L.cell _ (PySem.mem_of_lookup k))
    · exact look k
  · have e3 : Vis scope y := e3
    cases i with
    | zero =>
      have ex : x = y := Option.some.inj e1
      have ev : v = v' := Option.some.inj (Option.some.inj e2)
      subst ex
      subst ev
      exact ⟨u, rv, .inl ⟨L.par, by simp⟩⟩
    | succ i =>
      have e1 : M[i]? = some y := e1
      have e2 : σ[i]? = some (some v') := e2
      rcases seen_at hM e1 with z | ⟨z1, z2⟩
      · rcases e3 with k | k | k <;> rw [z] at k <;> cases k
      · rcases e3 with k | k | k
        · exact absurd (L.loc _ (PySem.mem_of_lookup k) rfl) z1
        · exact absurd rfl (L.cell _ (PySem.mem_of_lookup k))
        · obtain ⟨m, hn, hl⟩ := I.loc
          have hf := L.free _ (PySem.mem_of_lookup k) rfl
          obtain ⟨w', r, q⟩ := hl i y v' z2 e2 (hf.elim (fun t => .inr (.inl t)) fun t => .inr (.inr t))
          obtain ⟨c2, h2⟩ := look k
          have c1 := back h2
          refine ⟨w', r, .inr ⟨.inr k, c2, h2, ?_⟩⟩
          rcases q with ⟨k', _⟩ | ⟨_, c3, e', z⟩
          · have k' : X.env.scope.names.lookup y = some .local := k'
            rcases hf with t | t <;> rw [show X.env.scope.names.lookup y = _ from t] at k' <;> cases k'
          · rw [c1] at e'
            cases e'
            exact isC z
  · obtain ⟨w', z⟩ := I.cell y c (back e)
    exact ⟨w', isC z⟩
  · exact I.freeC y c (back e)
  · show σ.length + 1 = M.length + 1
    have q := of_decide_eq_true (Bool.and_eq_true_iff.mp hM).1
    rw [I.len, q]
/-- f(u), f the lambda -/
theorem lam_callP {A : Around} {scope : Scope} {f c' : Addr} {params : Arguments} {body : Expr} {pm ctv : Value} {k : Nat} {tb : TE} {Q : VK} {E : XK} (I : Inv X pins σ H s) (L : LamP X.env.scope scope x) (hM : seenB scope x M X.N = true)
    (hf : s.heap.get? f = some (PySem.W.kla_obj "<lambda>" (X.env.qual ++ "<lambda>") params body scope (cloFrom X.env.cells scope.names []) pm c' ctv)) (hc : H c' = some (CodeO c' (X.env.qual ++ "<lambda>")))
    (hbind : ∀ t : Value, bindArgs (PySem.W.kla_fn "<lambda>" (X.env.qual ++ "<lambda>") params body scope (cloFrom X.env.cells scope.names []) pm (.ref c') ctv) ⟨[t], []⟩ = pure [(x, t)])
    (e0 : Env0 X.prog X.w X.K X.mg X.base A X.stack s H) (hr : Room (k + 1) A) (hbody : Room k (A.deeper (lamEnv X scope s.heap.objs.size f c')) → PE (lamCxP X A X.stack s H E scope f c' (x :: M)) body tb) (rv : RelV v u) (h : tb (some v :: σ) H Q) :
    codeAny (model X.prog X.w) A (.call (.ref f) ⟨[u], []⟩) (CR (L2.CX X.prog X.w) X.stack X.prog X.w H s Q E) s := by
  obtain ⟨⟨oc, vs, t, hoc, hdc, hvc⟩, _, _⟩ := I.hok c' _ hc
  refine PySem.W.kla_callFunE hr.depth hf rfl L.co L.gen rfl ⟨c', oc, vs, t, rfl, hoc, hdc, hvc⟩ ?_
  rw [hbind u]
  refine wpAny_pure (wpAny_newFunctionEnv L.cell (fun y hy => ?_) (fun h₁ hns hsb => ⟨I.nolimit.fresh _ hsb, ?_⟩) L.kind)
  · rw [List.mem_singleton.mp hy]
    exact L.par
  · have kp : ∀ b o, s.heap.get? b = some o → h₁.get? b = some o := fun b o z => hsb.extBut b o (Nat.ne_of_lt (Heap.lt_size z)) (Heap.get?_push_of_some _ z)
    have J := lam_startP (tk := s.toks + ([(x, u)] : List (Str × Value)).length) (f := f) (c' := c') (E := E) I L e0 hr.hd hM rv hns kp
    refine PySem.W.kla_codeExpr (wpAny_mono ((hbody (hr.deeper _)).run [] _ _ H Q J h) (fun r s' hq => ?_) fun e s' hq => hq)
    obtain ⟨w', H', J', rv', hq'⟩ := hq
    exact ⟨w', H', J'.os, J'.bare, J'.base, J'.hok, rv', hq'⟩
end
end LamK

/-! sorted(e, key=lambda x: body): the keys are tuples of integers. -/
namespace LamK
open PySem PySem.Spec PyProof.Rows L2 LamX Rp
def keyD (ns : List Int) : PyData := .tuple (ns.map PyData.int)
def sortV (xs : List V) (nss : List (List Int)) : List V := ((xs.zip nss).mergeSort (PySem.W.dataLe false fun p => keyD p.2)).map (·.1)
/-- tuples of these integers -/
inductive KeysAt (K : PySem.W.Frag) (H : Hp) : List V → List (List Int) → Prop
  | nil : KeysAt K H [] []
  | snoc {ks : List V} {nss : List (List Int)} {b : Addr} {ns : List Int} : KeysAt K H ks nss → SqT K H b (ns.map V.int) → KeysAt K H (ks ++ [.ref b]) (nss ++ [ns])
theorem KeysAt.map {K : PySem.W.Frag} {H H' : Hp} (m : ∀ b xs, SqT K H b xs → SqT K H' b xs) : ∀ {ks : List V} {nss : List (List Int)}, KeysAt K H ks nss → KeysAt K H' ks nss := fun h => by
  induction h with
  | nil => exact .nil
  | snoc _ q ih => exact .snoc ih (m _ _ q)
theorem KeysAt.len {K : PySem.W.Frag} {H : Hp} {ks : List V} {nss : List (List Int)} (h : KeysAt K H ks nss) : ks.length = nss.length := by
  induction h with
  | nil => rfl
  | snoc _ _ ih => rw [List.length_append, List.length_append, ih]; rfl
theorem dt_ints {K : PySem.W.Frag} {H : Hp} : ∀ ns : List Int, DtAll K H (ns.map V.int) (ns.map PyData.int)
  | [] => .nil
  | n :: r => .cons (.int n) (dt_ints r)
theorem dt_snoc {K : PySem.W.Frag} {H : Hp} : ∀ {xs : List V} {ds : List PyData} {x : V} {d : PyData}, DtAll K H xs ds → Dt K H x d → DtAll K H (xs ++ [x]) (ds ++ [d])
  | _, _, _, _, .nil, h => .cons h .nil
  | _, _, _, _, .cons a r, h => .cons a (dt_snoc r h)
theorem KeysAt.data {K : PySem.W.Frag} {H : Hp} {ks : List V} {nss : List (List Int)} (h : KeysAt K H ks nss) : DtAll K H ks (nss.map keyD) := by
  induction h with
  | nil => exact .nil
  | snoc _ q ih =>
    rw [List.map_append]
    exact dt_snoc ih (.tup q (dt_ints _))
theorem alike_ints : ∀ ns ms : List Int, PySem.W.alikeAll (ns.map PyData.int) (ms.map PyData.int) = true
  | [], _ => by cases ‹List Int› <;> rfl
  | _ :: _, [] => rfl
  | n :: r, m :: q => by
    show (true && PySem.W.alikeAll (r.map PyData.int) (q.map PyData.int)) = true
    rw [alike_ints r q]
    rfl
theorem depth_ints : ∀ ns : List Int, PyData.depthAll (ns.map PyData.int) ≤ 1
  | [] => Nat.zero_le _
  | n :: r => by
    show PyData.depthAll (PyData.int n :: r.map PyData.int) ≤ 1
    simp only [PyData.depthAll, PyData.depth]
    have := depth_ints r
    omega
theorem read_all {h : Heap} : ∀ {us : List Value} {ds : List PyData} {as : List Addr}, ReadsAll h us ds as → PySem.W.EachIs (fun v d => ∃ as, Reads h v d as) us ds
  | _, _, _, .nil => .nil
  | _, _, _, .cons a r => .cons ⟨_, a⟩ (read_all r)
/-- what is asked of the list, of the lambda at each item, and of what follows -/
def sortIn (K : PySem.W.Frag) (T : List (Addr × Str)) (tb : TE) (σ : L2.St) (Q : VK) (v : V) (H1 : Hp) : Prop := ∃ (a : Addr) (xs : List V) (nss : List (List Int)), v = .ref a ∧ SqL K H1 a xs ∧ xs.length = nss.length ∧ xs.length ≤ 1000 ∧ ((∀ ns ∈ nss, ns ≠ []) ∨ nss.length ≤ 1) ∧ Tabs T H1 ∧
  (∀ (i : Nat) (x : V) (ns : List Int) (G : Hp), xs[i]? = some x → nss[i]? = some ns → ExtN H1 G → Tabs T G → tb (some x :: σ) G fun y G' => Same G G' ∧ ∃ b, y = .ref b ∧ SqT K G' b (ns.map V.int)) ∧
  ∀ (G : Hp) (p : Addr), ExtN H1 G → Tabs T G → G p = none → Q (.ref p) (upd G p (.lst (sortV xs nss)))
def tSortK (K : PySem.W.Frag) (T : List (Addr × Str)) (te tb : TE) : TE := fun σ H Q => te σ H (sortIn K T tb σ Q)
theorem zip_keys : ∀ {xs : List V} {nss : List (List Int)}, xs.length = nss.length → (xs.zip nss).map (fun p : V × List Int => keyD p.2) = nss.map keyD
  | [], [], _ => rfl
  | _ :: _, _ :: _, h => congrArg (List.cons _) (zip_keys (by simpa using h))
theorem each_vals : ∀ {xs : List V} {us : List Value} (nss : List (List Int)), Vals xs us → xs.length = nss.length → PySem.W.EachIs (fun u (p : V × List Int) => RelV p.1 u) us (xs.zip nss)
  | _, _, [], .nil, _ => .nil
  | _, _, ns :: r, .cons a q, h => .cons a (each_vals r q (by simpa using h))
theorem vals_each : ∀ {us : List Value} {bs : List (V × List Int)}, PySem.W.EachIs (fun u (p : V × List Int) => RelV p.1 u) us bs → Vals (bs.map (·.1)) us
  | _, _, .nil => .nil
  | _, _, .cons a r => .cons a (vals_each r)
section
variable {X : Cx} {T : List (Addr × Str)} {c P : Addr} {x : Str} {params : Arguments} {body e : Expr} {scope : Scope} {M : List Str} {lpos kpos p pos : Pos} {te tb : TE} {k : Nat}
theorem pe_sortK (hcalm : X.calm = true) (hg : Gl X "sorted") (hm : X.mg "sorted" = none) (hsys : SysD X.K) (TB : TabB X.base X.mg c P) (hcode : X.env.code = .ref c) (hmT : (P, X.env.qual ++ "<lambda>") ∈ T) (huT : ∀ z ∈ T, z.1 = P → z.2 = X.env.qual ++ "<lambda>")
    (hr : Room (k + 3) X.A) (L : LamP X.env.scope scope x) (hM : seenB scope x M X.N = true) (hdef : defaultsOf params X.env = ([], []))
    (hbind : ∀ (q : Str) (cl : List (Str × Addr)) (pm cv ctv t : Value), bindArgs (PySem.W.kla_fn "<lambda>" q params body scope cl pm cv ctv) ⟨[t], []⟩ = pure [(x, t)]) (ha : PE X e te)
    (hbody : ∀ (A : Around) (outer : List Env) (s : Shared) (H : Hp) (E : XK) (f c' : Addr), Room k (A.deeper (lamEnv X scope s.heap.objs.size f c')) → PE (lamCxP X A outer s H E scope f c' (x :: M)) body tb)
    (he : backTo pos (starEach [e] X.env) = (false, eval e X.env) :: backTo pos (starEach [] X.env) := by rfl) (hpl : (backTo pos (starEach [e] X.env)).any (·.1) = false := by rfl) (hst : starEach [e] X.env = (false, eval e X.env) :: starEach [] X.env := by rfl) :
    PE X (.Call (.Name "sorted" p) [e] [⟨some "key", .Lambda params body scope lpos, kpos⟩] pos) (tSortK X.K T te tb) := by
  refine ⟨fun pins s σ H Q I h => ?_⟩
  refine wpAny_Call_Name_kw (ld_blt I hg hm (show bootBuiltins "sorted" = some (.builtin "sorted") by decide +kernel) ?_ (by decide) (by decide))
  refine PyProof.Rows.callWith_kw (thn ((pa_cons ha pa_nil hst).run pos pins s σ H (fun vs H1 => match vs with
    | [v] => sortIn X.K T tb σ Q v H1
    | _ => False) I h) fun us s1 ⟨vs, H1, I1, r1, q1⟩ => ?_) he hpl rfl rfl
  match vs, q1 with
  | [v], q1 =>
  obtain ⟨a, xs, nss, rfl, hS, hlen, hz, hne, hT, hb, fin⟩ := q1
  obtain ⟨u, rfl, ru⟩ := vals1 r1
  obtain rfl : u = Value.ref a := ru
  show wpAny _ _ (evalAll ((do let v ← eval (.Lambda params body scope lpos) X.env; standAt pos; pure v) :: [])) (fun kvs s2 => wpAny _ _ (call (.builtin "sorted") [.ref a] (([("key" : Str)]).zip kvs)) _ _ s2) _ s1
  refine wpAny_evalAll_cons (wpAny_bind (lam_make2 I1 TB hcode hmT huT hT hdef (L.has I1.ok) fun f c' pm ctv H2 s2 I2 eN T2 hf hfn hfr hco => wpAny_bind (wpAny_standAt (wpAny_pure (wpAny_evalAll_nil ?_)))))
  show wpAny _ _ (call (.builtin "sorted") [.ref a] [("key", .ref f)]) _ _ s2
  have hS2 : SqL X.K H2 a xs := by
    rcases hS with (z | ⟨o, z⟩) | z
    · exact .inl (.inl (eN _ _ z (fun ps y => by cases y)))
    · exact .inl (.inr ⟨o, eN _ _ z (fun ps y => by cases y)⟩)
    · exact .inr z
  obtain ⟨its, rv, pl, _⟩ := I2.list hS2
  have il : its.length = xs.length := rv.length.symm
  have hZ : its.length < sizeLine := by rw [sizeLine_eq]; omega
  have frz : ∀ {b : Addr}, s2.heap.objs.size ≤ b → H2 b = none := fun {b} z => I2.hok.fresh z
  have old : ∀ {b : Addr} {o : Obj}, s2.heap.get? b = some o → b ≠ s2.heap.objs.size + 1 ∧ b ≠ s2.heap.objs.size + 3 := fun {b o} z => by
    have hlt := Heap.lt_size z
    exact ⟨Nat.ne_of_lt (Nat.lt_succ_of_lt hlt), Nat.ne_of_lt (Nat.lt_of_lt_of_le hlt (Nat.le_add_right _ 3))⟩
  have uN : X.A.units + 66 < cLine := by
    have z : X.A.units + 1 + 1 + 64 < cLine := hr.in1.in1.units
    omega
  have n13 : s2.heap.objs.size + 1 ≠ s2.heap.objs.size + 3 := by omega
  have low : ∀ {b : Addr} {u : HO}, H2 b = some u → b ≠ s2.heap.objs.size + 1 ∧ b ≠ s2.heap.objs.size + 3 := fun {b u} q => by
    have hb : b < s2.heap.objs.size := by
      refine Nat.lt_of_not_le fun z => ?_
      rw [frz z] at q
      cases q
    exact ⟨Nat.ne_of_lt (Nat.lt_succ_of_lt hb), Nat.ne_of_lt (Nat.lt_of_lt_of_le hb (Nat.le_add_right _ 3))⟩
  refine SoK.sortedM (kz := nss.map keyD) (J := fun e1 j s' => ∃ Hj ks, Inv X pins σ Hj s' ∧ s'.os = s2.os ∧ Same H2 Hj ∧ Un (frs X.stack) [] H2 Hj s2.heap s'.heap ∧ Hj (s2.heap.objs.size + 1) = some (.frz (PyProof.Rows.seqObj "list" #[] e1) (.lst [])) ∧
      Hj (s2.heap.objs.size + 3) = some (.lst ks) ∧ KeysAt X.K Hj ks (nss.take j)) pl.isList hZ (fun d hd d' hd' => ?_) (fun d hd => ?_) ?_ (fun d hd => ?_) (fun e1 h1 kp hL hk => ?_) (fun e1 j v s' hv hJ => ?_) (fun e1 s' hJ => ?_) (fun e1 s' out c0 h' tk hJ kp hD ko => ?_)
  · obtain ⟨ns, _, rfl⟩ := List.mem_map.mp hd
    obtain ⟨ms, _, rfl⟩ := List.mem_map.mp hd'
    exact alike_ints ns ms
  · obtain ⟨ns, _, rfl⟩ := List.mem_map.mp hd
    exact fun z => by cases z
  · rcases hne with z | z
    · refine .inl (.inl fun d hd => ?_)
      obtain ⟨ns, h1, rfl⟩ := List.mem_map.mp hd
      cases ns with
      | nil => exact absurd rfl (z _ h1)
      | cons n r => exact ⟨_, _, rfl⟩
    · exact .inr (by rw [List.length_map]; exact z)
  · obtain ⟨ns, _, rfl⟩ := List.mem_map.mp hd
    have : (keyD ns).depth ≤ 2 := by
      show PyData.depth (.tuple (ns.map PyData.int)) ≤ 2
      simp only [PyData.depth]
      have := depth_ints ns
      omega
    omega
  · -- the start: the copy and the keys' list are tracked
    obtain ⟨g, g1, g2⟩ := L2.restrict h1 fun b => decide (b ≠ s2.heap.objs.size + 3)
    have gk : ∀ b o, b ≠ s2.heap.objs.size + 3 → h1.get? b = some o → g.get? b = some o := fun b o z q => by
      rw [g1 b (decide_eq_true z)]
      exact q
    have gb : ∀ b o, g.get? b = some o → h1.get? b = some o := fun b o q => by
      by_cases z : b = s2.heap.objs.size + 3
      · rw [z, g2 _ (by simp)] at q
        cases q
      · rw [g1 b (decide_eq_true z)] at q
        exact q
    have g0 : g.get? (s2.heap.objs.size + 3) = none := g2 _ (by simp)
    have I3 := I2.laid (h' := g) (a := s2.heap.objs.size + 1) (o := .frz (PyProof.Rows.seqObj "list" #[] e1) (.lst [])) (t' := s2.toks) (fun b o q => gk b o (old q).2 (kp b o q)) (Nat.le_succ _) ⟨gk _ _ n13 hL, Nat.zero_le _, [], e1, .nil, gk _ _ n13 hL⟩
    have n3 : upd H2 (s2.heap.objs.size + 1) (.frz (PyProof.Rows.seqObj "list" #[] e1) (.lst [])) (s2.heap.objs.size + 3) = none := by
      rw [upd_ne n13.symm]
      exact frz (Nat.le_add_right _ 3)
    have I4 := I3.laidN (h' := h1) (a := s2.heap.objs.size + 3) (o := .lst []) (t' := s2.toks) gb g0 n3 ⟨Nat.zero_le _, [], 0, .nil, hk⟩
    refine ⟨_, [], I4, rfl, fun b o q => ?_, ?_, ?_, upd_same, ?_⟩
    · rw [upd_ne (low q).2, upd_ne (low q).1]
      exact q
    · exact (Un.laid (fun b o q => gk b o (old q).2 (kp b o q)) (Nat.le_succ _) (frz (Nat.le_succ _))).trans (Un.laidN gb g0 n3)
    · rw [upd_ne n13, upd_same]
    · rw [List.take_zero]
      exact .nil
  · -- a turn
    obtain ⟨Hj, ks, Ij, oj, sj, uj, lj, kj, aj⟩ := hJ
    have hj : j < its.length := (List.getElem?_eq_some_iff.mp hv).1
    obtain ⟨xj, hxj⟩ : ∃ z, xs[j]? = some z := ⟨_, List.getElem?_eq_getElem (by omega)⟩
    obtain ⟨nj, hnj⟩ : ∃ z, nss[j]? = some z := ⟨_, List.getElem?_eq_getElem (by omega)⟩
    have rj : RelV xj v := by
      obtain ⟨u0, h0, h1⟩ := rv.get hxj
      rw [hv] at h0
      cases h0
      exact h1
    have EN : ExtN H1 Hj := fun b o z n => sj _ _ (eN b o z n)
    have Tj : Tabs T Hj := T2.ext sj
    have hq := hb j xj nj Hj hxj hnj EN Tj
    have hfj : s'.heap.get? f = some (PySem.W.kla_obj "<lambda>" (X.env.qual ++ "<lambda>") params body scope (cloFrom X.env.cells scope.names []) pm c' ctv) := uj.keep f _ hf hfn hfr (fun z => nomatch (show f ∈ ([] : List Addr) from z))
    have call := lam_callP (A := X.A.in1.in1) (k := k) (M := M) (E := fun _ _ _ => False) Ij L hM hfj (sj _ _ hco) (fun t => hbind _ _ _ _ _ t) Ij.env0.in1.in1 hr.in1.in1 (fun hr' => hbody _ _ _ _ _ _ _ hr') rj hq
    refine wpAny_call (codeAny_mono call fun r s3 hq3 => ?_)
    cases r with
    | error er =>
      obtain ⟨_, _, _, _, _, _, _, _, _, _, _, _, _, _, _, _, z⟩ := (show L2.CX X.prog X.w X.stack Hj s' (fun _ _ _ => False) er s3 from hq3)
    | ok fl =>
      cases fl with
      | next => exact False.elim hq3
      | brk => exact False.elim hq3
      | cont => exact False.elim hq3
      | ret w =>
        obtain ⟨y, H', os, bare, un, hok, ry, sS, b, rfl, hbT⟩ := hq3
        obtain rfl : w = Value.ref b := ry
        have I' : Inv X pins σ H' s3 := Ij.call' (ch := []) os un hok bare (fun b z => nomatch (show b ∈ ([] : List Addr) from z))
        have k' := sS _ _ kj
        obtain ⟨zz, its3, n3, r3, g3⟩ := (show ObjOk X.prog X.w H' s3.heap (s2.heap.objs.size + 3) (.lst ks) from hok _ _ k')
        have lk : ks.length = j := by
          rw [aj.len, List.length_take]
          omega
        have l3 := r3.length
        have sb := Heap.SameBut.update s3.heap (s2.heap.objs.size + 3) (Obj.mapSeq (·.push (Value.ref b)))
        have at3 := PyProof.Rows.get?_update_seq (show s3.heap.get? (s2.heap.objs.size + 3) = some (PyProof.Rows.seqObj "list" its3.toArray n3) from g3) (·.push (Value.ref b))
        have I5 := I'.write (x := s2.heap.objs.size + 3) (e := s2.heap.objs.size + 3) (o := .lst (ks ++ [.ref b])) (t' := s3.toks) (h' := s3.heap.update (s2.heap.objs.size + 3) (Obj.mapSeq (·.push (Value.ref b)))) (by rw [k']; trivial) (.inl rfl)
          (fun d z hd q => (sb.2 d hd).trans q) ⟨_, at3⟩ ⟨by rw [List.length_append, lk, sizeLine_eq]; show j + 1 ≤ _; omega, its3 ++ [.ref b], n3 + 1, r3.append (.cons (show RelV (V.ref b) (Value.ref b) from rfl) .nil), by rw [at3]; simp [PyProof.Rows.seqObj]⟩
        have nk : ∀ d o, s2.heap.get? d = some o → d ≠ s2.heap.objs.size + 3 := fun d o z => (old z).2
        have tupK : ∀ d ys, SqT X.K H' d ys → SqT X.K (upd H' (s2.heap.objs.size + 3) (.lst (ks ++ [.ref b]))) d ys := fun d ys q => by
          rcases q with (q | ⟨o, q⟩) | q
          · exact .inl (.inl (by rw [upd_ne (fun z => by rw [z, k'] at q; cases q)]; exact q))
          · exact .inl (.inr ⟨o, by rw [upd_ne (fun z => by rw [z, k'] at q; cases q)]; exact q⟩)
          · exact .inr q
        refine ⟨its3.toArray, n3, g3, by rw [List.size_toArray, ← l3, lk, sizeLine_eq]; omega, _, ks ++ [.ref b], I5, os.trans oj, fun d o q => ?_, ?_, ?_, upd_same, ?_⟩
        · rw [upd_ne (low q).2]
          exact sS _ _ (sj _ _ q)
        · exact (uj.trans un).trans (Un.write (by rw [k']; trivial) (.inl rfl) (fun d z hd q => (sb.2 d hd).trans q) ⟨_, at3⟩)
        · rw [upd_ne n13]
          exact sS _ _ lj
        · rw [List.take_add_one, hnj]
          exact .snoc ((aj.map fun d ys q => sqt_same sS q).map tupK) (tupK _ _ hbT)
  · -- the keys, read
    obtain ⟨Hj, ks, Ij, oj, sj, uj, lj, kj, aj⟩ := hJ
    have hl : s'.heap.get? (s2.heap.objs.size + 1) = _ := (Ij.hok _ _ lj).1
    obtain ⟨zz, its3, n3, r3, g3⟩ := (show ObjOk X.prog X.w Hj s'.heap (s2.heap.objs.size + 3) (.lst ks) from Ij.hok _ _ kj)
    have e3 : nss.take its.length = nss := List.take_of_length_le (by omega)
    rw [e3] at aj
    obtain ⟨as, ra, _⟩ := Dt.readsAll hsys Ij _ _ _ aj.data r3
    refine ⟨hl, its3.toArray, n3, g3, by rw [List.size_toArray, ← r3.length, aj.len]; omega, ?_⟩
    rw [List.toList_toArray]
    exact read_all ra
  · -- the sorted list
    obtain ⟨Hj, ks, Ij, oj, sj, uj, lj, kj, aj⟩ := hJ
    have eo := PySem.W.keyedOut_each (k := fun p : V × List Int => keyD p.2) (vs := its) (bs := xs.zip nss) (R := fun u p => RelV p.1 u) (by
      rw [zip_keys hlen]
      exact ko) (each_vals nss rv hlen)
    have vo : Vals (sortV xs nss) out := vals_each eo
    -- what is known behind it
    obtain ⟨G, hG⟩ : ∃ G : Hp, G = fun b => if b = s2.heap.objs.size + 1 then none else if b = s2.heap.objs.size + 3 then none else Hj b := ⟨_, rfl⟩
    have GL : G (s2.heap.objs.size + 1) = none := by rw [hG]; exact if_pos rfl
    have Ga : ∀ b, b ≠ s2.heap.objs.size + 1 → b ≠ s2.heap.objs.size + 3 → G b = Hj b := fun b n1 n2 => by rw [hG]; exact (if_neg n1).trans (if_neg n2)
    have Gs : Same H2 G := fun b o q => by
      rw [Ga b (low q).1 (low q).2]
      exact sj _ _ q
    have ug : ∀ b u, G b = some u → b ≠ s2.heap.objs.size + 1 ∧ b ≠ s2.heap.objs.size + 3 ∧ Hj b = some u := fun b u q => by
      by_cases n1 : b = s2.heap.objs.size + 1
      · rw [n1, GL] at q
        cases q
      · by_cases n2 : b = s2.heap.objs.size + 3
        · have g3 : G (s2.heap.objs.size + 3) = none := by
            rw [hG]
            exact (if_neg n13.symm).trans (if_pos rfl)
          rw [n2, g3] at q
          cases q
        · rw [Ga b n1 n2] at q
          exact ⟨n1, n2, q⟩
    refine ⟨.ref (s2.heap.objs.size + 1), upd G (s2.heap.objs.size + 1) (.lst (sortV xs nss)), ?_, rfl, fin G _ (fun b o z n => Gs _ _ (eN b o z n)) (T2.ext Gs) GL⟩
    have at1 : ∀ b, b ≠ s2.heap.objs.size + 1 → upd G (s2.heap.objs.size + 1) (.lst (sortV xs nss)) b = G b := fun b n => upd_ne n
    refine I2.call' (s' := { s' with heap := h', toks := tk }) (ch := []) oj ⟨fun b o q n n1 n2 => ?_, fun b o q n n1 n2 => ?_, fun b o q n n2 => ?_, fun b o q n2 => ?_, fun b ys q => ?_, fun b o u q => ?_, fun b ps q => ?_⟩ (fun b u q => ?_) Ij.bare (fun b z => nomatch (show b ∈ ([] : List Addr) from z))
    · exact kp b o (old q).1 (old q).2 (uj.keep b o q n n1 n2)
    · obtain ⟨sl, q2⟩ := uj.slot b o q n n1 n2
      exact ⟨sl, kp b _ (old q).1 (old q).2 q2⟩
    · rw [at1 b (old q).1, Ga b (old q).1 (old q).2]
      exact uj.free b o q n n2
    · obtain ⟨o', q2⟩ := uj.there b o q n2
      exact ⟨o', kp b o' (old q).1 (old q).2 q2⟩
    · have z := Gs _ _ q
      rw [at1 b (ug b _ z).1]
      exact z
    · have z := Gs _ _ q
      rw [at1 b (ug b _ z).1]
      exact z
    · have z := Gs _ _ q
      refine ⟨#[], ?_⟩
      rw [at1 b (ug b _ z).1, z]
      simp
    · by_cases n1 : b = s2.heap.objs.size + 1
      · rw [n1, upd_same] at q
        cases q
        rw [n1]
        exact ⟨by rw [vo.length, PySem.W.EachIs.length eo, List.length_mergeSort, List.length_zip, sizeLine_eq]; omega, out, c0, vo, hD⟩
      · rw [at1 b n1] at q
        obtain ⟨_, n3, q⟩ := ug b u q
        refine (Ij.hok b u q).stay (fun d z hd r => ?_) (fun d r => ?_) fun d ys r => ?_
        · refine kp d z ?_ ?_ r
          · rcases hd with hd | hd
            · rw [hd]; exact n1
            · exact fun t => by rw [t, lj] at hd; cases hd
          · rcases hd with hd | hd
            · rw [hd]; exact n3
            · exact fun t => by rw [t, kj] at hd; cases hd
        · rw [at1 d (fun t => by rw [t, lj] at r; cases r), Ga d (fun t => by rw [t, lj] at r; cases r) (fun t => by rw [t, kj] at r; cases r)]
          exact r
        · rw [at1 d (fun t => by rw [t, lj] at r; cases r), Ga d (fun t => by rw [t, lj] at r; cases r) (fun t => by rw [t, kj] at r; cases r)]
          exact r
end
end LamK

/-! {tuple: value for target in iter if ..}: a dict whose keys are tuples of ints and texts. -/
namespace Tp
open PySem PySem.Spec PyProof.Rows L2
abbrev oDct : Obj := { cls := .type "dict", data := .dict #[] }
/-- D[y] = z, y a tuple: what follows -/
def putT (D : Addr) (y z : V) (G : Hp) (N : Hp → Prop) : Prop := ∃ (kvs : List (List Key × V)) (k : List Key) (b : Addr), y = .ref b ∧ G D = some (.dT kvs) ∧ G b = some (.tup (k.map kV)) ∧ kvs.length < sizeLine ∧ N (upd G D (.dT (putK kvs k z)))
theorem dT_put {X : Cx} {pins : List (Addr × Obj)} {σ : L2.St} {H : Hp} {s : Shared} {E : Value → Shared → Prop} {D : Addr} {y z : V} {u r : Value} {N : Hp → Prop} {Q : Unit → Shared → Prop} (hu : X.A.units < cLine) (I : Inv X pins σ H s) (ry : RelV y u) (rz : RelV z r) (h : putT D y z H N)
    (q : ∀ (s' : Shared) (G : Hp), Inv X pins σ G s' → N G → Q () s') : wpAny (model X.prog X.w) X.A (dictSet D u r) Q E s := by
  obtain ⟨kvs, k, b, rfl, hD, hb, hz, n⟩ := h
  obtain rfl : u = Value.ref b := ry
  obtain ⟨l1, hd, xs, rel, dd⟩ := dt_of I.hok hD
  have l2 : xs.length ≤ sizeLine := by
    rw [← Paired.length rel]
    exact l1
  have l3 : (putK kvs k z).length ≤ sizeLine := Nat.le_trans (length_putK kvs k z) hz
  refine wpAny_dictSet_heap (hsz := l2) (knd := tupleKind (mixKind X.prog X.w)) hu (key_of I.hok hb) dd fun h' dn hs => q _ _ ?_ n
  obtain ⟨o, es, ep, h1, h2, h3, h4, _, h5⟩ := dn
  refine d_write I (by rw [hD]; exact True.intro) hs ⟨o, h1⟩ ⟨l3, hd, _, (rel.put k hb rz).keeps fun c ys ec => ?_, o, es, ep, h1, h2, h3, h4, h5⟩
  rw [upd_ne (fun t => by rw [t, hD] at ec; cases ec)]
  exact ec
def tDcT (wi : TI) (g : TG) (tt : TT) (tk tv : TE) (ow : List Nat) : TE := fun σ H Q => wi σ H fun J H1 => ∀ D, H1 D = none →
  ∃ W : Nat → Nat → Hp → Prop, (∃ m, W 0 m (upd H1 D (.dT []))) ∧ ∀ i m G, W i m G → (J.stop i G ∧ Q (.ref D) G) ∨
    (J.go i G ∧ ∃ Nx : Hp → Prop, (∀ G', Nx G' → ∃ m', m' < m ∧ W (i + 1) m' G') ∧ ∀ x G', J.yld i G x G' → g x (wipe σ ow) G' fun τ G2 => wipe τ ow = wipe σ ow ∧ tt τ G2 fun b G3 => if b = true then tk τ G3 fun y G4 => tv τ G4 fun z G5 => putT D y z G5 Nx else Nx G3)
section
variable {X : Cx}
theorem dcT_core {pins : List (Addr × Obj)} {s : Shared} {σ : L2.St} {H : Hp} {Q : VK} {pos2 : Pos} {use : Option (Value → Sem Unit)} {Qf : Value → Shared → Prop} {kx vx tg iter : Expr} {ifs : List Expr} {scope : Scope} {own : List (PySem.Str × Nat)} {pos : Pos} {wi : TI} {g : TG} {tt : TT} {tk tv : TE} (hc : X.calm = true) (hN : X.N.Nodup)
    (hu : X.A.units < cLine) (hi : PI X tg iter wi) (ok : BlkOk X.N X.env.scope scope own)
    (hg : ∀ (s : Shared) (H : Hp) (C : Addr) (cl : List (PySem.Str × Addr)) (fp : List Addr), PG (X.blk s H scope (compEnvC scope cl C X.env) fp) tg g)
    (ht : ∀ (s : Shared) (H : Hp) (C : Addr) (cl : List (PySem.Str × Addr)) (fp : List Addr), PTs (X.blk s H scope (compEnvC scope cl C X.env) fp) ifs tt)
    (hk : ∀ (s : Shared) (H : Hp) (C : Addr) (cl : List (PySem.Str × Addr)) (fp : List Addr), PE (X.blk s H scope (compEnvC scope cl C X.env) fp) kx tk)
    (he : ∀ (s : Shared) (H : Hp) (C : Addr) (cl : List (PySem.Str × Addr)) (fp : List Addr), PE (X.blk s H scope (compEnvC scope cl C X.env) fp) vx tv)
    (hs : ∀ x, foldedSetIterable iter X.env x = pure x) (I : Inv X pins σ H s) (h : tDcT wi g tt tk tv (own.map (·.2)) σ H Q)
    (hq : ∀ D C s' m H', Inv X pins σ H' s' → Q (.ref D) H' → s'.heap.Ns C m → FpOk X pins H' C → compPost (model X.prog X.w) X.A X.xe use Qf (.ref D) C (.ok .next) s') :
    wpAny (model X.prog X.w) X.A (comprehension (.DictComp kx vx [⟨tg, iter, ifs, 0⟩] scope pos) scope X.env pos2 newDict false (eval iter X.env) use) Qf X.xe s := by
  have fr : ∀ y ∈ scope.names, y.2 = .free → ∃ c, X.env.cells.lookup y.1 = some c := fun y hy e => (ok.free y hy e).elim (fun k => I.ok.has _ (.inl k)) fun k => I.ok.has _ (.inr k)
  refine wpAny_comprehension_free (use := use) rfl hs (closure_ok fr) ok.kind (fun y hy e => by rw [ok.uniq y hy, e]) (thn (hi.run pins s σ H _ I h) fun xv s1 hx => thn hx fun itv s2 h2 => ?_)
  obtain ⟨it, fp, tn, J, H2, e, I2, T, st2, f2, q⟩ := h2
  subst e
  refine wpAny_newObj_type (newEnv_comp ?_)
  generalize hD : s2.heap.objs.size = D
  have nD : H2 D = none := I2.hok.fresh (Nat.le_of_eq hD)
  obtain ⟨W, ⟨m0, w0⟩, turn⟩ := q D nD
  generalize hs3 : ({ s2 with heap := s2.heap.push (oDct) } : Shared) = s3
  have h3 : s3.heap = s2.heap.push (oDct) := by rw [← hs3]
  have I3 : Inv X pins σ (upd H2 D (.dT [])) s3 := by
    rw [← hs3]
    refine I2.laid (t' := s2.toks) (fun b o e => Heap.get?_push_of_some _ e) (Nat.le_of_eq hD) ?_
    rw [← hD]
    exact dt_empty s2.heap I2.big
  have old : ∀ b ∈ fp, b < s2.heap.objs.size := fun b hb => by
    obtain ⟨o, e, _⟩ := T.obj _ _ st2 b hb
    exact Heap.lt_size e
  have f3 : ∀ b ∈ fp, FpOk X pins (upd H2 D (.dT [])) b ∧ b < s3.heap.objs.size := fun b hb => by
    have lt := old b hb
    refine ⟨⟨?_, (f2 b hb).2⟩, by rw [h3, Heap.size_push]; exact Nat.lt_succ_of_lt lt⟩
    rw [upd_ne (by rw [← hD]; exact Nat.ne_of_lt lt)]
    exact (f2 b hb).1
  have st3 : tn 0 s3.heap := T.keep _ _ _ st2 fun b _ o e => by
    rw [h3]
    exact Heap.get?_push_of_some _ e
  have I4 := block_start I3 ok hN f3
  have pg := hg s3 (upd H2 D (.dT [])) s3.heap.objs.size (cellsFrom (s3.heap.objs.size + 1) scope.names (cloFrom X.env.cells scope.names [])) fp
  have pt := ht s3 (upd H2 D (.dT [])) s3.heap.objs.size (cellsFrom (s3.heap.objs.size + 1) scope.names (cloFrom X.env.cells scope.names [])) fp
  have pk := hk s3 (upd H2 D (.dT [])) s3.heap.objs.size (cellsFrom (s3.heap.objs.size + 1) scope.names (cloFrom X.env.cells scope.names [])) fp
  have pe := he s3 (upd H2 D (.dT [])) s3.heap.objs.size (cellsFrom (s3.heap.objs.size + 1) scope.names (cloFrom X.env.cells scope.names [])) fp
  show codeAny _ _ (.compStart (.DictComp kx vx [⟨tg, iter, ifs, 0⟩] scope pos) 0 (.ref it) (.ref D) (compEnvC scope (cellsFrom (s3.heap.objs.size + 1) scope.names (cloFrom X.env.cells scope.names [])) s3.heap.objs.size X.env)) (compPost (model X.prog X.w) X.A X.xe use Qf (.ref D) s3.heap.objs.size) { s3 with heap := pushCells (s3.heap.push { cls := .type "dict", data := .dict #[] }) scope.names }
  have nfp : ∀ b ∈ fp, (upd H2 D (.dT [])) b = none := fun b hb => (f3 b hb).1.1
  generalize hce : compEnvC scope (cellsFrom (s3.heap.objs.size + 1) scope.names (cloFrom X.env.cells scope.names [])) s3.heap.objs.size X.env = ce at I4 pg pt pk pe ⊢
  have cL : ce.locals = s3.heap.objs.size := by
    subst hce
    rfl
  generalize hH3 : upd H2 D (.dT []) = H3 at I3 I4 pg pt pk pe w0 nfp f3
  generalize hs4 : ({ s3 with heap := pushCells (s3.heap.push { cls := .type "dict", data := .dict #[] }) scope.names } : Shared) = s4 at I4 ⊢
  have st4 : tn 0 s4.heap := T.keep _ _ _ st3 fun b _ o e => by
    rw [← hs4]
    exact pushCells_keeps _ _ _ _ (Heap.get?_push_of_some _ e)
  have stat : ∀ {τ : L2.St} {G : Hp} {t : Shared}, Inv (X.blk s3 H3 scope ce fp) [] τ G t → (∀ b ∈ fp, G b = none) → ∀ b ∈ fp, FpOk (X.blk s3 H3 scope ce fp) [] G b := fun {τ G t} K hn b hb =>
    ⟨hn b hb, (K.ok.exf b hb).1, K.ok.exfs b hb, .inl hb, fun x c e => (K.ok.exf b hb).2 x c e, fun p hp => absurd (show p ∈ ([] : List (Addr × Obj)) ++ [] from hp) (by simp)⟩
  have loop : codeAny (model X.prog X.w) X.A (.compLoop (.DictComp kx vx [⟨tg, iter, ifs, 0⟩] scope pos) 0 (.ref it) (.ref D) ce) (compPost (model X.prog X.w) X.A X.xe use Qf (.ref D) s3.heap.objs.size) s4 := by
    refine compLoop_anyD (fun n t => ∃ i G, Inv (X.blk s3 H3 scope ce fp) [] (wipe σ (own.map (·.2))) G t ∧ tn i t.heap ∧ (∀ b ∈ fp, G b = none) ∧ W i n G) ?_ m0 ⟨0, H3, I4, st4, nfp, w0⟩
    rintro n s5 ⟨i, H5, I5, st5, n5, w5⟩
    rcases turn i n H5 w5 with ⟨stop, qq⟩ | ⟨go, Nx, hNx, step⟩
    · refine thnF (T.done (X.blk s3 H3 scope ce fp) rfl rfl rfl hc i [] s5 _ H5 (fun _ _ => False) I5 (stat I5 n5) st5 stop) fun z s6 ⟨hz, I6⟩ => ?_
      subst hz
      have I7 : Inv X pins σ H5 s6 := I3.call' (ch := fp) I6.os I6.base I6.hok I6.bare fun b hb => ⟨(f3 b hb).1.2.2.2.1, (f3 b hb).1.2.1, (f3 b hb).1.2.2.2.2.1, (f3 b hb).1.2.2.2.2.2⟩
      have nC : H5 s3.heap.objs.size = none := by
        rw [← cL]
        exact I6.free
      obtain ⟨m, hn, _⟩ := I6.loc
      have hn2 : s6.heap.Ns s3.heap.objs.size m := by
        rw [← cL]
        exact hn
      exact hq D s3.heap.objs.size s6 m H5 I7 qq hn2 (I3.fpOk (Nat.le_refl _) nC)
    · refine thnF (T.item (X.blk s3 H3 scope ce fp) rfl rfl rfl hc i [] s5 _ H5 (fun _ _ => False) I5 (stat I5 n5) st5 go) fun z s6 ⟨u, hz, h6⟩ => ?_
      subst hz
      refine thnF h6 fun _ s7 ⟨x, H7, I7, r7, y7, st7, n7⟩ => ?_
      have P7 := I7.pinned (stat I7 n7) (T.obj _ _ st7)
      refine thnF (pg.run _ s7 _ H7 x u _ P7 r7 (step x H7 y7)) fun _ s8 ⟨σ8, H8, I8, hw8, q8⟩ => ?_
      refine thnF (pt.run _ s8 σ8 H8 _ I8 q8) fun b s9 ⟨H9, I9, q9⟩ => ?_
      have fin : ∀ {t : Shared} {G : Hp}, Inv (X.blk s3 H3 scope ce fp) ([] ++ pinsAt fp s7.heap) σ8 G t → Nx G → ∃ m, m < n ∧ ∃ i G, Inv (X.blk s3 H3 scope ce fp) [] (wipe σ (own.map (·.2))) G t ∧ tn i t.heap ∧ (∀ b ∈ fp, G b = none) ∧ W i m G := fun {t G} K nx => by
        obtain ⟨m', hm, w'⟩ := hNx G nx
        have pin2 : ∀ b ∈ fp, ∀ o, s7.heap.get? b = some o → t.heap.get? b = some o ∧ G b = none := fun b hb o e => by
          have z := K.pin (b, o) (List.mem_append_right _ (List.mem_append_right _ (mem_pinsAt hb e)))
          exact ⟨z.1, z.2.1⟩
        have hl : (wipe σ (own.map (·.2))).length = σ8.length := by rw [← hw8, wipe_length]
        refine ⟨m', hm, i + 1, G, (K.unpinned (pins := [])).weak hl (fun j v e => ?_), T.keep _ _ _ st7 fun b hb o e => (pin2 b hb o e).1, fun b hb => ?_, w'⟩
        · rw [← hw8] at e
          exact (wipe_some e).1
        · obtain ⟨o, e, _⟩ := T.obj _ _ st7 b hb
          exact (pin2 b hb o e).2
      cases b with
      | false =>
        rw [if_neg (by simp)] at q9 ⊢
        exact fin I9 q9
      | true =>
        rw [if_pos rfl] at q9 ⊢
        refine thnF (pk.run _ s9 σ8 H9 _ I9 q9) fun z s10 ⟨yk, H10, I10, r10, qa⟩ => ?_
        refine thnF (pe.run _ s10 σ8 H10 _ I10 qa) fun z2 s11 ⟨yv, H11, I11, r11, qb⟩ => ?_
        exact dT_put (X := X.blk s3 H3 scope ce fp) hu I11 r10 r11 qb fun s12 G I12 nx => fin I12 nx
  exact codeAny_compStart_dict loop (T.self X.A 0 _ _ _ st4 loop)
theorem pe_dcT {kx vx tg iter : Expr} {ifs : List Expr} {scope : Scope} {own : List (PySem.Str × Nat)} {pos : Pos} {wi : TI} {g : TG} {tt : TT} {tk tv : TE} (hc : X.calm = true) (hN : X.N.Nodup)
    (hu : X.A.units < cLine) (hi : PI X tg iter wi) (ok : BlkOk X.N X.env.scope scope own)
    (hg : ∀ (s : Shared) (H : Hp) (C : Addr) (cl : List (PySem.Str × Addr)) (fp : List Addr), PG (X.blk s H scope (compEnvC scope cl C X.env) fp) tg g)
    (ht : ∀ (s : Shared) (H : Hp) (C : Addr) (cl : List (PySem.Str × Addr)) (fp : List Addr), PTs (X.blk s H scope (compEnvC scope cl C X.env) fp) ifs tt)
    (hk : ∀ (s : Shared) (H : Hp) (C : Addr) (cl : List (PySem.Str × Addr)) (fp : List Addr), PE (X.blk s H scope (compEnvC scope cl C X.env) fp) kx tk)
    (he : ∀ (s : Shared) (H : Hp) (C : Addr) (cl : List (PySem.Str × Addr)) (fp : List Addr), PE (X.blk s H scope (compEnvC scope cl C X.env) fp) vx tv)
    (hs : ∀ x, foldedSetIterable iter X.env x = pure x := by intro _; rfl) : PE X (.DictComp kx vx [⟨tg, iter, ifs, 0⟩] scope pos) (tDcT wi g tt tk tv (own.map (·.2))) := by
  refine ⟨fun pins s σ H Q I h => ?_⟩
  rw [arm_eval_DictComp]
  refine dcT_core hc hN hu hi ok hg ht hk he hs I h fun D C s' m H' J q hn f => ⟨m, hn, fun h2 sb => ?_⟩
  obtain ⟨g0, g1, g2, g3, g4, g5⟩ := f
  exact ⟨.ref D, H', J.turned (t' := s'.toks) (fun b o hb e => (sb.2 b hb).trans e) g0 g1 g3 g4 g5, rfl, q⟩
/-- y = {..}, y a name of the def -/
theorem ps_setDcT {i : Nat} {y : PySem.Str} {py spos : Pos} {kx vx tg iter : Expr} {ifs : List Expr} {scope : Scope} {own : List (PySem.Str × Nat)} {pos : Pos} {wi : TI} {g : TG} {tt : TT} {tk tv : TE} (hc : X.calm = true) (hN : X.N.Nodup)
    (hu : X.A.units < cLine) (hi : PI X tg iter wi) (ok : BlkOk X.N X.env.scope scope own)
    (hg : ∀ (s : Shared) (H : Hp) (C : Addr) (cl : List (PySem.Str × Addr)) (fp : List Addr), PG (X.blk s H scope (compEnvC scope cl C X.env) fp) tg g)
    (ht : ∀ (s : Shared) (H : Hp) (C : Addr) (cl : List (PySem.Str × Addr)) (fp : List Addr), PTs (X.blk s H scope (compEnvC scope cl C X.env) fp) ifs tt)
    (hk : ∀ (s : Shared) (H : Hp) (C : Addr) (cl : List (PySem.Str × Addr)) (fp : List Addr), PE (X.blk s H scope (compEnvC scope cl C X.env) fp) kx tk)
    (he : ∀ (s : Shared) (H : Hp) (C : Addr) (cl : List (PySem.Str × Addr)) (fp : List Addr), PE (X.blk s H scope (compEnvC scope cl C X.env) fp) vx tv)
    (hy : X.N[i]? = some y) (hyl : X.env.scope.names.lookup y = some .local) (hsw : swapsWith (.DictComp kx vx [⟨tg, iter, ifs, 0⟩] scope pos) (some (.Name y py)) spos.line X.env = pure true)
    (hs : ∀ x, foldedSetIterable iter X.env x = pure x := by intro _; rfl) : PS X (.Assign [.Name y py] (.DictComp kx vx [⟨tg, iter, ifs, 0⟩] scope pos) spos) (tAsg (tDcT wi g tt tk tv (own.map (·.2))) (gName i)) := by
  refine ⟨fun pins s σ H D I h => ?_⟩
  rw [exec_Assign_Name_used _ _ _ _ hsw]
  refine wpAny_bind (wpAny_standAt (wpAny_bind ?_))
  show wpAny _ X.A (do let _ ← comprehension (.DictComp kx vx [⟨tg, iter, ifs, 0⟩] scope pos) scope X.env (firstIterPos [⟨tg, iter, ifs, 0⟩] pos) newDict false (eval iter X.env) (some (assign (.Name y py) X.env))) _ _ s
  refine wpAny_bind (thn (dcT_core (Qf := fun _ t => SP X pins D .next t) hc hN hu hi ok hg ht hk he hs I (show tDcT wi g tt tk tv (own.map (·.2)) σ H (fun x H1 => gName i x σ H1 D.nx) from h) fun L C t m G J q hn f => ?_) fun _ _ hz => wpAny_pure (wpAny_pure hz))
  show wpAny _ _ (assign (.Name y py) X.env (.ref L)) _ _ _
  refine wpAny_assign_Name (store_ok2 (v := V.ref L) J hN hy (.inl hyl) rfl (fun s2 I2 ⟨a, sb, ha⟩ => ?_) (.inr hyl))
  obtain ⟨g0, g1, g2, g3, g4, g5⟩ := f
  have nCa : C ≠ a := by
    rcases ha with z | z
    · rw [z]
      exact g1
    · exact fun e => g4 y a z e.symm
  exact ⟨m, hn.sameBut sb nCa, fun h3 sb3 => ⟨_, G, I2.turned (t' := s2.toks) (fun b o hb e => (sb3.2 b hb).trans e) g0 g1 g3 g4 g5, q⟩⟩
theorem sw_dict {kx vx : Expr} {gs : List Comprehension} {scope : Scope} {pos py : Pos} {y : PySem.Str} {l : Nat} {env : Env} (hk : env.scope.kind = .function) (hy : env.scope.names.lookup y = some .local) (hl : (py.line == pos.line) = true)
    (ha : (scope.names.any fun (n, k) => n == y && (k == .local || k == .cell)) = false) : swapsWith (.DictComp kx vx gs scope pos) (some (.Name y py)) l env = pure true := by
  have ky : env.kindOf y = some .local := hy
  have bk : env.blockKind = .function := by
    unfold Env.blockKind
    rw [hk] <;> rfl
  unfold swapsWith
  simp only [bk, ky, ha, Expr.pos, hl] <;> rfl
/-- a walk over what stays -/
theorem dcT_it {J : It} {n : Nat} {G : Hp → Prop} {Y : Nat → Hp → V → Hp → Prop} (wk : Walk J n G Y) {g : L2.TG} {tt : TT} {tk tv : TE} {ow : List Nat} {σ : L2.St} {H1 : Hp} {D : Addr} {Qd : Hp → Prop} (Pv : Nat → Hp → Prop) (h0 : Pv 0 (upd H1 D (.dT []))) (hG : ∀ i H, i ≤ n → Pv i H → G H)
    (hs : ∀ i x H H', i < n → Pv i H → Y i H x H' → g x (wipe σ ow) H' fun τ H2 => wipe τ ow = wipe σ ow ∧ tt τ H2 fun b H3 => if b = true then tk τ H3 fun y H4 => tv τ H4 fun z H5 => putT D y z H5 (Pv (i + 1)) else Pv (i + 1) H3) (hd : ∀ H, Pv n H → Qd H) :
    ∃ W : Nat → Nat → Hp → Prop, (∃ m, W 0 m (upd H1 D (.dT []))) ∧ ∀ i m H, W i m H → (J.stop i H ∧ Qd H) ∨
      (J.go i H ∧ ∃ Nx : Hp → Prop, (∀ H', Nx H' → ∃ m', m' < m ∧ W (i + 1) m' H') ∧ ∀ x H', J.yld i H x H' → g x (wipe σ ow) H' fun τ H2 => wipe τ ow = wipe σ ow ∧ tt τ H2 fun b H3 => if b = true then tk τ H3 fun y H4 => tv τ H4 fun z H5 => putT D y z H5 Nx else Nx H3) := by
  refine ⟨fun i m H => m = n - i ∧ i ≤ n ∧ Pv i H, ⟨n, by simp, Nat.zero_le _, h0⟩, ?_⟩
  rintro i m H ⟨rfl, hi, p⟩
  by_cases hlt : i < n
  · exact .inr ⟨wk.goes i H hlt (hG i H hi p), Pv (i + 1), fun H' p' => ⟨n - (i + 1), by omega, rfl, hlt, p'⟩, fun x H' y => hs i x H H' hlt p (wk.yields i H x H' hlt (hG i H hi p) y)⟩
  · have e : i = n := by omega
    subst e
    exact .inl ⟨wk.stops H (hG _ H hi p), hd H p⟩
end
end Tp

/-! sorted_rows where it answers. -/
namespace Rp
open PySem PySem.Spec PyProof.Rows L2
/-- a def, its code object told -/
theorem okC {P : Program} {w : World} {K : PySem.W.Frag} {mg : Str → Option Value} {base : Heap} {x qual : Str} {params : Arguments} {body : List Stmt} {scope : Scope} {dvs : List V} {kws : List (Str × V)} {p : He.Defn} {fd : FuncData} {CX : CXT} {N ps : List Str} {k : Nat} {sp : Sp}
    (F : FunD K x qual params body scope dvs kws (He.fAd K p) fd) (S : FnScope N ps scope) (len : ∀ vs H Q E, sp vs H Q E → vs.length = ps.length)
    (hb : ∀ (A : Around) (outer : List Env) (s : Shared) (H : Hp) (vs : List V) (Q : VK) (E : XK), Room k (A.deeper (envOfC qual scope s.heap.objs.size (He.fAd K p) (.ref (He.codeOf K p)))) → sp vs H Q E →
      ∃ t, PSs (cxOf CX P w K mg base N qual scope (He.fAd K p) (.ref (He.codeOf K p)) A outer s H E) body t ∧ t { nx := fun _ H' => Q .non H', rt := Q } (start N vs) H) : FnOk P w K mg base CX (k + 1) (He.fAd K p) fd ps sp := by
  obtain ⟨oc, od, dV, kV, doc, pm, an, cdv, ct, osl, rfl, lk, hcd, _, _⟩ := F.ex
  obtain ⟨c, rfl⟩ := He.codeIn_ref hcd
  have e : He.codeOf K p = c := He.codeOf_eq lk rfl
  rw [e] at hb
  exact fn_of lk hcd S len fun A outer s H vs Q E hr hsp => hb A outer s H vs Q E hr hsp
end Rp
/-! ### rows, each once -/
namespace Rw
open PySem PySem.Spec PyProof.Rows L2
def addRow (L : List (List Int)) (ns : List Int) : List (List Int) := if ns ∈ L then L else L ++ [ns]
def rowsOnce (L : List (List Int)) : List (List Int) := L.foldl addRow []
def entR (ns : List Int) : List Key × V := (ns.map Sum.inl, .bl true)
theorem inl_inj : ∀ {a b : List Int}, a.map (Sum.inl (β := Str)) = b.map Sum.inl → a = b
  | [], [], _ => rfl
  | [], _ :: _, h => by cases h
  | _ :: _, [], h => by cases h
  | x :: a, y :: b, h => by
    rw [List.map_cons, List.map_cons, List.cons.injEq] at h
    rw [inl_inj h.2, Sum.inl.inj h.1]
theorem key_vals (ns : List Int) : (ns.map (Sum.inl (β := Str))).map kV = ns.map V.int := by
  rw [List.map_map] <;> rfl
theorem put_ent (L : List (List Int)) (ns : List Int) : putK (L.map entR) (ns.map Sum.inl) (V.bl true) = (addRow L ns).map entR := by
  unfold putK addRow
  by_cases h : ns ∈ L
  · rw [if_pos h, if_pos (List.any_eq_true.mpr ⟨entR ns, List.mem_map_of_mem h, decide_eq_true rfl⟩), List.map_map]
    refine List.map_congr_left fun m _ => ?_
    show (if (entR m).1 = ns.map Sum.inl then ((entR m).1, V.bl true) else entR m) = entR m
    split <;> rfl
  · rw [if_neg h, if_neg, List.map_append]
    · rfl
    · intro z
      obtain ⟨p, hp, e⟩ := List.any_eq_true.mp z
      obtain ⟨m, hm, rfl⟩ := List.mem_map.mp hp
      have e1 : m.map (Sum.inl (β := Str)) = ns.map Sum.inl := of_decide_eq_true e
      exact h (inl_inj e1 ▸ hm)
theorem once_snoc (L : List (List Int)) (ns : List Int) : rowsOnce (L ++ [ns]) = addRow (rowsOnce L) ns := by
  unfold rowsOnce
  rw [List.foldl_append] <;> rfl
theorem add_mem {L : List (List Int)} {ns m : List Int} : m ∈ addRow L ns ↔ m ∈ L ∨ m = ns := by
  unfold addRow
  split
  · rename_i h
    exact ⟨.inl, fun z => z.elim id fun e => e ▸ h⟩
  · rw [List.mem_append, List.mem_singleton]
theorem fold_mem {m : List Int} : ∀ (L acc : List (List Int)), m ∈ L.foldl addRow acc ↔ m ∈ acc ∨ m ∈ L
  | [], acc => by simp
  | ns :: r, acc => by
    rw [List.foldl_cons, fold_mem r, add_mem, List.mem_cons]
    constructor
    · rintro ((h | h) | h)
      · exact .inl h
      · exact .inr (.inl h)
      · exact .inr (.inr h)
    · rintro (h | h | h)
      · exact .inl (.inl h)
      · exact .inl (.inr h)
      · exact .inr h
theorem once_mem {L : List (List Int)} {m : List Int} : m ∈ rowsOnce L ↔ m ∈ L := by
  unfold rowsOnce
  rw [fold_mem]
  simp
theorem add_nodup {L : List (List Int)} {ns : List Int} (h : L.Nodup) : (addRow L ns).Nodup := by
  unfold addRow
  split
  · exact h
  · rename_i q
    exact List.nodup_append.mpr ⟨h, List.nodup_cons.mpr ⟨by simp, .nil⟩, fun a ha b hb e => q (by rw [List.mem_singleton] at hb; rw [← hb, ← e]; exact ha)⟩
theorem fold_nodup : ∀ (L acc : List (List Int)), acc.Nodup → (L.foldl addRow acc).Nodup
  | [], _, h => h
  | _ :: r, _, h => fold_nodup r _ (add_nodup h)
theorem once_nodup (L : List (List Int)) : (rowsOnce L).Nodup := fold_nodup L [] .nil
theorem add_len (L : List (List Int)) (ns : List Int) : (addRow L ns).length ≤ L.length + 1 := by
  unfold addRow
  split
  · omega
  · rw [List.length_append] <;> exact Nat.le_refl _
theorem fold_len : ∀ (L acc : List (List Int)), (L.foldl addRow acc).length ≤ acc.length + L.length
  | [], acc => Nat.le_refl _
  | ns :: r, acc => by
    have h1 := fold_len r (addRow acc ns)
    have h2 := add_len acc ns
    rw [List.foldl_cons, List.length_cons]
    omega
theorem once_len (L : List (List Int)) : (rowsOnce L).length ≤ L.length := by
  have := fold_len L []
  rw [List.length_nil, Nat.zero_add] at this
  exact this
theorem one_empty {L : List (List Int)} (h : L.Nodup) (a : ∀ ns ∈ L, ns = []) : L.length ≤ 1 := by
  match L, h, a with
  | [], _, _ => exact Nat.zero_le _
  | [_], _, _ => exact Nat.le_refl _
  | x :: y :: r, h, a =>
    have e1 := a x List.mem_cons_self
    have e2 := a y (List.mem_cons_of_mem _ List.mem_cons_self)
    have q := (List.nodup_cons.mp h).1
    rw [e1, e2] at q
    exact absurd List.mem_cons_self q
/-- the keys' objects -/
theorem keys_zip {H : Hp} : ∀ {L : List (List Int)} {bs : List Addr}, IsKeys H (L.map entR) bs → ∃ zs : List (Addr × List Int), zs.map (·.1) = bs ∧ zs.map (·.2) = L ∧ ∀ z ∈ zs, H z.1 = some (.tup (z.2.map V.int))
  | [], _, h => by
    cases h
    exact ⟨[], rfl, rfl, fun z hz => by cases hz⟩
  | ns :: r, _, h => by
    cases h with
    | cons a t =>
      obtain ⟨zs, e1, e2, e3⟩ := keys_zip t
      refine ⟨(_, ns) :: zs, congrArg (List.cons _) e1, congrArg (List.cons _) e2, fun z hz => ?_⟩
      rcases List.mem_cons.mp hz with rfl | hz
      · rw [← key_vals]
        exact a
      · exact e3 z hz
end Rw

namespace K01
open PySem PySem.Spec PyProof.Rows L2 Dr Ex Rp LamX Rw
open He (ga ma)
def leK (ds : List Int) : List Int → List Int → Bool := PySem.W.dataLe false fun ns : List Int => LamK.keyD (sk ds ns)
def sortRows (ds : List Int) (L : List (List Int)) : List (List Int) := (rowsOnce L).mergeSort (leK ds)
def leZ (ds : List Int) : Addr × List Int → Addr × List Int → Bool := fun a b => leK ds a.2 b.2
theorem sortV_eq (ds : List Int) (zs : List (Addr × List Int)) : LamK.sortV (zs.map fun z => V.ref z.1) (zs.map fun z => sk ds z.2) = (zs.mergeSort (leZ ds)).map fun z => V.ref z.1 := by
  unfold LamK.sortV
  have e : (zs.map fun z => V.ref z.1).zip (zs.map fun z => sk ds z.2) = zs.map fun z => (V.ref z.1, sk ds z.2) := by
    induction zs with
    | nil => rfl
    | cons z r ih => exact congrArg (List.cons _) ih
  rw [e, ← List.map_mergeSort (r := leZ ds) (s := PySem.W.dataLe false fun p : V × List Int => LamK.keyD p.2) (f := fun z : Addr × List Int => (V.ref z.1, sk ds z.2)) (fun a _ b _ => rfl), List.map_map]
  rfl
theorem sort_snd (ds : List Int) (zs : List (Addr × List Int)) : (zs.mergeSort (leZ ds)).map (·.2) = (zs.map (·.2)).mergeSort (leK ds) := List.map_mergeSort (fun a _ b _ => rfl)
def qSorted : Str := (envOfC "sorted_rows" (defScope sSorted) 0 0 .none).qual ++ "<lambda>"
abbrev nSortT : List Str := ["rows", "down", "different", "row"]
theorem scSortT : FnScope nSortT ["rows", "down"] (defScope sSorted) := ⟨rfl, rfl, rfl, by decide +kernel, rfl, by decide +kernel, by decide +kernel⟩
def spSortT (K : PySem.W.Frag) (Tb : List (Addr × Str)) : Sp := fun vs H Q _ => ∃ (a : Addr) (x : V) (bs : List (Addr × List Int)) (r : PyData), vs = [.ref a, x] ∧ Dt K H x r ∧ bs.length < 64 ∧ rowsOk (.tuple (bs.map fun z => .tuple (z.2.map PyData.int))) = true ∧ downOk r = true ∧
  SqT K H a (bs.map fun z => V.ref z.1) ∧ (∀ z ∈ bs, H z.1 = some (.tup (z.2.map V.int))) ∧ Tabs Tb H ∧
  ∀ (H' : Hp) (p : Addr) (zs : List (Addr × List Int)), ExtN H H' → Tabs Tb H' → (∀ z ∈ zs, H' z.1 = some (.tup (z.2.map V.int))) → zs.map (·.2) = sortRows (ivs r) (bs.map (·.2)) → H' p = some (.tup (zs.map fun z => V.ref z.1)) → Q (.ref p) H'
theorem rows_data {K : PySem.W.Frag} {H : Hp} : ∀ {bs : List (Addr × List Int)}, (∀ z ∈ bs, H z.1 = some (.tup (z.2.map V.int))) → DtAll K H (bs.map fun z => V.ref z.1) (bs.map fun z => .tuple (z.2.map PyData.int))
  | [], _ => .nil
  | z :: r, h => .cons (.tup (SqT.of (h z List.mem_cons_self)) (LamK.dt_ints _)) (rows_data fun y hy => h y (List.mem_cons_of_mem _ hy))
theorem same_len {bs : List (Addr × List Int)} (h : rowsOk (.tuple (bs.map fun z => .tuple (z.2.map PyData.int))) = true) : ∀ y ∈ bs, ∀ z ∈ bs, y.2.length = z.2.length := fun y hy z hz => by
  refine Decidable.byContradiction fun ne => ?_
  have e := (Bool.and_eq_true_iff.mp (show ((bs.map fun z => PyData.tuple (z.2.map PyData.int)).all areI && wideOk ((bs.map fun z => PyData.tuple (z.2.map PyData.int)).map fun d => (its d).length)) = true from h)).2
  have m : ∀ y ∈ bs, y.2.length ∈ (bs.map fun z => PyData.tuple (z.2.map PyData.int)).map fun d => (its d).length := fun y hy => by
    rw [List.map_map]
    refine List.mem_map.mpr ⟨y, hy, ?_⟩
    show (y.2.map PyData.int).length = _
    rw [List.length_map]
  rw [wide_two (m y hy) (m z hz) ne] at e
  cases e
theorem sqt_ext {K : PySem.W.Frag} {H H' : Hp} {a : Addr} {xs : List V} (h : SqT K H a xs) (e : ExtN H H') : SqT K H' a xs := by
  rcases h with (h | ⟨o, h⟩) | h
  · exact .inl (.inl (e _ _ h (fun ps z => by cases z)))
  · exact .inl (.inr ⟨o, e _ _ h (fun ps z => by cases z)⟩)
  · exact .inr h
section
variable {P : Program} {w : World} {K : PySem.W.Frag} {mg : Str → Option Value} {base : Heap}
theorem ok_sortT {Tb : List (Addr × Str)} {fd : FuncData} (F : FnK K "sorted_rows" sSorted (ga K "sorted_rows") fd) (B : Fns K mg) (T : TG K mg) (M : EF K) (hsys : SysD K) (TB : TabB base mg (He.codeOf K ("sorted_rows", none)) (He.tabOf K (He.codeOf K ("sorted_rows", none))))
    (hmT : (He.tabOf K (He.codeOf K ("sorted_rows", none)), qSorted) ∈ Tb) (huT : ∀ z ∈ Tb, z.1 = He.tabOf K (He.codeOf K ("sorted_rows", none)) → z.2 = qSorted) : FnOk P w K mg base (L2.CX P w) 5 (ga K "sorted_rows") fd ["rows", "down"] (spSortT K Tb) := by
  obtain ⟨d1, F1⟩ := B.f1
  obtain ⟨d2, F2⟩ := B.f2
  obtain ⟨d3, F3⟩ := B.f3
  obtain ⟨dr, FR⟩ := B.fr
  obtain ⟨dd, FD⟩ := B.fdn
  obtain ⟨dk, FK⟩ := B.fk
  have GR : FnOk P w K mg base (L2.CX P w) 3 _ dr ["rows"] (spChkR K) := ok_chkR FR F1 F2 T M B.g1 B.g2
  have bR : Binds K dr ["rows"] [] := FR.bindsN fun _ _ _ _ _ _ us hl => match us, hl with | [_], _ => rfl
  have GD : FnOk P w K mg base (L2.CX P w) 3 _ dd ["down"] (spChkD K) := ok_chkD FD F1 F2 F3 T M B.g1 B.g2 B.g3
  have bD : Binds K dd ["down"] [] := FD.bindsN fun _ _ _ _ _ _ us hl => match us, hl with | [_], _ => rfl
  have GK : FnOk P w K mg base CX0 1 _ dk ["row", "down"] (spKey K) := ok_key FK T
  have bK : Binds K dk ["row", "down"] [] := FK.bindsN fun _ _ _ _ _ _ us hl => match us, hl with | [_, _], _ => rfl
  have tt := T.f "tuple" (by decide +kernel)
  have tl := T.f "list" (by decide +kernel)
  have ts := T.f "sorted" (by decide +kernel)
  refine okC (p := ("sorted_rows", none)) F scSortT (fun vs H Q E h => ?_) (fun A outer s H vs Q E hr h => ?_)
  · obtain ⟨a, x, bs, r, rfl, _⟩ := h
    rfl
  · obtain ⟨a, x, bs, r, rfl, hx, h64, hro, hdo, ha, hb, hT, fin⟩ := h
    have hr3 : Room 3 (A.deeper (envOfC "sorted_rows" (defScope sSorted) s.heap.objs.size (ga K "sorted_rows") (.ref (He.codeOf K ("sorted_rows", none))))) := hr.mono (by decide)
    refine ⟨_, pss_cons (ps_expr (pe_call GR hr3 rfl B.gr FR.kp bR .nil (passes_call (E := E) (takes_of rfl rfl rfl rfl) (fun _ _ _ _ h => h)) (pa_cons (pv 0) pa_nil)))
      (pss_cons (ps_expr (pe_call GD hr3 rfl B.gd FD.kp bD .nil (passes_call (E := E) (takes_of rfl rfl rfl rfl) (fun _ _ _ _ h => h)) (pa_cons (pv 1) pa_nil)))
      (pss_cons (Tp.ps_setDcT (i := 2) (own := [("row", 3)]) (g := gName 3) (tt := tYes) rfl scSortT.nd (by have z := hr.units; exact Nat.lt_of_le_of_lt (Nat.le_add_right _ 64) z) (pi_tup (pv 0)) (blkOk_by (own := [("row", 3)]) (N := nSortT) (sc := defScope sSorted) (by decide +kernel))
          (fun _ _ _ _ _ => pg_name (i := 3) scSortT.nd rfl (Or.inl rfl)) (fun _ _ _ _ _ => pts_nil) (fun _ _ _ _ _ => pv 3) (fun _ _ _ _ _ => pe_bl) rfl rfl (Tp.sw_dict rfl rfl rfl (by decide +kernel)))
      (pss_one (ps_ret (pe_callTy call_tuple_of (by rfl) tt (by decide +kernel) (pa_cons (LamK.pe_sortK (T := Tb) (M := ["rows", "down", "different", ""]) (x := "row") (k := 1) rfl rfl ts hsys TB rfl hmT huT hr (LamK.lamP_by (sc := defScope sSorted) (by decide +kernel)) (show LamK.seenB _ _ _ nSortT = true by decide +kernel) rfl (fun _ _ _ _ _ _ => rfl)
          (pe_callTy (call_list_dT rfl) (by rfl) tl (by decide +kernel) (pa_cons (pv 2) pa_nil))
          (fun A outer s H E f c' hr' => pe_call GK hr' rfl B.gk FK.kp bK .nil pass0 (pa_cons (pv 0) (pa_cons (pv 2) pa_nil)))) pa_nil)))))), ?_⟩
    refine ⟨_, rfl, .ref a, .tuple (bs.map fun z => .tuple (z.2.map PyData.int)), rfl, .tup ha (rows_data hb), (by show (bs.map _).length < 64; rw [List.length_map]; exact h64), fun H2 s2 => ite_t hro ?_⟩
    refine ⟨_, rfl, x, r, rfl, Dt.same s2 _ _ hx, fun H3 s3 => ite_t hdo ?_⟩
    have s23 := s2.trans s3
    obtain ⟨p3, rfl, q3⟩ := tup_of (Dt.same s23 _ _ hx) (down_are hdo)
    refine ⟨_, rfl, a, rfl, ⟨_, sqt_same s23 ha⟩, fun D hD => Tp.dcT_it (walk_tup (K := K) (a := a) (xs := bs.map fun z : Addr × List Int => V.ref z.1)) (fun i G => Same H3 G ∧ G D = some (.dT ((rowsOnce ((bs.map (·.2)).take i)).map entR))) ⟨smu hD, upd_same⟩ (fun i G _ p => sqt_same (s23.trans p.1) ha) ?_ ?_⟩
    · rintro i v G G' hi ⟨sG, hG⟩ ⟨rfl, hv⟩
      rw [List.length_map] at hi
      have hv2 : v = V.ref bs[i].1 := by
        have e : (bs.map fun z => V.ref z.1)[i]? = some (V.ref bs[i].1) := by
          rw [List.getElem?_map, List.getElem?_eq_getElem hi] <;> rfl
        rw [hv] at e
        exact Option.some.inj e
      subst hv2
      have hz := (s23.trans sG) _ _ (hb _ (List.getElem_mem hi))
      have e2 : (bs.map (·.2)).take (i + 1) = (bs.map (·.2)).take i ++ [bs[i].2] := by
        rw [List.take_add_one, List.getElem?_map, List.getElem?_eq_getElem hi] <;> rfl
      refine ⟨rfl, yes_in ⟨_, rfl, _, bs[i].2.map Sum.inl, _, rfl, hG, by rw [key_vals]; exact hz, ?_, fun b o e => ?_, ?_⟩⟩
      · rw [List.length_map, sizeLine_eq]
        have h1 := once_len ((bs.map (·.2)).take i)
        rw [List.length_take] at h1
        omega
      · rw [upd_ne (ne_of_none e hD)]
        exact sG _ _ e
      · rw [upd_same, put_ent, e2, once_snoc]
    · rintro G ⟨sG, hG⟩
      rw [List.length_map, List.take_of_length_le (by rw [List.length_map]; exact Nat.le_refl _)] at hG
      refine ⟨_, rfl, D, _, rfl, .inl hG, fun l ks hl hK => ?_⟩
      obtain ⟨zs, z1, z2, z3⟩ := keys_zip hK
      have ek : ks.map V.ref = zs.map fun z => V.ref z.1 := by rw [← z1, List.map_map] <;> rfl
      rw [ek]
      have lz : zs.length ≤ 63 := by
        have h1 := once_len (bs.map (·.2))
        rw [← z2, List.length_map, List.length_map] at h1
        omega
      have memz : ∀ z ∈ zs, ∃ y ∈ bs, y.2 = z.2 := fun z hz => by
        have h1 : z.2 ∈ rowsOnce (bs.map (·.2)) := by
          rw [← z2]
          exact List.mem_map_of_mem hz
        obtain ⟨y, hy, e⟩ := List.mem_map.mp (once_mem.mp h1)
        exact ⟨y, hy, e⟩
      have up1 := smu (o := .lst (zs.map fun z => V.ref z.1)) hl
      refine ⟨l, _, zs.map fun z => sk (ivs r) z.2, rfl, SqL.of upd_same, by rw [List.length_map, List.length_map], by rw [List.length_map]; omega, ?_, tabs_sm (tabs_sm (tabs_sm hT s23) sG) up1, fun i v ns G1 hv hn e1 t1 => ?_, fun G2 p e2 t2 n2 => ?_⟩
      · by_cases h0 : ∀ z ∈ zs, z.2 ≠ []
        · refine .inl fun ns hns e => ?_
          obtain ⟨z, hz, rfl⟩ := List.mem_map.mp hns
          have h1 := congrArg List.length e
          rw [sk_len, List.length_nil] at h1
          exact h0 z hz (List.eq_nil_of_length_eq_zero h1)
        · refine .inr ?_
          obtain ⟨z0, hz0, e0⟩ : ∃ z ∈ zs, z.2 = [] := by
            refine Decidable.byContradiction fun q => h0 fun z hz e => q ⟨z, hz, e⟩
          obtain ⟨y0, hy0, ey0⟩ := memz z0 hz0
          have all : ∀ ns ∈ rowsOnce (bs.map (·.2)), ns = [] := fun ns hns => by
            obtain ⟨y, hy, rfl⟩ := List.mem_map.mp (once_mem.mp hns)
            have h1 := same_len hro y hy y0 hy0
            rw [ey0, e0, List.length_nil] at h1
            exact List.eq_nil_of_length_eq_zero h1
          have h2 := one_empty (once_nodup _) all
          rw [← z2, List.length_map] at h2
          rw [List.length_map]
          exact h2
      · have hi : i < zs.length := by
          have := (List.getElem?_eq_some_iff.mp hv).1
          rw [List.length_map] at this
          exact this
        rw [List.getElem?_map, List.getElem?_eq_getElem hi] at hv hn
        obtain rfl := Option.some.inj hv
        obtain rfl := Option.some.inj hn
        have hr1 : G1 zs[i].1 = _ := e1 _ _ (up1 _ _ (z3 _ (List.getElem_mem hi))) (fun ps z => by cases z)
        refine ⟨_, rfl, _, rfl, zs[i].1, p3, _, _, rfl, SqT.of hr1, sqt_ext (sqt_same (sG.trans up1) q3) e1, fun H' t s' _ m => ⟨s', t, rfl, SqT.of m⟩⟩
      · refine ⟨p, _, rfl, .inl ⟨SqL.of upd_same, fun q nq => ?_⟩⟩
        rw [sortV_eq]
        have up2 := smu (o := .lst ((zs.mergeSort (leZ (ivs r))).map fun z => V.ref z.1)) n2
        have up3 := smu (o := .tup ((zs.mergeSort (leZ (ivs r))).map fun z => V.ref z.1)) nq
        rw [sortV_eq] at up3
        refine fin _ q (zs.mergeSort (leZ (ivs r))) (fun b o e n => up3 _ _ (up2 _ _ (e2 _ _ (up1 _ _ (sG _ _ (s23 _ _ e))) n))) (tabs_sm (tabs_sm t2 up2) up3) (fun z hz => ?_) ?_ upd_same
        · exact up3 _ _ (up2 _ _ (e2 _ _ (up1 _ _ (z3 z (List.mem_mergeSort.mp hz))) (fun ps t => by cases t)))
        · rw [sort_snd, z2] <;> rfl
end
end K01

/-! is_name, _law_is_word, _law_is_line. -/
namespace K01
open PySem PySem.Spec PyProof.Rows L2 Dr Ex Rp LamX Rw
open He (ga ma)
theorem kit_str (d : PyData) {K : PySem.W.Frag} : PySem.W.kitOne K (.type (tyD d)) (.type "str") = some (decide (tyD d = "str")) := by
  cases d
  · exact kit_ty (a := "NoneType") (b := "str") (r := false) (by decide +kernel)
  · exact kit_ty (a := "bool") (b := "str") (r := false) (by decide +kernel)
  · exact kit_ty (a := "int") (b := "str") (r := false) (by decide +kernel)
  · exact kit_ty (a := "str") (b := "str") (r := true) (by decide +kernel)
  · exact kit_ty (a := "list") (b := "str") (r := false) (by decide +kernel)
  · exact kit_ty (a := "tuple") (b := "str") (r := false) (by decide +kernel)
  · exact kit_ty (a := "dict") (b := "str") (r := false) (by decide +kernel)
def lowC (c : Nat) : Bool := decide (97 ≤ c) && decide (c ≤ 122)
def isWord : PyData → Bool
  | .str x => decide (1 ≤ x.length) && (decide (x.length ≤ 8) && x.cps.toList.all lowC)
  | _ => false
def shortS : PyData → Prop
  | .str x => x.length ≤ 1000
  | _ => True
def spWord (K : PySem.W.Frag) : Sp := fun vs H Q _ => ∃ (v : V) (d : PyData), vs = [v] ∧ Dt K H v d ∧ shortS d ∧ ∀ H', Same H H' → Q (.bl (isWord d)) H'
abbrev nName : List Str := ["value", "letter"]
theorem scName : FnScope nName ["value"] (defScope sIsName) := ⟨rfl, rfl, rfl, by decide +kernel, rfl, by decide +kernel, by decide +kernel⟩
section
variable {P : Program} {w : World} {K : PySem.W.Frag} {mg : Str → Option Value} {base : Heap}
theorem ok_name {CX : CXT} {f : Addr} {fd : FuncData} (F : FnP K "is_name" sIsName f fd) (T : TG K mg) (gL : ∃ t, mg "MAX_LETTERS" = some (.int 8 t)) : FnOk P w K mg base CX 1 f fd ["value"] (spWord K) := by
  have ti := T.f "isinstance" (by decide +kernel)
  have ts := T.f "str" (by decide +kernel)
  have tl := T.f "len" (by decide +kernel)
  have ta := T.f "all" (by decide +kernel)
  obtain ⟨tk, gL⟩ := gL
  refine F.ok scName (fun vs H Q E h => ?_) (fun cdv A outer s H vs Q E hr h => ?_)
  · obtain ⟨v, d, rfl, _⟩ := h
    rfl
  · obtain ⟨v, d, rfl, hd, hsh, k⟩ := h
    refine ⟨_, PSs.nox (pss_cons (ps_if (PW.pt (pw_or (pt_not (pt_val (pe_callB call_isi (by rfl) ti (by decide +kernel) (pa_cons (pv 0) (pa_cons (p_bty (n := "str") ts (by decide +kernel)) pa_nil)))))
          (pw_or1 (pt_not (pt_chain op_le op_le pe_int (pe_callB call_len_str (by rfl) tl PySem.boot_len (pa_cons (pv 0) pa_nil)) (pe_glob (v := .int 8) rfl gL ⟨_, rfl⟩))))))
        (pss_one (ps_ret pe_bl)) pss_nil)
      (pss_one (ps_ret (pe_callB (cr_all rfl) (by rfl) ta (by decide +kernel) (pa_cons (pe_lc (own := [("letter", 1)]) (g := gName 1) (tt := tYes) rfl scName.nd (pi_str (pv 0)) (blkOk_by (own := [("letter", 1)]) (N := nName) (sc := defScope sIsName) (by decide +kernel))
        (fun _ _ _ _ _ => pg_name (i := 1) scName.nd rfl (Or.inl rfl)) (fun _ _ _ _ _ => pts_nil) (fun _ _ _ _ _ => pe_chain op_le_str op_le_str pe_str (pv 1) pe_str)) pa_nil))))), ?_⟩
    refine ⟨_, rfl, _, _, _, _, _, rfl, .ty _, hd.ty, kit_str d, _, rfl, ?_⟩
    cases d with
    | str x =>
      cases hd
      have hx : x.length ≤ 1000 := hsh
      refine iteF ⟨_, rfl, x, rfl, by rw [sizeLine_eq]; omega, _, _, rfl, rfl, _, rfl, ?_⟩
      have out : isWord (.str x) = false → Q (.bl false) H := fun e => by
        have z := k H (Same.refl H)
        rw [e] at z
        exact z
      by_cases h0 : (1 : Int) ≤ (x.length : Int)
      · refine ite2 (fun _ => ⟨_, _, rfl, rfl, _, rfl, ?_⟩) fun c => absurd (decide_eq_true h0) c
        by_cases h1 : (x.length : Int) ≤ 8
        · rw [decide_eq_true h1]
          refine iteF ?_
          have w1 : isWord (.str x) = x.cps.toList.all lowC := by
            show (decide (1 ≤ x.length) && (decide (x.length ≤ 8) && x.cps.toList.all lowC)) = _
            rw [decide_eq_true (show 1 ≤ x.length by omega), decide_eq_true (show x.length ≤ 8 by omega)] <;> rfl
          have sz : x.cps.size ≤ 8 := by
            have : x.length = x.cps.size := rfl
            omega
          refine ⟨_, rfl, x, rfl, fun D hD => lc_it walk_str (fun i H' => Same H H' ∧ H' D = some (.lst ((((x.cps.toList.take i).map lowC)).map V.bl))) ⟨smu hD, by rw [upd_same]; rfl⟩ (fun _ _ _ _ => trivial) ?_ ?_⟩
          · rintro i v G2 G hi ⟨s1, hL⟩ ⟨rfl, c, hc, rfl⟩
            have hc2 : x.cps.toList[i]? = some c := by rw [Array.getElem?_toList]; exact hc
            have ec : (x.cps.toList.take (i + 1)).map lowC = (x.cps.toList.take i).map lowC ++ [lowC c] := by
              rw [List.take_add_one, hc2, List.map_append] <;> rfl
            have done : ∀ b : Bool, b = lowC c → ∃ acc, G D = some (.lst acc) ∧ acc.length < sizeLine ∧ Same H (upd G D (.lst (acc ++ [V.bl b]))) ∧ upd G D (.lst (acc ++ [V.bl b])) D = some (.lst (((x.cps.toList.take (i + 1)).map lowC).map V.bl)) := fun b hb => by
              refine ⟨_, hL, ?_, fun b o e => ?_, ?_⟩
              · rw [List.length_map, List.length_map, List.length_take, Array.length_toList, sizeLine_eq]
                omega
              · rw [upd_ne (ne_of_none e hD)]
                exact s1 _ _ e
              · rw [upd_same, ec, List.map_append, hb] <;> rfl
            refine ⟨rfl, yes_in ⟨_, rfl, _, _, rfl, rfl, _, rfl, ?_⟩⟩
            by_cases c1 : 97 ≤ c
            · have e1 : (!decide (([c] : List Nat) < [97])) = true := by
                rw [Bool.not_eq_true', decide_eq_false_iff_not]
                show ¬ List.Lex (· < ·) [c] [97]
                intro z
                cases z with
                | cons h => cases h
                | rel h => omega
              refine ite2 (fun _ => ⟨_, _, rfl, rfl, ?_⟩) fun z => absurd e1 z
              refine done _ ?_
              unfold lowC
              rw [decide_eq_true c1, Bool.true_and]
              by_cases c2 : c ≤ 122
              · rw [decide_eq_true c2, Bool.not_eq_true', decide_eq_false_iff_not]
                show ¬ List.Lex (· < ·) [122] [c]
                intro z
                cases z with
                | cons h => cases h
                | rel h => omega
              · rw [decide_eq_false c2, Bool.not_eq_false', decide_eq_true_eq]
                exact (show List.Lex (· < ·) [122] [c] from List.Lex.rel (show 122 < c by omega))
            · have e1 : (!decide (([c] : List Nat) < [97])) = false := by
                rw [Bool.not_eq_false', decide_eq_true_eq]
                exact (show List.Lex (· < ·) [c] [97] from List.Lex.rel (show c < 97 by omega))
              refine ite2 (fun z => absurd (z.symm.trans e1) (by simp)) fun _ => ?_
              refine done _ ?_
              unfold lowC
              rw [decide_eq_false c1] <;> rfl
          · rintro G ⟨s1, hL⟩
            refine ⟨D, x.cps.toList.map lowC, rfl, SqL.of ?_, ?_⟩
            · rw [hL, ← Array.length_toList, List.take_length]
            · have e : (x.cps.toList.map lowC).all id = x.cps.toList.all lowC := by rw [List.all_map] <;> rfl
              rw [e, ← w1]
              exact k G s1
        · rw [decide_eq_false h1]
          refine iteT (out ?_)
          show (decide (1 ≤ x.length) && (decide (x.length ≤ 8) && x.cps.toList.all lowC)) = false
          rw [decide_eq_false (show ¬ x.length ≤ 8 by omega), Bool.false_and, Bool.and_false]
      · refine ite2 (fun c => absurd (of_decide_eq_true c) h0) fun _ => ⟨_, rfl, iteT (out ?_)⟩
        show (decide (1 ≤ x.length) && (decide (x.length ≤ 8) && x.cps.toList.all lowC)) = false
        rw [decide_eq_false (show ¬ 1 ≤ x.length by omega)] <;> rfl
    | none => exact iteT (k H (Same.refl H))
    | bool b => exact iteT (k H (Same.refl H))
    | int i => exact iteT (k H (Same.refl H))
    | tuple x => exact iteT (k H (Same.refl H))
    | list ds => exact iteT (k H (Same.refl H))
    | dict ds => exact iteT (k H (Same.refl H))
end
end K01

/-! _law_is_word, _law_is_line. -/
namespace K01
open PySem PySem.Spec PyProof.Rows L2 Dr Ex Rp LamX Rw
open He (ga ma)
def okS : PyData → Prop
  | .str x => x.length ≤ 1000 ∧ ∀ c ∈ x.cps.toList, c < 0x110000
  | _ => True
def spIsWord (K : PySem.W.Frag) : Sp := fun vs H Q _ => ∃ (v : V) (d : PyData), vs = [v] ∧ Dt K H v d ∧ okS d ∧ ∀ H', Same H H' → Q (.bl (isWord d)) H'
abbrev nWord : List Str := ["_law_thing_here", "_law_sign"]
theorem scWord : FnScope nWord ["_law_thing_here"] (defScope sIsWord) := ⟨rfl, rfl, rfl, by decide +kernel, rfl, by decide +kernel, by decide +kernel⟩
def letters : Str := "abcdefghijklmnopqrstuvwxyz"
theorem letters_eq : letters.cps.toList = (List.range 26).map (97 + ·) := by decide +kernel
theorem in_letters (c : Nat) : decide (c ∈ letters.cps.toList) = lowC c := by
  have e : c ∈ letters.cps.toList ↔ 97 ≤ c ∧ c ≤ 122 := by
    rw [letters_eq, List.mem_map]
    constructor
    · rintro ⟨i, hi, rfl⟩
      have := List.mem_range.mp hi
      omega
    · rintro ⟨h1, h2⟩
      exact ⟨c - 97, List.mem_range.mpr (by omega), by omega⟩
  unfold lowC
  by_cases h : 97 ≤ c ∧ c ≤ 122
  · rw [decide_eq_true (e.mpr h), decide_eq_true h.1, decide_eq_true h.2] <;> rfl
  · rw [decide_eq_false fun z => h (e.mp z)]
    by_cases h1 : 97 ≤ c
    · rw [decide_eq_true h1, decide_eq_false fun z => h ⟨h1, z⟩] <;> rfl
    · rw [decide_eq_false h1] <;> rfl
def sgn (c : Nat) : Str := ⟨#[c]⟩
theorem dp_signs {K : PySem.W.Frag} {H : Hp} : ∀ cs : List Nat, DpAll K H (cs.map fun c => V.str (sgn c)) (cs.map fun c => PyData.str (sgn c))
  | [] => .nil
  | c :: r => .cons (.str _) (dp_signs r)
theorem lay_signs : ∀ cs : List Nat, (∀ c ∈ cs, c < 0x110000) → PyData.canLayAll0 (cs.map fun c => PyData.str (sgn c)) = true
  | [], _ => rfl
  | c :: r, h => by
    rw [List.map_cons]
    simp only [PyData.canLayAll0, PyData.canLay0, Bool.and_eq_true]
    exact ⟨by simp [PyData.strOk, sgn, h c List.mem_cons_self], lay_signs r fun z hz => h z (List.mem_cons_of_mem _ hz)⟩
theorem dep_signs : ∀ cs : List Nat, PyData.depthAll (cs.map fun c => PyData.str (sgn c)) = 0
  | [] => rfl
  | c :: r => by
    rw [List.map_cons]
    simp only [PyData.depthAll, PyData.depth, dep_signs r] <;> rfl
theorem shaped_signs {cs : List Nat} (h : ∀ c ∈ cs, c < 0x110000) : SeqAt.shaped (.list (cs.map fun c => PyData.str (sgn c))) = true := by
  unfold SeqAt.shaped
  rw [Bool.and_eq_true, decide_eq_true_eq]
  refine ⟨by simp only [PyData.canLay0]; exact lay_signs cs h, ?_⟩
  simp only [PyData.depth, dep_signs]
  omega
section
variable {P : Program} {w : World} {K : PySem.W.Frag} {mg : Str → Option Value} {base : Heap}
theorem ok_isWord {CX : CXT} {f : Addr} {fd : FuncData} (F : FnP K "_law_is_word" sIsWord f fd) (T : TG K mg) : FnOk P w K mg base CX 1 f fd ["_law_thing_here"] (spIsWord K) := by
  have ti := T.f "isinstance" (by decide +kernel)
  have ts := T.f "str" (by decide +kernel)
  have tl := T.f "len" (by decide +kernel)
  refine F.ok scWord (fun vs H Q E h => ?_) (fun cdv A outer s H vs Q E hr h => ?_)
  · obtain ⟨v, d, rfl, _⟩ := h
    rfl
  · obtain ⟨v, d, rfl, hd, hsh, k⟩ := h
    refine ⟨_, PSs.nox (pss_cons (ps_if (PW.pt (pw_or (pt_not (pt_val (pe_callB call_isi (by rfl) ti (by decide +kernel) (pa_cons (pv 0) (pa_cons (p_bty (n := "str") ts (by decide +kernel)) pa_nil)))))
          (pw_or (pt_cmpR op_lt (pe_callB call_len_str (by rfl) tl PySem.boot_len (pa_cons (pv 0) pa_nil)) pe_int (nomark _))
          (pw_or1 (pt_cmpR op_gt (pe_callB call_len_str (by rfl) tl PySem.boot_len (pa_cons (pv 0) pa_nil)) pe_int (nomark _))))))
        (pss_one (ps_ret pe_bl)) pss_nil)
      (pss_one (ps_ret (pe_cmpR (show OpR _ _ (rEqD K) from op_eqD hr.units) (pe_lc (own := [("_law_sign", 1)]) (g := gName 1) rfl scWord.nd (pi_str (pv 0)) (blkOk_by (own := [("_law_sign", 1)]) (N := nWord) (sc := defScope sIsWord) (by decide +kernel))
        (fun _ _ _ _ _ => pg_name (i := 1) scWord.nd rfl (Or.inl rfl)) (fun _ _ _ _ _ => pts_one (pt_cmpR op_notIn_sign (pv 1) pe_str (by rfl))) (fun _ _ _ _ _ => pv 1)) (pe_lst pa_nil) (nomark _))))), ?_⟩
    refine ⟨_, rfl, _, _, _, _, _, rfl, .ty _, hd.ty, kit_str d, _, rfl, ?_⟩
    cases d with
    | str x =>
      cases hd
      obtain ⟨hx, hc⟩ := hsh
      refine iteF ⟨_, rfl, x, rfl, by rw [sizeLine_eq]; omega, _, _, rfl, rfl, _, rfl, ?_⟩
      have out : isWord (.str x) = false → Q (.bl false) H := fun e => by
        have z := k H (Same.refl H)
        rw [e] at z
        exact z
      by_cases h0 : (x.length : Int) < 1
      · rw [decide_eq_true h0]
        refine iteT (iteT (out ?_))
        show (decide (1 ≤ x.length) && (decide (x.length ≤ 8) && x.cps.toList.all lowC)) = false
        rw [decide_eq_false (show ¬ 1 ≤ x.length by omega)] <;> rfl
      · rw [decide_eq_false h0]
        refine iteF ⟨_, rfl, x, rfl, by rw [sizeLine_eq]; omega, _, _, rfl, rfl, _, rfl, ?_⟩
        by_cases h1 : (x.length : Int) > 8
        · rw [decide_eq_true h1]
          refine iteT (out ?_)
          show (decide (1 ≤ x.length) && (decide (x.length ≤ 8) && x.cps.toList.all lowC)) = false
          rw [decide_eq_false (show ¬ x.length ≤ 8 by omega), Bool.false_and, Bool.and_false]
        · rw [decide_eq_false h1]
          refine iteF ?_
          have w1 : isWord (.str x) = x.cps.toList.all lowC := by
            show (decide (1 ≤ x.length) && (decide (x.length ≤ 8) && x.cps.toList.all lowC)) = _
            rw [decide_eq_true (show 1 ≤ x.length by omega), decide_eq_true (show x.length ≤ 8 by omega)] <;> rfl
          have sz : x.cps.size ≤ 8 := by
            have : x.length = x.cps.size := rfl
            omega
          refine ⟨_, rfl, x, rfl, fun D hD => lc_it walk_str (fun i H' => Same H H' ∧ H' D = some (.lst (((x.cps.toList.take i).filter fun c => !lowC c).map fun c => V.str (sgn c)))) ⟨smu hD, by rw [upd_same]; rfl⟩ (fun _ _ _ _ => trivial) ?_ ?_⟩
          · rintro i v G2 G hi ⟨s1, hL⟩ ⟨rfl, c, hc2, rfl⟩
            have hc3 : x.cps.toList[i]? = some c := by rw [Array.getElem?_toList]; exact hc2
            have et : x.cps.toList.take (i + 1) = x.cps.toList.take i ++ [c] := by
              rw [List.take_add_one, hc3] <;> rfl
            refine ⟨rfl, _, rfl, _, _, rfl, rfl, _, rfl, ?_⟩
            rw [show decide (c ∈ (Str.ofString "abcdefghijklmnopqrstuvwxyz").cps.toList) = lowC c from in_letters c]
            cases hl : lowC c with
            | true =>
              refine iteF ⟨s1, ?_⟩
              rw [hL, et, List.filter_append, List.filter_cons, hl] <;> simp
            | false =>
              refine iteT ⟨_, rfl, _, hL, ?_, fun b o e => ?_, ?_⟩
              · have := List.length_filter_le (fun c => !lowC c) (x.cps.toList.take i)
                rw [List.length_take] at this
                rw [List.length_map, sizeLine_eq]
                omega
              · rw [upd_ne (ne_of_none e hD)]
                exact s1 _ _ e
              · rw [upd_same, et, List.filter_append, List.filter_cons, hl, List.map_append] <;> rfl
          · rintro G ⟨s1, hL⟩
            rw [← Array.length_toList, List.take_length] at hL
            refine ⟨Nat.zero_le _, fun q nq => ?_⟩
            have sq := smu (o := .lst []) nq
            refine ⟨.list ((x.cps.toList.filter fun c => !lowC c).map fun c => PyData.str (sgn c)), .list [], .lst (SqL.of (sq _ _ hL)) (dp_signs _), .lst (SqL.of upd_same) .nil, shaped_signs (fun c h => hc c (List.mem_filter.mp h).1), by decide +kernel, ?_⟩
            have e : PyData.eqv (.list ((x.cps.toList.filter fun c => !lowC c).map fun c => PyData.str (sgn c))) (.list []) = isWord (.str x) := by
              rw [w1]
              cases hf : x.cps.toList.filter (fun c => !lowC c) with
              | nil =>
                have a : x.cps.toList.all lowC = true := List.all_eq_true.mpr fun c h => by
                  cases hl : lowC c with
                  | true => rfl
                  | false =>
                    have z : c ∈ x.cps.toList.filter (fun c => !lowC c) := List.mem_filter.mpr ⟨h, by rw [hl]; rfl⟩
                    rw [hf] at z
                    cases z
                rw [a]
                simp [PyData.eqv, PyData.eqvAll]
              | cons c r =>
                have z : c ∈ x.cps.toList.filter (fun c => !lowC c) := by rw [hf]; exact List.mem_cons_self
                obtain ⟨z1, z2⟩ := List.mem_filter.mp z
                have a : x.cps.toList.all lowC = false := by
                  refine List.all_eq_false.mpr ⟨c, z1, ?_⟩
                  simpa using z2
                rw [a]
                simp [PyData.eqv, PyData.eqvAll]
            rw [e]
            exact k _ (s1.trans sq)
    | none => exact iteT (k H (Same.refl H))
    | bool b => exact iteT (k H (Same.refl H))
    | int i => exact iteT (k H (Same.refl H))
    | tuple x => exact iteT (k H (Same.refl H))
    | list ds => exact iteT (k H (Same.refl H))
    | dict ds => exact iteT (k H (Same.refl H))
end
end K01

/-! _law_is_line. -/
namespace K01
open PySem PySem.Spec PyProof.Rows L2 Dr Ex Rp LamX Rw
open He (ga ma)
mutual
theorem dt_dp {K : PySem.W.Frag} {H : Hp} : ∀ (d : PyData) (v : V), Dt K H v d → PyData.canLay0 d = true → Dp K H v d
  | .none, _, h, _ => by cases h; exact .non
  | .bool b, _, h, _ => by cases h; exact .bl b
  | .int i, _, h, _ => by cases h; exact .int i
  | .str x, _, h, _ => by cases h; exact .str x
  | .list ds, _, h, c => by
    cases h with
    | lst h1 h2 => exact .lst h1 (dt_dpAll ds _ h2 (by simpa only [PyData.canLay0] using c))
  | .tuple ds, _, h, c => by
    cases h with
    | tup h1 h2 => exact .tup h1 (dt_dpAll ds _ h2 (by simpa only [PyData.canLay0] using c))
  | .dict _, _, _, c => by simp only [PyData.canLay0] at c; cases c
theorem dt_dpAll {K : PySem.W.Frag} {H : Hp} : ∀ (ds : List PyData) (vs : List V), DtAll K H vs ds → PyData.canLayAll0 ds = true → DpAll K H vs ds
  | [], _, h, _ => by cases h; exact .nil
  | d :: r, _, h, c => by
    simp only [PyData.canLayAll0, Bool.and_eq_true] at c
    cases h with
    | cons a b => exact .cons (dt_dp d _ a c.1) (dt_dpAll r _ b c.2)
end
theorem lay_all : ∀ ds : List PyData, (∀ d ∈ ds, PyData.canLay0 d = true) → PyData.canLayAll0 ds = true
  | [], _ => rfl
  | d :: r, h => by
    simp only [PyData.canLayAll0, Bool.and_eq_true]
    exact ⟨h d List.mem_cons_self, lay_all r fun z hz => h z (List.mem_cons_of_mem _ hz)⟩
theorem dep_all {n : Nat} : ∀ ds : List PyData, (∀ d ∈ ds, d.depth ≤ n) → PyData.depthAll ds ≤ n
  | [], _ => Nat.zero_le _
  | d :: r, h => by
    simp only [PyData.depthAll]
    have h1 := h d List.mem_cons_self
    have h2 := dep_all r fun z hz => h z (List.mem_cons_of_mem _ hz)
    omega
def isLine (m : Int) (d : PyData) : Bool := areI d && decide (((its d).length : Int) = m)
/-- parts that can be compared -/
def okT : PyData → Prop
  | .tuple ds => ds.length ≤ 1000 ∧ ∀ d ∈ ds, PyData.canLay0 d = true ∧ d.depth ≤ 10
  | _ => True
def spIsLine (K : PySem.W.Frag) : Sp := fun vs H Q _ => ∃ (m : Int) (v : V) (d : PyData), vs = [.int m, v] ∧ Dt K H v d ∧ okT d ∧ ∀ H', Same H H' → Q (.bl (isLine m d)) H'
abbrev nLine1 : List Str := ["_law_much", "_law_thing_here", "_law_one"]
theorem scLine1 : FnScope nLine1 ["_law_much", "_law_thing_here"] (defScope sIsLine) := ⟨rfl, rfl, rfl, by decide +kernel, rfl, by decide +kernel, by decide +kernel⟩
theorem dt_filter {K : PySem.W.Frag} {H : Hp} (p : PyData → Bool) (f : V → Bool) : ∀ {xs : List V} {ds : List PyData}, DtAll K H xs ds → (∀ v d, Dt K H v d → f v = p d) → DtAll K H (xs.filter f) (ds.filter p)
  | _, _, .nil, _ => .nil
  | _, _, .cons (v := v) (d := d) a r, h => by
    rw [List.filter_cons, List.filter_cons, h v d a]
    cases p d with
    | true => exact .cons a (dt_filter p f r h)
    | false => exact dt_filter p f r h
section
variable {P : Program} {w : World} {K : PySem.W.Frag} {mg : Str → Option Value} {base : Heap}
theorem ok_isLine {CX : CXT} {f : Addr} {fd : FuncData} (F : FnP K "_law_is_line" sIsLine f fd) (T : TG K mg) : FnOk P w K mg base CX 1 f fd ["_law_much", "_law_thing_here"] (spIsLine K) := by
  have ti := T.f "isinstance" (by decide +kernel)
  have tt := T.f "tuple" (by decide +kernel)
  have t1 := T.f "int" (by decide +kernel)
  have t2 := T.f "bool" (by decide +kernel)
  have tl := T.f "len" (by decide +kernel)
  refine F.ok scLine1 (fun vs H Q E h => ?_) (fun cdv A outer s H vs Q E hr h => ?_)
  · obtain ⟨m, v, d, rfl, _⟩ := h
    rfl
  · obtain ⟨m, v, d, rfl, hd, hsh, k⟩ := h
    refine ⟨_, PSs.nox (pss_cons (ps_if (PW.pt (pw_or (pt_not (pt_val (pe_callB call_isi (by rfl) ti (by decide +kernel) (pa_cons (pv 1) (pa_cons (p_bty (n := "tuple") tt (by decide +kernel)) pa_nil)))))
          (pw_or1 (pt_cmpR op_ne (pe_callB call_len_seq (by rfl) tl PySem.boot_len (pa_cons (pv 1) pa_nil)) (pv 0) (nomark _)))))
        (pss_one (ps_ret pe_bl)) pss_nil)
      (pss_one (ps_ret (pe_cmpR (show OpR _ _ (rEqD K) from op_eqD hr.units) (pe_lc (own := [("_law_one", 2)]) (g := gName 2) rfl scLine1.nd (pi_tup (pv 1)) (blkOk_by (own := [("_law_one", 2)]) (N := nLine1) (sc := defScope sIsLine) (by decide +kernel))
        (fun _ _ _ _ _ => pg_name (i := 2) scLine1.nd rfl (Or.inl rfl)) (fun _ _ _ _ _ => pts_one (PW.pt (pw_or (pt_val (pe_callB (id := "isinstance") (show CallR _ _ (rIsi K) from call_isi) (by rfl) ti (by decide +kernel) (pa_cons (pv 2) (pa_cons (p_bty (n := "bool") t2 (by decide +kernel)) pa_nil))))
            (pw_or1 (pt_not (pt_val (pe_callB (id := "isinstance") (show CallR _ _ (rIsi K) from call_isi) (by rfl) ti (by decide +kernel) (pa_cons (pv 2) (pa_cons (p_bty (n := "int") t1 (by decide +kernel)) pa_nil))))))))) (fun _ _ _ _ _ => pv 2)) (pe_lst pa_nil) (nomark _))))), ?_⟩
    refine ⟨_, rfl, _, _, _, _, _, rfl, .ty _, hd.ty, kit_tup d, _, rfl, ?_⟩
    cases d with
    | tuple ds =>
      cases hd with
      | tup h1 h2 =>
        rename_i a xs
        obtain ⟨hz, hp⟩ := hsh
        have lx : xs.length = ds.length := (DtAll.len h2).symm
        refine iteF ⟨_, rfl, a, xs, rfl, .inr h1, _, rfl, rfl, _, rfl, ?_⟩
        by_cases hm : ((ds.length : Nat) : Int) = m
        · have e0 : (!decide (V.int ((xs.length : Nat) : Int) = V.int m)) = false := by rw [lx, hm, decide_eq_true rfl] <;> rfl
          rw [e0]
          refine iteF ?_
          have w1 : isLine m (.tuple ds) = ds.all isI := by
            show (ds.all isI && decide (((ds.length : Nat) : Int) = m)) = _
            rw [decide_eq_true hm, Bool.and_true]
          refine ⟨_, rfl, a, rfl, ⟨xs, h1⟩, fun D hD => lc_tup (xs := xs) (fun i G => Same H G ∧ ∃ L, G D = some (.lst L) ∧ L.length ≤ i ∧ DtAll K H L ((ds.take i).filter fun d => !isI d)) ⟨smu hD, [], upd_same, Nat.le_refl _, .nil⟩ (fun i G _ h => sqt_same h.1 h1) ?_ ?_⟩
          · rintro i x G hx ⟨s1, L, hL, hlen, hA⟩
            obtain ⟨d, e1, e2⟩ := dt_all_get h2 hx
            have hi : i < xs.length := (List.getElem?_eq_some_iff.mp hx).choose
            have et : ds.take (i + 1) = ds.take i ++ [d] := by
              rw [List.take_add_one, e1] <;> rfl
            have drop : isI d = true → Same H G ∧ ∃ L, G D = some (.lst L) ∧ L.length ≤ i + 1 ∧ DtAll K H L ((ds.take (i + 1)).filter fun d => !isI d) := fun q => by
              refine ⟨s1, L, hL, by omega, ?_⟩
              rw [et, List.filter_append, List.filter_cons, q]
              simpa using hA
            have keep : isI d = false → ∃ acc, G D = some (.lst acc) ∧ acc.length < sizeLine ∧ Same H (upd G D (.lst (acc ++ [x]))) ∧ ∃ L, upd G D (.lst (acc ++ [x])) D = some (.lst L) ∧ L.length ≤ i + 1 ∧ DtAll K H L ((ds.take (i + 1)).filter fun d => !isI d) := fun q => by
              refine ⟨L, hL, by rw [sizeLine_eq]; omega, fun b o e => ?_, L ++ [x], upd_same, by rw [List.length_append]; show L.length + 1 ≤ i + 1; omega, ?_⟩
              · rw [upd_ne (ne_of_none e hD)]
                exact s1 _ _ e
              · rw [et, List.filter_append, List.filter_cons, q]
                exact LamK.dt_snoc hA e2
            have ty := (Dt.same s1 d _ e2).ty
            refine ⟨rfl, _, rfl, _, _, _, _, _, rfl, .ty _, ty, kit_bool d, _, rfl, ?_⟩
            cases d with
            | bool b => exact iteT (iteT ⟨_, rfl, keep rfl⟩)
            | int j => exact iteF ⟨_, rfl, _, _, _, _, _, rfl, .ty _, ty, kit_int (.int j), _, rfl, iteF (drop rfl)⟩
            | none => exact iteF ⟨_, rfl, _, _, _, _, _, rfl, .ty _, ty, kit_int .none, _, rfl, iteT ⟨_, rfl, keep rfl⟩⟩
            | str y => exact iteF ⟨_, rfl, _, _, _, _, _, rfl, .ty _, ty, kit_int (.str y), _, rfl, iteT ⟨_, rfl, keep rfl⟩⟩
            | list y => exact iteF ⟨_, rfl, _, _, _, _, _, rfl, .ty _, ty, kit_int (.list y), _, rfl, iteT ⟨_, rfl, keep rfl⟩⟩
            | tuple y => exact iteF ⟨_, rfl, _, _, _, _, _, rfl, .ty _, ty, kit_int (.tuple y), _, rfl, iteT ⟨_, rfl, keep rfl⟩⟩
            | dict y => exact iteF ⟨_, rfl, _, _, _, _, _, rfl, .ty _, ty, kit_int (.dict y), _, rfl, iteT ⟨_, rfl, keep rfl⟩⟩
          · rintro G ⟨s1, L, hL, _, hA⟩
            rw [lx, List.take_length] at hA
            refine ⟨Nat.zero_le _, fun q nq => ?_⟩
            have sq := smu (o := .lst []) nq
            have lay : ∀ d ∈ ds.filter (fun d => !isI d), PyData.canLay0 d = true ∧ d.depth ≤ 10 := fun d h => hp d (List.mem_filter.mp h).1
            have lay2 := lay_all _ fun d h => (lay d h).1
            have sh : SeqAt.shaped (.list (ds.filter fun d => !isI d)) = true := by
              unfold SeqAt.shaped
              rw [Bool.and_eq_true, decide_eq_true_eq]
              refine ⟨by simpa only [PyData.canLay0] using lay2, ?_⟩
              simp only [PyData.depth]
              have := dep_all _ fun d h => (lay d h).2
              omega
            refine ⟨.list (ds.filter fun d => !isI d), .list [], .lst (SqL.of (sq _ _ hL)) (dt_dpAll _ _ (Dt.sameAll (s1.trans sq) _ _ hA) lay2), .lst (SqL.of upd_same) .nil, sh, by decide +kernel, ?_⟩
            have e : PyData.eqv (.list (ds.filter fun d => !isI d)) (.list []) = isLine m (.tuple ds) := by
              rw [w1]
              cases hf : ds.filter (fun d => !isI d) with
              | nil =>
                have al : ds.all isI = true := List.all_eq_true.mpr fun d h => by
                  cases hl : isI d with
                  | true => rfl
                  | false =>
                    have z : d ∈ ds.filter (fun d => !isI d) := List.mem_filter.mpr ⟨h, by rw [hl]; rfl⟩
                    rw [hf] at z
                    cases z
                rw [al]
                simp [PyData.eqv, PyData.eqvAll]
              | cons c r =>
                have z : c ∈ ds.filter (fun d => !isI d) := by rw [hf]; exact List.mem_cons_self
                obtain ⟨z1, z2⟩ := List.mem_filter.mp z
                have al : ds.all isI = false := List.all_eq_false.mpr ⟨c, z1, by simpa using z2⟩
                rw [al]
                simp [PyData.eqv, PyData.eqvAll]
            rw [e]
            exact k _ (s1.trans sq)
        · have e0 : (!decide (V.int ((xs.length : Nat) : Int) = V.int m)) = true := by
            rw [lx, decide_eq_false (fun z => hm (V.int.inj z))] <;> rfl
          rw [e0]
          refine iteT ?_
          have z := k H (Same.refl H)
          have w1 : isLine m (.tuple ds) = false := by
            show (ds.all isI && decide (((ds.length : Nat) : Int) = m)) = _
            rw [decide_eq_false hm, Bool.and_false]
          rw [w1] at z
          exact z
    | none => exact iteT (k H (Same.refl H))
    | bool b => exact iteT (k H (Same.refl H))
    | int i => exact iteT (k H (Same.refl H))
    | str x => exact iteT (k H (Same.refl H))
    | list ds => exact iteT (k H (Same.refl H))
    | dict ds => exact iteT (k H (Same.refl H))
end
end K01

/-! _law_mixed. -/
namespace K01
open PySem PySem.Spec PyProof.Rows L2 Dr Ex Rp LamX Rw
open He (ga ma)
def spMixed (K : PySem.W.Frag) : Sp := fun vs H Q _ => ∃ (p q : Addr) (xs : List V) (k : Nat), vs = [.ref p, .ref q] ∧ StrAt H p k ∧ k ≤ 90000 ∧ p ≠ q ∧ (SqL K H q xs ∨ SqT K H q xs) ∧ xs.length ≤ 1000 ∧
  ∀ (H' : Hp) (r : Addr) (ys : List V), But p H H' → StrAt H' p (k + xs.length) → H r = none → H' r = some (.lst ys) → ys.Perm xs → Q (.ref r) H'
abbrev nMixed : List Str := ["_law_stream_here", "_law_items", "_law_left", "_law_turn"]
theorem scMixed : FnScope nMixed ["_law_stream_here", "_law_items"] (defScope sMixed) := ⟨rfl, rfl, rfl, by decide +kernel, rfl, by decide +kernel, by decide +kernel⟩
section
variable {P : Program} {w : World} {K : PySem.W.Frag} {mg : Str → Option Value} {base : Heap}
theorem ok_mixed {f fD : Addr} {fd fdD : FuncData} (F : FnP K "_law_mixed" sMixed f fd) (FD : FnP K "_law_draw" sDraw fD fdD) (T : TG K mg) (gD : mg "_law_draw" = some (.ref fD)) : FnOk P w K mg base CX0 2 f fd ["_law_stream_here", "_law_items"] (spMixed K) := by
  have tl := T.f "len" (by decide +kernel)
  have ti := T.f "list" (by decide +kernel)
  have tr := T.f "range" (by decide +kernel)
  have GD : FnOk P w K mg base CX0 1 fD fdD ["_law_stream_here", "_law_high"] spDraw := ok_draw FD T
  have bD : Binds K fdD ["_law_stream_here", "_law_high"] [] := FD.bindsN fun _ _ _ _ _ _ us hl => match us, hl with | [_, _], _ => rfl
  refine F.ok scMixed (fun vs H Q E h => ?_) (fun cdv A outer s H vs Q E hr h => ?_)
  · obtain ⟨p, q, xs, k, rfl, _⟩ := h
    rfl
  · obtain ⟨p, q, xs, k, rfl, hS, hk, npq, hq, hlen, fin⟩ := h
    refine ⟨_, PSs.nox (pss_cons (ps_set (i := 2) scMixed.nd rfl (Or.inr rfl) (pe_callTy call_list_of (by rfl) ti (by decide +kernel) (pa_cons (pv 1) pa_nil)))
      (pss_one (ps_ret (pe_lc (own := [("_law_turn", 3)]) (g := gName 3) (tt := tYes) rfl scMixed.nd (pi_range1 rfl tr (pa_cons (pe_callB call_len_seq (by rfl) tl PySem.boot_len (pa_cons (pv 1) pa_nil)) pa_nil)) (blkOk_by (own := [("_law_turn", 3)]) (N := nMixed) (sc := defScope sMixed) (by decide +kernel))
        (fun _ _ _ _ _ => pg_name (i := 3) scMixed.nd rfl (Or.inl rfl)) (fun _ _ _ _ _ => pts_nil)
        (fun _ _ _ _ _ => (show PE _ _ (tBM K "list" rPopAt (tVar 2) (tCons (tCall spDraw [] E0 (tCons (tVar 0) (tCons (tCB (rLenS K) (tCons (tVar 2) tNil)) tNil))) tNil)) from pe_bm PySem.F.plainAttrs_list PySem.F.slot_list_pop PySem.F.type_list_pop mt_popAt (pv 2) (pa_cons (pe_call GD hr rfl gD FD.kp bD .nil pass0 (pa_cons (pv 0) (pa_cons (pe_callB (id := "len") (show CallR _ _ (rLenS K) from call_len_seq) (by rfl) tl PySem.boot_len (pa_cons (pv 2) pa_nil)) pa_nil))) pa_nil))))))), ?_⟩
    obtain ⟨st0, hp0⟩ := hS.some
    refine ⟨_, rfl, q, xs, rfl, hq, fun l nl => ?_⟩
    have nlp : l ≠ p := (ne_of_none hp0 nl).symm
    have sl := smu (o := .lst xs) nl
    have ml := upd_same (H := H) (a := l) (o := .lst xs)
    have hq1 : SqL K (upd H l (.lst xs)) q xs ∨ SqT K (upd H l (.lst xs)) q xs := hq.imp (fun z => Same.seq sl z) fun z => sqt_same sl z
    have hS1 := hS.same sl
    generalize upd H l (.lst xs) = H1 at sl ml hq1 hS1 ⊢
    obtain ⟨st1, hp1⟩ := hS1.some
    refine ⟨_, rfl, q, xs, rfl, hq1, _, rfl, by omega, by omega, fun D nD => ?_⟩
    have nDp : D ≠ p := (ne_of_none hp1 nD).symm
    have nDl : D ≠ l := (ne_of_none ml nD).symm
    have nHD : H D = none := sl.free nD
    refine lc_range (lo := 0) (n := ((xs.length : Nat) : Int).toNat) (fun i G => But p H G ∧ StrAt G p (k + i) ∧ ∃ left acc, G l = some (.lst left) ∧ G D = some (.lst acc) ∧ (acc ++ left).Perm xs ∧ left.length + i = xs.length ∧ acc.length = i)
      ⟨fun b o nb e => ?_, (hS1.same (smu nD)).mono (Nat.le_refl _), xs, [], (smu nD) _ _ ml, upd_same, List.Perm.refl _, rfl, rfl⟩ ?_ ?_
    · exact (smu nD) _ _ (sl _ _ e)
    · rintro i G hi ⟨hb, st, left, acc, hl, hD, perm, len1, len2⟩
      refine ⟨rfl, yes_in ⟨_, rfl, .inl ⟨rfl, _, SqL.of hl⟩, _, rfl, _, rfl, l, left, rfl, .inl (SqL.of hl), p, _, k + i, rfl, st, by omega, by omega, by omega, fun G' v v0 v1 bt st' => ?_⟩⟩
      have hl' := bt _ _ nlp hl
      have hD' := bt _ _ nDp hD
      obtain ⟨m, rfl⟩ : ∃ m : Nat, v = (m : Int) := ⟨v.toNat, by omega⟩
      have hm : m < left.length := by omega
      obtain ⟨y, hy⟩ : ∃ y, left[m]? = some y := ⟨_, List.getElem?_eq_getElem hm⟩
      refine ⟨l, left, (m : Int), m, y, rfl, rfl, hl', by omega, by omega, ?_, hy, acc, ?_, by rw [sizeLine_eq]; omega, fun b o nb e => ?_, ?_, left.eraseIdx m, acc ++ [y], ?_, upd_same, ?_, ?_, ?_⟩
      · unfold seqIndex?
        rw [if_neg (show ¬ ((m : Int) < 0) by omega)]
        show (if (decide ((0 : Int) ≤ (m : Int)) && decide ((m : Int) < ((left.length : Nat) : Int))) = true then some ((m : Int).toNat) else none) = some m
        rw [decide_eq_true (show (0 : Int) ≤ (m : Int) by omega), decide_eq_true (show (m : Int) < ((left.length : Nat) : Int) by omega)]
        rfl
      · rw [upd_ne nDl]
        exact hD'
      · have nbl : b ≠ l := ne_of_none e nl
        have nbD : b ≠ D := ne_of_none e nHD
        rw [upd_ne nbD, upd_ne nbl]
        exact bt _ _ nb (hb _ _ nb e)
      · refine (st'.keep fun o e => ?_).mono (by omega)
        rw [upd_ne nDp.symm, upd_ne nlp.symm]
        exact e
      · rw [upd_ne nDl.symm, upd_same]
      · have e1 : left.Perm (y :: left.eraseIdx m) := by
          have e3 : left = left.take m ++ y :: left.drop (m + 1) := by
            have z := List.getElem_cons_drop hm
            rw [List.getElem?_eq_getElem hm] at hy
            rw [Option.some.inj hy] at z
            rw [z, List.take_append_drop]
          rw [List.eraseIdx_eq_take_drop_succ]
          exact (List.Perm.of_eq e3).trans List.perm_middle
        have e2 : (acc ++ [y] ++ left.eraseIdx m).Perm (acc ++ left) := by
          rw [List.append_assoc]
          exact (List.perm_append_left_iff acc).mpr e1.symm
        exact e2.trans perm
      · rw [List.length_eraseIdx_of_lt hm]
        omega
      · rw [List.length_append, len2] <;> rfl
    · rintro G ⟨hb, st, left, acc, hl, hD, perm, len1, len2⟩
      have e0 : left = [] := List.eq_nil_of_length_eq_zero (by omega)
      rw [e0, List.append_nil] at perm
      exact fin G D acc hb (st.mono (by omega)) nHD hD perm
end
end K01

/-! _law_ahead. -/
namespace K01
open PySem PySem.Spec PyProof.Rows L2 Dr Ex Rp LamX Rw
open He (ga ma)
def skF (ds : List Int) (p : Int × Nat) : Int := if ds.contains ((p.2 : Nat) : Int) then -p.1 else p.1
theorem lex_at (ds : List Int) : ∀ (xs ys : List Int) (o i : Nat), xs.length = ys.length → (∀ j, j < i → xs[j]? = ys[j]?) → ∀ x y, xs[i]? = some x → ys[i]? = some y → x ≠ y →
    HT.lexLt ((xs.zipIdx o).map (skF ds)) ((ys.zipIdx o).map (skF ds)) = ((decide (y < x)) == ds.contains (((o + i : Nat) : Nat) : Int))
  | [], _, _, _, _, _, _, _, h, _, _ => by simp at h
  | _ :: _, [], _, _, h, _, _, _, _, _, _ => by simp at h
  | a :: xs, b :: ys, o, 0, _, _, x, y, hx, hy, ne => by
    have ex : a = x := by simpa using hx
    have ey : b = y := by simpa using hy
    subst ex
    subst ey
    show HT.lexLt (skF ds (a, o) :: _) (skF ds (b, o) :: _) = _
    rw [HT.lexLt_cons, Nat.add_zero]
    unfold skF
    cases hc : ds.contains ((o : Nat) : Int) with
    | true =>
      show (if (-a) = -b then _ else decide (-a < -b)) = _
      rw [if_neg (by omega)]
      by_cases h : b < a
      · rw [decide_eq_true h, decide_eq_true (by omega)] <;> rfl
      · rw [decide_eq_false h, decide_eq_false (by omega)] <;> rfl
    | false =>
      show (if a = b then _ else decide (a < b)) = _
      rw [if_neg ne]
      by_cases h : b < a
      · rw [decide_eq_true h, decide_eq_false (by omega)] <;> rfl
      · rw [decide_eq_false h, decide_eq_true (by omega)] <;> rfl
  | a :: xs, b :: ys, o, i + 1, hl, he, x, y, hx, hy, ne => by
    have e0 : a = b := by simpa using he 0 (by omega)
    subst e0
    show HT.lexLt (skF ds (a, o) :: (xs.zipIdx (o + 1)).map (skF ds)) (skF ds (a, o) :: (ys.zipIdx (o + 1)).map (skF ds)) = _
    rw [HT.lexLt_cons, if_pos rfl, lex_at ds xs ys (o + 1) i (by simpa using hl) (fun j hj => by simpa using he (j + 1) (by omega)) x y (by simpa using hx) (by simpa using hy) ne, show o + 1 + i = o + (i + 1) by omega]
theorem lex_same (l : List Int) : HT.lexLt l l = false := by
  induction l with
  | nil => rfl
  | cons a r ih => rw [HT.lexLt_cons, if_pos rfl, ih]
def ahead (ds xs ys : List Int) : Bool := HT.lexLt (sk ds xs) (sk ds ys)
theorem ahead_at {ds xs ys : List Int} {i : Nat} {x y : Int} (hl : xs.length = ys.length) (he : ∀ j, j < i → xs[j]? = ys[j]?) (hx : xs[i]? = some x) (hy : ys[i]? = some y) (ne : x ≠ y) : ahead ds xs ys = ((decide (y < x)) == ds.contains ((i : Nat) : Int)) := by
  have z := lex_at ds xs ys 0 i hl he x y hx hy ne
  rw [Nat.zero_add] at z
  exact z
theorem ahead_same {ds xs ys : List Int} (hl : xs.length = ys.length) (he : ∀ j, j < xs.length → xs[j]? = ys[j]?) : ahead ds xs ys = false := by
  have e : xs = ys := List.ext_getElem? fun j => by
    by_cases h : j < xs.length
    · exact he j h
    · rw [List.getElem?_eq_none (by omega), List.getElem?_eq_none (by omega)]
  rw [e]
  exact lex_same _
def spAhead (K : PySem.W.Frag) : Sp := fun vs H Q _ => ∃ (a b c : Addr) (xs ys ds : List Int), vs = [.ref a, .ref b, .ref c] ∧ SqT K H a (xs.map V.int) ∧ SqT K H b (ys.map V.int) ∧ SqT K H c (ds.map V.int) ∧ xs.length = ys.length ∧ xs.length ≤ 1000 ∧ Q (.bl (ahead ds xs ys)) H
abbrev nAhead : List Str := ["_law_line", "_law_other", "_law_turned", "_law_at"]
theorem scAhead : FnScope nAhead ["_law_line", "_law_other", "_law_turned"] (defScope sAhead) := ⟨rfl, rfl, rfl, by decide +kernel, rfl, by decide +kernel, by decide +kernel⟩
section
variable {P : Program} {w : World} {K : PySem.W.Frag} {mg : Str → Option Value} {base : Heap}
theorem ok_ahead {CX : CXT} {f : Addr} {fd : FuncData} (F : FnP K "_law_ahead" sAhead f fd) (T : TG K mg) : FnOk P w K mg base CX 1 f fd ["_law_line", "_law_other", "_law_turned"] (spAhead K) := by
  have tl := T.f "len" (by decide +kernel)
  have tr := T.f "range" (by decide +kernel)
  refine F.ok scAhead (fun vs H Q E h => ?_) (fun cdv A outer s H vs Q E hr h => ?_)
  · obtain ⟨a, b, c, xs, ys, ds, rfl, _⟩ := h
    rfl
  · obtain ⟨a, b, c, xs, ys, ds, rfl, ha, hb, hc, hl, hz, k⟩ := h
    refine ⟨_, PSs.nox (pss_cons (ps_for PassesOwn.never rfl (pi_range1 rfl tr (pa_cons (pe_callB call_len_seq (by rfl) tl PySem.boot_len (pa_cons (pv 0) pa_nil)) pa_nil)) (pg_name (i := 3) scAhead.nd rfl (Or.inl rfl))
        (pss_one (ps_if (pt_cmpR op_ne (pe_ix ix_tup (pv 0) (pv 3) (fun _ _ => rfl)) (pe_ix ix_tup (pv 1) (pv 3) (fun _ _ => rfl)) (nomark _))
          (pss_one (ps_ret (pe_cmpR op_eq (pe_cmpR op_gt (pe_ix ix_tup (pv 0) (pv 3) (fun _ _ => rfl)) (pe_ix ix_tup (pv 1) (pv 3) (fun _ _ => rfl)) (nomark _)) (pe_cmpR op_in_seq (pv 3) (pv 2) (by rfl)) (nomark _)))) pss_nil)))
      (pss_one (ps_ret pe_bl))), ?_⟩
    refine ⟨_, rfl, a, _, rfl, .inr ha, _, rfl, by omega, ?_, for_range (lo := 0) (n := (((xs.map V.int).length : Nat) : Int).toNat) (fun i σ G => (∃ t : Option V, σ = [some (.ref a), some (.ref b), some (.ref c), t]) ∧ G = H ∧ ∀ j, j < i → xs[j]? = ys[j]?) ⟨⟨none, rfl⟩, rfl, fun j hj => by omega⟩ ?_ ?_⟩
    · rw [List.length_map]
      omega
    · rintro i σ G hi ⟨⟨t, rfl⟩, rfl, he⟩
      rw [List.length_map] at hi
      obtain ⟨x, hx⟩ : ∃ x, xs[i]? = some x := ⟨_, List.getElem?_eq_getElem (by omega)⟩
      obtain ⟨y, hy⟩ : ∃ y, ys[i]? = some y := ⟨_, List.getElem?_eq_getElem (by omega)⟩
      have hx2 : (xs.map V.int)[i]? = some (V.int x) := by rw [List.getElem?_map, hx] <;> rfl
      have hy2 : (ys.map V.int)[i]? = some (V.int y) := by rw [List.getElem?_map, hy] <;> rfl
      refine ⟨_, rfl, _, rfl, a, _, _, _, rfl, rfl, ha, (by rw [Int.zero_add]; exact atI_nat hx2), ?_⟩
      refine ⟨_, rfl, _, rfl, b, _, _, _, rfl, rfl, hb, (by rw [Int.zero_add]; exact atI_nat hy2), rfl, _, rfl, ?_⟩
      by_cases e : x = y
      · rw [e, decide_eq_true rfl]
        refine iteF ⟨⟨_, rfl⟩, rfl, fun j hj => ?_⟩
        by_cases h : j = i
        · rw [h, hx, hy, e]
        · exact he j (by omega)
      · rw [decide_eq_false (fun z => e (V.int.inj z))]
        refine iteT ?_
        refine ⟨_, rfl, _, rfl, a, _, _, _, rfl, rfl, ha, (by rw [Int.zero_add]; exact atI_nat hx2), ?_⟩
        refine ⟨_, rfl, _, rfl, b, _, _, _, rfl, rfl, hb, (by rw [Int.zero_add]; exact atI_nat hy2), _, _, rfl, rfl, ?_⟩
        refine ⟨_, rfl, _, rfl, c, _, rfl, .inr hc, rfl, flat_int ds, rfl, ?_⟩
        have q := ahead_at (ds := ds) hl he hx hy e
        rw [q] at k
        have e3 : (V.bl (decide (V.bl (decide (x > y)) = V.bl (inV (.int (0 + (i : Int))) (ds.map V.int)))) : V) = V.bl (decide (y < x) == ds.contains ((i : Nat) : Int)) := by
          rw [Int.zero_add, inV_int]
          show V.bl (decide (V.bl (decide (y < x)) = V.bl (ds.contains ((i : Nat) : Int)))) = _
          cases decide (y < x) <;> cases ds.contains ((i : Nat) : Int) <;> rfl
        exact e3 ▸ k
    · rintro σ G ⟨⟨t, rfl⟩, rfl, he⟩
      rw [List.length_map] at he
      have q := ahead_same (ds := ds) hl (fun j hj => he j (by omega))
      rw [q] at k
      exact k
end
end K01

/-! _law_sorted. -/
namespace K01
open PySem PySem.Spec PyProof.Rows L2 Dr Ex Rp LamX Rw
open He (ga ma)
def insAt (ds : List Int) (acc : List (List Int)) (ns : List Int) : Nat := (acc.filter fun m => ahead ds m ns).length
def insRow (ds : List Int) (acc : List (List Int)) (ns : List Int) : List (List Int) := if ns ∈ acc then acc else acc.take (insAt ds acc ns) ++ [ns] ++ acc.drop (insAt ds acc ns)
def insAll (ds : List Int) (L : List (List Int)) : List (List Int) := L.foldl (insRow ds) []
def RowsAt (H : Hp) (zs : List (Addr × List Int)) : Prop := ∀ z ∈ zs, H z.1 = some (.tup (z.2.map V.int))
def refs (zs : List (Addr × List Int)) : List V := zs.map fun z => V.ref z.1
def spSortL (K : PySem.W.Frag) : Sp := fun vs H Q _ => ∃ (a c : Addr) (bs : List (Addr × List Int)) (ds : List Int) (m : Nat), vs = [.ref a, .ref c] ∧ SqL K H a (refs bs) ∧ SqT K H c (ds.map V.int) ∧ RowsAt H bs ∧ (∀ z ∈ bs, z.2.length = m) ∧ m ≤ 10 ∧ bs.length ≤ 60 ∧
  ∀ (H' : Hp) (p : Addr) (zs : List (Addr × List Int)), Same H H' → RowsAt H' zs → zs.map (·.2) = insAll ds (bs.map (·.2)) → H' p = some (.tup (refs zs)) → Q (.ref p) H'
abbrev nSortL : List Str := ["_law_lines_here", "_law_turned", "_law_found", "_law_line", "_law_ahead_here", "_law_one"]
theorem scSortL : FnScope nSortL ["_law_lines_here", "_law_turned"] (defScope sSortL) := ⟨rfl, rfl, rfl, by decide +kernel, rfl, by decide +kernel, by decide +kernel⟩
theorem dp_ints {K : PySem.W.Frag} {H : Hp} : ∀ ns : List Int, DpAll K H (ns.map V.int) (ns.map PyData.int)
  | [] => .nil
  | n :: r => .cons (.int n) (dp_ints r)
theorem eqv_ints : ∀ a b : List Int, PyData.eqvAll (a.map PyData.int) (b.map PyData.int) = decide (a = b)
  | [], [] => by simp [PyData.eqvAll]
  | [], _ :: _ => by simp [PyData.eqvAll]
  | _ :: _, [] => by simp [PyData.eqvAll]
  | x :: a, y :: b => by
    rw [List.map_cons, List.map_cons]
    simp only [PyData.eqvAll, PyData.eqv, eqv_ints a b]
    by_cases h : x = y
    · rw [h]
      simp
    · simp [h]
theorem eqv_key (a b : List Int) : PyData.eqv (LamK.keyD a) (LamK.keyD b) = decide (a = b) := by
  unfold LamK.keyD
  simp only [PyData.eqv]
  exact eqv_ints a b
theorem lay_ints : ∀ ns : List Int, PyData.canLayAll0 (ns.map PyData.int) = true
  | [] => rfl
  | n :: r => by
    rw [List.map_cons]
    simp only [PyData.canLayAll0, PyData.canLay0, lay_ints r] <;> rfl
theorem lay_key (ns : List Int) : PyData.canLay0 (LamK.keyD ns) = true := by
  unfold LamK.keyD
  simp only [PyData.canLay0]
  exact lay_ints ns
theorem dep_key (ns : List Int) : (LamK.keyD ns).depth ≤ 2 := by
  show PyData.depth (.tuple (ns.map PyData.int)) ≤ 2
  simp only [PyData.depth]
  have := LamK.depth_ints ns
  omega
theorem shaped_key (ns : List Int) : SeqAt.shaped (LamK.keyD ns) = true := by
  unfold SeqAt.shaped
  rw [lay_key, Bool.true_and, decide_eq_true_eq]
  have := dep_key ns
  omega
theorem shaped_keys (L : List (List Int)) : SeqAt.shaped (.list (L.map LamK.keyD)) = true := by
  unfold SeqAt.shaped
  rw [Bool.and_eq_true, decide_eq_true_eq]
  refine ⟨by simp only [PyData.canLay0]; exact lay_all _ fun d hd => (by obtain ⟨m, _, rfl⟩ := List.mem_map.mp hd; exact lay_key m), ?_⟩
  simp only [PyData.depth]
  have := dep_all (n := 2) (L.map LamK.keyD) fun d hd => (by obtain ⟨m, _, rfl⟩ := List.mem_map.mp hd; exact dep_key m)
  omega
theorem any_key (L : List (List Int)) (ns : List Int) : ((L.map LamK.keyD).any fun z => PyData.eqv z (LamK.keyD ns)) = decide (ns ∈ L) := by
  rw [List.any_map, Bool.eq_iff_iff, List.any_eq_true, decide_eq_true_eq]
  constructor
  · rintro ⟨m, hm, e⟩
    have e2 : PyData.eqv (LamK.keyD m) (LamK.keyD ns) = true := e
    rw [eqv_key, decide_eq_true_eq] at e2
    exact e2 ▸ hm
  · intro h
    refine ⟨ns, h, ?_⟩
    show PyData.eqv (LamK.keyD ns) (LamK.keyD ns) = true
    rw [eqv_key, decide_eq_true rfl]
theorem dp_rows {K : PySem.W.Frag} {H : Hp} : ∀ {zs : List (Addr × List Int)}, RowsAt H zs → DpAll K H (refs zs) ((zs.map (·.2)).map LamK.keyD)
  | [], _ => .nil
  | z :: r, h => .cons (.tup (SqT.of (h z List.mem_cons_self)) (dp_ints _)) (dp_rows fun y hy => h y (List.mem_cons_of_mem _ hy))
theorem refs_len (zs : List (Addr × List Int)) : (refs zs).length = zs.length := List.length_map _
theorem ins_snoc (ds : List Int) (L : List (List Int)) (ns : List Int) : insAll ds (L ++ [ns]) = insRow ds (insAll ds L) ns := by
  unfold insAll
  rw [List.foldl_append] <;> rfl
section
variable {P : Program} {w : World} {K : PySem.W.Frag} {mg : Str → Option Value} {base : Heap}
theorem ok_sortL {CX : CXT} {f fA : Addr} {fd fdA : FuncData} (F : FnP K "_law_sorted" sSortL f fd) (FA : FnP K "_law_ahead" sAhead fA fdA) (T : TG K mg) (gA : mg "_law_ahead" = some (.ref fA)) : FnOk P w K mg base CX 2 f fd ["_law_lines_here", "_law_turned"] (spSortL K) := by
  have tl := T.f "len" (by decide +kernel)
  have tt := T.f "tuple" (by decide +kernel)
  have GA : FnOk P w K mg base CX0 1 fA fdA ["_law_line", "_law_other", "_law_turned"] (spAhead K) := ok_ahead FA T
  have bA : Binds K fdA ["_law_line", "_law_other", "_law_turned"] [] := FA.bindsN fun _ _ _ _ _ _ us hl => match us, hl with | [_, _, _], _ => rfl
  refine F.ok scSortL (fun vs H Q E h => ?_) (fun cdv A outer s H vs Q E hr h => ?_)
  · obtain ⟨a, c, bs, ds, m, rfl, _⟩ := h
    rfl
  · obtain ⟨a, c, bs, ds, m, rfl, ha, hc, hb, hm, m10, hz, fin⟩ := h
    refine ⟨_, PSs.nox (pss_cons (ps_set (i := 2) scSortL.nd rfl (Or.inl rfl) (pe_lst pa_nil))
      (pss_cons (ps_for PassesOwn.never rfl (pi_list (pv 0)) (pg_name (i := 3) scSortL.nd rfl (Or.inr rfl))
        (pss_one (ps_if (pt_cmpR (op_notInD (by have z := hr.units; exact Nat.lt_of_le_of_lt (Nat.le_refl _) (by have y := hr.in1.units; exact y))) (pv 3) (pv 2) (by rfl))
          (pss_cons (ps_setLc (i := 4) (own := [("_law_one", 5)]) (g := gName 5) rfl scSortL.nd rfl rfl (sw_true rfl rfl rfl (by decide +kernel)) (pi_list (pv 2)) (blkOk_by (own := [("_law_one", 5)]) (N := nSortL) (sc := defScope sSortL) (by decide +kernel))
            (fun _ _ _ _ _ => pg_name (i := 5) scSortL.nd rfl (Or.inl rfl)) (fun _ _ _ _ _ => pts_one (pt_val (pe_call GA hr rfl gA FA.kp bA .nil pass0 (pa_cons (pv 5) (pa_cons (pv 3) (pa_cons (pv 1) pa_nil)))))) (fun _ _ _ _ _ => pv 5))
          (pss_one (ps_expr (pe_bm PySem.F.plainAttrs_list PySem.F.slot_list_insert PySem.F.type_list_insert mt_insert (pv 2) (pa_cons (pe_callB call_len_seq (by rfl) tl PySem.boot_len (pa_cons (pv 4) pa_nil)) (pa_cons (pv 3) pa_nil))))))
          pss_nil)))
      (pss_one (ps_ret (pe_callTy call_tuple_of (by rfl) tt (by decide +kernel) (pa_cons (pv 2) pa_nil)))))), ?_⟩
    refine ⟨Nat.zero_le _, fun D nD => ?_⟩
    have sD := smu (o := .lst []) nD
    refine ⟨_, rfl, a, rfl, ⟨refs bs, Same.seq sD ha⟩, for_list (xs := refs bs) (fun i σ G => (∃ t3 t4 t5 : Option V, σ = [some (.ref a), some (.ref c), some (.ref D), t3, t4, t5]) ∧ Same H G ∧ ∃ zs, G D = some (.lst (refs zs)) ∧ RowsAt G zs ∧ zs.map (·.2) = insAll ds ((bs.map (·.2)).take i) ∧ (∀ z ∈ zs, z.2.length = m) ∧ zs.length ≤ i)
      ⟨⟨none, none, none, rfl⟩, sD, [], upd_same, (fun z hz => nomatch hz), rfl, (fun z hz => nomatch hz), Nat.le_refl _⟩ (fun i σ G _ h => Same.seq h.2.1 ha) ?_ ?_⟩
    · rintro i x σ G hx ⟨⟨t3, t4, t5, rfl⟩, sG, zs, hD, hR, hzs, hlen, hzl⟩
      have hi : i < bs.length := by
        have := (List.getElem?_eq_some_iff.mp hx).1
        rw [refs_len] at this
        exact this
      have ex : x = .ref bs[i].1 := by
        have e : (refs bs)[i]? = some (V.ref bs[i].1) := by
          unfold refs
          rw [List.getElem?_map, List.getElem?_eq_getElem hi] <;> rfl
        rw [hx] at e
        exact Option.some.inj e
      subst ex
      have et : (bs.map (·.2)).take (i + 1) = (bs.map (·.2)).take i ++ [bs[i].2] := by
        rw [List.take_add_one, List.getElem?_map, List.getElem?_eq_getElem hi] <;> rfl
      have hbi := sG _ _ (hb _ (List.getElem_mem hi))
      have hmi := hm _ (List.getElem_mem hi)
      generalize bs[i] = z0 at et hbi hmi ⊢
      refine ⟨_, rfl, _, rfl, LamK.keyD z0.2, (zs.map (·.2)).map LamK.keyD, .tup (SqT.of hbi) (dp_ints _), .lst (SqL.of hD) (dp_rows hR), shaped_key _, shaped_keys _, _, rfl, ?_⟩
      rw [any_key]
      by_cases hin : z0.2 ∈ zs.map (·.2)
      · rw [decide_eq_true hin]
        refine iteF ⟨⟨_, _, _, rfl⟩, sG, zs, hD, hR, ?_, hlen, by omega⟩
        rw [et, ins_snoc, ← hzs]
        unfold insRow
        rw [if_pos hin]
      · rw [decide_eq_false hin]
        refine iteT ?_
        refine ⟨_, rfl, D, rfl, ⟨refs zs, SqL.of hD⟩, fun B nB => lc_list (xs := refs zs) (fun j G1 => Same G G1 ∧ ∃ L, G1 B = some (.lst L) ∧ L.length = (((zs.map (·.2)).take j).filter fun m => ahead ds m z0.2).length ∧ L.length ≤ j) ⟨smu nB, [], upd_same, rfl, Nat.le_refl _⟩ (fun j G1 _ h => SqL.of (h.1 _ _ hD)) ?_ ?_⟩
        · rintro j y G1 hy ⟨s1, L, hB, hL1, hL2⟩
          have hj : j < zs.length := by
            have := (List.getElem?_eq_some_iff.mp hy).1
            rw [refs_len] at this
            exact this
          have ey : y = .ref zs[j].1 := by
            have e : (refs zs)[j]? = some (V.ref zs[j].1) := by
              unfold refs
              rw [List.getElem?_map, List.getElem?_eq_getElem hj] <;> rfl
            rw [hy] at e
            exact Option.some.inj e
          subst ey
          have ej : (zs.map (·.2)).take (j + 1) = (zs.map (·.2)).take j ++ [zs[j].2] := by
            rw [List.take_add_one, List.getElem?_map, List.getElem?_eq_getElem hj] <;> rfl
          have hrj := s1 _ _ (hR _ (List.getElem_mem hj))
          have hlj := hlen _ (List.getElem_mem hj)
          refine ⟨rfl, _, rfl, _, rfl, _, rfl, _, _, c, _, _, ds, rfl, SqT.of hrj, SqT.of (s1 _ _ hbi), sqt_same (sG.trans s1) hc, by rw [hlj, hmi], by omega, _, rfl, ?_⟩
          cases ha2 : ahead ds zs[j].2 z0.2 with
          | true =>
            refine iteT ⟨_, rfl, L, hB, by rw [sizeLine_eq]; omega, fun b o e => ?_, L ++ [.ref zs[j].1], upd_same, ?_, ?_⟩
            · rw [upd_ne (ne_of_none e nB)]
              exact s1 _ _ e
            · rw [ej, List.filter_append, List.filter_cons, ha2, List.length_append, List.length_append, hL1] <;> rfl
            · rw [List.length_append]
              show L.length + 1 ≤ j + 1
              omega
          | false =>
            refine iteF ⟨s1, L, hB, ?_, by omega⟩
            rw [ej, List.filter_append, List.filter_cons, ha2, List.length_append, hL1] <;> simp
        · rintro G1 ⟨s1, L, hB, hL1, _⟩
          rw [refs_len, List.take_of_length_le (by rw [List.length_map]; exact Nat.le_refl _)] at hL1
          have hk : L.length = insAt ds (zs.map (·.2)) z0.2 := hL1
          have hD1 := s1 _ _ hD
          have kle : L.length ≤ zs.length := by
            have := List.length_filter_le (fun m => ahead ds m z0.2) (zs.map (·.2))
            rw [List.length_map] at this
            omega
          refine ⟨_, rfl, .inl ⟨rfl, _, SqL.of hD1⟩, _, rfl, B, L, rfl, .inl (SqL.of hB), _, rfl, D, refs zs, (L.length : Int), _, rfl, rfl, hD1, by rw [refs_len, sizeLine_eq]; omega, by omega, by omega, ?_⟩
          have er : (refs zs).take ((L.length : Int)).toNat ++ [V.ref z0.1] ++ (refs zs).drop ((L.length : Int)).toNat = refs (zs.take L.length ++ [z0] ++ zs.drop L.length) := by
            rw [show ((L.length : Int)).toNat = L.length by omega]
            unfold refs
            rw [List.map_append, List.map_append, List.map_take, List.map_drop] <;> rfl
          rw [er]
          have nDt : ∀ b ys, G1 b = some (.tup ys) → b ≠ D := fun b ys e z => by
            rw [z, hD1] at e
            cases e
          refine ⟨⟨_, _, _, rfl⟩, fun b o e => ?_, _, upd_same, fun z hz => ?_, ?_, fun z hz => ?_, ?_⟩
          · rw [upd_ne (ne_of_none e nD)]
            exact s1 _ _ (sG _ _ e)
          · have hz1 : G1 z.1 = some (.tup (z.2.map V.int)) := by
              rcases List.mem_append.mp hz with h | h
              · rcases List.mem_append.mp h with h | h
                · exact s1 _ _ (hR _ (List.mem_of_mem_take h))
                · rw [List.mem_singleton.mp h]
                  exact s1 _ _ hbi
              · exact s1 _ _ (hR _ (List.mem_of_mem_drop h))
            rw [upd_ne (nDt _ _ hz1)]
            exact hz1
          · rw [et, ins_snoc, ← hzs]
            unfold insRow
            rw [if_neg hin, ← hk, List.map_append, List.map_append, List.map_take, List.map_drop] <;> rfl
          · rcases List.mem_append.mp hz with h | h
            · rcases List.mem_append.mp h with h | h
              · exact hlen _ (List.mem_of_mem_take h)
              · rw [List.mem_singleton.mp h]
                exact hmi
            · exact hlen _ (List.mem_of_mem_drop h)
          · rw [List.length_append, List.length_append, List.length_take, List.length_drop]
            show min L.length zs.length + 1 + (zs.length - L.length) ≤ i + 1
            omega
    · rintro σ G ⟨⟨t3, t4, t5, rfl⟩, sG, zs, hD, hR, hzs, hlen, hzl⟩
      rw [refs_len, List.take_of_length_le (by rw [List.length_map]; exact Nat.le_refl _)] at hzs
      refine ⟨_, rfl, D, refs zs, rfl, .inl ⟨SqL.of hD, fun q nq => ?_⟩⟩
      have sq := smu (o := .tup (refs zs)) nq
      exact fin _ q zs (sG.trans sq) (fun z hz => sq _ _ (hR z hz)) hzs upd_same
end
end K01

/-! rows put in one by one stand as sorted. -/
namespace K01
open PySem PySem.Spec PySem.W PyProof.Rows L2 Rw
theorem lt_ints : ∀ a b : List Int, PyProof.Rows.lexLt itemOrd (keyToksAll (a.map PyData.int)) (keyToksAll (b.map PyData.int)) = HT.lexLt a b
  | [], [] => by simp [keyToksAll, lex_irrefl, HT.lexLt]
  | [], y :: b => by
    rw [List.map_nil, List.map_cons]
    simp only [keyToksAll, keyToks]
    rw [PyProof.Rows.lex_diff (by simp)]
    rfl
  | x :: a, [] => by
    rw [List.map_nil, List.map_cons]
    simp only [keyToksAll, keyToks]
    rw [PyProof.Rows.lex_diff (by simp)]
    rfl
  | x :: a, y :: b => by
    have ih := lt_ints a b
    rw [List.map_cons, List.map_cons]
    simp only [keyToksAll, keyToks, List.singleton_append]
    rw [PyProof.Rows.lex_self, HT.lexLt_cons]
    by_cases h : x = y
    · rw [if_pos h, h, PyProof.Rows.lex_self, ih]
    · rw [if_neg h, PyProof.Rows.lex_diff (by simpa using h)]
      rfl
theorem le_key (ds a b : List Int) : leK ds a b = !ahead ds b a := by
  show (!dataLt (LamK.keyD (sk ds b)) (LamK.keyD (sk ds a))) = _
  unfold LamK.keyD
  rw [dataLt_tuple, lt_ints] <;> rfl
theorem le_total (ds : List Int) : TotalLe (leK ds) := sortLe_total (listOrd itemOrd) false fun ns : List Int => keyToks (LamK.keyD (sk ds ns))
theorem lex_tot : ∀ {a b : List Int}, a.length = b.length → HT.lexLt a b = false → HT.lexLt b a = false → a = b
  | [], [], _, _, _ => rfl
  | x :: a, y :: b, hl, h1, h2 => by
    rw [HT.lexLt_cons] at h1 h2
    by_cases h : x = y
    · subst h
      rw [if_pos rfl] at h1 h2
      rw [lex_tot (by simpa using hl) h1 h2]
    · rw [if_neg h] at h1
      rw [if_neg (fun e => h e.symm)] at h2
      have q1 := of_decide_eq_false h1
      have q2 := of_decide_eq_false h2
      omega
theorem sk_inj {ds : List Int} : ∀ {a b : List Int} (o : Nat), a.length = b.length → (a.zipIdx o).map (skF ds) = (b.zipIdx o).map (skF ds) → a = b
  | [], [], _, _, _ => rfl
  | x :: a, y :: b, o, hl, h => by
    have h : skF ds (x, o) :: (a.zipIdx (o + 1)).map (skF ds) = skF ds (y, o) :: (b.zipIdx (o + 1)).map (skF ds) := h
    rw [List.cons.injEq] at h
    have e1 : x = y := by
      have q := h.1
      unfold skF at q
      by_cases c : ds.contains ((o : Nat) : Int) = true
      · have q : (if ds.contains ((o : Nat) : Int) = true then -x else x) = if ds.contains ((o : Nat) : Int) = true then -y else y := q
        rw [if_pos c, if_pos c] at q
        omega
      · have q : (if ds.contains ((o : Nat) : Int) = true then -x else x) = if ds.contains ((o : Nat) : Int) = true then -y else y := q
        rw [if_neg c, if_neg c] at q
        exact q
    rw [e1, sk_inj (o + 1) (by simpa using hl) h.2]
theorem ahead_tot {ds a b : List Int} (hl : a.length = b.length) (h1 : ahead ds a b = false) (h2 : ahead ds b a = false) : a = b :=
  sk_inj (ds := ds) 0 hl (lex_tot (by rw [show ((a.zipIdx 0).map (skF ds)).length = a.length by simp, show ((b.zipIdx 0).map (skF ds)).length = b.length by simp]; exact hl) h1 h2)
theorem le_anti {ds a b : List Int} (hl : a.length = b.length) (h1 : leK ds a b = true) (h2 : leK ds b a = true) : a = b := by
  rw [le_key, Bool.not_eq_true'] at h1 h2
  exact ahead_tot hl h2 h1
theorem le_of_ahead {ds a b : List Int} (h : ahead ds a b = true) : leK ds a b = true := by
  rcases (le_total ds).total a b with q | q
  · exact q
  · rw [le_key, h] at q
    cases q
/-- where the new row goes -/
theorem ins_split {ds ns : List Int} {m : Nat} : ∀ {acc : List (List Int)}, acc.Pairwise (fun a b => leK ds a b = true) → (∀ a ∈ acc, a.length = m) → ns.length = m → ns ∉ acc →
    (∀ x ∈ acc.take (insAt ds acc ns), ahead ds x ns = true) ∧ ∀ x ∈ acc.drop (insAt ds acc ns), ahead ds x ns = false
  | [], _, _, _, _ => ⟨fun x hx => (by simp at hx), fun x hx => (by simp at hx)⟩
  | y :: r, hp, hm, hn, hx => by
    obtain ⟨p1, p2⟩ := List.pairwise_cons.mp hp
    have ih := ins_split p2 (fun a ha => hm a (List.mem_cons_of_mem _ ha)) hn (fun z => hx (List.mem_cons_of_mem _ z))
    cases hy : ahead ds y ns with
    | true =>
      have e : insAt ds (y :: r) ns = insAt ds r ns + 1 := by
        unfold insAt
        rw [List.filter_cons, hy] <;> rfl
      rw [e]
      refine ⟨fun x h => ?_, ih.2⟩
      rcases List.mem_cons.mp (show x ∈ y :: r.take (insAt ds r ns) from h) with rfl | h
      · exact hy
      · exact ih.1 x h
    | false =>
      have all : ∀ x ∈ r, ahead ds x ns = false := fun x hxr => by
        cases h : ahead ds x ns with
        | false => rfl
        | true =>
          have q := (le_total ds).trans y x ns (p1 x hxr) (le_of_ahead h)
          rw [le_key, Bool.not_eq_true'] at q
          exact absurd (ahead_tot ((hm y List.mem_cons_self).trans hn.symm) hy q ▸ List.mem_cons_self) hx
      have e : insAt ds (y :: r) ns = 0 := by
        unfold insAt
        rw [List.filter_cons, hy, List.filter_eq_nil_iff.mpr fun x hxr => by rw [all x hxr]; simp] <;> rfl
      rw [e]
      refine ⟨fun x h => (by simp at h), fun x h => ?_⟩
      rcases List.mem_cons.mp (show x ∈ y :: r from h) with rfl | h
      · exact hy
      · exact all x h
theorem ins_sorted {ds ns : List Int} {m : Nat} {acc : List (List Int)} (hp : acc.Pairwise (fun a b => leK ds a b = true)) (hm : ∀ a ∈ acc, a.length = m) (hn : ns.length = m) : (insRow ds acc ns).Pairwise (fun a b => leK ds a b = true) := by
  unfold insRow
  split
  · exact hp
  · rename_i hx
    obtain ⟨h1, h2⟩ := ins_split hp hm hn hx
    have hp2 := hp
    rw [← List.take_append_drop (insAt ds acc ns) acc, List.pairwise_append] at hp2
    obtain ⟨q1, q2, q3⟩ := hp2
    rw [List.append_assoc, List.pairwise_append]
    refine ⟨q1, ?_, fun a ha b hb => ?_⟩
    · rw [List.singleton_append, List.pairwise_cons]
      exact ⟨fun b hb => by rw [le_key, h2 b hb] <;> rfl, q2⟩
    · rcases List.mem_append.mp hb with hb | hb
      · rw [List.mem_singleton.mp hb]
        exact le_of_ahead (h1 a ha)
      · exact q3 a ha b hb
theorem ins_perm {ds ns : List Int} {acc acc' : List (List Int)} (h : acc.Perm acc') : (insRow ds acc ns).Perm (addRow acc' ns) := by
  unfold insRow addRow
  by_cases hx : ns ∈ acc
  · rw [if_pos hx, if_pos (h.mem_iff.mp hx)]
    exact h
  · rw [if_neg hx, if_neg fun z => hx (h.mem_iff.mpr z)]
    have e : (acc.take (insAt ds acc ns) ++ [ns] ++ acc.drop (insAt ds acc ns)).Perm (acc ++ [ns]) := by
      rw [List.append_assoc]
      refine (List.Perm.append_left _ List.perm_append_comm).trans ?_
      rw [← List.append_assoc, List.take_append_drop]
    exact e.trans (h.append_right _)
theorem ins_all {ds : List Int} {m : Nat} : ∀ (L acc acc' : List (List Int)), (∀ a ∈ L, a.length = m) → (∀ a ∈ acc, a.length = m) → acc.Perm acc' → acc.Pairwise (fun a b => leK ds a b = true) →
    (L.foldl (insRow ds) acc).Perm (L.foldl addRow acc') ∧ (L.foldl (insRow ds) acc).Pairwise (fun a b => leK ds a b = true)
  | [], _, _, _, _, h, p => ⟨h, p⟩
  | ns :: r, acc, acc', hL, ha, h, p => by
    have hn := hL ns List.mem_cons_self
    refine ins_all r _ _ (fun a z => hL a (List.mem_cons_of_mem _ z)) (fun a z => ?_) (ins_perm h) (ins_sorted p ha hn)
    have z2 := (ins_perm (ds := ds) (ns := ns) (List.Perm.refl acc)).mem_iff.mp z
    rcases add_mem.mp z2 with q | q
    · exact ha a q
    · rw [q]
      exact hn
theorem ins_eq_sort {ds : List Int} {m : Nat} {L : List (List Int)} (hL : ∀ a ∈ L, a.length = m) : insAll ds L = sortRows ds L := by
  obtain ⟨h1, h2⟩ := ins_all (ds := ds) L [] [] hL (fun a z => nomatch z) (List.Perm.refl _) .nil
  have T := le_total ds
  have p2 := List.pairwise_mergeSort (le := leK ds) T.trans (fun a b => by rcases T.total a b with q | q <;> rw [q] <;> simp) (rowsOnce L)
  have pm : (insAll ds L).Perm (sortRows ds L) := h1.trans (List.mergeSort_perm _ _).symm
  refine List.Perm.eq_of_pairwise (le := fun a b => leK ds a b = true) (fun a b ha hb q1 q2 => ?_) h2 p2 pm
  have la := hL a (once_mem.mp ((List.mergeSort_perm _ _).mem_iff.mp (pm.mem_iff.mp ha)))
  have lb := hL b (once_mem.mp ((List.mergeSort_perm _ _).mem_iff.mp hb))
  exact le_anti (la.trans lb.symm) q1 q2
end K01

/-! t + u and t[lo:hi] of tuples, wherever they stand. -/
namespace Tp
open PySem PySem.Spec PyProof.Rows L2 Rp
/-- t + u, wherever the sum stands -/
def rCatB (K : PySem.W.Frag) : R2 := fun x y H Q => ∃ a b xs ys, x = .ref a ∧ y = .ref b ∧ SqT K H a xs ∧ SqT K H b ys ∧ xs.length + ys.length ≤ 1000 ∧ ∀ H' p, Same H H' → SqT K H' p (xs ++ ys) → Q (.ref p) H'
theorem op_catB {X : Cx} : OpR X (binaryOp .Add) (rCatB X.K) := by
  intro pins s σ H x y v u Q I rx ry h
  obtain ⟨a, b, xs, ys, rfl, rfl, ha, hb, hz, q⟩ := h
  refine op_catA pins s σ H _ _ v u Q I rx ry ⟨a, b, xs, ys, rfl, rfl, ha, hb, by rw [sizeLine_eq]; omega, fun e => ?_, fun _ e => ?_, fun _ _ p np => q _ p (smu np) (SqT.of upd_same)⟩
  · subst e
    exact q H b (Same.refl H) hb
  · subst e
    refine q H a (Same.refl H) ?_
    rw [List.append_nil]
    exact ha
/-- t[lo:hi], wherever it stands -/
def rSlB (K : PySem.W.Frag) : V → Option Int → Option Int → Hp → VK → Prop := fun x lo hi H Q => ∃ a xs, x = .ref a ∧ SqT K H a xs ∧ ∀ H' p, Same H H' → SqT K H' p (cutV xs lo hi) → Q (.ref p) H'
theorem sl_tupB {X : Cx} : SlR X (rSlB X.K) := by
  intro pins s σ H x v vl vu lo hi sl Q I rx hs pl pu h
  obtain ⟨a, xs, rfl, hx, q⟩ := h
  refine sl_tupA pins s σ H _ v vl vu lo hi sl Q I rx hs pl pu ⟨a, xs, rfl, hx, fun e => ?_, fun _ p np => q _ p (smu np) (SqT.of upd_same)⟩
  refine q H a (Same.refl H) ?_
  have z : cutV xs lo hi = xs := by
    unfold cutV
    rw [e.1, e.2, List.drop_zero, Nat.sub_zero, List.take_length]
  rw [z]
  exact hx
/-- the same of tuples that are tracked: what comes is tracked -/
def rCatT (K : PySem.W.Frag) : R2 := fun x y H Q => ∃ a b xs ys, x = .ref a ∧ y = .ref b ∧ H a = some (.tup xs) ∧ H b = some (.tup ys) ∧ xs.length + ys.length ≤ 1000 ∧ ∀ H' p, Same H H' → H' p = some (.tup (xs ++ ys)) → Q (.ref p) H'
theorem op_catT {X : Cx} : OpR X (binaryOp .Add) (rCatT X.K) := by
  intro pins s σ H x y v u Q I rx ry h
  obtain ⟨a, b, xs, ys, rfl, rfl, ha, hb, hz, q⟩ := h
  refine op_catA pins s σ H _ _ v u Q I rx ry ⟨a, b, xs, ys, rfl, rfl, SqT.of ha, SqT.of hb, by rw [sizeLine_eq]; omega, fun e => ?_, fun _ e => ?_, fun _ _ p np => q _ p (smu np) upd_same⟩
  · subst e
    exact q H b (Same.refl H) hb
  · subst e
    refine q H a (Same.refl H) ?_
    rw [List.append_nil]
    exact ha
def rSlT (K : PySem.W.Frag) : V → Option Int → Option Int → Hp → VK → Prop := fun x lo hi H Q => ∃ a xs, x = .ref a ∧ H a = some (.tup xs) ∧ ∀ H' p, Same H H' → H' p = some (.tup (cutV xs lo hi)) → Q (.ref p) H'
theorem sl_tupT {X : Cx} : SlR X (rSlT X.K) := by
  intro pins s σ H x v vl vu lo hi sl Q I rx hs pl pu h
  obtain ⟨a, xs, rfl, hx, q⟩ := h
  refine sl_tupA pins s σ H _ v vl vu lo hi sl Q I rx hs pl pu ⟨a, xs, rfl, SqT.of hx, fun e => ?_, fun _ p np => q _ p (smu np) upd_same⟩
  refine q H a (Same.refl H) ?_
  have z : cutV xs lo hi = xs := by
    unfold cutV
    rw [e.1, e.2, List.drop_zero, Nat.sub_zero, List.take_length]
  rw [z]
  exact hx
theorem cutLo (xs : List V) (n : Nat) : cutV xs none (some (n : Int)) = xs.take n := by
  unfold cutV
  rw [show HT.sIx xs.length xs.length (some (n : Int)) = min n xs.length from HT.sIx_nat _ _ n, HT.sIx_none, Nat.sub_zero, List.drop_zero]
  by_cases h : n ≤ xs.length
  · rw [Nat.min_eq_left h]
  · rw [Nat.min_eq_right (by omega), List.take_length, List.take_of_length_le (by omega)]
theorem cutHi (xs : List V) (n : Nat) : cutV xs (some (n : Int)) none = xs.drop n := by
  unfold cutV
  have e : HT.sIx xs.length 0 (some (n : Int)) = min n xs.length := HT.sIx_nat _ _ n
  rw [e, HT.sIx_none]
  by_cases h : n ≤ xs.length
  · rw [Nat.min_eq_left h, List.take_of_length_le (by rw [List.length_drop]; exact Nat.le_refl _)]
  · rw [Nat.min_eq_right (by omega), List.drop_length, List.drop_of_length_le (by omega), Nat.sub_self]
    rfl
end Tp

/-! a dict != a tuple; data != data, a dict on the left against a tuple; tuple * int of any number. -/
namespace Tp
open PySem PySem.Spec PyProof.Rows L2 Rp
open AutoSeq1 (wpAny_loadPart')
theorem neDT (d t : Addr) (es : Array DictEntry) (ep : Nat) (items : Array Value) (n : Nat) (dd dd2 : Option Addr) (sl sl2 : Array (Option Value)) :
    Meets (Builtin.«dict.__ne__» ⟨[.ref d, .ref t], []⟩) (fun _ R s => s.heap.get? d = some { cls := .type "dict", dict := dd, data := .dict es ep, slots := sl } ∧ s.heap.get? t = some { cls := .type "tuple", dict := dd2, data := .seq items n, slots := sl2 } ∧ R (.ok (.ret .notImplemented)) s) :=
  .of_wp fun prog w A R s h => by
    obtain ⟨hp, g, dr, tk, os⟩ := s
    obtain ⟨hd, ht, q⟩ := h
    have f1 := F.sub_tuple_dict
    wp_walk using wpAny_loadPart' hd, wpAny_loadPart' ht
    exact ⟨_, rfl, q⟩
theorem neTD (d t : Addr) (es : Array DictEntry) (ep : Nat) (items : Array Value) (n : Nat) (dd dd2 : Option Addr) (sl sl2 : Array (Option Value)) :
    Meets (Builtin.«tuple.__ne__» ⟨[.ref t, .ref d], []⟩) (fun _ R s => s.heap.get? d = some { cls := .type "dict", dict := dd, data := .dict es ep, slots := sl } ∧ s.heap.get? t = some { cls := .type "tuple", dict := dd2, data := .seq items n, slots := sl2 } ∧ R (.ok (.ret .notImplemented)) s) :=
  .of_wp fun prog w A R s h => by
    obtain ⟨hp, g, dr, tk, os⟩ := s
    obtain ⟨hd, ht, q⟩ := h
    have f1 := F.sub_dict_tuple
    wp_walk using wpAny_loadPart' hd, wpAny_loadPart' ht
    exact ⟨_, rfl, q⟩
/-- a tracked dict != a tuple -/
def rNeDT (K : PySem.W.Frag) : R2 := fun x y H Q => ∃ a b kvs ys, x = .ref a ∧ y = .ref b ∧ H a = some (.dK kvs) ∧ SqT K H b ys ∧ Q (.bl true) H
theorem op_neDT {X : Cx} (hu : X.A.units < cLine) : OpR X (compareOp .NotEq) (rNeDT X.K) := by
  intro pins s σ H x y v u Q I rx ry h
  obtain ⟨a, b, kvs, ys, rfl, rfl, ha, hb, q⟩ := h
  cases rx
  cases ry
  obtain ⟨_, hsy, vs, rk, o, es, ep, ho, hx, hd, _⟩ := dk_of I.hok ha
  obtain ⟨its, r, ⟨⟨cls2, dd2, data2, sl2⟩, ho2, hc2, n2, hd2⟩, hz⟩ := I.tuple hb
  obtain ⟨cls, dd, data, sl⟩ := o
  have hc : cls = .type "dict" := hx.1
  dsimp only at hd hc2 hd2
  subst hc hd hc2 hd2
  have ne : a ≠ b := fun e => by
    subst e
    rw [ho] at ho2
    have z : Value.type "dict" = Value.type "tuple" := congrArg Obj.cls (Option.some.inj ho2)
    exact absurd (Value.type.inj z) (by decide)
  exact (SeqAt.rc_ne_decline_or (k := false) ⟨_, ho, rfl⟩ ⟨_, ho2, rfl⟩ (by decide) F.sub_tuple_dict F.slot_dict_ne F.slot_tuple_ne_refl
    (fun _ hq => call_meets F.slot_dict_ne ⟨_, ho, rfl⟩ F.entry_dict_ne (F.args_dict_ne_2 _ _) (neDT a b es ep its.toArray n2 dd dd2 sl sl2) ⟨ho, ho2, hq⟩)
    (fun _ hq => call_meets F.slot_tuple_ne_refl ⟨_, ho2, rfl⟩ F.entry_tuple_ne (F.args_tuple_ne_2 _ _) (neTD a b es ep its.toArray n2 dd dd2 sl sl2) ⟨ho, ho2, hq⟩)
    (fun _ hq => wpAny_isSame_ref_other ne ho ho2 (by simp) hq) (.inr hu) ⟨.bl true, H, I, rfl, q⟩)
/-- data != data where either both can be laid, or a dict stands against a tuple -/
def rNeA (K : PySem.W.Frag) : R2 := fun x y H Q => rNeD K x y H Q ∨ rNeDT K x y H Q
theorem op_neA {X : Cx} (hu : X.A.units + 64 < cLine) : OpR X (compareOp .NotEq) (rNeA X.K) := by
  intro pins s σ H x y v u Q I rx ry h
  rcases h with h | h
  · exact op_neD hu pins s σ H x y v u Q I rx ry h
  · exact op_neDT (by omega) pins s σ H x y v u Q I rx ry h
/-- data != (), where it is not () -/
def rNeE (K : PySem.W.Frag) : R2 := fun x y H Q => ∃ (d : PyData) (b : Addr), y = .ref b ∧ Dt K H x d ∧ SqT K H b [] ∧ d ≠ .tuple [] ∧ Q (.bl true) H
theorem op_neE {X : Cx} (hu : X.A.units < cLine) : OpR X (compareOp .NotEq) (rNeE X.K) := by
  intro pins s σ H x y v u Q I rx ry h
  obtain ⟨d, b, rfl, hd, hb, hne, q⟩ := h
  have ry' := ry
  obtain rfl : u = Value.ref b := ry'
  obtain ⟨its, r, pt, hz⟩ := I.tuple hb
  cases r
  have ht : s.heap.IsTuple b #[] := pt
  have fin : EP X pins σ Q (.bool true) s := ⟨.bl true, H, I, rfl, q⟩
  cases d with
  | none =>
    cases hd
    obtain rfl : v = Value.none := rx
    exact SeqAt.RcNeAt.none_tuple ht hu _ _ _ _ fin
  | bool c =>
    cases hd
    obtain rfl : v = Value.bool c := rx
    exact SeqAt.RcNeAt.bool_tuple c ht hu _ _ _ _ fin
  | int i =>
    cases hd
    obtain ⟨t, rfl⟩ := rx
    exact SeqAt.RcNeAt.int_tuple i t ht hu _ _ _ _ fin
  | str z =>
    cases hd
    obtain ⟨t, rfl⟩ := rx
    exact SeqAt.RcNeAt.str_tuple z t ht hu _ _ _ _ fin
  | list ds =>
    cases hd with
    | lst h1 h2 =>
      rename_i a xs
      obtain rfl : v = Value.ref a := rx
      obtain ⟨js, _, ⟨o, n, ho, hc, _, hd⟩, _⟩ := I.list h1
      exact SeqAt.RcNeAt.list_tuple (items := js.toArray) ⟨o, ho, hc, n, hd⟩ ht hu _ _ _ _ fin
  | dict ds =>
    cases hd with
    | dic h1 h2 => exact op_neDT hu pins s σ H _ _ v _ Q I rx ry ⟨_, b, _, [], rfl, rfl, h1, hb, q⟩
  | tuple ds =>
    cases hd with
    | tup h1 h2 =>
      rename_i a xs
      obtain rfl : v = Value.ref a := rx
      obtain ⟨js, rj, pj, _⟩ := I.tuple h1
      have hj : s.heap.IsTuple a js.toArray := pj
      have hl : js.toArray.size ≠ 0 := fun z => by
        rw [List.size_toArray, ← rj.length] at z
        have z2 := List.eq_nil_of_length_eq_zero z
        subst z2
        cases h2
        exact hne rfl
      refine SeqAt.RcNeAt.tuples (e := fun _ => true) hj ht hu (fun j _ h2 => absurd h2 (by simp)) _ _ _ _ ?_
      have e : (!((List.range (min js.toArray.size (#[] : Array Value).size)).all (fun _ => true) && js.toArray.size == (#[] : Array Value).size)) = true := by
        rw [Bool.not_eq_true', Bool.and_eq_false_iff]
        exact .inr (beq_eq_false_iff_ne.mpr hl)
      rw [e]
      exact fin
/-- t * k, t of at least one item -/
def rRepA (K : PySem.W.Frag) : R2 := fun x y H Q => ∃ t k xs, x = .ref t ∧ y = .int k ∧ SqT K H t xs ∧ xs ≠ [] ∧ -(2 ^ 63) ≤ k ∧ k ≤ 1000 ∧ xs.length ≤ 1000 ∧
  ∀ H' p, Same H H' → SqT K H' p (List.replicate k.toNat xs).flatten → Q (.ref p) H'
theorem op_repA {X : Cx} : OpR X (binaryOp .Mult) (rRepA X.K) := by
  intro pins s σ H x y v u Q I rx ry h
  obtain ⟨t, k, xs, rfl, rfl, hT, hne, hb, h1, hl, q⟩ := h
  by_cases h2 : 2 ≤ k
  · exact op_repT pins s σ H _ _ v u Q I rx ry ⟨t, k, xs, rfl, rfl, hT, hne, h2, h1, hl, fun p np => q _ p (smu np) (SqT.of upd_same)⟩
  · refine op_rep1 pins s σ H _ _ v u Q I rx ry ⟨t, k, xs, rfl, rfl, hT, hne, hb, by omega, fun e => ?_, fun e p np => ?_⟩
    · subst e
      refine q H t (Same.refl H) ?_
      have z : (List.replicate (Int.toNat 1) xs).flatten = xs := by simp
      rw [z]
      exact hT
    · refine q _ p (smu np) ?_
      have z : k.toNat = 0 := by omega
      rw [z]
      exact SqT.of upd_same
theorem rep_flat {α : Type} (n : Nat) (v : α) : (List.replicate n [v]).flatten = List.replicate n v := by
  induction n with
  | zero => rfl
  | succ n ih => rw [List.replicate_succ, List.flatten_cons, ih, List.replicate_succ] <;> rfl
end Tp
namespace Rp
open PySem PySem.Spec PyProof.Rows L2
/-- a tuple that stands in the heap is part of its data, where p is a list -/
theorem sqt_ct {K : PySem.W.Frag} {H : Hp} {p a : Addr} {ys xs : List V} (hp : H p = some (.lst ys)) (h : SqT K H a xs) : SqT K (ct p H) a xs := by
  have ne : ∀ {o : HO}, H a = some o → o ≠ .lst ys → a ≠ p := fun {o} e n z => by
    subst z
    rw [hp] at e
    exact n (Option.some.inj e).symm
  rcases h with (h | ⟨ob, h⟩) | h
  · exact .inl (.inl (ct_at h (ne h (fun z => by cases z)) (fun ps z => by cases z)))
  · exact .inl (.inr ⟨ob, ct_at h (ne h (fun z => by cases z)) (fun ps z => by cases z)⟩)
  · exact .inr h
theorem dt_rep {K : PySem.W.Frag} {H : Hp} {v : V} {d : PyData} (h : Dt K H v d) : ∀ n, DtAll K H (List.replicate n v) (List.replicate n d)
  | 0 => .nil
  | n + 1 => .cons h (dt_rep h n)
/-- data of so many signs, so deep -/
def Sz (e b : Nat) (d : PyData) : Prop := d.showable = true ∧ d.depth ≤ e ∧ d.shown.length ≤ b
theorem Sz.mono {e b e' b' : Nat} {d : PyData} (h : Sz e b d) (he : e ≤ e') (hb : b ≤ b') : Sz e' b' d := ⟨h.1, Nat.le_trans h.2.1 he, Nat.le_trans h.2.2 hb⟩
theorem sz_all {e b : Nat} : ∀ ds : List PyData, (∀ d, d ∈ ds → Sz e b d) → PyData.showableAll ds = true ∧ PyData.depthAll ds ≤ e ∧ ((PyData.shownAll ds).map (·.length)).sum ≤ b * ds.length ∧ (PyData.shownAll ds).length = ds.length
  | [], _ => ⟨rfl, Nat.zero_le _, Nat.zero_le _, rfl⟩
  | d :: r, h => by
    obtain ⟨h1, h2, h3⟩ := h d List.mem_cons_self
    obtain ⟨r1, r2, r3, r4⟩ := sz_all r fun x hx => h x (List.mem_cons_of_mem _ hx)
    refine ⟨?_, ?_, ?_, ?_⟩
    · simp only [PyData.showableAll, h1, r1, Bool.and_self]
    · simp only [PyData.depthAll]
      omega
    · simp only [PyData.shownAll, List.map_cons, List.sum_cons, List.length_cons, Nat.mul_add, Nat.mul_one]
      omega
    · simp only [PyData.shownAll, List.length_cons, r4]
theorem sz_tuple {e b c : Nat} {ds : List PyData} (h : ∀ d, d ∈ ds → Sz e b d) (hc : ds.length ≤ c) : Sz (e + 1) ((b + 2) * c + 3) (.tuple ds) := by
  obtain ⟨r1, r2, r3, r4⟩ := sz_all ds h
  have z := tupleText_len_le (PyData.shownAll ds)
  have m : (b + 2) * ds.length ≤ (b + 2) * c := Nat.mul_le_mul_left _ hc
  rw [Nat.add_mul] at m
  refine ⟨?_, ?_, ?_⟩
  · simp only [PyData.showable, r1]
  · simp only [PyData.depth]
    omega
  · simp only [PyData.shown]
    omega
theorem sz_list {e b c : Nat} {ds : List PyData} (h : ∀ d, d ∈ ds → Sz e b d) (hc : ds.length ≤ c) : Sz (e + 1) ((b + 2) * c + 3) (.list ds) := by
  obtain ⟨r1, r2, r3, r4⟩ := sz_all ds h
  have z := listText_len_le (PyData.shownAll ds)
  have m : (b + 2) * ds.length ≤ (b + 2) * c := Nat.mul_le_mul_left _ hc
  rw [Nat.add_mul] at m
  refine ⟨?_, ?_, ?_⟩
  · simp only [PyData.showable, r1]
  · simp only [PyData.depth]
    omega
  · simp only [PyData.shown]
    omega
end Rp

/-! _law_lines. -/
namespace K01
open PySem PySem.Spec PyProof.Rows L2 Dr Ex Rp LamX Rw
open He (ga ma)
def spLines (K : PySem.W.Frag) : Sp := fun vs H Q _ => ∃ (p : Addr) (m k : Nat), vs = [.ref p, .int m] ∧ StrAt H p k ∧ k ≤ 80000 ∧ m ≤ 10 ∧
  ∀ (H' : Hp) (r : Addr) (bs : List (Addr × List Int)), But p H H' → StrAt H' p (k + 120) → H r = none → H' r = some (.lst (refs bs)) → RowsAt H' bs → (∀ z ∈ bs, z.2.length = m ∧ ∀ n ∈ z.2, n.natAbs ≤ 10 ^ 39 + 8) → bs.length ≤ 8 → Q (.ref r) H'
def menuI : List Int := [0, 0, 1, 1, -1, 2, 10 ^ Int.toNat 39, 0 - 10 ^ Int.toNat 39]
theorem menuI_ab : ∀ n ∈ menuI, n.natAbs ≤ 10 ^ 39 := by decide +kernel
abbrev nLines : List Str := ["_law_stream_here", "_law_much", "_law_found", "_law_some", "_law_turn", "_law_line", "_law_at", "_law_more"]
theorem scLines : FnScope nLines ["_law_stream_here", "_law_much"] (defScope sLines) := ⟨rfl, rfl, rfl, by decide +kernel, rfl, by decide +kernel, by decide +kernel⟩
section
variable {P : Program} {w : World} {K : PySem.W.Frag} {mg : Str → Option Value} {base : Heap}
theorem ok_lines {f fD fP : Addr} {fd fdD fdP : FuncData} (F : FnP K "_law_lines" sLines f fd) (FD : FnP K "_law_draw" sDraw fD fdD) (FP : FnP K "_law_pick" sPick fP fdP) (T : TG K mg) (gD : mg "_law_draw" = some (.ref fD)) (gP : mg "_law_pick" = some (.ref fP)) :
    FnOk P w K mg base CX0 3 f fd ["_law_stream_here", "_law_much"] (spLines K) := by
  have tt := T.f "tuple" (by decide +kernel)
  have tr := T.f "range" (by decide +kernel)
  have GD : FnOk P w K mg base CX0 1 fD fdD ["_law_stream_here", "_law_high"] spDraw := ok_draw FD T
  have bD : Binds K fdD ["_law_stream_here", "_law_high"] [] := FD.bindsN fun _ _ _ _ _ _ us hl => match us, hl with | [_, _], _ => rfl
  have GP : FnOk P w K mg base CX0 2 fP fdP ["_law_stream_here", "_law_items"] (spPick K) := ok_pick FP FD T gD
  have bP : Binds K fdP ["_law_stream_here", "_law_items"] [] := FP.bindsN fun _ _ _ _ _ _ us hl => match us, hl with | [_, _], _ => rfl
  refine F.ok scLines (fun vs H Q E h => ?_) (fun cdv A outer s H vs Q E hr h => ?_)
  · obtain ⟨p, m, k, rfl, _⟩ := h
    rfl
  · obtain ⟨p, m, k, rfl, hS, hk, m10, fin⟩ := h
    have hr1 : Room 1 (A.deeper (envOfC "_law_lines" (defScope sLines) s.heap.objs.size f cdv)) := hr.mono (by decide)
    refine ⟨_, PSs.nox (pss_cons (ps_asg (pe_tup (pa_cons (pe_lst pa_nil) (pa_cons (pe_lst (pa_cons pe_int (pa_cons pe_int (pa_cons pe_int (pa_cons pe_int (pa_cons (pe_un un_neg pe_int) (pa_cons pe_int (pa_cons (pe_op op_pow pe_int pe_int) (pa_cons (pe_op op_sub pe_int (pe_op op_pow pe_int pe_int)) pa_nil))))))))) pa_nil)))
          (pg_tup (by rfl) (pgs_cons (pg_name (i := 2) scLines.nd rfl (Or.inl rfl)) (pgs_cons (pg_name (i := 3) scLines.nd rfl (Or.inr rfl)) pgs_nil))))
      (pss_cons (ps_for PassesOwn.never rfl (pi_range1 rfl tr (pa_cons (pe_call GD hr1 rfl gD FD.kp bD .nil pass0 (pa_cons (pv 0) (pa_cons pe_int pa_nil))) pa_nil)) (pg_name (i := 4) scLines.nd rfl (Or.inl rfl))
        (pss_cons (ps_set (i := 5) scLines.nd rfl (Or.inl rfl) (pe_callTy call_tuple_of (by rfl) tt (by decide +kernel) (pa_cons (pe_lc (own := [("_law_at", 6)]) (g := gName 6) (tt := tYes) rfl scLines.nd (pi_range1 rfl tr (pa_cons (pv 1) pa_nil)) (blkOk_by (own := [("_law_at", 6)]) (N := nLines) (sc := defScope sLines) (by decide +kernel))
            (fun _ _ _ _ _ => pg_name (i := 6) scLines.nd rfl (Or.inl rfl)) (fun _ _ _ _ _ => pts_nil) (fun _ _ _ _ _ => pe_call GP hr rfl gP FP.kp bP .nil pass0 (pa_cons (pv 0) (pa_cons (pv 3) pa_nil)))) pa_nil)))
        (pss_cons (ps_if (PW.pt (pw_and (pt_cmpR (show OpR _ _ (rNeD K) from op_neD hr.units) (pv 2) (pe_lst pa_nil) (nomark _)) (pw_and (pt_cmpR op_gt (pv 1) pe_int (nomark _)) (pw_and1 (pt_cmpR op_eq (pe_call GD hr1 rfl gD FD.kp bD .nil pass0 (pa_cons (pv 0) (pa_cons pe_int pa_nil))) pe_int (nomark _))))))
            (pss_cons (ps_par (i := 5) (j := 6) rfl scLines.nd rfl rfl (by decide) rfl rfl (pa_cons (pe_call GP hr rfl gP FP.kp bP .nil pass0 (pa_cons (pv 0) (pa_cons (pv 2) pa_nil))) (pa_cons (pe_call GD hr1 rfl gD FD.kp bD .nil pass0 (pa_cons (pv 0) (pa_cons (pv 1) pa_nil))) pa_nil)) (by rfl))
            (pss_cons (ps_set (i := 7) scLines.nd rfl (Or.inl rfl) (pe_ix ix_list (pe_lst (pa_cons pe_int (pa_cons pe_int (pa_cons (pe_un un_neg pe_int) pa_nil)))) (pe_call GD hr1 rfl gD FD.kp bD .nil pass0 (pa_cons (pv 0) (pa_cons pe_int pa_nil))) (fun _ _ => rfl)))
            (pss_one (ps_set (i := 5) scLines.nd rfl (Or.inl rfl) (pe_op (show OpR _ _ (Tp.rCatT K) from Tp.op_catT) (pe_op (show OpR _ _ (Tp.rCatT K) from Tp.op_catT) (pe_slice (show SlR _ (Tp.rSlT K) from Tp.sl_tupT) (pv 5) po_none (po_some (pv 6)))
                (pe_tup (pa_cons (pe_op op_add (pe_ix ix_tup (pv 5) (pv 6) (fun _ _ => rfl)) (pv 7)) pa_nil))) (pe_slice (show SlR _ (Tp.rSlT K) from Tp.sl_tupT) (pv 5) (po_some (pe_op op_add (pv 6) pe_int)) po_none))))))
            pss_nil)
        (pss_one (ps_expr (pe_bm PySem.F.plainAttrs_list PySem.F.slot_list_append PySem.F.type_list_append mt_append (pv 2) (pa_cons (pv 5) pa_nil)))))))
      (pss_one (ps_ret (pv 2))))), ?_⟩
    obtain ⟨st0, hp0⟩ := hS.some
    refine ⟨Nat.zero_le _, fun D nD => ?_⟩
    have yD := smu (o := .lst []) nD
    have mD := upd_same (H := H) (a := D) (o := .lst [])
    have nDp : D ≠ p := (ne_of_none hp0 nD).symm
    generalize upd H D (.lst []) = H1 at yD mD ⊢
    refine ⟨_, rfl, _, _, rfl, rfl, ⟨by decide, by decide, by decide⟩, _, _, rfl, rfl, ⟨by decide, by decide, by decide⟩, _, _, rfl, rfl, (by show 8 ≤ sizeLine; decide), fun S nS => ?_⟩
    generalize eS : upd H1 S _ = G1
    have yS : Same H1 G1 := eS ▸ smu nS
    have mS : G1 S = some (.lst (menuI.map V.int)) := eS ▸ upd_same
    have nSp : S ≠ p := (ne_of_none (yD _ _ hp0) nS).symm
    have nSD : S ≠ D := (ne_of_none mD nS).symm
    have nHS : H S = none := yD.free nS
    refine ⟨(by show 2 ≤ sizeLine; decide), fun t nt => ?_⟩
    have yt := smu (o := .tup [V.ref D, V.ref S]) nt
    have mt := upd_same (H := G1) (a := t) (o := .tup [V.ref D, V.ref S])
    refine ⟨t, _, rfl, SqT.of mt, rfl, _, _, rfl, _, _, rfl, rfl, ?_⟩
    show tSeq _ _ _ ([some (.ref p), some (.int m), some (.ref D), some (.ref S), none, none, none, none] : L2.St) _
    generalize upd G1 t (.tup [V.ref D, V.ref S]) = H2 at yt mt ⊢
    have y2 : Same H H2 := (yD.trans yS).trans yt
    have hS2 := hS.same y2
    have mS2 := yt _ _ mS
    have mD2 := yt _ _ (yS _ _ mD)
    refine ⟨_, rfl, p, 9, k, rfl, hS2, by omega, by decide, by decide, fun H3 v v0 v1 b3 t3 => ⟨_, rfl, by omega, by omega, ?_⟩⟩
    refine for_range (lo := 0) (n := v.toNat) (fun i σ G => (∃ t4 t5 t6 t7 : Option V, σ = [some (.ref p), some (.int m), some (.ref D), some (.ref S), t4, t5, t6, t7]) ∧ But p H G ∧ StrAt G p (k + 1 + 14 * i) ∧ G S = some (.lst (menuI.map V.int)) ∧
        ∃ bs : List (Addr × List Int), G D = some (.lst (refs bs)) ∧ RowsAt G bs ∧ (∀ z ∈ bs, z.2.length = m ∧ ∀ n ∈ z.2, n.natAbs ≤ 10 ^ 39 + i) ∧ bs.length = i)
      ⟨⟨_, _, _, _, rfl⟩, fun b o n e => b3 _ _ n (y2 _ _ e), t3, b3 _ _ nSp mS2, [], b3 _ _ nDp mD2, (fun z hz => nomatch hz), (fun z hz => nomatch hz), rfl⟩ ?_ ?_
    · rintro i σ G hi ⟨⟨t4, t5, t6, t7, rfl⟩, bG, sG, hGS, bs, hGD, hR, hbs, hlen⟩
      have hv : v.toNat ≤ 8 := by omega
      obtain ⟨stG, hGp⟩ := sG.some
      refine ⟨_, rfl, _, rfl, by omega, by omega, fun B nB => ?_⟩
      have nBp : B ≠ p := (ne_of_none hGp nB).symm
      have nBS : B ≠ S := (ne_of_none hGS nB).symm
      refine lc_range (lo := 0) (n := ((m : Nat) : Int).toNat) (fun j G1 => But p G G1 ∧ StrAt G1 p (k + 1 + 14 * i + j) ∧ ∃ ns : List Int, G1 B = some (.lst (ns.map V.int)) ∧ ns.length = j ∧ ∀ n ∈ ns, n.natAbs ≤ 10 ^ 39)
        ⟨fun b o n e => (smu nB) _ _ e, sG.same (smu nB), [], upd_same, rfl, fun n hn => nomatch hn⟩ ?_ ?_
      · rintro j G1 hj ⟨b1, s1, ns, hB, hn, hab⟩
        refine ⟨rfl, yes_in ⟨_, rfl, _, rfl, p, S, menuI.map V.int, _, rfl, s1, by omega, nSp.symm, SqL.of (b1 _ _ nSp hGS), by decide, by decide, fun G2 i2 x hx b2 s2 => ?_⟩⟩
        obtain ⟨n, hnm, rfl⟩ : ∃ n : Int, n ∈ menuI ∧ x = V.int n := by
          obtain ⟨n, h, e⟩ := List.mem_map.mp (List.mem_of_getElem? hx)
          exact ⟨n, h, e.symm⟩
        have hB2 := b2 _ _ nBp hB
        refine ⟨ns.map V.int, hB2, (by rw [List.length_map, sizeLine_eq]; omega), fun b o n e => ?_, s2.keep fun o e => ?_, ns ++ [n], ?_, ?_, fun y hy => ?_⟩
        · rw [upd_ne (ne_of_none e nB)]
          exact b2 _ _ n (b1 _ _ n e)
        · rw [upd_ne nBp.symm]
          exact e
        · rw [upd_same, List.map_append] <;> rfl
        · rw [List.length_append, hn] <;> rfl
        · rcases List.mem_append.mp hy with h | h
          · exact hab y h
          · rw [List.mem_singleton.mp h]
            exact menuI_ab n hnm
      rintro G1 ⟨b1, s1, ns, hB, hn, hab⟩
      rw [Int.toNat_natCast] at hn s1
      refine ⟨B, _, rfl, .inl ⟨SqL.of hB, fun q nq => ?_⟩⟩
      have yq := smu (o := .tup (ns.map V.int)) nq
      have mq := upd_same (H := G1) (a := q) (o := .tup (ns.map V.int))
      have nHq : H q = none := (bG.trans b1).free (fun e => by obtain ⟨_, z⟩ := s1.some; rw [← e, nq] at z; cases z) nq
      generalize upd G1 q (.tup (ns.map V.int)) = G2 at yq mq ⊢
      have b2 : But p G G2 := b1.same yq
      have s2 := s1.same yq
      show tSeq _ _ _ ([some (.ref p), some (.int m), some (.ref D), some (.ref S), some (.int (0 + (i : Int))), some (.ref q), t6, t7] : L2.St) _
      have nDp2 : ∀ {G' : Hp}, But p G G' → G' D = some (.lst (refs bs)) := fun b => b _ _ nDp hGD
      have hD2 := nDp2 b2
      -- what the turn leaves
      have fin2 : ∀ (t4 t5 t6 t7 : Option V) (G5 : Hp) (q : Addr) (ns : List Int), But p G G5 → StrAt G5 p (k + 1 + 14 * (i + 1)) → G5 q = some (.tup (ns.map V.int)) → ns.length = m → (∀ n ∈ ns, n.natAbs ≤ 10 ^ 39 + (i + 1)) →
          ((∃ u4 u5 u6 u7 : Option V, ([some (.ref p), some (.int m), some (.ref D), some (.ref S), t4, t5, t6, t7] : L2.St) = [some (.ref p), some (.int m), some (.ref D), some (.ref S), u4, u5, u6, u7]) ∧ But p H (upd G5 D (.lst (refs bs ++ [.ref q]))) ∧ StrAt (upd G5 D (.lst (refs bs ++ [.ref q]))) p (k + 1 + 14 * (i + 1)) ∧ (upd G5 D (.lst (refs bs ++ [.ref q]))) S = some (.lst (menuI.map V.int)) ∧
            ∃ cs : List (Addr × List Int), (upd G5 D (.lst (refs bs ++ [.ref q]))) D = some (.lst (refs cs)) ∧ RowsAt (upd G5 D (.lst (refs bs ++ [.ref q]))) cs ∧ (∀ z ∈ cs, z.2.length = m ∧ ∀ n ∈ z.2, n.natAbs ≤ 10 ^ 39 + (i + 1)) ∧ cs.length = i + 1) := by
        intro t4 t5 t6 t7 G5 q ns b5 s5 hq hn hab
        have nDt : ∀ b ys, G5 b = some (.tup ys) → b ≠ D := fun b ys e z => by
          rw [z, nDp2 b5] at e
          cases e
        refine ⟨⟨_, _, _, _, rfl⟩, fun b o n e => ?_, s5.keep fun o e => ?_, ?_, bs ++ [(q, ns)], ?_, fun z hz => ?_, fun z hz => ?_, by rw [List.length_append, hlen]; rfl⟩
        · rw [upd_ne (ne_of_none e nD)]
          exact b5 _ _ n (bG _ _ n e)
        · rw [upd_ne nDp.symm]
          exact e
        · rw [upd_ne nSD]
          exact b5 _ _ nSp hGS
        · rw [upd_same]
          unfold refs
          rw [List.map_append] <;> rfl
        · have hz1 : G5 z.1 = some (.tup (z.2.map V.int)) := by
            rcases List.mem_append.mp hz with h | h
            · refine b5 _ _ (fun e => ?_) (hR z h)
              have z2 := hR z h
              rw [e, hGp] at z2
              cases z2
            · rw [List.mem_singleton.mp h]
              exact hq
          rw [upd_ne (nDt _ _ hz1)]
          exact hz1
        · rcases List.mem_append.mp hz with h | h
          · exact ⟨(hbs z h).1, fun n hn => Nat.le_trans ((hbs z h).2 n hn) (by omega)⟩
          · rw [List.mem_singleton.mp h]
            exact ⟨hn, hab⟩
      have app : ∀ {G5 : Hp}, But p G G5 → (refs bs).length < sizeLine := fun _ => by rw [refs_len, sizeLine_eq]; omega
      refine ⟨_, rfl, Nat.zero_le _, fun E1 nE => ?_⟩
      have yE := smu (o := .lst []) nE
      have mE := upd_same (H := G2) (a := E1) (o := .lst [])
      generalize upd G2 E1 (.lst []) = G3 at yE mE ⊢
      have b3' : But p G G3 := b2.same yE
      have s3 := s2.same yE
      refine ⟨.list ((bs.map (·.2)).map LamK.keyD), .list [], .lst (SqL.of (nDp2 b3')) (dp_rows fun z hz => b3' _ _ (fun e => ?_) (hR z hz)), .lst (SqL.of mE) .nil, shaped_keys _, rfl, _, rfl, ?_⟩
      · have z2 := hR z hz
        rw [e, hGp] at z2
        cases z2
      have plain : ∀ {G5 : Hp}, But p G3 G5 → G5 q = some (.tup (ns.map V.int)) := fun b => b _ _ (fun e => by obtain ⟨_, z⟩ := s1.some; rw [← e, nq] at z; cases z) (yE _ _ mq)
      have skip : ∀ (t6 t7 : Option V) (G5 : Hp), But p G3 G5 → StrAt G5 p (k + 1 + 14 * (i + 1)) → _ := fun t6 t7 G5 b5 s5 => fin2 (some (.int (0 + (i : Int)))) (some (.ref q)) t6 t7 G5 q ns (b3'.trans b5) s5 (plain b5) hn fun n h => Nat.le_trans (hab n h) (by omega)
      cases hb0 : (!PyData.eqv (.list ((bs.map (·.2)).map LamK.keyD)) (.list [])) with
      | false =>
        refine iteF (iteF ?_)
        exact ⟨_, rfl, .inl ⟨rfl, _, SqL.of (nDp2 b3')⟩, _, rfl, D, refs bs, _, rfl, rfl, nDp2 b3', app b3', skip _ _ G3 (But.refl _ _) (s3.mono (by omega))⟩
      | true =>
        refine iteT ⟨_, rfl, _, _, rfl, rfl, _, rfl, ?_⟩
        by_cases h0 : (0 : Int) < (m : Int)
        · rw [decide_eq_true h0]
          refine iteT ⟨_, rfl, p, 2, _, rfl, s3, by omega, by decide, by decide, fun G4 v2 w0 w1 b4 s4 => ⟨rfl, _, rfl, ?_⟩⟩
          refine ite2 (fun hv2 => ?_) (fun hv2 => ?_)
          · have hne : bs ≠ [] := fun e => by
              subst e
              exact absurd hb0 (by decide)
            have hpos : 0 < bs.length := by
              cases bs with
              | nil => exact absurd rfl hne
              | cons => exact Nat.succ_pos _
            have b34 := b3'.trans b4
            refine ⟨_, rfl, _, rfl, p, D, refs bs, _, rfl, s4, by omega, nDp.symm, SqL.of (nDp2 b34), by rw [refs_len]; exact hpos, by rw [refs_len]; omega, fun G5 i2 x hx b5 s5 => ?_⟩
            have hi2 : i2 < bs.length := by
              have := (List.getElem?_eq_some_iff.mp hx).1
              rw [refs_len] at this
              exact this
            have ex : x = .ref bs[i2].1 := by
              have e : (refs bs)[i2]? = some (V.ref bs[i2].1) := by
                unfold refs
                rw [List.getElem?_map, List.getElem?_eq_getElem hi2] <;> rfl
              rw [hx] at e
              exact Option.some.inj e
            subst ex
            have hz1 := hR _ (List.getElem_mem hi2)
            obtain ⟨hz2, hz3⟩ := hbs _ (List.getElem_mem hi2)
            generalize bs[i2] = z0 at hz1 hz2 hz3 ⊢
            have nz : z0.1 ≠ p := fun e => by
              rw [e, hGp] at hz1
              cases hz1
            refine ⟨_, rfl, _, rfl, p, _, _, rfl, s5, by omega, h0, by omega, fun G6 c c0 c1 b6 s6 => ⟨_, _, rfl, ?_⟩⟩
            obtain ⟨c, rfl⟩ : ∃ c' : Nat, c = (c' : Int) := ⟨c.toNat, by omega⟩
            have hc : c < m := by omega
            refine ⟨_, rfl, (by show 3 ≤ sizeLine; decide), fun L nL => ?_⟩
            generalize eL : upd G6 L _ = G7
            have yL : Same G6 G7 := eL ▸ smu nL
            have mL : G7 L = some (.lst [V.int 0, V.int 1, V.int (-1)]) := eL ▸ upd_same
            have nLp : L ≠ p := by
              obtain ⟨_, z⟩ := s6.some
              exact (ne_of_none z nL).symm
            refine ⟨_, rfl, p, 3, _, rfl, s6.same yL, by omega, by decide, by decide, fun G8 d d0 d1 b8 s8 => ?_⟩
            have b38 : But p G G8 := ((b34.trans (b5.trans b6)).same yL).trans b8
            have hz8 := b38 _ _ nz hz1
            obtain ⟨d, rfl⟩ : ∃ d' : Nat, d = (d' : Int) := ⟨d.toNat, by omega⟩
            obtain ⟨e, he, he1⟩ : ∃ e : Int, ([V.int 0, V.int 1, V.int (-1)] : List V)[d]? = some (V.int e) ∧ e.natAbs ≤ 1 := by
              have hd : d = 0 ∨ d = 1 ∨ d = 2 := by omega
              rcases hd with rfl | rfl | rfl <;> exact ⟨_, rfl, by decide⟩
            refine ⟨L, _, _, V.int e, rfl, rfl, SqL.of (b8 _ _ nLp mL), atI_nat he, ?_⟩
            refine ⟨_, rfl, _, rfl, _, rfl, z0.1, _, rfl, hz8, fun H9 q9 y9 m9 => ?_⟩
            have hz9 := y9 _ _ hz8
            have hx9 : ∃ n, z0.2[c]? = some n := ⟨_, List.getElem?_eq_getElem (by omega)⟩
            obtain ⟨n, hn9⟩ := hx9
            refine ⟨_, rfl, _, rfl, z0.1, _, _, V.int n, rfl, rfl, SqT.of hz9, atI_nat (by rw [List.getElem?_map, hn9]; rfl), _, rfl, _, _, rfl, rfl, (by show 1 ≤ sizeLine; decide), fun t1 nt1 => ?_⟩
            have y10 := smu (o := .tup [V.int (n + e)]) nt1
            have m10' := upd_same (H := H9) (a := t1) (o := .tup [V.int (n + e)])
            generalize upd H9 t1 (.tup [V.int (n + e)]) = H10 at y10 m10' ⊢
            rw [Tp.cutLo] at m9
            refine ⟨q9, t1, _, _, rfl, rfl, y10 _ _ m9, m10', by rw [List.length_take, List.length_map]; show min c z0.2.length + 1 ≤ 1000; omega, fun H11 q11 y11 m11 => ?_⟩
            refine ⟨_, rfl, _, rfl, _, _, rfl, rfl, _, rfl, z0.1, _, rfl, y11 _ _ (y10 _ _ hz9), fun H12 q12 y12 m12 => ?_⟩
            rw [show ((c : Int) + 1) = (((c + 1 : Nat)) : Int) by omega, Tp.cutHi] at m12
            have hcut : ((z0.2.map V.int).take c ++ [V.int (n + e)]).length + ((z0.2.map V.int).drop (c + 1)).length ≤ 1000 := by
              rw [List.length_append, List.length_take, List.length_drop, List.length_map]
              show min c z0.2.length + 1 + (z0.2.length - (c + 1)) ≤ 1000
              omega
            refine ⟨q11, q12, _, _, rfl, rfl, y12 _ _ m11, m12, hcut, fun H13 q13 y13 m13 => ?_⟩
            have bX : But p G H13 := b38.same ((((y9.trans y10).trans y11).trans y12).trans y13)
            have sX := s8.same ((((y9.trans y10).trans y11).trans y12).trans y13)
            refine ⟨_, rfl, .inl ⟨rfl, _, SqL.of (nDp2 bX)⟩, _, rfl, D, refs bs, _, rfl, rfl, nDp2 bX, app bX, fin2 _ _ _ _ H13 q13 (z0.2.take c ++ [n + e] ++ z0.2.drop (c + 1)) bX (sX.mono (by omega)) ?_ ?_ fun y hy => ?_⟩
            · rw [m13, List.map_append, List.map_append, List.map_take, List.map_drop] <;> rfl
            · rw [List.length_append, List.length_append, List.length_take, List.length_drop]
              show min c z0.2.length + 1 + (z0.2.length - (c + 1)) = m
              omega
            · rcases List.mem_append.mp hy with h | h
              · rcases List.mem_append.mp h with h | h
                · exact Nat.le_trans (hz3 y (List.mem_of_mem_take h)) (by omega)
                · rw [List.mem_singleton.mp h]
                  have z := hz3 n (List.mem_of_getElem? hn9)
                  have z2 := Int.natAbs_add_le n e
                  omega
              · exact Nat.le_trans (hz3 y (List.mem_of_mem_drop h)) (by omega)
          · have b34 := b3'.trans b4
            exact ⟨_, rfl, .inl ⟨rfl, _, SqL.of (nDp2 b34)⟩, _, rfl, D, refs bs, _, rfl, rfl, nDp2 b34, app b34, skip _ _ G4 b4 (s4.mono (by omega))⟩
        · rw [decide_eq_false h0]
          refine iteF (iteF ?_)
          exact ⟨_, rfl, .inl ⟨rfl, _, SqL.of (nDp2 b3')⟩, _, rfl, D, refs bs, _, rfl, rfl, nDp2 b3', app b3', skip _ _ G3 (But.refl _ _) (s3.mono (by omega))⟩
    · rintro σ G ⟨⟨t4, t5, t6, t7, rfl⟩, bG, sG, hGS, bs, hGD, hR, hbs, hlen⟩
      exact ⟨_, rfl, fin _ _ bs bG (sG.mono (by omega)) nD hGD hR (fun z hz => ⟨(hbs z hz).1, fun n hn => Nat.le_trans ((hbs z hz).2 n hn) (by omega)⟩) (by omega)⟩
end
end K01

/-! Written data: an expression that gives data d, in one step. -/
namespace Rp
open PySem PySem.Spec PyProof.Rows L2 Ex Dr
/-- data made since H -/
def LDt (K : PySem.W.Frag) (H H' : Hp) (v : V) (d : PyData) : Prop := Dt K H' v d ∧ ∀ p, H p ≠ none → v ≠ .ref p ∧ Dt K (ct p H') v d
def LDts (K : PySem.W.Frag) (H H' : Hp) (vs : List V) (ds : List PyData) : Prop := DtAll K H' vs ds ∧ ∀ p, H p ≠ none → DtAll K (ct p H') vs ds
def tDat (K : PySem.W.Frag) (d : PyData) : TE := fun _ H Q => ∀ H' v, Same H H' → LDt K H H' v d → Q v H'
def aDat (K : PySem.W.Frag) (ds : List PyData) : TA := fun _ H Q => ∀ H' vs, Same H H' → LDts K H H' vs ds → Q vs H'
theorem dts_len {K : PySem.W.Frag} {H : Hp} : ∀ {vs : List V} {ds : List PyData}, DtAll K H vs ds → vs.length = ds.length
  | _, _, .nil => rfl
  | _, _, .cons _ t => by rw [List.length_cons, List.length_cons, dts_len t]
theorem ne_of_none' {H : Hp} {a b : Addr} (h : H a ≠ none) (h' : H b = none) : a ≠ b := fun e => h (e ▸ h')
theorem ne_same {H H' : Hp} {p : Addr} (s : Same H H') (h : H p ≠ none) : H' p ≠ none := fun e => by
  cases q : H p with
  | none => exact h q
  | some o => rw [s _ _ q] at e; cases e
theorem pe_weak {X : Cx} {e : Expr} {t t' : TE} (h : PE X e t) (k : ∀ σ H Q, t' σ H Q → t σ H Q) : PE X e t' := ⟨fun pins s σ H Q I q => h.run pins s σ H Q I (k σ H Q q)⟩
theorem pa_weak {X : Cx} {e : List Expr} {t t' : TA} (h : PA X e t) (k : ∀ σ H Q, t' σ H Q → t σ H Q) : PA X e t' := ⟨fun pos pins s σ H Q I q => h.run pos pins s σ H Q I (k σ H Q q)⟩
/-- a promise said weaker -/
theorem fn_weak {P : Program} {w : World} {K : PySem.W.Frag} {mg : Str → Option Value} {base : Heap} {CX : CXT} {k : Nat} {f : Addr} {fd : FuncData} {ps : List Str} {sp sp' : Sp} (F : FnOk P w K mg base CX k f fd ps sp) (h : ∀ vs H Q E, sp' vs H Q E → sp vs H Q E) : FnOk P w K mg base CX k f fd ps sp' :=
  ⟨fun vs H Q E q => F.len vs H Q E (h vs H Q E q), fun A outer s H args us vs Q E hr e0 b v q => F.run A outer s H args us vs Q E hr e0 b v (h vs H Q E q)⟩
section
variable {X : Cx} {e : Expr} {es : List Expr} {d : PyData} {ds : List PyData} {pos : Pos}
/-- what is no object -/
theorem pd_c {v : V} {t : TE} (h : PE X e t) (hv : ∀ H, Dt X.K H v d) (hr : ∀ p, v ≠ .ref p) (k : ∀ σ H (Q : VK), Q v H → t σ H Q) : PE X e (tDat X.K d) :=
  pe_weak h fun σ H Q q => k σ H Q (q H v (Same.refl H) ⟨hv _, fun p _ => ⟨hr p, hv _⟩⟩)
theorem pd_int {n : Int} (h : PE X e (tC (.int n))) : PE X e (tDat X.K (.int n)) := pd_c h (fun _ => .int n) (fun _ z => by cases z) fun _ _ _ q => q
theorem pd_str {x : Str} (h : PE X e (tC (.str x))) : PE X e (tDat X.K (.str x)) := pd_c h (fun _ => .str x) (fun _ z => by cases z) fun _ _ _ q => q
theorem pd_bl {b : Bool} (h : PE X e (tC (.bl b))) : PE X e (tDat X.K (.bool b)) := pd_c h (fun _ => .bl b) (fun _ z => by cases z) fun _ _ _ q => q
theorem pd_non (h : PE X e (tC .non)) : PE X e (tDat X.K .none) := pd_c h (fun _ => .non) (fun _ z => by cases z) fun _ _ _ q => q
theorem pd_nil : PA X [] (aDat X.K []) := pa_weak pa_nil fun σ H Q q => q H [] (Same.refl H) ⟨.nil, fun _ _ => .nil⟩
theorem pd_cons (h : PE X e (tDat X.K d)) (t : PA X es (aDat X.K ds)) (hs : starEach (e :: es) X.env = (false, eval e X.env) :: starEach es X.env := by rfl) : PA X (e :: es) (aDat X.K (d :: ds)) :=
  pa_weak (pa_cons h t hs) fun σ H Q q H1 x s1 hx H2 xs s2 hxs => q H2 (x :: xs) (s1.trans s2) ⟨.cons (Dt.same s2 _ _ hx.1) hxs.1, fun p hp => .cons (Dt.same (ct_sm s2) _ _ (hx.2 p hp).2) (hxs.2 p (ne_same s1 hp))⟩
theorem pd_lst (t : PA X es (aDat X.K ds)) (hl : ds.length ≤ 1000 := by decide) : PE X (.List es pos) (tDat X.K (.list ds)) :=
  pe_weak (pe_lst t) fun σ H Q q H1 vs s1 hv => ⟨by
    rw [dts_len hv.1, sizeLine_eq]; omega, fun l nl => q _ _ (s1.trans (smu nl)) ⟨.lst (SqL.of upd_same) (Dt.sameAll (smu nl) _ _ hv.1), fun p hp => by
      obtain ⟨c, m⟩ := ct_new (p := p) (o := .lst vs) (ne_same s1 hp) nl (fun ps z => by cases z)
      exact ⟨fun z => absurd (V.ref.inj z) (ne_of_none' (ne_same s1 hp) nl).symm, .lst (SqL.of m) (Dt.sameAll c _ _ (hv.2 p hp))⟩⟩⟩
theorem pd_tup {k : Nat} (t : PA X es (aDat X.K ds)) (hl : ds.length ≤ 1000 := by decide) : PE X (.Tuple es k pos) (tDat X.K (.tuple ds)) :=
  pe_weak (pe_tup t) fun σ H Q q H1 vs s1 hv => ⟨by
    rw [dts_len hv.1, sizeLine_eq]; omega, fun l nl => q _ _ (s1.trans (smu nl)) ⟨.tup (SqT.of upd_same) (Dt.sameAll (smu nl) _ _ hv.1), fun p hp => by
      obtain ⟨c, m⟩ := ct_new (p := p) (o := .tup vs) (ne_same s1 hp) nl (fun ps z => by cases z)
      exact ⟨fun z => absurd (V.ref.inj z) (ne_of_none' (ne_same s1 hp) nl).symm, .tup (SqT.of m) (Dt.sameAll c _ _ (hv.2 p hp))⟩⟩⟩
theorem pd_dict0 : PE X (.Dict [] [] pos) (tDat X.K (.dict [])) :=
  pe_weak pe_dnewK fun σ H Q q l nl => q _ _ (smu nl) ⟨.dic upd_same .nil, fun p hp => ⟨fun z => absurd (V.ref.inj z) (ne_of_none' hp nl).symm, .dic (ct_new hp nl (fun ps z => by cases z)).2 .nil⟩⟩
/-- {'a': 1} -/
theorem pd_dict1 {ke ve : Expr} {x : Str} {n : Int} (hk : PE X ke (tC (.str x))) (hv : PE X ve (tC (.int n))) : PE X (.Dict [some ke] [ve] pos) (tDat X.K (.dict [(.str x, .int n)])) :=
  pe_weak (pe_disp (pps_cons hk hv pps_nil) (by rfl) (by rfl) (fun z => by cases z) (Nat.le_add_left 1 14)) fun σ H Q q l nl => by
    refine ⟨upd_same, [(.inr x, .int n)], rfl, Nat.le_add_left 1 14, ?_⟩
    rw [upd_upd]
    exact q _ _ (smu nl) ⟨.dic upd_same (.cons (k := .inr x) (.int n) .nil), fun p hp => ⟨fun z => absurd (V.ref.inj z) (ne_of_none' hp nl).symm, .dic (ct_new hp nl (fun ps z => by cases z)).2 (.cons (k := .inr x) (.int n) .nil)⟩⟩
end
/-- data by its place -/
theorem dts_get {K : PySem.W.Frag} {H : Hp} : ∀ {vs : List V} {ds : List PyData} {i : Nat} {x : V}, DtAll K H vs ds → vs[i]? = some x → ∃ d, ds[i]? = some d ∧ Dt K H x d
  | _, _, _, _, .nil, h => by cases h
  | _, _, 0, _, .cons a _, h => by
    cases h
    exact ⟨_, rfl, a⟩
  | _, _, i + 1, _, .cons _ t, h => dts_get (i := i) t h
/-- pick from a list of data -/
def spPickD (K : PySem.W.Frag) : Sp := fun vs H Q _ => ∃ (p : Addr) (v : V) (ds : List PyData) (m : Nat), vs = [.ref p, v] ∧ StrAt H p m ∧ m ≤ 100000 ∧ v ≠ .ref p ∧ Dt K (ct p H) v (.list ds) ∧ 0 < ds.length ∧ ds.length < 1000000 ∧
  ∀ H' (i : Nat) x d, ds[i]? = some d → Dt K (ct p H') x d → But p H H' → StrAt H' p (m + 1) → Q x H'
theorem pickD {K : PySem.W.Frag} {vs : List V} {H : Hp} {Q : VK} {E : XK} (h : spPickD K vs H Q E) : spPick K vs H Q E := by
  obtain ⟨p, v, ds, m, rfl, hS, hm, nv, hd, l0, l1, k⟩ := h
  cases hd with
  | lst hq ha =>
    rename_i a xs
    refine ⟨p, a, xs, m, rfl, hS, hm, fun e => nv (by rw [e]), Same.seq ct_all hq, by rw [dts_len ha]; exact l0, by rw [dts_len ha]; exact l1, fun H' i x hx hb hs => ?_⟩
    obtain ⟨d, h1, h2⟩ := dts_get ha hx
    exact k H' i x d h1 (Dt.same (ct_but hb) _ _ h2) hb hs
end Rp

/-! _law_thing. -/
namespace K01
open PySem PySem.Spec PyProof.Rows L2 Dr Ex Rp LamX Rw
open He (ga ma)
/-- pick from a text -/
def spPickS : Sp := fun vs H Q _ => ∃ (p : Addr) (z : Str) (m : Nat), vs = [.ref p, .str z] ∧ StrAt H p m ∧ m ≤ 100000 ∧ 0 < z.cps.toList.length ∧ z.length = z.cps.toList.length ∧ z.length ≤ 1000 ∧
  ∀ H' c, c ∈ z.cps.toList → But p H H' → StrAt H' p (m + 1) → Q (.str (sgn c)) H'
abbrev nThing : List Str := ["_law_stream_here", "_law_kind_here", "_law_signs", "_law_some", "_law_found", "_law_turn"]
theorem scThing : FnScope nThing ["_law_stream_here"] (defScope sThing) := ⟨rfl, rfl, rfl, by decide +kernel, rfl, by decide +kernel, by decide +kernel⟩
def okD (d : PyData) : Prop := okS d ∧ okT d
def spThing (K : PySem.W.Frag) : Sp := fun vs H Q _ => ∃ (p : Addr) (k : Nat), vs = [.ref p] ∧ StrAt H p k ∧ k ≤ 90000 ∧
  ∀ H' x d, But p H H' → StrAt H' p (k + 40) → Dt K (ct p H') x d → okD d → Q x H'
def menuP : List PyData := [.bool true, .bool false, .none, .str "1", .tuple [.int 1], .list [.int 1]]
def menuE : List PyData := [.none, .bool true, .int 0, .dict [], .tuple [.str "a"], .list [.str "a"], .int 10, .tuple [], .list [], .dict [(.str "a", .int 1)]]
def menuF : List Int := [0, 1, -1, 7, 10 ^ Int.toNat 39, 0 - 10 ^ Int.toNat 39, 5]
def menuW : List Str := ["abcxyz", "abcxyz", "abcxyz", "aZ9 _"]
theorem joinL_ones : ∀ cs : List Nat, TL.joinL [] (cs.map fun c => [c]) = cs
  | [] => rfl
  | [_] => rfl
  | c :: d :: r => by
    show [c] ++ ([] ++ TL.joinL [] ((d :: r).map fun c => [c])) = c :: d :: r
    rw [joinL_ones (d :: r)]
    rfl
theorem join_ones (cs : List Nat) : (Txt.join "" (cs.map sgn)).cps.toList = cs := by
  rw [TL.join_eq]
  refine (TL.tl_join "" (cs.map sgn)).trans ?_
  rw [List.map_map]
  exact joinL_ones cs
theorem sum_ones (cs : List Nat) : ((cs.map sgn).map (·.length)).sum = cs.length := by
  rw [List.map_map]
  induction cs with
  | nil => rfl
  | cons c r ih => rw [List.map_cons, List.sum_cons, ih, List.length_cons]; show 1 + r.length = r.length + 1; omega
theorem menuW_ok : ∀ z ∈ menuW, 0 < z.cps.toList.length ∧ z.length = z.cps.toList.length ∧ z.length ≤ 1000 ∧ ∀ c ∈ z.cps.toList, c < 0x110000 := by
  have h : (menuW.all fun z => decide (0 < z.cps.toList.length) && (decide (z.length = z.cps.toList.length) && (decide (z.length ≤ 1000) && z.cps.toList.all fun c => decide (c < 0x110000)))) = true := by decide +kernel
  intro z hz
  have q := List.all_eq_true.mp h z hz
  simp only [Bool.and_eq_true, decide_eq_true_eq, List.all_eq_true] at q
  exact ⟨q.1, q.2.1, q.2.2.1, q.2.2.2⟩
def okP (d : PyData) : Prop := PyData.canLay0 d = true ∧ d.depth ≤ 10
theorem menuP_ok : ∀ d ∈ menuP, okP d := by
  have h : (menuP.all fun d => PyData.canLay0 d && decide (d.depth ≤ 10)) = true := by decide +kernel
  intro d hd
  have q := List.all_eq_true.mp h d hd
  simp only [Bool.and_eq_true, decide_eq_true_eq] at q
  exact q
theorem menuE_ok : ∀ d ∈ menuE, okD d := by
  intro d hd
  simp only [menuE, List.mem_cons, List.not_mem_nil, or_false] at hd
  rcases hd with rfl | rfl | rfl | rfl | rfl | rfl | rfl | rfl | rfl | rfl <;> refine ⟨trivial, ?_⟩ <;> first | trivial | exact ⟨by decide, fun d hd => by first | (rw [List.mem_singleton.mp hd]; exact ⟨by decide +kernel, by decide +kernel⟩) | exact nomatch hd⟩
theorem okP_int (n : Int) : okP (.int n) := ⟨rfl, Nat.zero_le _⟩
section
variable {P : Program} {w : World} {K : PySem.W.Frag} {mg : Str → Option Value} {base : Heap}
theorem ok_pickS {f fD : Addr} {fd fdD : FuncData} (F : FnP K "_law_pick" sPick f fd) (FD : FnP K "_law_draw" sDraw fD fdD) (T : TG K mg) (gD : mg "_law_draw" = some (.ref fD)) : FnOk P w K mg base CX0 2 f fd ["_law_stream_here", "_law_items"] spPickS := by
  have tl := T.f "len" (by decide +kernel)
  have G : FnOk P w K mg base CX0 1 fD fdD ["_law_stream_here", "_law_high"] spDraw := ok_draw FD T
  have bD : Binds K fdD ["_law_stream_here", "_law_high"] [] := FD.bindsN fun _ _ _ _ _ _ us hl => match us, hl with | [_, _], _ => rfl
  refine F.ok scPick (fun vs H Q E h => ?_) (fun cdv A outer s H vs Q E hr h => ?_)
  · obtain ⟨p, z, m, rfl, _⟩ := h
    rfl
  · obtain ⟨p, z, m, rfl, hS, hm, l0, le, l1, k⟩ := h
    refine ⟨_, PSs.nox (pss_one (ps_ret (pe_ix ix_str (pv 1) (pe_call G hr rfl gD FD.kp bD .nil pass0 (pa_cons (pv 0) (pa_cons (pe_callB call_len_str (by rfl) tl PySem.boot_len (pa_cons (pv 1) pa_nil)) pa_nil))) (fun _ _ => rfl)))), ?_⟩
    refine ⟨_, rfl, _, rfl, _, rfl, z, rfl, by rw [sizeLine_eq]; omega, p, _, m, rfl, hS, hm, (by omega), (by omega), fun H' v v0 v1 hb hs => ?_⟩
    obtain ⟨i, rfl⟩ : ∃ i : Nat, v = (i : Int) := ⟨v.toNat, by omega⟩
    have hv : i < z.cps.toList.length := by omega
    exact ⟨z, _, _, rfl, rfl, by rw [sizeLine_eq]; omega, atI_nat (List.getElem?_eq_getElem hv), k H' _ (List.getElem_mem hv) hb hs⟩
theorem ok_thing {f fD fP : Addr} {fd fdD fdP : FuncData} (F : FnP K "_law_thing" sThing f fd) (FD : FnP K "_law_draw" sDraw fD fdD) (FP : FnP K "_law_pick" sPick fP fdP) (T : TG K mg) (gD : mg "_law_draw" = some (.ref fD)) (gP : mg "_law_pick" = some (.ref fP)) :
    FnOk P w K mg base CX0 3 f fd ["_law_stream_here"] (spThing K) := by
  have tt := T.f "tuple" (by decide +kernel)
  have tr := T.f "range" (by decide +kernel)
  have GD : FnOk P w K mg base CX0 1 fD fdD ["_law_stream_here", "_law_high"] spDraw := ok_draw FD T
  have bD : Binds K fdD ["_law_stream_here", "_law_high"] [] := FD.bindsN fun _ _ _ _ _ _ us hl => match us, hl with | [_, _], _ => rfl
  have GP : FnOk P w K mg base CX0 2 fP fdP ["_law_stream_here", "_law_items"] (spPick K) := ok_pick FP FD T gD
  have GX : FnOk P w K mg base CX0 2 fP fdP ["_law_stream_here", "_law_items"] (spPickD K) := fn_weak GP fun _ _ _ _ h => pickD h
  have GS : FnOk P w K mg base CX0 2 fP fdP ["_law_stream_here", "_law_items"] spPickS := ok_pickS FP FD T gD
  have bP : Binds K fdP ["_law_stream_here", "_law_items"] [] := FP.bindsN fun _ _ _ _ _ _ us hl => match us, hl with | [_, _], _ => rfl
  refine F.ok scThing (fun vs H Q E h => ?_) (fun cdv A outer s H vs Q E hr h => ?_)
  · obtain ⟨p, k, rfl, _⟩ := h
    rfl
  · obtain ⟨p, k, rfl, hS, hk, fin⟩ := h
    have hr1 : Room 1 (A.deeper (envOfC "_law_thing" (defScope sThing) s.heap.objs.size f cdv)) := hr.mono (by decide)
    refine ⟨_, PSs.nox (pss_cons (ps_set (i := 1) scThing.nd rfl (Or.inl rfl) (pe_call GD hr1 rfl gD FD.kp bD .nil pass0 (pa_cons (pv 0) (pa_cons pe_int pa_nil))))
      (pss_cons (ps_if (pt_cmpR op_lt (pv 1) pe_int (nomark _))
        (pss_cons (ps_set (i := 2) scThing.nd rfl (Or.inr rfl) (pe_ix ix_list (pe_lst (pa_cons pe_str (pa_cons pe_str (pa_cons pe_str (pa_cons pe_str pa_nil))))) (pe_call GD hr1 rfl gD FD.kp bD .nil pass0 (pa_cons (pv 0) (pa_cons pe_int pa_nil))) (fun _ _ => rfl)))
        (pss_one (ps_ret (pe_join pe_str (pe_lc (own := [("_law_turn", 5)]) (g := gName 5) (tt := tYes) rfl scThing.nd (pi_range1 rfl tr (pa_cons (pe_call GD hr1 rfl gD FD.kp bD .nil pass0 (pa_cons (pv 0) (pa_cons pe_int pa_nil))) pa_nil)) (blkOk_by (own := [("_law_turn", 5)]) (N := nThing) (sc := defScope sThing) (by decide +kernel))
            (fun _ _ _ _ _ => pg_name (i := 5) scThing.nd rfl (Or.inl rfl)) (fun _ _ _ _ _ => pts_nil) (fun _ _ _ _ _ => pe_call GS hr rfl gP FP.kp bP .nil pass0 (pa_cons (pv 0) (pa_cons (pv 2) pa_nil))))))))
        pss_nil)
      (pss_cons (ps_if (pt_cmpR op_lt (pv 1) pe_int (nomark _))
        (pss_cons (ps_set (i := 3) scThing.nd rfl (Or.inr rfl) (pe_lst (pa_cons pe_int (pa_cons pe_int (pa_cons (pe_un un_neg pe_int) (pa_cons pe_int (pa_cons (pe_op op_pow pe_int pe_int) (pa_cons (pe_op op_sub pe_int (pe_op op_pow pe_int pe_int)) (pa_cons pe_int pa_nil)))))))))
        (pss_cons (ps_setLc (i := 4) (own := [("_law_turn", 5)]) (g := gName 5) rfl scThing.nd rfl rfl (sw_true rfl rfl rfl (by decide +kernel)) (pi_range1 rfl tr (pa_cons (pe_call GD hr1 rfl gD FD.kp bD .nil pass0 (pa_cons (pv 0) (pa_cons pe_int pa_nil))) pa_nil)) (blkOk_by (own := [("_law_turn", 5)]) (N := nThing) (sc := defScope sThing) (by decide +kernel))
            (fun _ _ _ _ _ => pg_name (i := 5) scThing.nd rfl (Or.inl rfl)) (fun _ _ _ _ _ => pts_nil) (fun _ _ _ _ _ => pe_call GP hr rfl gP FP.kp bP .nil pass0 (pa_cons (pv 0) (pa_cons (pv 3) pa_nil))))
        (pss_cons (ps_if (pt_cmpR op_eq (pe_call GD hr1 rfl gD FD.kp bD .nil pass0 (pa_cons (pv 0) (pa_cons pe_int pa_nil))) pe_int (nomark _))
          (pss_one (ps_set (i := 4) scThing.nd rfl (Or.inl rfl) (pe_op op_cat (pv 4) (pe_lst (pa_cons (pe_call GX hr rfl gP FP.kp bP .nil pass0 (pa_cons (pv 0) (pa_cons (show PE _ _ (tDat K (.list menuP)) from pd_lst (pd_cons (pd_bl pe_bl) (pd_cons (pd_bl pe_bl) (pd_cons (pd_non pe_non) (pd_cons (pd_str pe_str) (pd_cons (pd_tup (pd_cons (pd_int pe_int) pd_nil)) (pd_cons (pd_lst (pd_cons (pd_int pe_int) pd_nil)) pd_nil))))))) pa_nil))) pa_nil)))))
          pss_nil)
        (pss_one (ps_ret (pe_ix ix_list (pe_lst (pa_cons (pe_callTy call_tuple_of (by rfl) tt (by decide +kernel) (pa_cons (pv 4) pa_nil)) (pa_cons (pe_callTy call_tuple_of (by rfl) tt (by decide +kernel) (pa_cons (pv 4) pa_nil)) (pa_cons (pv 4) pa_nil)))) (pe_call GD hr1 rfl gD FD.kp bD .nil pass0 (pa_cons (pv 0) (pa_cons pe_int pa_nil))) (fun _ _ => rfl)))))))
        pss_nil)
      (pss_one (ps_ret (pe_call GX hr rfl gP FP.kp bP .nil pass0 (pa_cons (pv 0) (pa_cons (show PE _ _ (tDat K (.list menuE)) from pd_lst (pd_cons (pd_non pe_non) (pd_cons (pd_bl pe_bl) (pd_cons (pd_int pe_int) (pd_cons pd_dict0 (pd_cons (pd_tup (pd_cons (pd_str pe_str) pd_nil)) (pd_cons (pd_lst (pd_cons (pd_str pe_str) pd_nil)) (pd_cons (pd_int pe_int) (pd_cons (pd_tup pd_nil) (pd_cons (pd_lst pd_nil) (pd_cons (pd_dict1 pe_str pe_int) pd_nil))))))))))) pa_nil)))))))), ?_⟩
    obtain ⟨st0, hp0⟩ := hS.some
    refine ⟨_, rfl, p, 10, k, rfl, hS, by omega, by decide, by decide, fun H1 v v0 v1 b1 t1 => ?_⟩
    obtain ⟨st1, hp1⟩ := t1.some
    refine ⟨_, rfl, _, _, rfl, rfl, _, rfl, ite2 (fun _ => ?_) (fun _ => ?_)⟩
    · refine ⟨(by show 4 ≤ sizeLine; decide), fun S nS => ?_⟩
      generalize eS : upd H1 S _ = H2
      have yS : Same H1 H2 := eS ▸ smu nS
      have mS : H2 S = some (.lst (menuW.map V.str)) := eS ▸ upd_same
      have nSp : S ≠ p := (ne_of_none hp1 nS).symm
      refine ⟨_, rfl, p, 4, _, rfl, t1.same yS, by omega, by decide, by decide, fun H3 u u0 u1 b3 t3 => ?_⟩
      obtain ⟨u, rfl⟩ : ∃ u' : Nat, u = (u' : Int) := ⟨u.toNat, by omega⟩
      have hu : u < menuW.length := by show u < 4; omega
      refine ⟨S, _, _, V.str menuW[u], rfl, rfl, SqL.of (b3 _ _ nSp mS), atI_nat (by rw [List.getElem?_map, List.getElem?_eq_getElem hu] <;> rfl), ⟨_, rfl⟩, ?_⟩
      obtain ⟨z0, z1, z2, z3⟩ := menuW_ok _ (List.getElem_mem hu)
      generalize menuW[u] = z at z0 z1 z2 z3 ⊢
      have b03 : But p H H3 := (b1.same yS).trans b3
      refine ⟨_, rfl, p, 11, _, rfl, t3, by omega, by decide, by decide, fun H4 n n0 n1 b4 t4 => ⟨_, rfl, by omega, by omega, fun D nD => ?_⟩⟩
      obtain ⟨st4, hp4⟩ := t4.some
      have nDp : D ≠ p := (ne_of_none hp4 nD).symm
      refine lc_range (lo := 0) (n := n.toNat) (fun i G => But p H4 G ∧ StrAt G p (k + 1 + 1 + 1 + i) ∧ ∃ cs : List Nat, G D = some (.lst (cs.map fun c => V.str (sgn c))) ∧ cs.length = i ∧ ∀ c ∈ cs, c < 0x110000)
        ⟨fun b o _ e => (smu nD) _ _ e, t4.same (smu nD), [], upd_same, rfl, fun c hc => nomatch hc⟩ ?_ ?_
      · rintro i G hi ⟨bG, sG, cs, hD, hc1, hc2⟩
        refine ⟨rfl, yes_in ⟨_, rfl, _, rfl, p, z, _, rfl, sG, by omega, z0, z1, z2, fun G2 c hc b2 s2 => ?_⟩⟩
        have hD2 := b2 _ _ nDp hD
        refine ⟨_, hD2, (by rw [List.length_map, sizeLine_eq]; omega), fun b o n e => ?_, s2.keep fun o e => ?_, cs ++ [c], ?_, ?_, fun x hx => ?_⟩
        · rw [upd_ne (ne_of_none e nD)]
          exact b2 _ _ n (bG _ _ n e)
        · rw [upd_ne nDp.symm]
          exact e
        · rw [upd_same, List.map_append] <;> rfl
        · rw [List.length_append, hc1] <;> rfl
        · rcases List.mem_append.mp hx with h | h
          · exact hc2 x h
          · rw [List.mem_singleton.mp h]
            exact z3 c hc
      · rintro G ⟨bG, sG, cs, hD, hc1, hc2⟩
        refine ⟨"", D, cs.map sgn, rfl, rfl, .inl (by rw [List.map_map]; exact SqL.of hD), by rw [sum_ones, List.length_map]; show cs.length + cs.length * 0 ≤ 16777216; omega, ?_⟩
        refine fin G _ (.str (Txt.join "" (cs.map sgn))) ((b03.trans b4).trans bG) (sG.mono (by omega)) (.str _) ⟨⟨?_, fun c hc => ?_⟩, trivial⟩
        · show (Txt.join "" (cs.map sgn)).cps.size ≤ 1000
          rw [← Array.length_toList, join_ones]
          omega
        · rw [join_ones] at hc
          exact hc2 c hc
    · refine ⟨_, rfl, _, _, rfl, rfl, _, rfl, ite2 (fun _ => ?_) (fun _ => ?_)⟩
      · refine ⟨_, rfl, _, _, rfl, rfl, ⟨by decide, by decide, by decide⟩, _, _, rfl, rfl, ⟨by decide, by decide, by decide⟩, _, _, rfl, rfl, (by show 7 ≤ sizeLine; decide), fun S nS => ?_⟩
        generalize eS : upd H1 S _ = H2
        have yS : Same H1 H2 := eS ▸ smu nS
        have mS : H2 S = some (.lst (menuF.map V.int)) := eS ▸ upd_same
        have nSp : S ≠ p := (ne_of_none hp1 nS).symm
        refine ⟨_, rfl, p, 12, _, rfl, t1.same yS, by omega, by decide, by decide, fun H3 n n0 n1 b3 t3 => ⟨_, rfl, by omega, by omega, fun D nD => ?_⟩⟩
        obtain ⟨st3, hp3⟩ := t3.some
        have nDp : D ≠ p := (ne_of_none hp3 nD).symm
        have b03 : But p H H3 := (b1.same yS).trans b3
        refine lc_range (lo := 0) (n := n.toNat) (fun i G => But p H3 G ∧ StrAt G p (k + 1 + 1 + i) ∧ ∃ ns : List Int, G D = some (.lst (ns.map V.int)) ∧ ns.length = i)
          ⟨fun b o _ e => (smu nD) _ _ e, t3.same (smu nD), [], upd_same, rfl⟩ ?_ ?_
        · rintro i G hi ⟨bG, sG, ns, hD, hn⟩
          refine ⟨rfl, yes_in ⟨_, rfl, _, rfl, p, S, menuF.map V.int, _, rfl, sG, by omega, nSp.symm, SqL.of (bG _ _ nSp (b3 _ _ nSp mS)), by decide, by decide, fun G2 i2 x hx b2 s2 => ?_⟩⟩
          obtain ⟨m, rfl⟩ : ∃ m : Int, x = V.int m := by
            obtain ⟨m, _, e⟩ := List.mem_map.mp (List.mem_of_getElem? hx)
            exact ⟨m, e.symm⟩
          have hD2 := b2 _ _ nDp hD
          refine ⟨_, hD2, (by rw [List.length_map, sizeLine_eq]; omega), fun b o n e => ?_, s2.keep fun o e => ?_, ns ++ [m], ?_, ?_⟩
          · rw [upd_ne (ne_of_none e nD)]
            exact b2 _ _ n (bG _ _ n e)
          · rw [upd_ne nDp.symm]
            exact e
          · rw [upd_same, List.map_append] <;> rfl
          · rw [List.length_append, hn] <;> rfl
        · rintro G ⟨bG, sG, ns, hD, hn⟩
          have hp : ∃ st, G p = some (.lst st) := sG.some
          obtain ⟨stG, hpG⟩ := hp
          have b0G : But p H G := b03.trans bG
          refine ⟨_, rfl, p, 3, _, rfl, sG, by omega, by decide, by decide, fun H5 a a0 a1 b5 s5 => ⟨rfl, _, rfl, ?_⟩⟩
          have hD5 := b5 _ _ nDp hD
          have all5 : DtAll K (ct p H5) (ns.map V.int) (ns.map PyData.int) := LamK.dt_ints ns
          refine ite2 (fun _ => ?b1) (fun _ => ?b2)
          case' b1 =>
            refine ⟨_, rfl, _, rfl, fun H6 v6 y6 l6 => ?_⟩
            obtain ⟨st5, hp5⟩ := s5.some
            obtain ⟨nv6, d6⟩ := l6.2 p (by rw [hp5]; simp)
            refine ⟨p, v6, menuP, _, rfl, s5.same y6, by omega, nv6, d6, by decide, by decide, fun H7 i7 x7 d7 e7 dx7 b7 s7 => ?_⟩
            refine ⟨(by show 1 ≤ sizeLine; decide), fun E1 nE => ?_⟩
            obtain ⟨st7, hp7⟩ := s7.some
            obtain ⟨c8, m8⟩ := ct_new (p := p) (o := .lst [x7]) (by rw [hp7]; simp) nE (fun ps z => by cases z)
            have y8 := smu (o := .lst [x7]) nE
            generalize upd H7 E1 (.lst [x7]) = H8 at y8 c8 m8 ⊢
            have hD8 := y8 _ _ (b7 _ _ nDp (y6 _ _ hD5))
            refine ⟨D, E1, _, _, rfl, rfl, hD8, ct_all _ _ m8, by rw [List.length_map, sizeLine_eq]; show ns.length + 1 ≤ _; omega, fun L nL => ?_⟩
            have hp8 := y8 _ _ hp7
            obtain ⟨c9, m9⟩ := ct_new (p := p) (o := .lst (ns.map V.int ++ [x7])) (by rw [hp8]; simp) nL (fun ps z => by cases z)
            have y9 := smu (o := .lst (ns.map V.int ++ [x7])) nL
            have nLp : L ≠ p := (ne_of_none hp8 nL).symm
            generalize upd H8 L (.lst (ns.map V.int ++ [x7])) = G1 at y9 c9 m9 ⊢
            have bX : But p H G1 := (((((b0G.trans b5).same y6).trans b7).same y8).same y9)
            have sX : StrAt G1 p (k + 30) := ((s7.same y8).same y9).mono (by omega)
            have mL := ct_all _ _ m9
            have aX : DtAll K (ct p G1) (ns.map V.int ++ [x7]) (ns.map PyData.int ++ [d7]) := dt_app (LamK.dt_ints ns) (.cons (Dt.same (c8.trans c9) _ _ dx7) .nil)
            have lX : (ns.map PyData.int ++ [d7]).length ≤ 1000 := by rw [List.length_append, List.length_map]; show ns.length + 1 ≤ 1000; omega
            have okX : ∀ d ∈ ns.map PyData.int ++ [d7], okP d := fun d hd => by
              rcases List.mem_append.mp hd with h | h
              · obtain ⟨m, _, rfl⟩ := List.mem_map.mp h
                exact okP_int m
              · rw [List.mem_singleton.mp h]
                exact menuP_ok _ (List.mem_of_getElem? e7)
            generalize ns.map V.int ++ [x7] = vs at mL aX ⊢
            generalize ns.map PyData.int ++ [d7] = ds at aX lX okX
          case' b2 =>
            have bX : But p H H5 := b0G.trans b5
            have sX : StrAt H5 p (k + 30) := s5.mono (by omega)
            have mL := hD5
            have nLp := nDp
            have lX : (ns.map PyData.int).length ≤ 1000 := by rw [List.length_map]; omega
            have okX : ∀ d ∈ ns.map PyData.int, okP d := fun d hd => by
              obtain ⟨m, _, rfl⟩ := List.mem_map.mp hd
              exact okP_int m
            have aX := all5
            generalize ns.map V.int = vs at mL aX ⊢
            generalize ns.map PyData.int = ds at aX lX okX
            obtain ⟨G1, rfl⟩ : ∃ G1, G1 = H5 := ⟨_, rfl⟩
            obtain ⟨L, rfl⟩ : ∃ L, L = D := ⟨_, rfl⟩
          all_goals
            obtain ⟨stX, hpX⟩ := sX.some
            refine ⟨_, rfl, L, vs, rfl, .inl ⟨SqL.of mL, fun q1 n1 => ?_⟩⟩
            obtain ⟨c1, m1⟩ := ct_new (p := p) (o := .tup vs) (by rw [hpX]; simp) n1 (fun ps z => by cases z)
            have y1 := smu (o := .tup vs) n1
            generalize upd G1 q1 (.tup vs) = G2 at y1 c1 m1 ⊢
            have hp2 := y1 _ _ hpX
            refine ⟨_, rfl, L, vs, rfl, .inl ⟨SqL.of (y1 _ _ mL), fun q2 n2 => ?_⟩⟩
            obtain ⟨c2, m2⟩ := ct_new (p := p) (o := .tup vs) (by rw [hp2]; simp) n2 (fun ps z => by cases z)
            have y2 := smu (o := .tup vs) n2
            generalize upd G2 q2 (.tup vs) = G3 at y2 c2 m2 ⊢
            have hp3' := y2 _ _ hp2
            refine ⟨_, rfl, (by show 3 ≤ sizeLine; decide), fun q3 n3 => ?_⟩
            have y3 := smu (o := .lst [V.ref q1, V.ref q2, V.ref L]) n3
            have m3 := upd_same (H := G3) (a := q3) (o := .lst [V.ref q1, V.ref q2, V.ref L])
            have nq3 : q3 ≠ p := (ne_of_none hp3' n3).symm
            generalize upd G3 q3 (.lst [V.ref q1, V.ref q2, V.ref L]) = G4 at y3 m3 ⊢
            refine ⟨_, rfl, p, 3, _, rfl, ((sX.same y1).same y2).same y3, by omega, by decide, by decide, fun G5 e e0 e1 bE sE => ?_⟩
            have cE : Same (ct p G3) (ct p G5) := (ct_sm y3).trans (ct_but bE)
            have bT : But p H G5 := (((bX.same y1).same y2).same y3).trans bE
            have hcase : e = 0 ∨ e = 1 ∨ e = 2 := by omega
            have okTup : okD (.tuple ds) := ⟨trivial, lX, okX⟩
            have i1 : Dt K (ct p G5) (.ref q1) (.tuple ds) := Dt.same cE _ _ (.tup (SqT.of (c2 _ _ m1)) (Dt.sameAll (c1.trans c2) _ _ aX))
            have i2 : Dt K (ct p G5) (.ref q2) (.tuple ds) := Dt.same cE _ _ (.tup (SqT.of m2) (Dt.sameAll (c1.trans c2) _ _ aX))
            have i3 : Dt K (ct p G5) (.ref L) (.list ds) := Dt.same cE _ _ (.lst (SqL.of (ct_at (y2 _ _ (y1 _ _ mL)) nLp (fun ps z => by cases z))) (Dt.sameAll (c1.trans c2) _ _ aX))
            rcases hcase with rfl | rfl | rfl
            · exact ⟨q3, _, _, V.ref q1, rfl, rfl, SqL.of (bE _ _ nq3 m3), atI_nat (j := 0) rfl, fin G5 _ _ bT (sE.mono (by omega)) i1 okTup⟩
            · exact ⟨q3, _, _, V.ref q2, rfl, rfl, SqL.of (bE _ _ nq3 m3), atI_nat (j := 1) rfl, fin G5 _ _ bT (sE.mono (by omega)) i2 okTup⟩
            · exact ⟨q3, _, _, V.ref L, rfl, rfl, SqL.of (bE _ _ nq3 m3), atI_nat (j := 2) rfl, fin G5 _ _ bT (sE.mono (by omega)) i3 ⟨trivial, trivial⟩⟩
      · refine ⟨_, rfl, fun H6 v6 y6 l6 => ?_⟩
        obtain ⟨nv6, d6⟩ := l6.2 p (by rw [hp1]; simp)
        refine ⟨p, v6, menuE, _, rfl, t1.same y6, by omega, nv6, d6, by decide, by decide, fun H7 i7 x7 d7 e7 dx7 b7 s7 => ?_⟩
        exact fin H7 x7 d7 ((b1.same y6).trans b7) (s7.mono (by omega)) dx7 (menuE_ok _ (List.mem_of_getElem? e7))
end
end K01

/-! sorted of a set of tuples of any ints. -/
namespace Tq
open PySem PySem.Spec PySem.W PySem.Calls PyProof.Rows L2
def rowD (ns : List Int) : PyData := .tuple (ns.map PyData.int)
def leD : List Int → List Int → Bool := dataLe false rowD
/-- what a list of references stands for: the items of L in some order -/
theorem refs_perm {L : List (Addr × List Int)} (one : ∀ q ∈ L, ∀ r ∈ L, q.1 = r.1 → q = r) : ∀ {vs : List Value}, (∀ v ∈ vs, v ∈ L.map fun q => Value.ref q.1) → ∃ L1 : List (Addr × List Int), vs = L1.map (fun q => Value.ref q.1) ∧ (∀ q ∈ L1, q ∈ L)
  | [], _ => ⟨[], rfl, fun q hq => nomatch hq⟩
  | v :: vs, h => by
    obtain ⟨q, hq, rfl⟩ := List.mem_map.mp (h v List.mem_cons_self)
    obtain ⟨L1, e1, h1⟩ := refs_perm one fun u hu => h u (List.mem_cons_of_mem _ hu)
    exact ⟨q :: L1, by rw [e1] <;> rfl, fun r hr => (List.mem_cons.mp hr).elim (fun e => e ▸ hq) (h1 r)⟩
theorem perm_of_refs {L L1 : List (Addr × List Int)} (one : ∀ q ∈ L, ∀ r ∈ L, q.1 = r.1 → q = r) (nd : L.Nodup) (sub : ∀ q ∈ L1, q ∈ L) (p : (L1.map fun q => Value.ref q.1).Perm (L.map fun q => Value.ref q.1)) : L1.Perm L := by
  have key : ∀ M : List (Addr × List Int), M.Nodup → (∀ q ∈ M, q ∈ L) → (M.map fun q => Value.ref q.1).Nodup := fun M hM hs => by
    rw [List.Nodup, List.pairwise_map]
    exact hM.imp_of_mem fun {a b} ha hb ne e => ne (one a (hs a ha) b (hs b hb) (by injection e))
  have n2 := p.nodup_iff.mpr (key L nd fun _ h => h)
  have n1 : L1.Nodup := by
    rw [List.Nodup, List.pairwise_map] at n2
    exact n2.imp fun {a b} h e => h (by rw [e])
  refine (List.perm_ext_iff_of_nodup n1 nd).mpr fun q => ⟨sub q, fun hq => ?_⟩
  obtain ⟨r, hr, e⟩ := List.mem_map.mp (p.mem_iff.mpr (List.mem_map_of_mem hq))
  have e2 : r.1 = q.1 := by injection e
  exact one r (sub r hr) q hq e2 ▸ hr
theorem alike_rows (x y : List Int) : alike (rowD x) (rowD y) = true := alike_ints x y
section
variable {P : Program} {w : World} {A : Around} {E : Value → Shared → Prop} {s : Shared} {a : Addr} {L : List (Addr × List Int)} {es : Array (Int × Value)} {ep : Nat} {t : SetTable}
theorem sorted_setTA {Q : Value → Shared → Prop} (R : SetTR P w s.heap a L es ep t) (hh : A.handled = none) (hne : (∀ p ∈ L, p.2 ≠ []) ∨ L.length ≤ 1) (hu : A.units + 64 < cLine) (hr : ∀ q ∈ L, ∃ as, Reads s.heap (.ref q.1) (rowD q.2) as)
    (hQ : ∀ (s' : Shared) (p : Addr) (c : Nat) (L1 : List (Addr × List Int)), (∀ b o, s.heap.get? b = some o → s'.heap.get? b = some o) → s'.gens = s.gens → s'.os = s.os → s.heap.objs.size ≤ p →
      s'.heap.get? p = some (seqObj "list" ((L1.mergeSort (dataLe false fun q : Addr × List Int => rowD q.2)).map fun q => Value.ref q.1).toArray c) → L1.Perm L → Q (.ref p) s') :
    wpAny (model P w) A (call (.builtin "sorted") [.ref a]) Q E s := by
  obtain ⟨o, ho, hex, hd⟩ := R.ob
  have hsz := R.size; have hfew := R.few
  have hes : es.toList.map (·.2) = L.map fun q => Value.ref q.1 := by
    rw [R.rows, L2.rowsOf, List.map_map] <;> rfl
  have one : ∀ q ∈ L, ∀ r ∈ L, q.1 = r.1 → q = r := fun q hq r hr e => Prod.ext e (by
    have z := R.tup q hq
    rw [e] at z
    exact z.inj (R.tup r hr))
  have nd : L.Nodup := by
    have z := R.nd
    rw [List.Nodup, List.pairwise_map] at z
    exact z.imp fun {a b} h e => h (by rw [e])
  refine Calls.call_function_entry (id := "sorted") kind_sorted plain_sorted entry_sorted (args_sorted1 (.ref a)) ?_
  unfold Builtin.«sorted»
  refine wpAny_bind (m := checkCount "sorted" 1 1 _) (wpAny_pure (wpAny_bind ?_))
  refine collect_set (A := A.in1) hh ⟨o, ho, hex.1, hd⟩ R.fits (by rw [hsz]; unfold scanBound; omega) R.tab.ris R.led (fun s1 vs k1 hz g1 o1 pm => ?_)
  rw [hes] at pm
  obtain ⟨L1, rfl, sub⟩ := refs_perm one fun v hv => pm.mem_iff.mp hv
  have pL := perm_of_refs one nd sub pm
  have hl : (L1.map fun q => Value.ref q.1).length = L.length := by rw [List.length_map, pL.length_eq]
  refine wpAny_bind (wpAny_newList ?_ (by rw [hl, sizeLine_eq]; omega))
  have hL : (s1.heap.push (seqObj "list" (L1.map fun q => Value.ref q.1).toArray 0)).get? s1.heap.objs.size = some (seqObj "list" (L1.map fun q => Value.ref q.1).toArray 0) := Heap.get?_push_size s1.heap rfl
  generalize hvs : (L1.map fun q => Value.ref q.1) = vs at hl hL pm
  have old : ∀ b o, s.heap.get? b = some o → (sortingHeap (s1.heap.push (seqObj "list" vs.toArray 0)) s1.heap.objs.size vs).get? b = some o := fun b o e => by
    have e1 := k1 b o e
    exact sortingHeap_old (Nat.ne_of_lt (Heap.lt_size e1)) (Heap.get?_push_of_some _ e1)
  have er : EachIs (fun (v : Value) (q : Addr × List Int) => ∃ as, Reads (sortingHeap (s1.heap.push (seqObj "list" vs.toArray 0)) s1.heap.objs.size vs) v (rowD q.2) as) vs L1 := by
    generalize sortingHeap (s1.heap.push (seqObj "list" vs.toArray 0)) s1.heap.objs.size vs = hz at old ⊢
    rw [← hvs]
    clear hvs hl hL pm pL
    revert sub
    induction L1 with
    | nil => exact fun _ => .nil
    | cons q r ih =>
      intro sub
      obtain ⟨as, h⟩ := hr q (sub q List.mem_cons_self)
      exact .cons ⟨as, PyProof.Rows.Reads.keeps (fun b o e => old b o e) h⟩ (ih fun z hz => sub z (List.mem_cons_of_mem _ hz))
  have ee : EachIs (fun (v : Value) (q : Addr × List Int) => v = Value.ref q.1) vs L1 := by
    rw [← hvs]
    clear hvs hl hL pm pL sub er old
    induction L1 with
    | nil => exact .nil
    | cons q r ih => exact .cons rfl ih
  have hal : AllAlike (L1.map fun q => rowD q.2) := AllAlike.of fun b b' => alike_rows b.2 b'.2
  have hdep : ∀ d, d ∈ L1.map (fun q : Addr × List Int => rowD q.2) → A.in1.units + 1 + d.depth < cLine := fun d hd => by
    obtain ⟨q, _, rfl⟩ := List.mem_map.mp hd
    have z : (rowD q.2).depth ≤ 2 := by
      show PyData.depthAll (q.2.map PyData.int) + 1 ≤ 2
      rw [depth_ints]
      omega
    show A.units + 1 + 1 + _ < cLine
    omega
  have er2 := each_map (R := fun v d => ∃ as, Reads (sortingHeap (s1.heap.push (seqObj "list" vs.toArray 0)) s1.heap.objs.size vs) v d as) (fun q : Addr × List Int => rowD q.2) er
  have S : SortsAt P w A.in1.in1 { s1 with heap := sortingHeap (s1.heap.push (seqObj "list" vs.toArray 0)) s1.heap.objs.size vs } (dataKind (sortingHeap (s1.heap.push (seqObj "list" vs.toArray 0)) s1.heap.objs.size vs) (L1.map fun q => rowD q.2)) vs := by
    rcases hne with h | h
    · exact SortsAt.data (s := { s1 with heap := sortingHeap (s1.heap.push (seqObj "list" vs.toArray 0)) s1.heap.objs.size vs }) er2 hal (.inl fun d hd => by
        obtain ⟨q, hq, rfl⟩ := List.mem_map.mp hd
        have z := h q (sub q hq)
        unfold rowD
        cases e : q.2 with
        | nil => exact absurd e z
        | cons x r => exact ⟨_, _, rfl⟩) hdep
    · exact SoK.sorts_one (s := { s1 with heap := sortingHeap (s1.heap.push (seqObj "list" vs.toArray 0)) s1.heap.objs.size vs }) er2 hal (fun d hd z => by
        obtain ⟨q, _, rfl⟩ := List.mem_map.mp hd
        cases z) (by rw [List.length_map, pL.length_eq]; exact h) hdep
  have sv := sortVals_data (enc := fun q : Addr × List Int => rowD q.2) false ee er hal
  refine wpAny_bind (wpAny_holding ?_)
  refine wpAny_call_entry slot_list_sort ⟨_, hL, rfl⟩ entry_list_sort (list_sort_vals (s := { s1 with heap := s1.heap.push (seqObj "list" vs.toArray 0) }) hL S (by rw [hl, sizeLine_eq]; omega) ⟨_, rfl, ?_⟩) (args_list_sort (.ref s1.heap.objs.size))
  have out : sortVals (dataKind (sortingHeap (s1.heap.push (seqObj "list" vs.toArray 0)) s1.heap.objs.size vs) (L1.map fun q => rowD q.2)) false vs vs = (L1.mergeSort (dataLe false fun q : Addr × List Int => rowD q.2)).map fun q => Value.ref q.1 := by
    generalize sortVals _ false vs vs = z at sv ⊢
    generalize L1.mergeSort _ = M at sv ⊢
    clear hQ hL S er er2 ee old hal hdep pL sub hl pm hvs
    induction sv with
    | nil => rfl
    | cons h t ih => rw [h, ih] <;> rfl
  rw [out]
  obtain ⟨c, hc⟩ := sortedHeap_at (vs := vs) (out := ((L1.mergeSort (dataLe false fun q : Addr × List Int => rowD q.2)).map fun q => Value.ref q.1).toArray) hL
  refine wpAny_pure ⟨_, rfl, hQ _ s1.heap.objs.size c L1 (fun b u e => ?_) g1 o1 hz hc pL⟩
  have e1 := k1 b u e
  have lt := Heap.lt_size e1
  exact (sortedHeap_old (Nat.ne_of_lt lt) (by rw [size_push']; exact Nat.lt_succ_of_lt lt)).trans (Heap.get?_push_of_some _ e1)
end
/-- sorted(set), the set's items tuples of ints -/
def rSortedTA (K : PySem.W.Frag) (P : Program) (w : World) : List V → Hp → VK → Prop := fun vs H Q => ∃ (a : Addr) (L : List (Addr × List Int)), vs = [V.ref a] ∧ H a = some (SetTO P w a L) ∧ (∀ p ∈ L, SqT K H p.1 (p.2.map V.int)) ∧
  ((L.map (·.2)).Nodup → L.length < 64 → ((∀ p ∈ L, p.2 ≠ []) ∨ L.length ≤ 1) ∧ ∀ (L1 : List (Addr × List Int)) (p : Addr), L1.Perm L → H p = none → Q (.ref p) (upd H p (.lst ((L1.mergeSort fun q r => leD q.2 r.2).map fun q => V.ref q.1))))
theorem refs_vals : ∀ L : List (Addr × List Int), Vals (L.map fun q => V.ref q.1) (L.map fun q => Value.ref q.1)
  | [] => .nil
  | _ :: r => .cons rfl (refs_vals r)
theorem dpi {K : PySem.W.Frag} {H : Hp} : ∀ ns : List Int, DpAll K H (ns.map V.int) (ns.map PyData.int)
  | [] => .nil
  | n :: r => .cons (.int n) (dpi r)
theorem cr_sortedTA {X : Cx} (hc : X.calm = true) (hu : X.A.units + 64 < cLine) : CallR X (.builtin "sorted") (rSortedTA X.K X.prog X.w) := by
  intro pins s σ H vs us Q I r h
  obtain ⟨a, L, rfl, ha, hk, q⟩ := h
  obtain ⟨es, ep, t, R⟩ := (show SetT0 X.prog X.w s.heap a L from (I.hok a _ ha).1).full fun p hp => I.isT (hk p hp)
  rw [Vals.ref1 r]
  obtain ⟨hne, q⟩ := q R.nd R.few
  refine sorted_setTA R (I.ok.hd hc) hne hu (fun z hz => Dp.reads I (rowD z.2) (.ref z.1) (.ref z.1) (.tup (hk z hz) (dpi z.2)) rfl) fun s' p c L1 k g o hp hg pm => ?_
  have hn : H p = none := I.hok.fresh hp
  have J : Inv X pins σ (upd H p (.lst ((L1.mergeSort fun q r => leD q.2 r.2).map fun q => V.ref q.1))) { s with heap := s'.heap, gens := s'.gens, drawn := s'.drawn, toks := s'.toks } :=
    I.call (ch := []) (Un.laid k hp hn) (I.hok.laid k hp ⟨by rw [List.length_map, List.length_mergeSort, pm.length_eq, sizeLine_eq]; have := R.few; omega, _, c, refs_vals _, hg⟩) (by rw [g]; exact I.bare) (fun _ z => nomatch z)
  have e : s' = { s with heap := s'.heap, gens := s'.gens, drawn := s'.drawn, toks := s'.toks } := by
    cases s'
    cases s
    cases o
    rfl
  rw [e]
  exact ⟨.ref p, _, J, rfl, q L1 p pm hn⟩
end Tq

/-! sorted rows: the mathematics of _law_rows_right. -/
namespace K01
open PySem PySem.Spec PySem.W PyProof.Rows L2 Rw
theorem all_pairs {α : Type} {f : α → α → Bool} : ∀ {xs : List α}, xs.Pairwise (fun a b => f a b = true) → (List.zipWith f xs (xs.drop 1)).all id = true
  | [], _ => rfl
  | [_], _ => rfl
  | x :: y :: r, h => by
    obtain ⟨h1, h2⟩ := List.pairwise_cons.mp h
    have ih := all_pairs h2
    show (f x y && (List.zipWith f (y :: r) r).all id) = true
    rw [h1 y List.mem_cons_self, Bool.true_and]
    exact ih
theorem sort_pair (ds : List Int) (L : List (List Int)) : (sortRows ds L).Pairwise (fun a b => leK ds a b = true) :=
  List.pairwise_mergeSort (le := leK ds) (le_total ds).trans (fun a b => by rcases (le_total ds).total a b with q | q <;> rw [q] <;> simp) (rowsOnce L)
theorem sort_once (ds : List Int) (L : List (List Int)) : (sortRows ds L).Perm (rowsOnce L) := List.mergeSort_perm _ _
theorem sort_mem {ds : List Int} {L : List (List Int)} {a : List Int} : a ∈ sortRows ds L ↔ a ∈ L := (sort_once ds L).mem_iff.trans once_mem
theorem sort_nodup (ds : List Int) (L : List (List Int)) : (sortRows ds L).Nodup := (sort_once ds L).nodup_iff.mpr (once_nodup L)
theorem sort_len (ds : List Int) (L : List (List Int)) : (sortRows ds L).length ≤ L.length := by
  rw [(sort_once ds L).length_eq]
  exact once_len L
/-- what is sorted, each once, and has the same rows, is the same -/
theorem sort_eq {ds : List Int} {m : Nat} {L M : List (List Int)} (hm : ∀ a ∈ L, a.length = m) (hp : M.Pairwise (fun a b => leK ds a b = true)) (hn : M.Nodup) (he : ∀ a, a ∈ M ↔ a ∈ L) : M = sortRows ds L := by
  have pm : M.Perm (sortRows ds L) := (List.perm_ext_iff_of_nodup hn (sort_nodup ds L)).mpr fun a => (he a).trans sort_mem.symm
  refine List.Perm.eq_of_pairwise (le := fun a b => leK ds a b = true) (fun a b ha hb q1 q2 => ?_) hp (sort_pair ds L) pm
  exact le_anti ((hm a ((he a).mp ha)).trans (hm b (sort_mem.mp hb)).symm) q1 q2
theorem sort_perm {ds : List Int} {m : Nat} {L L' : List (List Int)} (hm : ∀ a ∈ L, a.length = m) (h : L'.Perm L) : sortRows ds L' = sortRows ds L :=
  sort_eq hm (sort_pair ds L') (sort_nodup ds L') fun a => sort_mem.trans h.mem_iff
theorem sort_sort {ds : List Int} {m : Nat} {L : List (List Int)} (hm : ∀ a ∈ L, a.length = m) : sortRows ds (sortRows ds L) = sortRows ds L :=
  sort_eq hm (sort_pair ds _) (sort_nodup ds _) fun a => sort_mem.trans sort_mem
theorem sort_asc {ds : List Int} {m : Nat} {L : List (List Int)} (hm : ∀ a ∈ L, a.length = m) : ascL ((sortRows ds L).map (sk ds)) = true := by
  have h : (sortRows ds L).Pairwise (fun a b => ahead ds a b = true) := by
    have h1 := sort_pair ds L
    have h2 := sort_nodup ds L
    refine ((h1.and h2).imp_of_mem fun {a b} ha hb ⟨q1, q2⟩ => ?_)
    cases e : ahead ds a b with
    | true => rfl
    | false =>
      rw [le_key, Bool.not_eq_true'] at q1
      exact absurd (ahead_tot ((hm a (sort_mem.mp ha)).trans (hm b (sort_mem.mp hb)).symm) e q1) q2
  exact all_pairs (List.pairwise_map.mpr h)
theorem sk_nil : ∀ xs : List Int, sk [] xs = xs := fun xs => by
  have e : sk [] xs = xs.zipIdx.map Prod.fst := rfl
  rw [e]
  simp
theorem leD_leK : Tq.leD = leK [] := by
  funext a b
  show dataLe false Tq.rowD a b = dataLe false (fun ns => LamK.keyD (sk [] ns)) a b
  have e : (fun ns => LamK.keyD (sk [] ns)) = Tq.rowD := by
    funext ns
    rw [sk_nil] <;> rfl
  rw [e]
/-- sorted(set(lines)) -/
theorem set_sort {m : Nat} {L : List (List Int)} {L1 : List (Addr × List Int)} (hm : ∀ a ∈ L, a.length = m) (hn : (L1.map (·.2)).Nodup) (he : ∀ a, a ∈ L1.map (·.2) ↔ a ∈ L) : (L1.mergeSort fun q r => Tq.leD q.2 r.2).map (·.2) = sortRows [] L := by
  have e : (L1.mergeSort fun q r => Tq.leD q.2 r.2).map (·.2) = (L1.map (·.2)).mergeSort (leK []) := by
    rw [leD_leK]
    exact List.map_mergeSort (fun a _ b _ => rfl)
  rw [e]
  refine sort_eq hm (List.pairwise_mergeSort (le := leK []) (le_total []).trans (fun a b => by rcases (le_total []).total a b with q | q <;> rw [q] <;> simp) _) ((List.mergeSort_perm _ _).nodup_iff.mpr hn) fun a => (List.mergeSort_perm _ _).mem_iff.trans (he a)
theorem all_isI (ns : List Int) : (ns.map PyData.int).all isI = true := by
  rw [List.all_map]
  exact List.all_eq_true.mpr fun _ _ => rfl
theorem areI_key (ns : List Int) : areI (.tuple (ns.map PyData.int)) = true := all_isI ns
theorem ivs_key (ns : List Int) : ivs (.tuple (ns.map PyData.int)) = ns := by
  show (ns.map PyData.int).map iv = ns
  rw [List.map_map]
  exact List.map_id ns
theorem rowsOk_of {m : Nat} {L : List (List Int)} (hm : ∀ a ∈ L, a.length = m) (h10 : m ≤ 10) : rowsOk (.tuple (L.map fun ns => .tuple (ns.map PyData.int))) = true := by
  show ((L.map fun ns => PyData.tuple (ns.map PyData.int)).all areI && wideOk ((L.map fun ns => PyData.tuple (ns.map PyData.int)).map fun d => (its d).length)) = true
  have e1 : (L.map fun ns => PyData.tuple (ns.map PyData.int)).all areI = true := by
    rw [List.all_map]
    exact List.all_eq_true.mpr fun a _ => areI_key a
  have e2 : (L.map fun ns => PyData.tuple (ns.map PyData.int)).map (fun d => (its d).length) = L.map List.length := by
    rw [List.map_map]
    refine List.map_congr_left fun a _ => ?_
    show (a.map PyData.int).length = a.length
    exact List.length_map _
  rw [e1, e2, Bool.true_and]
  cases L with
  | nil => rfl
  | cons a r =>
    rw [wide_all (m := m) (fun n hn => by
      obtain ⟨b, hb, rfl⟩ := List.mem_map.mp hn
      exact hm b hb) (by simp)]
    exact decide_eq_true h10
theorem down_of {ds : List Int} (h1 : ds.Pairwise (· < ·)) (h2 : ∀ x ∈ ds, 0 ≤ x ∧ x < 10) : downOk (.tuple (ds.map PyData.int)) = true := by
  unfold downOk
  rw [areI_key, ivs_key, Bool.true_and]
  have e1 : asc ds = true := all_pairs (h1.imp fun {a b} q => decide_eq_true q)
  have e2 : inRange ds = true := List.all_eq_true.mpr fun x hx => by
    have := h2 x hx
    rw [decide_eq_true this.1, decide_eq_true this.2] <;> rfl
  rw [e1, e2] <;> rfl
theorem keys_of (ds : List Int) (L : List (List Int)) : keys (.tuple (ds.map PyData.int)) (.tuple (L.map fun ns => .tuple (ns.map PyData.int))) = L.map (sk ds) := by
  show (L.map fun ns => PyData.tuple (ns.map PyData.int)).map (fun z => sk (ivs (.tuple (ds.map PyData.int))) (ivs z)) = L.map (sk ds)
  rw [List.map_map]
  refine List.map_congr_left fun a _ => ?_
  show sk (ivs (.tuple (ds.map PyData.int))) (ivs (.tuple (a.map PyData.int))) = sk ds a
  rw [ivs_key, ivs_key]
theorem place_of_eq (ds : List Int) (L : List (List Int)) (e : List Int) : placeN (.tuple (ds.map PyData.int)) (.tuple (L.map fun ns => .tuple (ns.map PyData.int))) (.tuple (e.map PyData.int)) = (L.filter fun m => ahead ds m e).length := by
  unfold placeN
  rw [keys_of, ivs_key, ivs_key, List.filter_map, List.length_map] <;> rfl
theorem before_eq (ds a b : List Int) : HT.lexLt (sk (ivs (.tuple (ds.map PyData.int))) (ivs (.tuple (a.map PyData.int)))) (sk (ivs (.tuple (ds.map PyData.int))) (ivs (.tuple (b.map PyData.int)))) = ahead ds a b := by
  rw [ivs_key, ivs_key, ivs_key] <;> rfl
open Rp in
theorem sz_int {n : Int} (h : n.natAbs ≤ 10 ^ 39 + 8) : Sz 0 1921 (.int n) := by
  have e : n.natAbs.log2 < 1920 := by
    by_cases z : n.natAbs = 0
    · rw [z]; decide
    · exact (Nat.log2_lt z).mpr (Nat.lt_of_le_of_lt h (by decide +kernel))
  exact ⟨decide_eq_true e, Nat.le_refl _, PyProof.Rows.int_text_len_1921 e⟩
open Rp in
theorem sz_row {ns : List Int} (h : ∀ n ∈ ns, n.natAbs ≤ 10 ^ 39 + 8) (hl : ns.length ≤ 10) : Sz 1 19233 (.tuple (ns.map PyData.int)) :=
  sz_tuple (e := 0) (b := 1921) (c := 10) (fun d hd => by
    obtain ⟨n, hn, rfl⟩ := List.mem_map.mp hd
    exact sz_int (h n hn)) (by rw [List.length_map]; exact hl)
open Rp in
theorem sz_rows {L : List (List Int)} (h : ∀ ns ∈ L, (∀ n ∈ ns, n.natAbs ≤ 10 ^ 39 + 8) ∧ ns.length ≤ 10) (hl : L.length ≤ 100) : Sz 2 1923503 (.tuple (L.map fun ns => .tuple (ns.map PyData.int))) :=
  sz_tuple (e := 1) (b := 19233) (c := 100) (fun d hd => by
    obtain ⟨n, hn, rfl⟩ := List.mem_map.mp hd
    exact sz_row (h n hn).1 (h n hn).2) (by rw [List.length_map]; exact hl)
/-- a permutation of images is an image of a permutation -/
theorem perm_image {α β : Type} {f : α → β} {xs ys : List β} (h : xs.Perm ys) : ∀ {as : List α}, xs = as.map f → ∃ bs : List α, bs.Perm as ∧ ys = bs.map f := by
  induction h with
  | nil => exact fun {as} e => ⟨as, List.Perm.refl _, e⟩
  | cons x _ ih =>
    intro as e
    cases as with
    | nil => cases e
    | cons a r =>
      rw [List.map_cons, List.cons.injEq] at e
      obtain ⟨bs, p, q⟩ := ih e.2
      exact ⟨a :: bs, p.cons a, by rw [List.map_cons, e.1, q]⟩
  | swap x y l =>
    intro as e
    match as, e with
    | [], e => cases e
    | [_], e => cases e
    | a :: b :: r, e =>
      rw [List.map_cons, List.map_cons, List.cons.injEq, List.cons.injEq] at e
      exact ⟨b :: a :: r, List.Perm.swap a b r, by rw [List.map_cons, List.map_cons, e.1, e.2.1, e.2.2]⟩
  | trans _ _ ih1 ih2 =>
    intro as e
    obtain ⟨bs, p, q⟩ := ih1 e
    obtain ⟨cs, p2, q2⟩ := ih2 q
    exact ⟨cs, p2.trans p, q2⟩
theorem RowsAt.same {H H' : Hp} {zs : List (Addr × List Int)} (h : RowsAt H zs) (s : Same H H') : RowsAt H' zs := fun z hz => s _ _ (h z hz)
end K01

/-! _law_rows_right. -/
namespace K01
open PySem PySem.Spec PyProof.Rows L2 Dr Ex Rp LamX Rw
open He (ga ma)
theorem passX {P : Program} {w : World} {X : Cx} : Passes (L2.CX P w) X E0 := fun _ _ _ _ _ _ _ h => by
  obtain ⟨_, _, _, _, _, _, _, _, _, _, _, _, z⟩ := h
  exact z.elim
structure Fns4 (K : PySem.W.Frag) (mg : Str → Option Value) : Prop where
  a : Fns2 K mg
  fw : ∃ fd, FnP K "_law_draw" sDraw (ga K "_law_draw") fd
  fp : ∃ fd, FnP K "_law_pick" sPick (ga K "_law_pick") fd
  fm : ∃ fd, FnP K "_law_mixed" sMixed (ga K "_law_mixed") fd
  fa : ∃ fd, FnP K "_law_ahead" sAhead (ga K "_law_ahead") fd
  fo : ∃ fd, FnP K "_law_sorted" sSortL (ga K "_law_sorted") fd
  fl : ∃ fd, FnP K "_law_lines" sLines (ga K "_law_lines") fd
  sys : SysD K
abbrev nRowsR : List Str := ["_law_stream_here", "_law_much", "_law_lines_here", "_law_turned", "_law_due", "_law_told", "_law_mixed_here", "_law_line", "_law_place", "_law_other", "_law_plain", "_law_at", "_law_one"]
theorem scRowsR : FnScope nRowsR ["_law_stream_here"] (defScope sRowsR) := ⟨rfl, rfl, rfl, by decide +kernel, rfl, by decide +kernel, by decide +kernel⟩
def spRR (K : PySem.W.Frag) (Tb : List (Addr × Str)) : Sp := fun vs H Q _ => ∃ (p : Addr) (k : Nat), vs = [.ref p] ∧ StrAt H p k ∧ k ≤ 70000 ∧ Tabs Tb H ∧
  ∀ H', Same (ct p H) (ct p H') → StrAt H' p (k + 400) → Tabs Tb H' → Q (.bl true) H'
def menuM : List Int := [0, 1, 2, 2, 3, 3, 4, 6, 9, 10]
theorem menuM_ok : ∀ n ∈ menuM, 0 ≤ n ∧ n ≤ 10 := by decide +kernel
theorem rows_ct {H : Hp} {p : Addr} {k : Nat} {zs : List (Addr × List Int)} (s : StrAt H p k) (h : RowsAt H zs) : RowsAt (ct p H) zs := fun z hz => by
  obtain ⟨st, hp⟩ := s.some
  exact ct_at (h z hz) (ne_of (h z hz) hp (fun e => by cases e)) (fun ps e => by cases e)
theorem dt_rows {K : PySem.W.Frag} {H : Hp} {zs : List (Addr × List Int)} (h : RowsAt H zs) : DtAll K H (refs zs) ((zs.map (·.2)).map fun ns => .tuple (ns.map PyData.int)) := by
  rw [List.map_map]
  exact rows_data h
theorem StrAt.ext {H H' : Hp} {p : Addr} {m : Nat} (s : StrAt H p m) (e : ExtN H H') : StrAt H' p m := by
  obtain ⟨st, hp⟩ := s.some
  exact s.keep fun o h => e p o h fun ps z => by rw [hp] at h; rw [z] at h; cases h
theorem shaped_tups (L : List (List Int)) : SeqAt.shaped (.tuple (L.map fun ns => .tuple (ns.map PyData.int))) = true := by
  have h := shaped_keys L
  unfold SeqAt.shaped at h ⊢
  simp only [PyData.canLay0, PyData.depth] at h ⊢
  exact h
theorem dp_rows' {K : PySem.W.Frag} {H : Hp} {zs : List (Addr × List Int)} (h : RowsAt H zs) : DpAll K H (refs zs) ((zs.map (·.2)).map fun ns => .tuple (ns.map PyData.int)) := dp_rows h
section
variable {P : Program} {w : World} {K : PySem.W.Frag} {mg : Str → Option Value} {base : Heap}
theorem ok_rowsR {Tb : List (Addr × Str)} {fd : FuncData} (F : FnP K "_law_rows_right" sRowsR (ga K "_law_rows_right") fd) (B : Fns4 K mg) (T : TG K mg) (M : EF K) (TB : TabB base mg (He.codeOf K ("sorted_rows", none)) (He.tabOf K (He.codeOf K ("sorted_rows", none))))
    (hmT : (He.tabOf K (He.codeOf K ("sorted_rows", none)), qSorted) ∈ Tb) (huT : ∀ z ∈ Tb, z.1 = He.tabOf K (He.codeOf K ("sorted_rows", none)) → z.2 = qSorted) :
    FnG P w K mg base CX0 6 (ga K "_law_rows_right") fd ["_law_stream_here"] (spRR K Tb) := by
  obtain ⟨dw, FW⟩ := B.fw
  obtain ⟨dp, FP⟩ := B.fp
  obtain ⟨dm, FM⟩ := B.fm
  obtain ⟨da, FA⟩ := B.fa
  obtain ⟨dO, FO⟩ := B.fo
  obtain ⟨dl, FL⟩ := B.fl
  obtain ⟨eb, FB⟩ := B.a.fb
  obtain ⟨es, FS⟩ := B.a.fs
  obtain ⟨ep, FQ⟩ := B.a.fp
  have gW := T.g "_law_draw" (by decide +kernel)
  have gP := T.g "_law_pick" (by decide +kernel)
  have gM := T.g "_law_mixed" (by decide +kernel)
  have gA := T.g "_law_ahead" (by decide +kernel)
  have gO := T.g "_law_sorted" (by decide +kernel)
  have gL := T.g "_law_lines" (by decide +kernel)
  have tr := T.f "range" (by decide +kernel)
  have tt := T.f "tuple" (by decide +kernel)
  have te := T.f "repr" (by decide +kernel)
  have tl := T.f "len" (by decide +kernel)
  have ts := T.f "sorted" (by decide +kernel)
  have tz := T.f "set" (by decide +kernel)
  have GW : FnOk P w K mg base CX0 1 _ dw ["_law_stream_here", "_law_high"] spDraw := ok_draw FW T
  have bW : Binds K dw ["_law_stream_here", "_law_high"] [] := FW.bindsN fun _ _ _ _ _ _ us hl => match us, hl with | [_, _], _ => rfl
  have GP : FnOk P w K mg base CX0 2 _ dp ["_law_stream_here", "_law_items"] (spPick K) := ok_pick FP FW T gW
  have bP : Binds K dp ["_law_stream_here", "_law_items"] [] := FP.bindsN fun _ _ _ _ _ _ us hl => match us, hl with | [_, _], _ => rfl
  have GM : FnOk P w K mg base CX0 2 _ dm ["_law_stream_here", "_law_items"] (spMixed K) := ok_mixed FM FW T gW
  have bM : Binds K dm ["_law_stream_here", "_law_items"] [] := FM.bindsN fun _ _ _ _ _ _ us hl => match us, hl with | [_, _], _ => rfl
  have GA : FnOk P w K mg base CX0 1 _ da ["_law_line", "_law_other", "_law_turned"] (spAhead K) := ok_ahead FA T
  have bA : Binds K da ["_law_line", "_law_other", "_law_turned"] [] := FA.bindsN fun _ _ _ _ _ _ us hl => match us, hl with | [_, _, _], _ => rfl
  have GO : FnOk P w K mg base CX0 2 _ dO ["_law_lines_here", "_law_turned"] (spSortL K) := ok_sortL FO FA T gA
  have bO : Binds K dO ["_law_lines_here", "_law_turned"] [] := FO.bindsN fun _ _ _ _ _ _ us hl => match us, hl with | [_, _], _ => rfl
  have GL : FnOk P w K mg base CX0 3 _ dl ["_law_stream_here", "_law_much"] (spLines K) := ok_lines FL FW FP T gW gP
  have bL : Binds K dl ["_law_stream_here", "_law_much"] [] := FL.bindsN fun _ _ _ _ _ _ us hl => match us, hl with | [_, _], _ => rfl
  have GB : FnOk P w K mg base (L2.CX P w) 4 _ eb ["row", "other", "down"] (spBefore K) := ok_before FB B.a.b T M
  have GS : FnOk P w K mg base (L2.CX P w) 5 _ es ["rows", "down"] (spSortT K Tb) := ok_sortT FS B.a.b T M B.sys TB hmT huT
  have GQ : FnOk P w K mg base (L2.CX P w) 4 _ ep ["rows", "row", "down"] (spPlace K) := ok_place FQ B.a.b T M
  have kB := kb_before FB
  have kS := kb_sorted FS
  have kQ := kb_place FQ
  obtain ⟨vB, rB, cB⟩ := b0_before FB
  obtain ⟨vS, rS, cS⟩ := b0_sorted FS
  refine Rp.FunD.okG F scRowsR (fun vs H Q E h => ?_) (fun cdv A outer s H vs Q E hr hg h => ?_)
  · obtain ⟨p, k, rfl, _⟩ := h
    rfl
  · obtain ⟨p, k, rfl, hS, hk, hT, fin⟩ := h
    have hr1 : Room 1 (A.deeper (envOfC "_law_rows_right" (defScope sRowsR) s.heap.objs.size (ga K "_law_rows_right") cdv)) := hr.mono (by decide)
    have hr2 : Room 2 (A.deeper (envOfC "_law_rows_right" (defScope sRowsR) s.heap.objs.size (ga K "_law_rows_right") cdv)) := hr.mono (by decide)
    have hr3 : Room 3 (A.deeper (envOfC "_law_rows_right" (defScope sRowsR) s.heap.objs.size (ga K "_law_rows_right") cdv)) := hr.mono (by decide)
    have hr4 : Room 4 (A.deeper (envOfC "_law_rows_right" (defScope sRowsR) s.heap.objs.size (ga K "_law_rows_right") cdv)) := hr.mono (by decide)
    refine ⟨_, PSs.nox (pss_cons (ps_set (i := 1) scRowsR.nd rfl (Or.inl rfl) (pe_call GP hr2 rfl gP FP.kp bP .nil pass0 (pa_cons (pv 0) (pa_cons (pe_lst (pa_cons pe_int (pa_cons pe_int (pa_cons pe_int (pa_cons pe_int (pa_cons pe_int (pa_cons pe_int (pa_cons pe_int (pa_cons pe_int (pa_cons pe_int (pa_cons pe_int pa_nil))))))))))) pa_nil))))
      (pss_cons (ps_set (i := 2) scRowsR.nd rfl (Or.inl rfl) (pe_call GL hr3 rfl gL FL.kp bL .nil pass0 (pa_cons (pv 0) (pa_cons (pv 1) pa_nil))))
      (pss_cons (ps_set (i := 3) scRowsR.nd rfl (Or.inr rfl) (pe_callTy call_tuple_of (by rfl) tt (by decide +kernel) (pa_cons (pe_lc (own := [("_law_at", 11)]) (g := gName 11) rfl scRowsR.nd (pi_range1 rfl tr (pa_cons pe_int pa_nil)) (blkOk_by (own := [("_law_at", 11)]) (N := nRowsR) (sc := defScope sRowsR) (by decide +kernel))
          (fun _ _ _ _ _ => pg_name (i := 11) scRowsR.nd rfl (Or.inl rfl)) (fun _ _ _ _ _ => pts_one (pt_cmpR op_eq (pe_call GW hr1 rfl gW FW.kp bW .nil pass0 (pa_cons (pv 0) (pa_cons pe_int pa_nil))) pe_int (nomark _))) (fun _ _ _ _ _ => pv 11)) pa_nil)))
      (pss_cons (ps_set (i := 4) scRowsR.nd rfl (Or.inl rfl) (pe_call GO hr2 rfl gO FO.kp bO .nil pass0 (pa_cons (pv 2) (pa_cons (pv 3) pa_nil))))
      (pss_cons (ps_set (i := 5) scRowsR.nd rfl (Or.inl rfl) (pe_callN GS hr rfl B.a.gs FS.kp kS passX (pa_cons (pe_callTy call_tuple_of (by rfl) tt (by decide +kernel) (pa_cons (pv 2) pa_nil)) pa_nil) (pk_cons (pv 3) pk_nil)))
      (pss_cons (ps_set (i := 6) scRowsR.nd rfl (Or.inl rfl) (pe_callTy call_tuple_of (by rfl) tt (by decide +kernel) (pa_cons (pe_call GM hr2 rfl gM FM.kp bM .nil pass0 (pa_cons (pv 0) (pa_cons (pv 2) pa_nil))) pa_nil)))
      (pss_cons (ps_if (PW.pt (pw_or (pt_cmpR op_ne (pe_callB (call_repr_any B.sys hg hr.units) (by rfl) te (by decide +kernel) (pa_cons (pv 5) pa_nil)) (pe_callB (call_repr_any B.sys hg hr.units) (by rfl) te (by decide +kernel) (pa_cons (pv 4) pa_nil)) (nomark _))
          (pw_or1 (pt_cmpR op_ne (pe_callB (call_repr_any B.sys hg hr.units) (by rfl) te (by decide +kernel) (pa_cons (pe_callN GS hr rfl B.a.gs FS.kp kS passX (pa_cons (pv 6) pa_nil) (pk_cons (pv 3) pk_nil)) pa_nil)) (pe_callB (call_repr_any B.sys hg hr.units) (by rfl) te (by decide +kernel) (pa_cons (pv 4) pa_nil)) (nomark _))))) (pss_one (ps_ret pe_bl)) pss_nil)
      (pss_cons (ps_for PassesOwn.never rfl (pi_list (pe_op op_cat (pv 2) (pe_slice sl_list (pe_call GL hr3 rfl gL FL.kp bL .nil pass0 (pa_cons (pv 0) (pa_cons (pv 1) pa_nil))) po_none (po_some pe_int)))) (pg_name (i := 7) scRowsR.nd rfl (Or.inr rfl))
        (pss_cons (ps_set (i := 8) scRowsR.nd rfl (Or.inl rfl) (pe_callB call_len_seq (by rfl) tl PySem.boot_len (pa_cons (pe_lc (own := [("_law_one", 12)]) (g := gName 12) rfl scRowsR.nd (pi_tup (pv 4)) (blkOk_by (own := [("_law_one", 12)]) (N := nRowsR) (sc := defScope sRowsR) (by decide +kernel))
            (fun _ _ _ _ _ => pg_name (i := 12) scRowsR.nd rfl (Or.inl rfl)) (fun _ _ _ _ _ => pts_one (pt_val (pe_call GA hr1 rfl gA FA.kp bA .nil pass0 (pa_cons (pv 12) (pa_cons (pv 7) (pa_cons (pv 3) pa_nil)))))) (fun _ _ _ _ _ => pe_int)) pa_nil)))
        (pss_cons (ps_if (pt_cmpR op_ne (pe_callB (call_repr_any B.sys hg hr.units) (by rfl) te (by decide +kernel) (pa_cons (pe_callN GQ hr4 rfl B.a.gp FQ.kp kQ passX (pa_cons (pv 4) (pa_cons (pv 7) pa_nil)) (pk_cons (pv 3) pk_nil)) pa_nil)) (pe_callB (call_repr_any B.sys hg hr.units) (by rfl) te (by decide +kernel) (pa_cons (pv 8) pa_nil)) (nomark _)) (pss_one (ps_ret pe_bl)) pss_nil)
        (pss_one (ps_for PassesOwn.never rfl (pi_list (pe_slice sl_list (pv 2) po_none (po_some pe_int))) (pg_name (i := 9) scRowsR.nd rfl (Or.inl rfl))
          (pss_cons (ps_if (pt_cmpR op_ne (pe_callB (call_repr_any B.sys hg hr.units) (by rfl) te (by decide +kernel) (pa_cons (pe_callN GB hr4 rfl B.a.gb FB.kp kB passX (pa_cons (pv 7) (pa_cons (pv 9) pa_nil)) (pk_cons (pv 3) pk_nil)) pa_nil)) (pe_callB (call_repr_any B.sys hg hr.units) (by rfl) te (by decide +kernel) (pa_cons (pe_call GA hr1 rfl gA FA.kp bA .nil pass0 (pa_cons (pv 7) (pa_cons (pv 9) (pa_cons (pv 3) pa_nil)))) pa_nil)) (nomark _)) (pss_one (ps_ret pe_bl)) pss_nil)
          (pss_one (ps_if (pt_cmpR op_ne (pe_callB (call_repr_any B.sys hg hr.units) (by rfl) te (by decide +kernel) (pa_cons (pe_call GB hr4 rfl B.a.gb FB.kp cB rB passX (pa_cons (pv 7) (pa_cons (pv 9) pa_nil))) pa_nil)) (pe_callB (call_repr_any B.sys hg hr.units) (by rfl) te (by decide +kernel) (pa_cons (pe_call GA hr1 rfl gA FA.kp bA .nil pass0 (pa_cons (pv 7) (pa_cons (pv 9) (pa_cons (pe_tup pa_nil) pa_nil)))) pa_nil)) (nomark _)) (pss_one (ps_ret pe_bl)) pss_nil))))))))
      (pss_cons (ps_set (i := 10) scRowsR.nd rfl (Or.inl rfl) (pe_call GS hr rfl B.a.gs FS.kp cS rS passX (pa_cons (pe_callTy call_tuple_of (by rfl) tt (by decide +kernel) (pa_cons (pv 2) pa_nil)) pa_nil)))
      (pss_one (ps_ret (pe_and (pe_cmpR (show OpR _ _ (rEqD K) from op_eqD hr.units) (pv 10) (pe_callTy call_tuple_of (by rfl) tt (by decide +kernel) (pa_cons (pe_callB (Tq.cr_sortedTA rfl hr.units) (by rfl) ts (by decide +kernel) (pa_cons (pe_callTy (cr_setOfT rfl hr.units) (by rfl) tz (by decide +kernel) (pa_cons (pv 2) pa_nil)) pa_nil)) pa_nil)) (nomark _))
          (pe_one (pe_cmpR (show OpR _ _ (rEqD K) from op_eqD hr.units) (pe_call GS hr rfl B.a.gs FS.kp cS rS passX (pa_cons (pv 10) pa_nil)) (pv 10) (nomark _))))))))))))))), ?_⟩
    obtain ⟨st0, hp0⟩ := hS.some
    have hEB := B.a.eb
    refine ⟨_, rfl, (by show 10 ≤ sizeLine; decide), fun S nS => ?_⟩
    generalize eS : upd H S _ = H1
    have yS : Same H H1 := eS ▸ smu nS
    have mS : H1 S = some (.lst (menuM.map V.int)) := eS ▸ upd_same
    have nSp : S ≠ p := (ne_of_none hp0 nS).symm
    refine ⟨p, S, menuM.map V.int, k, rfl, hS.same yS, by omega, nSp.symm, SqL.of mS, by decide, by decide, fun H2 i x hx b2 t2 => ?_⟩
    obtain ⟨m, m10, rfl⟩ : ∃ m : Nat, m ≤ 10 ∧ x = V.int (m : Int) := by
      obtain ⟨n, h, e⟩ := List.mem_map.mp (List.mem_of_getElem? hx)
      obtain ⟨h0, h1⟩ := menuM_ok n h
      exact ⟨n.toNat, by omega, by rw [← e, show ((n.toNat : Nat) : Int) = n by omega]⟩
    obtain ⟨st2, hp2⟩ := t2.some
    have T2 : Tabs Tb H2 := tabs_but (tabs_sm hT yS) (yS _ _ hp0) b2
    have c2 : Same (ct p H) (ct p H2) := (ct_sm yS).trans (ct_but b2)
    refine ⟨_, rfl, _, rfl, p, m, _, rfl, t2, by omega, m10, fun H3 D bs b3 t3 nD mD hR hbs h8 => ?_⟩
    obtain ⟨st3, hp3⟩ := t3.some
    have T3 := tabs_but T2 hp2 b3
    have nDp : D ≠ p := (ne_of_none hp2 nD).symm
    have c3 := c2.trans (ct_but b3)
    have D3 : ct p H3 D = some (.lst (refs bs)) := ct_at mD nDp (fun ps z => by cases z)
    have R3 := rows_ct t3 hR
    clear mD hR
    refine ⟨10, rfl, by decide, by decide, fun E1 nE => ?_⟩
    have nEp : E1 ≠ p := (ne_of_none hp3 nE).symm
    refine lc_range (lo := 0) (n := (10 : Int).toNat) (fun i G => But p H3 G ∧ StrAt G p (k + 1 + 120 + i) ∧ ∃ ds : List Int, G E1 = some (.lst (ds.map V.int)) ∧ ds.Pairwise (· < ·) ∧ (∀ x ∈ ds, 0 ≤ x ∧ x < (i : Int)) ∧ ds.length ≤ i)
      ⟨fun b o _ e => (smu nE) _ _ e, t3.same (smu nE), [], upd_same, .nil, (fun x hx => nomatch hx), Nat.le_refl _⟩ ?_ ?_
    · rintro i G hi ⟨bG, sG, ds, hE, hd1, hd2, hd3⟩
      have hi : i < 10 := hi
      refine ⟨rfl, _, rfl, p, 3, _, rfl, sG, by omega, by decide, by decide, fun G2 v v0 v1 bV sV => ⟨rfl, _, rfl, ?_⟩⟩
      have hE2 := bV _ _ nEp hE
      refine ite2 (fun _ => ?_) (fun _ => ?_)
      · refine ⟨_, rfl, _, hE2, (by rw [List.length_map, sizeLine_eq]; omega), fun b o n e => ?_, sV.keep fun o e => ?_, ds ++ [(i : Int)], ?_, ?_, fun x hx => ?_, ?_⟩
        · rw [upd_ne (ne_of_none e nE)]
          exact bV _ _ n (bG _ _ n e)
        · rw [upd_ne nEp.symm]
          exact e
        · rw [upd_same, List.map_append, Int.zero_add] <;> rfl
        · refine List.pairwise_append.mpr ⟨hd1, List.pairwise_singleton _ _, fun a ha b hb => ?_⟩
          rw [List.mem_singleton.mp hb]
          exact (hd2 a ha).2
        · rcases List.mem_append.mp hx with h | h
          · have := hd2 x h
            omega
          · rw [List.mem_singleton.mp h]
            omega
        · rw [List.length_append]
          show ds.length + 1 ≤ i + 1
          omega
      · exact ⟨fun b o n e => bV _ _ n (bG _ _ n e), sV, ds, hE2, hd1, fun x hx => by have := hd2 x hx; omega, by omega⟩
    rintro G ⟨bG, sG, ds, hE, hd1, hd2, hd3⟩
    have hd4 : ∀ x ∈ ds, 0 ≤ x ∧ x < 10 := fun x hx => hd2 x hx
    have hdown := down_of hd1 hd4
    have sG : StrAt G p (k + 131) := sG.mono (by show k + 1 + 120 + 10 ≤ k + 131; omega)
    clear hd1 hd2 hd3
    obtain ⟨stG, hpG⟩ := sG.some
    have TG' := tabs_but T3 hp3 bG
    have cG : Same (ct p H3) (ct p G) := ct_but bG
    refine ⟨E1, _, rfl, .inl ⟨SqL.of hE, fun q nq => ?_⟩⟩
    obtain ⟨c4, m4⟩ := ct_new (p := p) (o := .tup (ds.map V.int)) (by rw [hpG]; simp) nq (fun ps z => by cases z)
    have y4 := smu (o := .tup (ds.map V.int)) nq
    generalize upd G q (.tup (ds.map V.int)) = H4 at y4 c4 m4 ⊢
    have t4 := sG.same y4
    have T4 := tabs_sm TG' y4
    have c34 := cG.trans c4
    have c04 := c3.trans c34
    have D4 := c34 _ _ D3
    have R4 := R3.same c34
    clear hE bG sG TG' cG c4 y4 hpG D3 R3 c34 T3 T2 t3 t2 hp3 hp2 hp0 c2 c3 b3 b2 nE nD yS mS eS hS
    -- due
    refine ⟨_, rfl, _, rfl, D, q, bs, ds, m, rfl, SqL.of (ct_all _ _ D4), SqT.of (ct_all _ _ m4), R4.same ct_all, fun z hz => (hbs z hz).1, m10, by omega, fun H5 u zs y5 hRz hz hu => ?_⟩
    have hL : ∀ a ∈ bs.map (·.2), a.length = m := fun a ha => by
      obtain ⟨z, hz, rfl⟩ := List.mem_map.mp ha
      exact (hbs z hz).1
    rw [ins_eq_sort hL] at hz
    have c5 : Same (ct p H4) (ct p H5) := ct_sm y5
    have t5 := t4.same y5
    have T5 := tabs_sm T4 y5
    have U5 : ct p H5 u = some (.tup (refs zs)) := by
      obtain ⟨st, hp⟩ := t5.some
      exact ct_at hu (ne_of hu hp (fun e => by cases e)) (fun ps z => by cases z)
    have Z5 := rows_ct t5 hRz
    have D5 := c5 _ _ D4
    have R5 := R4.same c5
    have m5 := c5 _ _ m4
    have c05 := c04.trans c5
    clear hRz hu D4 R4 m4 c5 c04 t4 T4 y5
    -- told
    have dT : ∀ {G : Hp}, ct p G q = some (.tup (ds.map V.int)) → Dt K G (.ref q) (.tuple (ds.map PyData.int)) := fun h => .tup (SqT.of (ct_all _ _ h)) (LamK.dt_ints _)
    have rok : ∀ {cs : List (Addr × List Int)}, (∀ a ∈ cs.map (·.2), a.length = m) → rowsOk (.tuple (cs.map fun z => .tuple (z.2.map PyData.int))) = true := fun {cs} h => by
      have e := rowsOk_of h m10
      rw [List.map_map] at e
      exact e
    have hbl : bs.length < 64 := by omega
    refine ⟨_, rfl, D, _, rfl, .inl ⟨SqL.of (ct_all _ _ D5), fun r nr => ?_⟩⟩
    obtain ⟨stA, hpA⟩ := t5.some
    obtain ⟨c6, m6⟩ := ct_new (p := p) (o := .tup (refs bs)) (by rw [hpA]; simp) nr (fun ps z => by cases z)
    have y6 := smu (o := .tup (refs bs)) nr
    generalize upd H5 r (.tup (refs bs)) = H6 at y6 c6 m6 ⊢
    refine ⟨_, rfl, rfl, rfl, r, .ref q, bs, .tuple (ds.map PyData.int), rfl, dT (c6 _ _ m5), hbl, rok hL, hdown, SqT.of (ct_all _ _ m6), (R5.same c6).same ct_all, tabs_sm T5 y6, fun H7 w7 ws e7 T7 hRw hw hw7 => ?_⟩
    rw [ivs_key] at hw
    have c7 : Same (ct p H5) (ct p H7) := c6.trans (ct_ext e7)
    have t7 := StrAt.ext (t5.same y6) e7
    have W7 : ct p H7 w7 = some (.tup (refs ws)) := by
      obtain ⟨st, hp⟩ := t7.some
      exact ct_at hw7 (ne_of hw7 hp (fun e => by cases e)) (fun ps z => by cases z)
    have X7 := rows_ct t7 hRw
    have D7 := c7 _ _ D5
    have R7 := R5.same c7
    have m7 := c7 _ _ m5
    have U7 := c7 _ _ U5
    have Z7 := Z5.same c7
    have c07 := c05.trans c7
    clear hw7 hRw D5 R5 m5 U5 Z5 c05 c7 e7 t5 T5 y6 c6 m6 hpA nr
    -- mixed
    refine ⟨_, rfl, _, rfl, p, D, refs bs, _, rfl, t7, by omega, nDp.symm, .inl (SqL.of (ct_all _ _ D7)), by rw [refs_len]; omega, fun H8 r8 ys b8 t8 n8 m8 perm => ?_⟩
    obtain ⟨bs', pb, rfl⟩ := perm_image perm.symm (as := bs) (f := fun z => V.ref z.1) rfl
    rw [refs_len] at t8
    obtain ⟨stB, hpB⟩ := t8.some
    have T8 : Tabs Tb H8 := by
      obtain ⟨st, hp⟩ := t7.some
      exact tabs_but T7 hp b8
    refine ⟨r8, _, rfl, .inl ⟨SqL.of m8, fun q9 n9 => ?_⟩⟩
    obtain ⟨c9, m9⟩ := ct_new (p := p) (o := .tup (refs bs')) (by rw [hpB]; simp) n9 (fun ps z => by cases z)
    have y9 := smu (o := .tup (refs bs')) n9
    show tSeq _ _ _ ([some (.ref p), some (.int m), some (.ref D), some (.ref q), some (.ref u), some (.ref w7), some (.ref q9), none, none, none, none, none, none] : L2.St) _
    generalize hH9 : upd H8 q9 (.tup (List.map (fun z : Addr × List Int => V.ref z.1) bs')) = H9
    replace c9 : Same (ct p H8) (ct p H9) := by rw [← hH9]; exact c9
    replace m9 : ct p H9 q9 = some (.tup (refs bs')) := by rw [← hH9]; exact m9
    replace y9 : Same H8 H9 := by rw [← hH9]; exact y9
    have c79 := (ct_but (p := p) b8).trans c9
    have t9 : StrAt H9 p (k + 139) := (t8.same y9).mono (by omega)
    have T9 := tabs_sm T8 y9
    have D9 := c79 _ _ D7
    have R9 := R7.same c79
    have mq9 := c79 _ _ m7
    have U9 := c79 _ _ U7
    have Z9 := Z7.same c79
    have W9 := c79 _ _ W7
    have X9 := X7.same c79
    have c09 := c07.trans c79
    clear D7 R7 m7 U7 Z7 W7 X7 c07 c79 c9 y9 hH9 b8 t8 T8 m8 n8 n9 hpB t7 T7 perm
    have R9' : RowsAt (ct p H9) bs' := fun z hz => R9 z (pb.mem_iff.mp hz)
    have hL' : ∀ a ∈ bs'.map (·.2), a.length = m := fun a ha => hL a ((pb.map _).mem_iff.mp ha)
    have hS : sortRows ds (bs'.map (·.2)) = sortRows ds (bs.map (·.2)) := sort_perm hL (pb.map _)
    -- the rows' data
    have dR : ∀ {G : Hp} {a : Addr} {cs : List (Addr × List Int)} {M : List (List Int)}, ct p G a = some (.tup (refs cs)) → RowsAt (ct p G) cs → cs.map (·.2) = M → Dt K G (.ref a) (.tuple (M.map fun ns => .tuple (ns.map PyData.int))) := fun {G a cs M} h1 h2 h3 => by
      rw [← h3]
      exact Dt.same ct_all _ _ (.tup (SqT.of h1) (dt_rows h2))
    have small : ∀ z ∈ bs, (∀ n ∈ z.2, n.natAbs ≤ 10 ^ 39 + 8) ∧ z.2.length ≤ 10 := fun z hz => ⟨(hbs z hz).2, by rw [(hbs z hz).1]; exact m10⟩
    have szS : ∀ es, Sz 2 1923503 (.tuple ((sortRows es (bs.map (·.2))).map fun ns => .tuple (ns.map PyData.int))) := fun es => sz_rows (fun ns h => by
      obtain ⟨z, hz, rfl⟩ := List.mem_map.mp (sort_mem.mp h)
      exact small z hz) (Nat.le_trans (sort_len _ _) (by rw [List.length_map]; omega))
    have lineS : ∀ {d : PyData}, Sz 2 1923503 d → d.shown.length ≤ sizeLine := fun h => Nat.le_trans h.2.2 (by rw [sizeLine_eq]; omega)
    refine ⟨_, rfl, .ref w7, _, rfl, dR W9 X9 hw, (szS ds).1, Nat.le_trans (szS ds).2.1 (by decide), lineS (szS ds), _, rfl, .ref u, _, rfl, dR U9 Z9 hz, (szS ds).1, Nat.le_trans (szS ds).2.1 (by decide), lineS (szS ds), rfl, _, rfl, ite_f (by rw [decide_eq_true rfl]; rfl) ?_⟩
    refine ⟨_, rfl, _, rfl, rfl, rfl, q9, .ref q, bs', .tuple (ds.map PyData.int), rfl, dT mq9, by rw [pb.length_eq]; exact hbl, rok hL', hdown, SqT.of (ct_all _ _ m9), R9'.same ct_all, T9, fun H10 w10 xs e10 T10 hRx hx hx10 => ?_⟩
    rw [ivs_key, hS] at hx
    have c10 : Same (ct p H9) (ct p H10) := ct_ext e10
    have t10 := StrAt.ext t9 e10
    have W10 : ct p H10 w10 = some (.tup (refs xs)) := by
      obtain ⟨st, hp⟩ := t10.some
      exact ct_at hx10 (ne_of hx10 hp (fun e => by cases e)) (fun ps z => by cases z)
    refine ⟨.ref w10, _, rfl, dR W10 (rows_ct t10 hRx) hx, (szS ds).1, Nat.le_trans (szS ds).2.1 (by decide), lineS (szS ds), _, rfl, .ref u, _, rfl, dR (c10 _ _ U9) (Z9.same c10) hz, (szS ds).1, Nat.le_trans (szS ds).2.1 (by decide), lineS (szS ds), rfl, _, rfl, ite_f (by rw [decide_eq_true rfl]; rfl) ?_⟩
    have D10 := c10 _ _ D9
    have R10 := R9.same c10
    have q10 := c10 _ _ mq9
    have U10 := c10 _ _ U9
    have Z10 := Z9.same c10
    have c010 := c09.trans c10
    clear D9 R9 mq9 U9 Z9 c09 c10 e10 t9 T9 hRx hx10 W10 W9 X9 m9 R9' hL' hS
    show tSeq _ _ _ ([some (.ref p), some (.int m), some (.ref D), some (.ref q), some (.ref u), some (.ref w7), some (.ref q9), none, none, none, none, none, none] : L2.St) _
    refine ⟨_, rfl, _, rfl, _, rfl, p, m, _, rfl, t10, by omega, m10, fun H11 D2 bs2 b11 t11 nD2 mD2 hR2 hbs2 h82 => ⟨4, rfl, D2, _, rfl, SqL.of mD2, fun D3 n3 => ?_⟩⟩
    have e2 : cutV (refs bs2) none (some 4) = refs (bs2.take 4) := by
      rw [show (some (4 : Int)) = some ((4 : Nat) : Int) from rfl, Tp.cutLo]
      unfold refs
      rw [List.map_take]
    rw [e2]
    obtain ⟨stC, hpC⟩ := t10.some
    obtain ⟨stD, hpD⟩ := t11.some
    have T11 := tabs_but T10 hpC b11
    have c11 : Same (ct p H10) (ct p H11) := ct_but b11
    obtain ⟨c12, m12⟩ := ct_new (p := p) (o := .lst (refs (bs2.take 4))) (by rw [hpD]; simp) n3 (fun ps z => by cases z)
    have y12 := smu (o := .lst (refs (bs2.take 4))) n3
    generalize upd H11 D3 (.lst (refs (bs2.take 4))) = H12 at y12 c12 m12 ⊢
    have hpE := y12 _ _ hpD
    refine ⟨D, D3, _, _, rfl, rfl, ct_all _ _ (c12 _ _ (c11 _ _ D10)), ct_all _ _ m12, by rw [refs_len, refs_len, List.length_take, sizeLine_eq]; omega, fun L9 n9 => ?_⟩
    have e3 : refs bs ++ refs (bs2.take 4) = refs (bs ++ bs2.take 4) := by
      unfold refs
      rw [List.map_append]
    rw [e3]
    obtain ⟨c13, m13⟩ := ct_new (p := p) (o := .lst (refs (bs ++ bs2.take 4))) (by rw [hpE]; simp) n9 (fun ps z => by cases z)
    have y13 := smu (o := .lst (refs (bs ++ bs2.take 4))) n9
    generalize upd H12 L9 (.lst (refs (bs ++ bs2.take 4))) = HB at y13 c13 m13 ⊢
    have cB : Same (ct p H10) (ct p HB) := (c11.trans c12).trans c13
    have tB : StrAt HB p (k + 260) := ((t11.same y12).same y13).mono (by omega)
    have TB' := tabs_sm (tabs_sm T11 y12) y13
    have DB := ct_all _ _ (cB _ _ D10)
    have qB := cB _ _ q10
    have UB := cB _ _ U10
    have ZB : RowsAt (ct p HB) zs := Z10.same cB
    have RB : RowsAt (ct p HB) bs := R10.same cB
    have c0B := c010.trans cB
    have RC : ∀ z ∈ bs ++ bs2.take 4, ct p HB z.1 = some (.tup (z.2.map V.int)) ∧ z.2.length = m ∧ ∀ n ∈ z.2, n.natAbs ≤ 10 ^ 39 + 8 := fun z hz => by
      rcases List.mem_append.mp hz with h | h
      · exact ⟨RB z h, (hbs z h).1, (hbs z h).2⟩
      · have h2 := List.mem_of_mem_take h
        exact ⟨(c12.trans c13) _ _ (rows_ct t11 hR2 z h2), (hbs2 z h2).1, (hbs2 z h2).2⟩
    have mB := ct_all _ _ m13
    generalize bs ++ bs2.take 4 = cs at mB RC ⊢
    clear D10 R10 q10 U10 Z10 c010 cB m13 y13 c13 n9 e3 hpE m12 y12 c12 n3 e2 T11 T10 t11 t10 hpC hpD c11 b11 mD2 hR2 hbs2 nD2 h82
    refine ⟨L9, rfl, ⟨_, SqL.of mB⟩, for_list (xs := refs cs) (fun i σ G => (∃ s7 s8 s9 : Option V, σ = [some (.ref p), some (.int m), some (.ref D), some (.ref q), some (.ref u), some (.ref w7), some (.ref q9), s7, s8, s9, none, none, none]) ∧ Same HB G)
      ⟨⟨_, _, _, rfl⟩, Same.refl _⟩ (fun i σ G _ h => SqL.of (h.2 _ _ mB)) ?_ ?_⟩
    · rintro i y σ G hy ⟨⟨s7, s8, s9, rfl⟩, sG⟩
      have hi : i < cs.length := by
        have := (List.getElem?_eq_some_iff.mp hy).1
        rw [refs_len] at this
        exact this
      have ey : y = .ref cs[i].1 := by
        have e : (refs cs)[i]? = some (V.ref cs[i].1) := by
          unfold refs
          rw [List.getElem?_map, List.getElem?_eq_getElem hi] <;> rfl
        rw [hy] at e
        exact Option.some.inj e
      subst ey
      obtain ⟨hz1, hz2, hz3⟩ := RC _ (List.getElem_mem hi)
      replace hz1 := ct_all _ _ hz1
      generalize cs[i] = z0 at hz1 hz2 hz3 ⊢
      have hUB := ct_all _ _ UB
      have hqB := ct_all _ _ qB
      have hzl : zs.length ≤ 8 := by
        have h1 := sort_len ds (bs.map (·.2))
        rw [← hz, List.length_map, List.length_map] at h1
        omega
      have hzm : ∀ z ∈ zs, z.2.length = m := fun z h => hL _ (sort_mem.mp (by rw [← hz]; exact List.mem_map_of_mem h))
      show tSeq _ _ _ ([some (.ref p), some (.int m), some (.ref D), some (.ref q), some (.ref u), some (.ref w7), some (.ref q9), some (.ref z0.1), s8, s9, none, none, none] : L2.St) _
      refine ⟨_, rfl, u, rfl, ⟨_, SqT.of (sG _ _ hUB)⟩, fun B nB => lc_tup (xs := refs zs) (fun j G1 => Same G G1 ∧ ∃ L, G1 B = some (.lst L) ∧ L.length = (((zs.map (·.2)).take j).filter fun a => ahead ds a z0.2).length ∧ L.length ≤ j)
        ⟨smu nB, [], upd_same, rfl, Nat.le_refl _⟩ (fun j G1 _ h => SqT.of (h.1 _ _ (sG _ _ hUB))) ?_ ?_⟩
      · rintro j y G1 hy ⟨s1, L, hB, hL1, hL2⟩
        have hj : j < zs.length := by
          have := (List.getElem?_eq_some_iff.mp hy).1
          rw [refs_len] at this
          exact this
        have ey : y = .ref zs[j].1 := by
          have e : (refs zs)[j]? = some (V.ref zs[j].1) := by
            unfold refs
            rw [List.getElem?_map, List.getElem?_eq_getElem hj] <;> rfl
          rw [hy] at e
          exact Option.some.inj e
        subst ey
        have ej : (zs.map (·.2)).take (j + 1) = (zs.map (·.2)).take j ++ [zs[j].2] := by
          rw [List.take_add_one, List.getElem?_map, List.getElem?_eq_getElem hj] <;> rfl
        have hrj := s1 _ _ (sG _ _ (ct_all _ _ (ZB _ (List.getElem_mem hj))))
        have hlj := hzm _ (List.getElem_mem hj)
        refine ⟨rfl, _, rfl, _, rfl, _, rfl, _, _, q, _, _, ds, rfl, SqT.of hrj, SqT.of (s1 _ _ (sG _ _ hz1)), SqT.of (s1 _ _ (sG _ _ hqB)), by rw [hlj, hz2], by omega, _, rfl, ?_⟩
        cases ha2 : ahead ds zs[j].2 z0.2 with
        | true =>
          refine iteT ⟨L, hB, by rw [sizeLine_eq]; omega, fun b o e => ?_, L ++ [.int 1], upd_same, ?_, ?_⟩
          · rw [upd_ne (ne_of_none e nB)]
            exact s1 _ _ e
          · rw [ej, List.filter_append, List.filter_cons, ha2, List.length_append, List.length_append, hL1] <;> rfl
          · rw [List.length_append]
            show L.length + 1 ≤ j + 1
            omega
        | false =>
          refine iteF ⟨s1, L, hB, ?_, by omega⟩
          rw [ej, List.filter_append, List.filter_cons, ha2, List.length_append, hL1] <;> simp
      · rintro G1 ⟨s1, L, hB, hL1, hL2⟩
        rw [refs_len] at hL2
        rw [refs_len, List.take_of_length_le (by rw [List.length_map]; exact Nat.le_refl _), hz] at hL1
        have sB1 := sG.trans s1
        refine ⟨B, L, rfl, .inl (SqL.of hB), ?_⟩
        show tSeq _ _ _ ([some (.ref p), some (.int m), some (.ref D), some (.ref q), some (.ref u), some (.ref w7), some (.ref q9), some (.ref z0.1), some (.int (L.length : Nat)), s9, none, none, none] : L2.St) _
        have hN : placeN (.tuple (ds.map PyData.int)) (.tuple ((sortRows ds (bs.map (·.2))).map fun ns => .tuple (ns.map PyData.int))) (.tuple (z0.2.map PyData.int)) = L.length := by
          rw [place_of_eq, hL1]
        have dz : ∀ {G : Hp}, Same HB G → Dt K G (.ref z0.1) (.tuple (z0.2.map PyData.int)) := fun s => .tup (SqT.of (s _ _ hz1)) (LamK.dt_ints _)
        have dq : ∀ {G : Hp}, Same HB G → Dt K G (.ref q) (.tuple (ds.map PyData.int)) := fun s => .tup (SqT.of (s _ _ hqB)) (LamK.dt_ints _)
        have szN : ∀ n : Nat, n ≤ 1000 → Sz 0 1921 (.int (n : Int)) := fun n h => sz_int (by rw [Int.natAbs_natCast]; omega)
        have lineN : ∀ {d : PyData}, Sz 0 1921 d → d.shown.length ≤ sizeLine := fun h => Nat.le_trans h.2.2 (by rw [sizeLine_eq]; omega)
        have rokS : rowsOk (.tuple ((sortRows ds (bs.map (·.2))).map fun ns => .tuple (ns.map PyData.int))) = true := rowsOk_of (fun a h => hL a (sort_mem.mp h)) m10
        have rok1 : rowsOk (.tuple (((sortRows ds (bs.map (·.2))).map fun ns => PyData.tuple (ns.map PyData.int)).take 1 ++ [.tuple (z0.2.map PyData.int)])) = true := by
          have e := rowsOk_of (L := (sortRows ds (bs.map (·.2))).take 1 ++ [z0.2]) (m := m) (fun a h => by
            rcases List.mem_append.mp h with h | h
            · exact hL a (sort_mem.mp (List.mem_of_mem_take h))
            · rw [List.mem_singleton.mp h]; exact hz2) m10
          rw [List.map_append, List.map_take] at e
          exact e
        have ascS : ascL (keys (.tuple (ds.map PyData.int)) (.tuple ((sortRows ds (bs.map (·.2))).map fun ns => .tuple (ns.map PyData.int)))) = true := by
          rw [keys_of]
          exact sort_asc hL
        refine ⟨_, rfl, _, rfl, _, rfl, rfl, rfl, .ref u, .ref z0.1, .ref q, _, _, _, rfl, Dt.same sB1 _ _ (dR UB ZB hz), dz sB1, dq sB1, ?_, fun G2 s2 => ite_t rokS (ite_t rok1 (ite_t hdown (ite_t ascS ?_)))⟩
        · show ((sortRows ds (bs.map (·.2))).map _).length < 60
          rw [List.length_map]
          have := sort_len ds (bs.map (·.2))
          rw [List.length_map] at this
          omega
        rw [hN]
        refine ⟨_, .int _, rfl, .int _, (szN L.length (by omega)).1, Nat.zero_le _, lineN (szN L.length (by omega)), _, rfl, _, .int _, rfl, .int _, (szN L.length (by omega)).1, Nat.zero_le _, lineN (szN L.length (by omega)), rfl, _, rfl, ite_f (by rw [decide_eq_true rfl]; rfl) ?_⟩
        have sB2 := sB1.trans s2
        show tNext _ ([some (.ref p), some (.int m), some (.ref D), some (.ref q), some (.ref u), some (.ref w7), some (.ref q9), some (.ref z0.1), some (.int (L.length : Nat)), s9, none, none, none] : L2.St) _
        refine ⟨_, rfl, 4, rfl, D, _, rfl, SqL.of (sB2 _ _ DB), fun D4 n4 => ?_⟩
        have e4 : cutV (refs bs) none (some 4) = refs (bs.take 4) := by
          rw [show (some (4 : Int)) = some ((4 : Nat) : Int) from rfl, Tp.cutLo]
          unfold refs
          rw [List.map_take]
        rw [e4]
        have y4 := smu (o := .lst (refs (bs.take 4))) n4
        have m4 := upd_same (H := G2) (a := D4) (o := .lst (refs (bs.take 4)))
        generalize upd G2 D4 (.lst (refs (bs.take 4))) = G4 at y4 m4 ⊢
        have sB4 := sB2.trans y4
        refine ⟨D4, rfl, ⟨_, SqL.of m4⟩, for_list (xs := refs (bs.take 4)) (fun j σ G5 => (∃ t9 : Option V, σ = [some (.ref p), some (.int m), some (.ref D), some (.ref q), some (.ref u), some (.ref w7), some (.ref q9), some (.ref z0.1), some (.int (L.length : Nat)), t9, none, none, none]) ∧ Same G4 G5)
          ⟨⟨_, rfl⟩, Same.refl _⟩ (fun j σ G5 _ h => SqL.of (h.2 _ _ m4)) ?_ ?_⟩
        · rintro j y σ G5 hy ⟨⟨t9, rfl⟩, s5⟩
          have hj : j < (bs.take 4).length := by
            have := (List.getElem?_eq_some_iff.mp hy).1
            rw [refs_len] at this
            exact this
          have ey : y = .ref (bs.take 4)[j].1 := by
            have e : (refs (bs.take 4))[j]? = some (V.ref (bs.take 4)[j].1) := by
              unfold refs
              rw [List.getElem?_map, List.getElem?_eq_getElem hj] <;> rfl
            rw [hy] at e
            exact Option.some.inj e
          subst ey
          have hmem := List.mem_of_mem_take (List.getElem_mem hj)
          have hv1 := ct_all _ _ (RB _ hmem)
          have hv2 := (hbs _ hmem).1
          generalize (bs.take 4)[j] = v0 at hv1 hv2 ⊢
          have sB5 := sB4.trans s5
          have dv : ∀ {G : Hp}, Same HB G → Dt K G (.ref v0.1) (.tuple (v0.2.map PyData.int)) := fun s => .tup (SqT.of (s _ _ hv1)) (LamK.dt_ints _)
          have rok2 : rowsOk (.tuple [.tuple (z0.2.map PyData.int), .tuple (v0.2.map PyData.int)]) = true :=
            rowsOk_of (L := [z0.2, v0.2]) (m := m) (fun a h => by
              rcases List.mem_cons.mp h with h | h
              · rw [h]; exact hz2
              · rw [List.mem_singleton.mp h]; exact hv2) m10
          have bl : ∀ b : Bool, (PyData.bool b).shown.length ≤ sizeLine := fun b => by cases b <;> decide +kernel
          show tSeq _ _ _ ([some (.ref p), some (.int m), some (.ref D), some (.ref q), some (.ref u), some (.ref w7), some (.ref q9), some (.ref z0.1), some (.int (L.length : Nat)), some (.ref v0.1), none, none, none] : L2.St) _
          refine ⟨_, rfl, _, rfl, _, rfl, rfl, rfl, .ref z0.1, .ref v0.1, .ref q, _, _, _, rfl, dz sB5, dv sB5, dq sB5, fun G6 s6 => ite_t rok2 (ite_t hdown ?_)⟩
          have sB6 := sB5.trans s6
          rw [before_eq]
          refine ⟨_, .bool _, rfl, .bl _, rfl, Nat.zero_le _, bl _, _, rfl, _, rfl, _, rfl, z0.1, v0.1, q, _, _, _, rfl, SqT.of (sB6 _ _ hz1), SqT.of (sB6 _ _ hv1), SqT.of (sB6 _ _ hqB), by rw [hz2, hv2], by omega, ?_⟩
          refine ⟨_, .bool _, rfl, .bl _, rfl, Nat.zero_le _, bl _, rfl, _, rfl, ite_f (by rw [decide_eq_true rfl]; rfl) ?_⟩
          refine ⟨_, rfl, _, rfl, .ref z0.1, .ref v0.1, _, _, _, .tuple [], rfl, dz sB6, dv sB6, .tup (hEB _) .nil, fun G7 s7 => ite_t rok2 (ite_t rfl ?_)⟩
          have sB7 := sB6.trans s7
          have e0 := before_eq [] z0.2 v0.2
          rw [show (PyData.tuple (([] : List Int).map PyData.int)) = .tuple [] from rfl] at e0
          rw [e0]
          refine ⟨_, .bool _, rfl, .bl _, rfl, Nat.zero_le _, bl _, _, rfl, _, rfl, (by show 0 ≤ sizeLine; decide), fun t0 nt0 => ?_⟩
          have y8 := smu (o := .tup []) nt0
          have m8 := upd_same (H := G7) (a := t0) (o := .tup [])
          generalize upd G7 t0 (.tup []) = G8 at y8 m8 ⊢
          have sB8 := sB7.trans y8
          refine ⟨z0.1, v0.1, t0, _, _, [], rfl, SqT.of (sB8 _ _ hz1), SqT.of (sB8 _ _ hv1), SqT.of m8, by rw [hz2, hv2], by omega, ?_⟩
          refine ⟨_, .bool _, rfl, .bl _, rfl, Nat.zero_le _, bl _, rfl, _, rfl, ite_f (by rw [decide_eq_true rfl]; rfl) ?_⟩
          exact ⟨⟨_, rfl⟩, ((s5.trans s6).trans s7).trans y8⟩
        · rintro σ G5 ⟨⟨t9, rfl⟩, s5⟩
          exact ⟨⟨_, _, _, rfl⟩, sB4.trans s5⟩
    · rintro σ G ⟨⟨s7, s8, s9, rfl⟩, sG⟩
      have tG := tB.same sG
      have TG := tabs_sm TB' sG
      have cG : Same (ct p HB) (ct p G) := ct_sm sG
      have D1 := cG _ _ (ct_at DB nDp (fun ps z => by cases z))
      have R1 := RB.same cG
      have c0G := c0B.trans cG
      obtain ⟨stA, hpA⟩ := tG.some
      refine ⟨_, rfl, D, _, rfl, .inl ⟨SqL.of (ct_all _ _ D1), fun r nr => ?_⟩⟩
      obtain ⟨c2, m2⟩ := ct_new (p := p) (o := .tup (refs bs)) (by rw [hpA]; simp) nr (fun ps z => by cases z)
      have y2 := smu (o := .tup (refs bs)) nr
      generalize upd G r (.tup (refs bs)) = G2 at y2 c2 m2 ⊢
      refine ⟨r, _, bs, .tuple [], rfl, .tup (B.a.es _) .nil, hbl, rok hL, rfl, SqT.of (ct_all _ _ m2), (R1.same c2).same ct_all, tabs_sm TG y2, fun G3 w3 xs e3 T3 hRx hx hx3 => ?_⟩
      have hx : xs.map (·.2) = sortRows [] (bs.map (·.2)) := hx
      have c3 := c2.trans (ct_ext e3)
      have t3 := StrAt.ext (tG.same y2) e3
      have W3 : ct p G3 w3 = some (.tup (refs xs)) := by
        obtain ⟨st, hp⟩ := t3.some
        exact ct_at hx3 (ne_of hx3 hp (fun e => by cases e)) (fun ps z => by cases z)
      have X3 := rows_ct t3 hRx
      have D3' := c3 _ _ D1
      have R3 := R1.same c3
      have c03 := c0G.trans c3
      obtain ⟨stB, hpB⟩ := t3.some
      refine ⟨_, rfl, _, rfl, D, bs, rfl, SqL.of (ct_all _ _ D3'), fun z hz => SqT.of (ct_all _ _ (R3 z hz)), hbl, fun a0 L0 na sub cov => ?_⟩
      obtain ⟨c4, m4⟩ := ct_new (p := p) (o := SetTO P w a0 L0) (by rw [hpB]; simp) na (fun ps z => by cases z)
      have y4 := smu (o := SetTO P w a0 L0) na
      generalize hG4 : upd G3 a0 _ = G4
      replace c4 : Same (ct p G3) (ct p G4) := by rw [← hG4]; exact c4
      replace m4 : ct p G4 a0 = some (SetTO P w a0 L0) := by rw [← hG4]; exact m4
      replace y4 : Same G3 G4 := by rw [← hG4]; exact y4
      have R4 := R3.same c4
      refine ⟨a0, L0, rfl, ct_all _ _ m4, fun z hz => SqT.of (ct_all _ _ (R4 z (sub z hz))), fun nd l64 => ⟨?_, fun L1 p1 pm n1 => ?_⟩⟩
      · by_cases h0 : m = 0
        · refine .inr ?_
          have z := one_empty nd fun ns hns => by
            obtain ⟨z, hz, rfl⟩ := List.mem_map.mp hns
            have := (hbs z (sub z hz)).1
            rw [h0] at this
            exact List.eq_nil_of_length_eq_zero this
          rw [List.length_map] at z
          exact z
        · refine .inl fun z hz e => h0 ?_
          have := (hbs z (sub z hz)).1
          rw [e] at this
          exact this.symm
      · have hmem : ∀ z ∈ L1, z ∈ bs := fun z hz => sub z (pm.mem_iff.mp hz)
        have hset : (L1.mergeSort fun q r => Tq.leD q.2 r.2).map (·.2) = sortRows [] (bs.map (·.2)) := set_sort hL ((pm.map _).nodup_iff.mpr nd) fun a => by
          constructor
          · intro h
            obtain ⟨z, hz, rfl⟩ := List.mem_map.mp h
            exact List.mem_map_of_mem (hmem z hz)
          · intro h
            obtain ⟨z, hz, rfl⟩ := List.mem_map.mp h
            exact (pm.map (·.2)).mem_iff.mpr (cov z hz)
        have hsub : ∀ z ∈ (L1.mergeSort fun q r => Tq.leD q.2 r.2), z ∈ bs := fun z hz => hmem z ((List.mergeSort_perm _ _).mem_iff.mp hz)
        generalize (L1.mergeSort fun q r => Tq.leD q.2 r.2) = M at hset hsub ⊢
        obtain ⟨stE, hpE⟩ : ∃ st, G4 p = some (.lst st) := ⟨_, y4 _ _ hpB⟩
        obtain ⟨c5, m5⟩ := ct_new (p := p) (o := .lst (refs M)) (by rw [hpE]; simp) n1 (fun ps z => by cases z)
        have y5 := smu (o := .lst (refs M)) n1
        show (∃ _, _)
        generalize hG5 : upd G4 p1 (.lst (M.map fun q => V.ref q.1)) = G5
        replace c5 : Same (ct p G4) (ct p G5) := by rw [← hG5]; exact c5
        replace m5 : ct p G5 p1 = some (.lst (refs M)) := by rw [← hG5]; exact m5
        replace y5 : Same G4 G5 := by rw [← hG5]; exact y5
        refine ⟨p1, _, rfl, .inl ⟨SqL.of (ct_all _ _ m5), fun q2 n2 => ?_⟩⟩
        obtain ⟨c6, m6⟩ := ct_new (p := p) (o := .tup (refs M)) (by rw [y5 _ _ hpE]; simp) n2 (fun ps z => by cases z)
        have y6 := smu (o := .tup (refs M)) n2
        generalize upd G5 q2 (.tup (refs M)) = G6 at y6 c6 m6 ⊢
        have c46 := (c4.trans c5).trans c6
        have t6 := ((t3.same y4).same y5).same y6
        have T6 := tabs_sm (tabs_sm (tabs_sm T3 y4) y5) y6
        have R6 : RowsAt (ct p G6) M := fun z hz => c46 _ _ (R3 z (hsub z hz))
        have shp : SeqAt.shaped (.tuple ((sortRows [] (bs.map (·.2))).map fun ns => .tuple (ns.map PyData.int))) = true := shaped_tups _
        have dpp : ∀ {G : Hp} {a : Addr} {cs : List (Addr × List Int)}, ct p G a = some (.tup (refs cs)) → RowsAt (ct p G) cs → cs.map (·.2) = sortRows [] (bs.map (·.2)) → Dp K G (.ref a) (.tuple ((sortRows [] (bs.map (·.2))).map fun ns => .tuple (ns.map PyData.int))) := fun h1 h2 h3 => by
          rw [← h3]
          exact .tup (SqT.of (ct_all _ _ h1)) (dp_rows' (h2.same ct_all))
        have W6 := c46 _ _ W3
        have X6 := X3.same c46
        refine ⟨_, _, dpp W6 X6 hx, dpp m6 R6 hset, shp, shp, _, rfl, ite_t (Rp.eq_self shp) ?_⟩
        refine ⟨_, rfl, w3, _, xs, .tuple [], rfl, .tup (B.a.es _) .nil, ?_, rok (fun a ha => ?_), rfl, SqT.of (ct_all _ _ W6), X6.same ct_all, T6, fun G7 w8 vs e7 T7 hRv hv hv7 => ?_⟩
        · have h1 := sort_len [] (bs.map (·.2))
          rw [← hx, List.length_map, List.length_map] at h1
          omega
        · rw [hx] at ha
          exact hL a (sort_mem.mp ha)
        have hv : vs.map (·.2) = sortRows [] (bs.map (·.2)) := by
          have h : vs.map (·.2) = sortRows [] (xs.map (·.2)) := hv
          rw [h, hx]
          exact sort_sort hL
        have t7' := StrAt.ext t6 e7
        have W7 : ct p G7 w8 = some (.tup (refs vs)) := by
          obtain ⟨st, hp⟩ := t7'.some
          exact ct_at hv7 (ne_of hv7 hp (fun e => by cases e)) (fun ps z => by cases z)
        have c67 : Same (ct p G6) (ct p G7) := ct_ext e7
        refine ⟨_, rfl, _, _, dpp W7 (rows_ct t7' hRv) hv, dpp (c67 _ _ W6) (X6.same c67) hx, shp, shp, ?_⟩
        rw [Rp.eq_self shp]
        exact fin G7 (c03.trans (c46.trans c67)) (t7'.mono (by omega)) T7
end
end K01

/-! the law. -/
namespace K01
open PySem PySem.Spec PyProof.Rows L2 Dr Ex Rp LamX Rw
open He (ga ma)
structure Fns5 (K : PySem.W.Frag) (mg : Str → Option Value) : Prop where
  a : Fns4 K mg
  fs : ∃ fd, FnP K "_law_stream" sStream (ga K "_law_stream") fd
  ft : ∃ fd, FnP K "_law_thing" sThing (ga K "_law_thing") fd
  fn : ∃ fd, FnP K "is_name" sIsName (ga K "is_name") fd
  fw : ∃ fd, FnP K "_law_is_word" sIsWord (ga K "_law_is_word") fd
  fi : ∃ fd, FnP K "_law_is_line" sIsLine (ga K "_law_is_line") fd
  fr : ∃ fd, FnP K "_law_rows_right" sRowsR (ga K "_law_rows_right") fd
  ml : ∃ t, mg "MAX_LETTERS" = some (.int 8 t)
def spLaw (K : PySem.W.Frag) (Tb : List (Addr × Str)) : Sp := fun vs H Q _ => ∃ (a : Addr) (ns : List Int), vs = [.ref a] ∧ SqL K H a (ns.map V.int) ∧ ns.length ≤ 63 ∧ Tabs Tb H ∧ ∀ H', Q (.bl true) H'
abbrev nLaw : List Str := ["_law_script", "_law_at", "_law_stream_here", "_law_turn", "_law_thing_here", "_law_much", "_law_some", "_law_told", "_law_wide", "_law_word"]
theorem scLaw : FnScope nLaw ["_law_script"] (defScope sLaw) := ⟨rfl, rfl, rfl, by decide +kernel, rfl, by decide +kernel, by decide +kernel⟩
theorem sql_fresh {K : PySem.W.Frag} {A B : Hp} {a p : Addr} {xs : List V} (h : SqL K A a xs) (f : A p = none) (s : Same A B) : SqL K (ct p B) a xs := by
  rcases h with (h | ⟨ob, h⟩) | h
  · exact .inl (.inl (ct_at (s _ _ h) (ne_of_none h f) (fun ps z => by cases z)))
  · exact .inl (.inr ⟨ob, ct_at (s _ _ h) (ne_of_none h f) (fun ps z => by cases z)⟩)
  · exact .inr h
theorem short_of {d : PyData} (h : okS d) : shortS d := by
  cases d <;> first | trivial | exact h.1
def words : List Str := ["abcdefgh", "abcdefghi", "", "a", "A", "a b", "a1", "self", "ab\n"]
def row5 : List Int := [1, 1, 1, 1, 1, 1, 1, 1, 1, 5]
def row6 : List Int := [1, 1, 1, 1, 1, 1, 1, 1, 1, 6]
theorem words_short : ∀ x ∈ words, x.length ≤ 1000 := by
  have h : (words.all fun x => decide (x.length ≤ 1000)) = true := by decide +kernel
  exact fun x hx => of_decide_eq_true (List.all_eq_true.mp h x hx)
theorem words_told : words.map (fun x => isWord (.str x)) = [true, false, false, true, false, false, false, true, false] := by decide +kernel
theorem wide_sorted : sortRows [9] [row5, row6] = [row6, row5] := by
  refine (sort_eq (m := 10) (fun a ha => ?_) (.cons (fun b hb => ?_) (.cons (fun b hb => by cases hb) .nil)) (by decide) fun a => ?_).symm
  · rcases List.mem_cons.mp ha with h | h
    · rw [h]; rfl
    · rw [List.mem_singleton.mp h]; rfl
  · rw [List.mem_singleton.mp hb, le_key]
    decide +kernel
  · simp only [List.mem_cons, List.not_mem_nil, or_false]
    exact or_comm
section
variable {P : Program} {w : World} {K : PySem.W.Frag} {mg : Str → Option Value} {base : Heap}
theorem ok_law {Tb : List (Addr × Str)} {fd : FuncData} (F : FnP K "law" sLaw (ga K "law") fd) (B : Fns5 K mg) (T : TG K mg) (M : EF K) (TB : TabB base mg (He.codeOf K ("sorted_rows", none)) (He.tabOf K (He.codeOf K ("sorted_rows", none))))
    (hmT : (He.tabOf K (He.codeOf K ("sorted_rows", none)), qSorted) ∈ Tb) (huT : ∀ z ∈ Tb, z.1 = He.tabOf K (He.codeOf K ("sorted_rows", none)) → z.2 = qSorted) :
    FnG P w K mg base CX0 7 (ga K "law") fd ["_law_script"] (spLaw K Tb) := by
  obtain ⟨dw, FW⟩ := B.a.fw
  obtain ⟨dp, FP⟩ := B.a.fp
  obtain ⟨eb, FB⟩ := B.a.a.fb
  obtain ⟨es, FS⟩ := B.a.a.fs
  obtain ⟨ep, FQ⟩ := B.a.a.fp
  obtain ⟨ei, FI⟩ := B.a.a.fi
  obtain ⟨eN, FE⟩ := B.a.a.fN
  obtain ⟨e1, G1⟩ := B.a.a.b.f1
  obtain ⟨e2, G2⟩ := B.a.a.b.f2
  obtain ⟨dS, FS'⟩ := B.fs
  obtain ⟨dT, FT⟩ := B.ft
  obtain ⟨dn, FN⟩ := B.fn
  obtain ⟨dd, FD⟩ := B.fw
  obtain ⟨dl, FL⟩ := B.fi
  obtain ⟨dr, FR⟩ := B.fr
  have gW := T.g "_law_draw" (by decide +kernel)
  have gP := T.g "_law_pick" (by decide +kernel)
  have gS := T.g "_law_stream" (by decide +kernel)
  have gT := T.g "_law_thing" (by decide +kernel)
  have gN := T.g "is_name" (by decide +kernel)
  have gD := T.g "_law_is_word" (by decide +kernel)
  have gL := T.g "_law_is_line" (by decide +kernel)
  have gR := T.g "_law_rows_right" (by decide +kernel)
  have tr := T.f "range" (by decide +kernel)
  have tx := T.f "max" (by decide +kernel)
  have tn := T.f "min" (by decide +kernel)
  have tl := T.f "len" (by decide +kernel)
  have te := T.f "repr" (by decide +kernel)
  have ti := T.f "isinstance" (by decide +kernel)
  have tt := T.f "tuple" (by decide +kernel)
  have GW : FnOk P w K mg base CX0 1 _ dw ["_law_stream_here", "_law_high"] spDraw := ok_draw FW T
  have bW : Binds K dw ["_law_stream_here", "_law_high"] [] := FW.bindsN fun _ _ _ _ _ _ us hl => match us, hl with | [_, _], _ => rfl
  have GT : FnOk P w K mg base CX0 1 _ dS ["_law_script", "_law_at"] (spStream K) := ok_stream FS' T
  have bT : Binds K dS ["_law_script", "_law_at"] [] := FS'.bindsN fun _ _ _ _ _ _ us hl => match us, hl with | [_, _], _ => rfl
  have GH : FnOk P w K mg base CX0 3 _ dT ["_law_stream_here"] (spThing K) := ok_thing FT FW FP T gW gP
  have bH : Binds K dT ["_law_stream_here"] [] := FT.bindsN fun _ _ _ _ _ _ us hl => match us, hl with | [_], _ => rfl
  have GN : FnOk P w K mg base CX0 1 _ dn ["value"] (spWord K) := ok_name FN T B.ml
  have bN : Binds K dn ["value"] [] := FN.bindsN fun _ _ _ _ _ _ us hl => match us, hl with | [_], _ => rfl
  have GD : FnOk P w K mg base CX0 1 _ dd ["_law_thing_here"] (spIsWord K) := ok_isWord FD T
  have bD : Binds K dd ["_law_thing_here"] [] := FD.bindsN fun _ _ _ _ _ _ us hl => match us, hl with | [_], _ => rfl
  have GI : FnOk P w K mg base (L2.CX P w) 3 _ ei ["size", "value"] (spIsRow K) := ok_isRow FI G1 G2 FE T M B.a.a.b.g1 B.a.a.b.g2
  have bI : Binds K ei ["size", "value"] [] := FI.bindsN fun _ _ _ _ _ _ us hl => match us, hl with | [_, _], _ => rfl
  have GL : FnOk P w K mg base CX0 1 _ dl ["_law_much", "_law_thing_here"] (spIsLine K) := ok_isLine FL T
  have bL : Binds K dl ["_law_much", "_law_thing_here"] [] := FL.bindsN fun _ _ _ _ _ _ us hl => match us, hl with | [_, _], _ => rfl
  have GR : FnG P w K mg base CX0 6 _ dr ["_law_stream_here"] (spRR K Tb) := ok_rowsR FR B.a T M TB hmT huT
  have bR : Binds K dr ["_law_stream_here"] [] := FR.bindsN fun _ _ _ _ _ _ us hl => match us, hl with | [_], _ => rfl
  have GB : FnOk P w K mg base (L2.CX P w) 4 _ eb ["row", "other", "down"] (spBefore K) := ok_before FB B.a.a.b T M
  have GS : FnOk P w K mg base (L2.CX P w) 5 _ es ["rows", "down"] (spSortT K Tb) := ok_sortT FS B.a.a.b T M B.a.sys TB hmT huT
  have GQ : FnOk P w K mg base (L2.CX P w) 4 _ ep ["rows", "row", "down"] (spPlace K) := ok_place FQ B.a.a.b T M
  have kS := kb_sorted FS
  obtain ⟨vB, rB, cB⟩ := b0_before FB
  obtain ⟨vQ, rQ, cQ⟩ := b0_place FQ
  refine Rp.FunD.okG F scLaw (fun vs H Q E h => ?_) (fun cdv A outer s H vs Q E hr hg h => ?_)
  · obtain ⟨a, ns, rfl, _⟩ := h
    rfl
  · obtain ⟨a, ns, rfl, hS, hn, hT, fin⟩ := h
    have hr1 : Room 1 (A.deeper (envOfC "law" (defScope sLaw) s.heap.objs.size (ga K "law") cdv)) := hr.mono (by decide)
    have hr3 : Room 3 (A.deeper (envOfC "law" (defScope sLaw) s.heap.objs.size (ga K "law") cdv)) := hr.mono (by decide)
    have hr4 : Room 4 (A.deeper (envOfC "law" (defScope sLaw) s.heap.objs.size (ga K "law") cdv)) := hr.mono (by decide)
    have hr5 : Room 5 (A.deeper (envOfC "law" (defScope sLaw) s.heap.objs.size (ga K "law") cdv)) := hr.mono (by decide)
    refine ⟨_, PSs.nox (pss_cons (ps_for PassesOwn.never rfl (pi_range1 rfl tr (pa_cons (pe_callB (call_max2 rfl) (by rfl) tx (by decide +kernel) (pa_cons pe_int (pa_cons (pe_callB (call_min2 rfl) (by rfl) tn (by decide +kernel) (pa_cons pe_int (pa_cons (pe_callB call_len_seq (by rfl) tl PySem.boot_len (pa_cons (pv 0) pa_nil)) pa_nil))) pa_nil))) pa_nil)) (pg_name (i := 1) scLaw.nd rfl (Or.inl rfl))
        (pss_cons (ps_set (i := 2) scLaw.nd rfl (Or.inl rfl) (pe_call GT hr1 rfl gS FS'.kp bT .nil pass0 (pa_cons (pv 0) (pa_cons (pv 1) pa_nil))))
        (pss_cons (ps_for PassesOwn.never rfl (pi_range1 rfl tr (pa_cons pe_int pa_nil)) (pg_name (i := 3) scLaw.nd rfl (Or.inl rfl))
          (pss_cons (ps_par (i := 4) (j := 5) rfl scLaw.nd rfl rfl (by decide) rfl rfl (pa_cons (pe_call GH hr3 rfl gT FT.kp bH .nil pass0 (pa_cons (pv 2) pa_nil)) (pa_cons (pe_call GW hr1 rfl gW FW.kp bW .nil pass0 (pa_cons (pv 2) (pa_cons pe_int pa_nil))) pa_nil)) (by rfl))
          (pss_cons (ps_if (pt_cmpR op_ne (pe_callB (call_repr_any B.a.sys hg hr.units) (by rfl) te (by decide +kernel) (pa_cons (pe_call GN hr1 rfl gN FN.kp bN .nil pass0 (pa_cons (pv 4) pa_nil)) pa_nil)) (pe_callB (call_repr_any B.a.sys hg hr.units) (by rfl) te (by decide +kernel) (pa_cons (pe_call GD hr1 rfl gD FD.kp bD .nil pass0 (pa_cons (pv 4) pa_nil)) pa_nil)) (nomark _)) (pss_one (ps_ret pe_bl)) pss_nil)
          (pss_cons (ps_if (pt_cmpR op_ne (pe_callB (call_repr_any B.a.sys hg hr.units) (by rfl) te (by decide +kernel) (pa_cons (pe_call GI hr3 rfl B.a.a.gi FI.kp bI .nil passX (pa_cons (pv 5) (pa_cons (pv 4) pa_nil))) pa_nil)) (pe_callB (call_repr_any B.a.sys hg hr.units) (by rfl) te (by decide +kernel) (pa_cons (pe_call GL hr1 rfl gL FL.kp bL .nil pass0 (pa_cons (pv 5) (pa_cons (pv 4) pa_nil))) pa_nil)) (nomark _)) (pss_one (ps_ret pe_bl)) pss_nil)
          (pss_one (ps_if (PW.pt (pw_and (pt_val (pe_callB call_isi (by rfl) ti (by decide +kernel) (pa_cons (pv 4) (pa_cons (p_bty (n := "tuple") tt (by decide +kernel)) pa_nil)))) (pw_and1 (pt_cmpR op_lt (pe_callB call_len_seq (by rfl) tl PySem.boot_len (pa_cons (pv 4) pa_nil)) pe_int (nomark _)))))
            (pss_one (ps_if (pt_cmpR op_ne (pe_callB (call_repr_any B.a.sys hg hr.units) (by rfl) te (by decide +kernel) (pa_cons (pe_call GI hr3 rfl B.a.a.gi FI.kp bI .nil passX (pa_cons (pe_callB call_len_seq (by rfl) tl PySem.boot_len (pa_cons (pv 4) pa_nil)) (pa_cons (pv 4) pa_nil))) pa_nil)) (pe_callB (call_repr_any B.a.sys hg hr.units) (by rfl) te (by decide +kernel) (pa_cons (pe_call GL hr1 rfl gL FL.kp bL .nil pass0 (pa_cons (pe_callB call_len_seq (by rfl) tl PySem.boot_len (pa_cons (pv 4) pa_nil)) (pa_cons (pv 4) pa_nil))) pa_nil)) (nomark _)) (pss_one (ps_ret pe_bl)) pss_nil))
            pss_nil))))))
        (pss_one (ps_if (PW.pt (pw_or (pt_not (pt_val (pe_callG GR hr hg rfl gR FR.kp bR .nil pass0 (pa_cons (pv 2) pa_nil)))) (pw_or1 (pt_not (pt_val (pe_callG GR hr hg rfl gR FR.kp bR .nil pass0 (pa_cons (pv 2) pa_nil)))))) ) (pss_one (ps_ret pe_bl)) pss_nil)))))
      (pss_cons (ps_set (i := 6) scLaw.nd rfl (Or.inl rfl) (pe_lst (pa_cons pe_str (pa_cons pe_str (pa_cons pe_str (pa_cons pe_str (pa_cons pe_str (pa_cons pe_str (pa_cons pe_str (pa_cons pe_str (pa_cons pe_str pa_nil)))))))))))
      (pss_cons (ps_setLc (i := 7) (own := [("_law_word", 9)]) (g := gName 9) rfl scLaw.nd rfl rfl (sw_true rfl rfl rfl (by decide +kernel)) (pi_list (pv 6)) (blkOk_by (own := [("_law_word", 9)]) (N := nLaw) (sc := defScope sLaw) (by decide +kernel))
          (fun _ _ _ _ _ => pg_name (i := 9) scLaw.nd rfl (Or.inl rfl)) (fun _ _ _ _ _ => pts_nil) (fun _ _ _ _ _ => pe_call GN hr1 rfl gN FN.kp bN .nil pass0 (pa_cons (pv 9) pa_nil)))
      (pss_cons (ps_if (PW.pt (pw_or (pt_cmpR (show OpR _ _ (rNeD K) from op_neD hr.units) (pv 7) (pe_lst (pa_cons pe_bl (pa_cons pe_bl (pa_cons pe_bl (pa_cons pe_bl (pa_cons pe_bl (pa_cons pe_bl (pa_cons pe_bl (pa_cons pe_bl (pa_cons pe_bl pa_nil)))))))))) (nomark _))
          (pw_or1 (pt_not (pt_val (pe_call GI hr3 rfl B.a.a.gi FI.kp bI .nil passX (pa_cons pe_int (pa_cons (pe_tup pa_nil) pa_nil))))))) ) (pss_one (ps_ret pe_bl)) pss_nil)
      (pss_cons (ps_set (i := 8) scLaw.nd rfl (Or.inl rfl) (pe_tup (pa_cons (pe_op (show OpR _ _ (Tp.rCatT K) from Tp.op_catT) (pe_op (show OpR _ _ (rRepT K) from op_repT) (pe_tup (pa_cons pe_int pa_nil)) pe_int) (pe_tup (pa_cons pe_int pa_nil))) (pa_cons (pe_op (show OpR _ _ (Tp.rCatT K) from Tp.op_catT) (pe_op (show OpR _ _ (rRepT K) from op_repT) (pe_tup (pa_cons pe_int pa_nil)) pe_int) (pe_tup (pa_cons pe_int pa_nil))) pa_nil))))
      (pss_cons (ps_if (PW.pt (pw_or (pt_cmpR op_ne (pe_call GQ hr4 rfl B.a.a.gp FQ.kp cQ rQ passX (pa_cons (pe_tup pa_nil) (pa_cons (pe_tup (pa_cons pe_int (pa_cons pe_int pa_nil))) pa_nil))) pe_int (nomark _))
          (pw_or1 (pt_val (pe_call GB hr4 rfl B.a.a.gb FB.kp cB rB passX (pa_cons (pe_tup pa_nil) (pa_cons (pe_tup pa_nil) pa_nil))))))) (pss_one (ps_ret pe_bl)) pss_nil)
      (pss_one (ps_ret (pe_cmpR (show OpR _ _ (rEqD K) from op_eqD hr.units) (pe_callN GS hr5 rfl B.a.a.gs FS.kp kS passX (pa_cons (pv 8) pa_nil) (pk_cons (pe_tup (pa_cons pe_int pa_nil)) pk_nil)) (show PE _ _ (Tp.tRevT K _) from Tp.pe_revT (pv 8)) (nomark _)))))))))), ?_⟩
    have hEB := B.a.a.eb
    have hEQ := B.a.a.ep
    have bl : ∀ b : Bool, (PyData.bool b).shown.length ≤ sizeLine := fun b => by cases b <;> decide +kernel
    refine ⟨_, rfl, a, _, rfl, .inl hS, _, _, rfl, _, _, rfl, ?_⟩
    generalize hN : (if (if ((ns.map V.int).length : Int) < 8 then ((ns.map V.int).length : Int) else 8) > 1 then (if ((ns.map V.int).length : Int) < 8 then ((ns.map V.int).length : Int) else 8) else 1) = N
    have hN1 : 1 ≤ N ∧ N ≤ 8 := by
      rw [← hN]
      split
      · split at * <;> omega
      · omega
    refine ⟨_, rfl, by omega, by omega, for_range (lo := 0) (n := N.toNat) (fun i σ H' => ∃ x1 x2 x3 x4 x5 : Option V, σ = [some (.ref a), x1, x2, x3, x4, x5, none, none, none, none] ∧ SqL K H' a (ns.map V.int) ∧ Tabs Tb H') ⟨none, none, none, none, none, rfl, hS, hT⟩ ?_ ?_⟩
    · rintro i σ H0 hi ⟨x1, x2, x3, x4, x5, rfl, hS0, hT0⟩
      refine ⟨_, rfl, _, rfl, a, ns, i, (by simp), hS0, hn, by omega, fun H1 p s1 hp0 st1 => ?_⟩
      have T1 := tabs_sm hT0 s1
      have sq1 : SqL K (ct p H1) a (ns.map V.int) := sql_fresh hS0 hp0 s1
      show tSeq _ _ _ ([some (.ref a), some (.int (0 + (i : Int))), some (.ref p), x3, x4, x5, none, none, none, none] : L2.St) _
      refine ⟨8, rfl, by decide, by decide, for_range (lo := 0) (n := (8 : Int).toNat) (fun j σ H' => ∃ y3 y4 y5 : Option V, σ = [some (.ref a), some (.int (0 + (i : Int))), some (.ref p), y3, y4, y5, none, none, none, none] ∧ Same (ct p H1) (ct p H') ∧ StrAt H' p (41 * j) ∧ Tabs Tb H') ⟨_, _, _, rfl, Same.refl _, st1, T1⟩ ?_ ?_⟩
      · rintro j σ H2 hj ⟨y3, y4, y5, rfl, sj, tj, Tj⟩
        have hj : j < 8 := hj
        obtain ⟨st2, hp2⟩ := tj.some
        refine ⟨_, rfl, p, _, rfl, tj, by omega, fun H3 x d b3 t3 dx okd => ?_⟩
        obtain ⟨st3, hp3⟩ := t3.some
        refine ⟨_, rfl, p, 11, _, rfl, t3, by omega, by decide, by decide, fun H4 v v0 v1 b4 t4 => ⟨_, _, rfl, ?_⟩⟩
        have T4 := tabs_but (tabs_but Tj hp2 b3) hp3 b4
        have s4 : Same (ct p H1) (ct p H4) := (sj.trans (ct_but b3)).trans (ct_but b4)
        have d4 : Dt K H4 x d := Dt.same ct_all _ _ (Dt.same (ct_but b4) _ _ dx)
        have hsz : sizeOk (.int v) = true := by
          show (true && (decide (0 ≤ v) && decide (v ≤ 10))) = true
          rw [decide_eq_true v0, decide_eq_true (show v ≤ 10 by omega)] <;> rfl
        show tSeq _ _ _ ([some (.ref a), some (.int (0 + (i : Int))), some (.ref p), some (.int (0 + (j : Int))), some x, some (.int v), none, none, none, none] : L2.St) _
        refine ⟨_, rfl, x, d, rfl, d4, short_of okd.1, fun H5 s5 => ⟨_, .bool _, rfl, .bl _, rfl, Nat.zero_le _, bl _, ?_⟩⟩
        refine ⟨_, rfl, x, d, rfl, Dt.same s5 _ _ d4, okd.1, fun H6 s6 => ⟨_, .bool _, rfl, .bl _, rfl, Nat.zero_le _, bl _, rfl, _, rfl, ite_f (by rw [decide_eq_true rfl]; rfl) ?_⟩⟩
        have s46 := s5.trans s6
        have d6 := Dt.same s46 _ _ d4
        refine ⟨_, rfl, _, rfl, .int v, x, .int v, d, rfl, .int v, d6, fun H7 s7 => ite_t hsz ⟨_, .bool _, rfl, .bl _, rfl, Nat.zero_le _, bl _, ?_⟩⟩
        refine ⟨_, rfl, _, rfl, v, x, d, rfl, Dt.same s7 _ _ d6, okd.2, fun H8 s8 => ⟨_, .bool _, rfl, .bl _, rfl, Nat.zero_le _, bl _, rfl, _, rfl, ite_f (by
          show (!decide (V.str (PyData.bool (isLine v d)).shown = V.str (PyData.bool (isLine v d)).shown)) = false
          rw [decide_eq_true rfl]; rfl) ?_⟩⟩
        have s48 := (s46.trans s7).trans s8
        have d8 := Dt.same s48 _ _ d4
        have out : ∀ {G : Hp}, Same H4 G → ∃ y3 y4 y5 : Option V, ([some (.ref a), some (.int (0 + (i : Int))), some (.ref p), some (.int (0 + (j : Int))), some x, some (.int v), none, none, none, none] : L2.St) = [some (.ref a), some (.int (0 + (i : Int))), some (.ref p), y3, y4, y5, none, none, none, none] ∧ Same (ct p H1) (ct p G) ∧ StrAt G p (41 * (j + 1)) ∧ Tabs Tb G := fun s => ⟨_, _, _, rfl, s4.trans (ct_sm s), (t4.same s).mono (by omega), tabs_sm T4 s⟩
        refine ⟨_, rfl, _, _, _, _, _, rfl, .ty _, d8.ty, kit_tup d, _, rfl, ?_⟩
        cases htu : decide (tyD d = "tuple") with
        | false => exact iteF (iteF (out s48))
        | true =>
          refine iteT ?_
          obtain ⟨dd, rfl⟩ : ∃ dd, d = .tuple dd := by
            cases d with
            | tuple dd => exact ⟨dd, rfl⟩
            | _ => simp [tyD] at htu
          have d8' := d8
          cases d8' with
          | tup hq hA =>
            rename_i q xs
            have hlen := dts_len hA
            refine ⟨_, rfl, q, _, rfl, .inr hq, _, _, rfl, rfl, _, rfl, ite2 (fun h11 => ?_) (fun _ => out s48)⟩
            have h11 : (xs.length : Int) < 11 := of_decide_eq_true h11
            have hsz2 : sizeOk (.int (xs.length : Int)) = true := by
              show (true && (decide (0 ≤ (xs.length : Int)) && decide ((xs.length : Int) ≤ 10))) = true
              rw [decide_eq_true (show 0 ≤ (xs.length : Int) by omega), decide_eq_true (show (xs.length : Int) ≤ 10 by omega)] <;> rfl
            refine ⟨_, rfl, q, _, rfl, .inr hq, _, rfl, .int _, .ref q, .int _, .tuple dd, rfl, .int _, d8, fun H9 s9 => ite_t hsz2 ⟨_, .bool _, rfl, .bl _, rfl, Nat.zero_le _, bl _, ?_⟩⟩
            refine ⟨_, rfl, q, _, rfl, .inr (sqt_same s9 hq), _, rfl, (xs.length : Int), .ref q, .tuple dd, rfl, Dt.same s9 _ _ d8, okd.2, fun H10 s10 => ⟨_, .bool _, rfl, .bl _, rfl, Nat.zero_le _, bl _, rfl, _, rfl, ite_f (by
              show (!decide (V.str (PyData.bool (isLine (xs.length : Int) (.tuple dd))).shown = V.str (PyData.bool (isLine (xs.length : Int) (.tuple dd))).shown)) = false
              rw [decide_eq_true rfl]; rfl) ?_⟩⟩
            exact out ((s48.trans s9).trans s10)
      · rintro σ J0 ⟨y3, y4, y5, rfl, s2, t2, T2⟩
        refine ⟨_, rfl, p, _, rfl, t2, by decide, T2, fun J1 c1 t1 T1 => ⟨_, rfl, ite_f rfl ⟨_, rfl, p, _, rfl, t1, by decide, T1, fun J2 c2 t3 T3 => ⟨_, rfl, ite_f rfl ?_⟩⟩⟩⟩
        exact ⟨_, _, _, _, _, rfl, Same.seq ct_all (Same.seq ((s2.trans c1).trans c2) sq1), T3⟩
    · rintro σ G0 ⟨x1, x2, x3, x4, x5, rfl, hS0, hT0⟩
      refine ⟨(by show 9 ≤ sizeLine; decide), fun S nS => ?_⟩
      generalize eS : upd G0 S _ = G1
      have y1 : Same G0 G1 := eS ▸ smu nS
      have mS : G1 S = some (.lst (words.map V.str)) := eS ▸ upd_same
      show tSeq _ _ _ ([some (.ref a), x1, x2, x3, x4, x5, some (.ref S), none, none, none] : L2.St) _
      refine ⟨_, rfl, S, rfl, ⟨_, SqL.of mS⟩, fun D nD => lc_list (xs := words.map V.str) (fun i G => Same G1 G ∧ G D = some (.lst (((words.take i).map fun x => isWord (.str x)).map V.bl))) ⟨smu nD, upd_same⟩ (fun i G _ h => SqL.of (h.1 _ _ mS)) ?_ ?_⟩
      · rintro i x G hx ⟨sG, hD⟩
        have hi : i < words.length := by
          have := (List.getElem?_eq_some_iff.mp hx).1
          rw [List.length_map] at this
          exact this
        have ex : x = .str words[i] := by
          rw [List.getElem?_map, List.getElem?_eq_getElem hi] at hx
          exact (Option.some.inj hx).symm
        subst ex
        have et : (words.take (i + 1)).map (fun x => isWord (.str x)) = (words.take i).map (fun x => isWord (.str x)) ++ [isWord (.str words[i])] := by
          rw [List.take_add_one, List.getElem?_eq_getElem hi, List.map_append] <;> rfl
        refine ⟨rfl, yes_in ⟨_, rfl, .str words[i], .str words[i], rfl, .str _, words_short _ (List.getElem_mem hi), fun G' s' => ⟨_, s' _ _ hD, ?_, fun b o e => ?_, ?_⟩⟩⟩
        · rw [List.length_map, List.length_map, List.length_take, sizeLine_eq]
          have : words.length = 9 := rfl
          omega
        · rw [upd_ne (ne_of_none e nD)]
          exact s' _ _ (sG _ _ e)
        · rw [upd_same, et, List.map_append] <;> rfl
      · rintro G2 ⟨s2, hD⟩
        rw [List.length_map, List.take_length, words_told] at hD
        have y2 := y1.trans s2
        show tSeq _ _ _ ([some (.ref a), x1, x2, x3, x4, x5, some (.ref S), some (.ref D), none, none] : L2.St) _
        refine ⟨_, rfl, (by show 9 ≤ sizeLine; decide), fun Bq nB => ?_⟩
        generalize eB : upd G2 Bq _ = G3
        have y3 : Same G2 G3 := eB ▸ smu nB
        have mB : G3 Bq = some (.lst (([true, false, false, true, false, false, false, true, false] : List Bool).map V.bl)) := eB ▸ upd_same
        refine ⟨_, _, .lst (SqL.of (y3 _ _ hD)) (dp_bools _), .lst (SqL.of mB) (dp_bools _), rfl, rfl, _, rfl, ite_f (by decide +kernel) ?_⟩
        refine ⟨(by show 0 ≤ sizeLine; decide), fun q4 n4 => ?_⟩
        have y4 := smu (o := .tup []) n4
        have m4 := upd_same (H := G3) (a := q4) (o := .tup [])
        generalize upd G3 q4 (.tup []) = G4 at y4 m4 ⊢
        refine ⟨.int 0, .ref q4, .int 0, .tuple [], rfl, .int 0, .tup (SqT.of m4) .nil, fun G5 y5 => ite_t rfl ⟨_, rfl, ite_f rfl ?_⟩⟩
        have T5 := tabs_sm (tabs_sm (tabs_sm (tabs_sm hT0 y2) y3) y4) y5
        clear mS hD mB m4 y1 s2 y2 y3 y4 y5 eS eB
        -- wide
        refine ⟨(by show 1 ≤ sizeLine; decide), fun a1 na1 => ?_⟩
        have z1 := smu (o := .tup [V.int 1]) na1
        have w1 := upd_same (H := G5) (a := a1) (o := .tup [V.int 1])
        generalize upd G5 a1 (.tup [V.int 1]) = G6 at z1 w1 ⊢
        refine ⟨a1, 9, _, rfl, rfl, SqT.of w1, List.cons_ne_nil _ _, by decide, by decide, by decide, fun a2 na2 => ?_⟩
        generalize e2 : upd G6 a2 _ = G7
        have z2 : Same G6 G7 := e2 ▸ smu na2
        have w2 : G7 a2 = some (.tup (([1, 1, 1, 1, 1, 1, 1, 1, 1] : List Int).map V.int)) := e2 ▸ upd_same
        refine ⟨(by show 1 ≤ sizeLine; decide), fun a3 na3 => ?_⟩
        have z3 := smu (o := .tup [V.int 5]) na3
        have w3 := upd_same (H := G7) (a := a3) (o := .tup [V.int 5])
        generalize upd G7 a3 (.tup [V.int 5]) = G8 at z3 w3 ⊢
        refine ⟨a2, a3, _, _, rfl, rfl, z3 _ _ w2, w3, by decide, fun G9 b5 z4 w4 => ?_⟩
        replace w4 : G9 b5 = some (.tup (row5.map V.int)) := w4
        refine ⟨(by show 1 ≤ sizeLine; decide), fun c1 nc1 => ?_⟩
        have z5 := smu (o := .tup [V.int 1]) nc1
        have w5 := upd_same (H := G9) (a := c1) (o := .tup [V.int 1])
        generalize upd G9 c1 (.tup [V.int 1]) = G10 at z5 w5 ⊢
        refine ⟨c1, 9, _, rfl, rfl, SqT.of w5, List.cons_ne_nil _ _, by decide, by decide, by decide, fun c2 nc2 => ?_⟩
        generalize e6 : upd G10 c2 _ = G11
        have z6 : Same G10 G11 := e6 ▸ smu nc2
        have w6 : G11 c2 = some (.tup (([1, 1, 1, 1, 1, 1, 1, 1, 1] : List Int).map V.int)) := e6 ▸ upd_same
        refine ⟨(by show 1 ≤ sizeLine; decide), fun c3 nc3 => ?_⟩
        have z7 := smu (o := .tup [V.int 6]) nc3
        have w7 := upd_same (H := G11) (a := c3) (o := .tup [V.int 6])
        generalize upd G11 c3 (.tup [V.int 6]) = G12 at z7 w7 ⊢
        refine ⟨c2, c3, _, _, rfl, rfl, z7 _ _ w6, w7, by decide, fun G13 b6 z8 w8 => ?_⟩
        replace w8 : G13 b6 = some (.tup (row6.map V.int)) := w8
        refine ⟨(by show 2 ≤ sizeLine; decide), fun wd nwd => ?_⟩
        have z9 := smu (o := .tup [V.ref b5, V.ref b6]) nwd
        have w9 := upd_same (H := G13) (a := wd) (o := .tup [V.ref b5, V.ref b6])
        generalize upd G13 wd (.tup [V.ref b5, V.ref b6]) = G14 at z9 w9 ⊢
        have hb6 := z9 _ _ w8
        have z49 := (((z5.trans z6).trans z7).trans z8).trans z9
        have hb5 := z49 _ _ w4
        have T14 := tabs_sm (tabs_sm (tabs_sm (tabs_sm (tabs_sm T5 z1) z2) z3) z4) z49
        clear z1 w1 z2 w2 z3 w3 z4 z5 w5 z6 w6 z7 w7 z8 z9 z49 w4 w8 e2 e6
        show tSeq _ _ _ ([some (.ref a), x1, x2, x3, x4, x5, some (.ref S), some (.ref D), some (.ref wd), none] : L2.St) _
        refine ⟨(by show 0 ≤ sizeLine; decide), fun d1 nd1 => ?_⟩
        have z1 := smu (o := .tup []) nd1
        have w1 := upd_same (H := G14) (a := d1) (o := .tup [])
        generalize upd G14 d1 (.tup []) = G15 at z1 w1 ⊢
        refine ⟨(by show 2 ≤ sizeLine; decide), fun d2 nd2 => ?_⟩
        have z2 := smu (o := .tup [V.int 3, V.int 4]) nd2
        have w2 := upd_same (H := G15) (a := d2) (o := .tup [V.int 3, V.int 4])
        generalize upd G15 d2 (.tup [V.int 3, V.int 4]) = G16 at z2 w2 ⊢
        refine ⟨.ref d1, .ref d2, _, .tuple [], .tuple [.int 3, .int 4], .tuple [], rfl, .tup (SqT.of (z2 _ _ w1)) .nil, .tup (SqT.of w2) (.cons (.int 3) (.cons (.int 4) .nil)), .tup (hEQ _) .nil, by decide, fun G17 z3 => ite_t rfl (ite_t (by decide +kernel) (ite_t rfl (ite_t rfl ⟨rfl, _, rfl, ite_f rfl ?_⟩)))⟩
        refine ⟨(by show 0 ≤ sizeLine; decide), fun d3 nd3 => ?_⟩
        have z4 := smu (o := .tup []) nd3
        have w4 := upd_same (H := G17) (a := d3) (o := .tup [])
        generalize upd G17 d3 (.tup []) = G18 at z4 w4 ⊢
        refine ⟨(by show 0 ≤ sizeLine; decide), fun d4 nd4 => ?_⟩
        have z5 := smu (o := .tup []) nd4
        have w5 := upd_same (H := G18) (a := d4) (o := .tup [])
        generalize upd G18 d4 (.tup []) = G19 at z5 w5 ⊢
        refine ⟨.ref d3, .ref d4, _, .tuple [], .tuple [], .tuple [], rfl, .tup (SqT.of (z5 _ _ w4)) .nil, .tup (SqT.of w5) .nil, .tup (hEB _) .nil, fun G20 z6 => ite_t (by decide +kernel) (ite_t rfl ⟨_, rfl, ite_f (by decide +kernel) ?_⟩)⟩
        have z16 := ((((z1.trans z2).trans z3).trans z4).trans z5).trans z6
        refine ⟨_, rfl, (by show 1 ≤ sizeLine; decide), fun d5 nd5 => ?_⟩
        have z7 := smu (o := .tup [V.int 9]) nd5
        have w7 := upd_same (H := G20) (a := d5) (o := .tup [V.int 9])
        generalize upd G20 d5 (.tup [V.int 9]) = G21 at z7 w7 ⊢
        have z17 := z16.trans z7
        refine ⟨rfl, rfl, wd, .ref d5, [(b5, row5), (b6, row6)], .tuple [.int 9], rfl, .tup (SqT.of w7) (.cons (.int 9) .nil), by show 2 < 64; decide, (by show rowsOk (.tuple ([row5, row6].map fun ns => PyData.tuple (ns.map PyData.int))) = true; decide +kernel), by decide +kernel, SqT.of (z17 _ _ w9), fun z hz => ?_, tabs_sm T14 z17, fun G22 pz zs eN TN hR hz hpz => ?_⟩
        · rcases List.mem_cons.mp hz with h | h
          · rw [h]; exact z17 _ _ hb5
          · rw [List.mem_singleton.mp h]; exact z17 _ _ hb6
        have hz : zs.map (·.2) = [row6, row5] := hz.trans wide_sorted
        have ext : ∀ {b : Addr} {xs : List V}, G21 b = some (.tup xs) → G22 b = some (.tup xs) := fun h => eN _ _ h (fun ps z => by cases z)
        refine ⟨_, rfl, wd, _, rfl, SqT.of (ext (z17 _ _ w9)), fun rv nrv => ?_⟩
        have zr := smu (o := .tup ([V.ref b5, V.ref b6].reverse)) nrv
        have wr := upd_same (H := G22) (a := rv) (o := .tup ([V.ref b5, V.ref b6].reverse))
        generalize upd G22 rv (.tup ([V.ref b5, V.ref b6].reverse)) = G23 at zr wr ⊢
        have shp : SeqAt.shaped (.tuple ([row6, row5].map fun ns => .tuple (ns.map PyData.int))) = true := shaped_tups _
        refine ⟨.tuple ([row6, row5].map fun ns => .tuple (ns.map PyData.int)), .tuple ([row6, row5].map fun ns => .tuple (ns.map PyData.int)), ?_, ?_, shp, shp, ?_⟩
        · rw [← hz]
          exact .tup (SqT.of (zr _ _ hpz)) (dp_rows' fun z h => zr _ _ (hR z h))
        · exact .tup (SqT.of wr) (dp_rows' (zs := [(b6, row6), (b5, row5)]) fun z h => zr _ _ (by
            rcases List.mem_cons.mp h with h | h
            · rw [h]; exact ext (z17 _ _ hb6)
            · rw [List.mem_singleton.mp h]; exact ext (z17 _ _ hb5)))
        · rw [Rp.eq_self shp]
          exact fin _
end
end K01

namespace K01
open PySem PySem.Spec PyProof.Rows L2 Dr Ex Rp LamX
open He (ga ma)
theorem msg_ok {K : PySem.W.Frag} {x : Str} (h : Hx.msgB K x = true) : PySem.W.excIn K (ga K x) He.veBase "ValueError.__new__" = true ∧ PySem.W.keepIn K (.ref (ga K x)) = true ∧ PySem.W.typeIn K (.ref (ga K x)) = some (.type "type") := by
  unfold Hx.msgB at h
  obtain ⟨a1, h⟩ := He.ba h
  obtain ⟨a2, a3⟩ := He.ba h
  exact ⟨a1, a2, of_decide_eq_true a3⟩
/-- the table of sorted_rows' lambda -/
def TbK (K : PySem.W.Frag) : List (Addr × Str) := [((He.cT K ("sorted_rows", none)).2, qSorted)]
def csK (K : PySem.W.Frag) : List (Addr × Addr) := [He.cT K ("sorted_rows", none)]
theorem facts {P : Program} {w : World} {K : PySem.W.Frag} {mg : Str → Option Value} {h : Heap} {f : Addr} (X : K.In h) (G : h.Ns mainGlobals mg) (hfa : mg ("law" : Str) = some (.ref f)) (c : Hx.SaysT ts fn tf h K) :
    ∃ fd : FuncData, (∀ (s : Shared) (v : Value), BindsTo s fd ⟨[v], []⟩ [("_law_script", v)]) ∧ ∀ base : Heap, K.In base → base.Ns mainGlobals mg → (∀ p ∈ csK K, TabB base mg p.1 p.2) → FnG P w K mg base CX0 7 f fd ["_law_script"] (spLaw K (TbK K)) := by
  have c1 : ts K = true := c.c.test
  unfold ts at c1
  obtain ⟨h1, c1⟩ := He.ba c1
  obtain ⟨h2, c1⟩ := He.ba c1
  obtain ⟨h3, c1⟩ := He.ba c1
  obtain ⟨h5, h8⟩ := He.ba c1
  unfold t1 at h1
  obtain ⟨h1a, h1b⟩ := He.ba h1
  obtain ⟨h1b, h1c⟩ := He.ba h1b
  obtain ⟨h1c, h1d⟩ := He.ba h1c
  have gAll : ∀ x, x ∈ (("law" : Str) :: gn) → mg x = some (.ref (ga K x)) := fun x hx => Hx.gloB_ok X G (xs := "law" :: gn) h1a hx
  have T : TG K mg := ⟨fun x hx => Hx.freeB_ok X G h1b hx, fun x hx => gAll x (List.mem_cons_of_mem _ hx), He.int_ok X G h1c⟩
  unfold t2 at h2
  obtain ⟨i1, h2⟩ := He.ba h2
  obtain ⟨i2, h2⟩ := He.ba h2
  obtain ⟨i3, i4⟩ := He.ba h2
  unfold t3 at h3
  obtain ⟨x1, x2⟩ := He.ba h3
  have M : EF K := ⟨Hx.icB_ok i1, Hx.icB_ok i2, msg_ok i3, msg_ok i4, Hx.xcB_ok x1, x2⟩
  have em : ∀ x, x ∈ ["before", "sorted_rows", "place_of"] → ∀ H, SqT K H (Hx.kwA x "down" K) [] := fun x hx H => Hx.emB_ok (List.all_eq_true.mp h5 x hx) H
  have gg : ∀ x, x ∈ gn → mg x = some (.ref (ga K x)) := T.g
  have fns : Fns K mg := {
    g1 := gg "is_integer" (by decide +kernel)
    g2 := gg "are_integers" (by decide +kernel)
    g3 := gg "is_ascending" (by decide +kernel)
    gk := gg "sort_key" (by decide +kernel)
    gr := gg "check_rows" (by decide +kernel)
    gd := gg "check_down" (by decide +kernel)
    f1 := c.c.def_ 1 rfl
    f2 := c.c.def_ 2 rfl
    f3 := c.c.def_ 3 rfl
    fk := c.c.def_ 9 rfl
    fr := c.c.def_ 10 rfl
    fdn := c.c.def_ 11 rfl }
  have fns2 : Fns2 K mg := {
    b := fns
    gb := gg "before" (by decide +kernel)
    gs := gg "sorted_rows" (by decide +kernel)
    gp := gg "place_of" (by decide +kernel)
    gi := gg "is_row" (by decide +kernel)
    fb := c.c.def_ 6 rfl
    fs := c.c.def_ 7 rfl
    fp := c.c.def_ 8 rfl
    fi := c.c.def_ 5 rfl
    fN := c.c.def_ 0 rfl
    eb := em "before" (by decide +kernel)
    es := em "sorted_rows" (by decide +kernel)
    ep := em "place_of" (by decide +kernel) }
  have fns4 : Fns4 K mg := {
    a := fns2
    fw := c.c.def_ 13 rfl
    fp := c.c.def_ 14 rfl
    fm := c.c.def_ 15 rfl
    fa := c.c.def_ 19 rfl
    fo := c.c.def_ 20 rfl
    fl := c.c.def_ 21 rfl
    sys := Hx.sysB_ok h8 }
  have fns5 : Fns5 K mg := {
    a := fns4
    fs := c.c.def_ 12 rfl
    ft := c.c.def_ 18 rfl
    fn := c.c.def_ 4 rfl
    fw := c.c.def_ 16 rfl
    fi := c.c.def_ 17 rfl
    fr := c.c.def_ 22 rfl
    ml := He.int_ok X G h1d }
  obtain ⟨fd, F⟩ := c.c.def_ 23 (d := dF "law" sLaw) rfl
  have gl := gAll "law" List.mem_cons_self
  have e := hfa.symm.trans gl
  cases e
  have b := FunD.bindsA (ps := ["_law_script"]) F fun _ _ _ _ _ _ us hl => match us, hl with | [_], _ => rfl
  refine ⟨fd, fun s v => b s [v] rfl, fun base _ _ TB => ok_law F fns5 T M (TB _ List.mem_cons_self) List.mem_cons_self (fun z hz hp => ?_)⟩
  rw [List.mem_singleton.mp hz]
end K01
open PySem PySem.W PySem.Calls PyProof.Rows
theorem PySem.Challenge.cw_pagewise_k01_names_rows_and_order_holds : PySem.Challenge.rw_pagewise_k01_names_rows_and_order.Holds := by
  w_on; o_law
  refine HandSHeadRun.head_any (r := OpenLaw.row PySem.Challenge.rw_pagewise_k01_names_rows_and_order) (q := view (OpenLaw.row PySem.Challenge.rw_pagewise_k01_names_rows_and_order).prog [31]) (H := K01.hk) (ob := K01.ob) (M := 4000) (loose := K01.loose)
    (d := HandSHeadRun.topDef (OpenLaw.row PySem.Challenge.rw_pagewise_k01_names_rows_and_order).prog 31) (kwd := []) K01.ob_eq
    (by kernel_rfl) (fun s => by kernel_rfl) K01.run (by kernel_rfl) (by kernel_rfl) (by kernel_rfl) (by rfl) (by first | assumption | decide +kernel) (by decide +kernel) ⟨rfl, rfl, rfl, rfl, rfl, by decide +kernel⟩ ?hw ?hc
  case hw => w_witness2
  case hc =>
    refine Rp.walk_GT (l := PySem.Challenge.rw_pagewise_k01_names_rows_and_order) (n := 63) (k := 7) (x := "_law_script") (CX := L2.CX0) rfl (by decide) (by kernel_rfl) ⟨rfl, by decide, by decide⟩ ?F (fun _ _ _ _ z => z)
    intro w mg fa h Y G hmg0
    obtain ⟨K, KX, c⟩ := Y
    have hmg : mg ("law" : PySem.Str) = some (.ref fa) := by
      have e : (HandSHeadRun.topDef (OpenLaw.row PySem.Challenge.rw_pagewise_k01_names_rows_and_order).prog 31).name = ("law" : PySem.Str) := by kernel_rfl
      rw [← e]
      exact hmg0
    obtain ⟨fd, hb, hF⟩ := K01.facts (P := (PySem.Challenge.rw_pagewise_k01_names_rows_and_order).prog) (w := w) KX G hmg c
    have of : ∀ p ∈ K01.csK K, ∃ d ∈ K01.tf, p = He.cT K d := fun p hp => by
      rw [List.mem_singleton.mp hp]
      exact ⟨_, List.mem_cons_self, rfl⟩
    refine ⟨K, fd, K01.csK K, K01.spLaw K (K01.TbK K), KX, fun p hp => ?_, fun p hp => ?_, fun p hp => ?_, hb, fun H a ns hl hT hS => ⟨a, ns, rfl, hS, hl, fun z hz => ?_, fun _ => rfl⟩, hF⟩
    · obtain ⟨d, hd, rfl⟩ := of p hp
      exact c.empty d hd
    · obtain ⟨d, hd, rfl⟩ := of p hp
      exact c.out d hd
    · obtain ⟨d, hd, rfl⟩ := of p hp
      exact PySem.W.codeHd_of_K KX (c.hd d hd)
    · have hz' : ∃ p ∈ K01.csK K, z.1 = p.2 := by
        rw [List.mem_singleton.mp hz]
        exact ⟨_, List.mem_cons_self, rfl⟩
      obtain ⟨p, hp, e⟩ := hz'
      rw [e]
      exact LamX.TabS.nil (hT p hp)
