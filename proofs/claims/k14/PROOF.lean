import PyProof.Rows.All
import Wide.All
import OpenK.AllK
import Wide.FinOn
import KE.KExcIs
import KE.KExcInit
import HandS.ForMost
import HandS.Exc
import HandS.ExcOwn
import HandS.ExcValue
import HandS.ExcInit
import HandS.IsInst
import PyProof.ReprRoads
import HandS.RaiseMore
import HandS.Defaults
import HandS.Ends
import HandS.HeadEnd
import HandS.EndTab
import KE.KStateDown
import HandS.Head0
import HandS.Head1
import HandS.Head2
import HandS.HeadHook1
import HandS.HeadHook2
import HandS.Wide
import PyProof.ReprLen
import PyProof.CallFns
import HandS.Walk
import HandS.Comp
import HandS.Words
import HandS.TupAny
import KE.SortKeyHeap
import KE.LtData
import HandS.TupSets
import KE.SortData
import HandS.More
import HandS.Text
import HandS.Deep
import HandS.WordsDict
import HandS.Iter
import PyProof.AutoSeq1
import HandS.Flow
import HandS.Property
import HandS.Codes
import HandS.ClsMeth
import HandS.Star
import HandS.CallLocal
import HandS.DictComp
import HandS.ListItems
import KE.GoesMore
import KE.KDictCopyH
import HandS.SetBool
import HandS.Strs
import HandS.SetKeys
import HandS.SetFor
import HandS.MakeKw
import HandS.HeadHook4
import HandS.NestedK
import HandS.HeadNt
import HandS.List
import HandS.TupMul
import PyProof.NeKinds
import PyProof.FactsAll.dict_2
import PyProof.FactsAll.subtypes_4
import HandS.Lambda
import HandS.SortKw
import HandS.Evl
import HandS.Conv
import HandS.Zip
import HandS.Flt
import HandS.Records
import PySem.Challenge.RW_pagewise_k14_neighbours_and_homes
set_option Elab.async false
set_option linter.all false
set_option maxRecDepth 100000
set_option maxHeartbeats 0
/-! Own exceptions over any built-in base, as values: made by their own __init__, their fields read, asked by isinstance. -/
namespace Ex
open PySem PySem.Spec PySem.Calls PyProof.Rows L2

/-- what a built-in base tells: its mro, who makes, who fills -/
structure Base (B nid iid : String) (ml : List Value) : Prop where
  mak : ∃ (Bn inN : String) (mN : List Value), ExcBaseFacts Bn nid inN mN ∧ ml.contains (.type Bn) = true
  noA : ml.contains (.type "AttributeError") = false
  noN : ml.contains (.type "NameError") = false
  hasB : ml.contains (.type B) = true
  hasO : ml.contains (.type "object") = true
  pass : ∀ self : Value, refuseLoop self "__setattr__" ml = pure ()
  iPlain : plainId iid = true
  iEntry : entryFor table iid = some Builtin.«BaseException.__init__»
  iSplit : splitId iid = some (B, "__init__")
  iKind : builtinKind iid = some .slot
  iRow : Manifest.signature? iid = some ⟨.positional, "*", B, .self, [⟨"args", .varPos, false⟩]⟩
  star : (B != "*") = true
theorem base_of {B nid iid : String} {ml : List Value} (F : ExcBaseFacts B nid iid ml) (ho : ml.contains (.type "object") = true) (hp : ∀ self : Value, refuseLoop self "__setattr__" ml = pure ()) : Base B nid iid ml where
  mak := ⟨B, iid, ml, F, F.hasB⟩
  noA := F.noAttr
  noN := F.noName
  hasB := F.hasB
  hasO := ho
  pass := hp
  iPlain := F.init.plain
  iEntry := F.initEntry
  iSplit := F.initSplit
  iKind := F.initKind
  iRow := F.initRow
  star := F.noStar

/-- an exception object, fresh -/
abbrev eob (C t : Addr) : Obj := { cls := .ref C, data := .fields #[.ref t, .none, .none, .none, .bool false, .none] }
section
variable {M : Model} {A : Around} {E : Value → Shared → Prop} {h : Heap} {g : Array GenState} {d : Drawn} {t : Nat} {os : OsState}
variable {nm q : Str} {C N : Addr} {bs ml : List Value} {hy : Bool} {sn : List Str} {sub : List Value} {ab : Bool} {col : Option Bool} {dd : Option Addr} {k0 k1 k2 k3 k5 : Option Value} {B nid iid Bn inN : String} {mN : List Value}
theorem look_new (F : ExcBaseFacts Bn nid inN mN) (hb : ml.contains (.type Bn) = true) {us : List Value} {Q : Unit → Shared → Prop}
    (oC : h.get? C = some (excClassObj nm q C N bs ml hy sn sub ab col dd k0 k1 k2 k3 k5 nid)) (hq : Q () ⟨h, g, d, t, os⟩) : wpAny M A (checkBuiltinCall nid ⟨.ref C :: us, []⟩) Q E ⟨h, g, d, t, os⟩ := by
  have c1 : (Value.ref C :: ml).contains (.type Bn) = true := by
    rw [List.contains_cons, hb, Bool.or_true]
  have c2 := F.noStar
  simp only [checkBuiltinCall, F.newKind, F.newSplit,
    F.newRow]
  repeat (first
    | refine wpAny_loadPart_at oC ?_
    | (refine wpAny_isSubtype_exc oC ?_; rw [c1])
    | refine wpAny_staticBase_exc oC ?_
    | refine wpAny_madeBy_exc oC ?_
    | simp only [bne_self_eq_false, Bool.false_eq_true, if_false]
    | wp_step)
  exact hq
theorem look_init (Y : Base B nid iid ml) {e : Addr} {oe : Obj} {us : List Value} {nw : String} {Q : Unit → Shared → Prop}
    (oC : h.get? C = some (excClassObj nm q C N bs ml hy sn sub ab col dd k0 k1 k2 k3 k5 nw)) (he : h.get? e = some oe) (hc : oe.cls = .ref C) (hq : Q () ⟨h, g, d, t, os⟩) :
    wpAny M A (checkBuiltinCall iid ⟨.ref e :: us, []⟩) Q E ⟨h, g, d, t, os⟩ := by
  have c1 : (Value.ref C :: ml).contains (.type B) = true := by
    rw [List.contains_cons, Y.hasB, Bool.or_true]
  have c2 := Y.star
  simp only [checkBuiltinCall, Y.iKind, Y.iSplit,
    Y.iRow]
  repeat (first
    | (with_reducible refine wpAny_loadPart_at he ?_; rw [hc])
    | with_reducible refine wpAny_loadPart_at oC ?_
    | (with_reducible refine wpAny_isSubtype_exc oC ?_; rw [c1])
    | wp_step)
  refine wpAny_onRaise ?_
  rw [show ∀ (x y : String) (n : Nat), Bind.check ⟨.positional, "*", B, .self, [⟨"args", .varPos, false⟩]⟩ x y n (List.map (fun z => z.fst) ({ pos := Value.ref e :: us } : Args).kw) = pure () from
    fun x y n => check_star_args _ _ _ _ _ _]
  exact wpAny_pure hq
end
section
variable {prog : Program} {w : World} {A : Around} {E : Value → Shared → Prop} {R : Result → Shared → Prop} {h : Heap} {g : Array GenState} {d : Drawn} {t : Nat} {os : OsState}
variable {nm q : Str} {C N : Addr} {bs ml : List Value} {hy : Bool} {sn : List Str} {sub : List Value} {ab : Bool} {col : Option Bool} {dd : Option Addr} {k0 k1 k2 k3 k5 : Option Value} {B nid iid Bn inN : String} {mN : List Value}
theorem run_new (F : ExcBaseFacts Bn nid inN mN) (hb : ml.contains (.type Bn) = true) (ha : ml.contains (.type "AttributeError") = false) (hn : ml.contains (.type "NameError") = false) {us : List Value}
    (oC : h.get? C = some (excClassObj nm q C N bs ml hy sn sub ab col dd k0 k1 k2 k3 k5 nid))
    (hq : R (.ok (.ret (.ref (h.objs.size + 1)))) ⟨(h.push { cls := .type "tuple", data := .seq us.toArray }).push (eob C h.objs.size), g, d, t, os⟩) (hl : us.length ≤ sizeLine) :
    codeAny (model prog w) A (.builtin nid ⟨.ref C :: us, []⟩) R ⟨h, g, d, t, os⟩ := by
  have c0 := F.ends
  have c1 : (Value.ref C :: ml).contains (.type Bn) = true := by
    rw [List.contains_cons, hb, Bool.or_true]
  have c2 : (Value.ref C :: ml).contains (.type "AttributeError") = false := by
    rw [List.contains_cons, ha]; rfl
  have c3 : (Value.ref C :: ml).contains (.type "NameError") = false := by
    rw [List.contains_cons, hn]; rfl
  have hrest : us.length ≤ sizeLine := hl
  refine codeAny_builtinAt F.entry ?_
  unfold Builtin.«BaseException.__new__»
  refine PySem.wpAt_bind ?_
  show PySem.wpAt _ _ _ (stack >>= _) _ _ _
  refine PySem.wpAt_bind (PySem.wpAt_stack fun p under => PySem.wpAt_of_wpAny ?_)
  wp_walk
  refine PySem.wpAt_of_wpAny ?_
  rw [F.owner]
  repeat (first
    | with_reducible refine wpAny_madeHere_exc F.canon oC ?_
    | with_reducible refine wpAny_loadPart_at oC ?_
    | (with_reducible refine wpAny_isSubtype_exc oC ?_; first | rw [c1] | rw [c2] | rw [c3])
    | wp_step)
  show R _ _
  rw [Heap.size_push]
  exact hq
theorem run_type_call (Y : Base B nid iid ml) {us : List Value} {fI : Addr} {Q : Fin → Shared → Prop}
    (oC : h.get? C = some (excClassObj nm q C N bs ml hy sn sub ab col dd k0 k1 k2 k3 k5 nid))
    (hi : W.Looks (model prog w) h (typeLookup (.ref C) "__init__") (some (.ref fI))) (hf : ∀ self, W.Looks (model prog w) h (bindSpecial (.ref fI) self) (.ref fI, [self])) (hl : us.length ≤ sizeLine)
    (hq : codeAny (model prog w) A (.call (.ref fI) ⟨.ref (h.objs.size + 1) :: us, []⟩)
      (fun r s' => match r with | .ok (.ret v) => v = .none ∧ Q (.done (.ret (.ref (h.objs.size + 1)))) s' | .ok _ => False | .error e => E e s')
      ⟨(h.push (W.kdv_tup us)).push (eob C h.objs.size), g, d, t, os⟩) :
    wpAny (model prog w) A (Builtin.«type.__call__» ⟨.ref C :: us, []⟩) Q E ⟨h, g, d, t, os⟩ := by
  obtain ⟨Bn, inN, mN, F, hb⟩ := Y.mak
  repeat (first
    | with_reducible refine wpAny_loadPart_at oC ?_
    | with_reducible refine wpAny_madeBy_exc oC ?_
    | wp_step)
  refine codeAny_call_builtin_code (Code.quiet_builtin _ F.quiet) (look_new F hb oC ?_)
  refine run_new F hb Y.noA Y.noN oC ?_ hl
  show wpAny _ _ _ _ _ _
  have k : ∀ b o, h.get? b = some o → ((h.push (W.kdv_tup us)).push (eob C h.objs.size)).get? b = some o :=
    fun b o e => Heap.get?_push_of_some _ (Heap.get?_push_of_some _ e)
  have oC1 := k _ _ oC
  have hg1 : ((h.push (W.kdv_tup us)).push (eob C h.objs.size)).get? (h.objs.size + 1) = some (eob C h.objs.size) := by
    heap_get
  have cC : (Value.ref C :: ml).contains (.ref C) = true := by simp
  have i1 := hi.keeps k
  have b1 := (hf (.ref (h.objs.size + 1))).keeps k
  unfold isInstance
  repeat (first
    | with_reducible refine wpAny_loadPart_at hg1 ?_
    | (with_reducible refine wpAny_isSubtype_exc oC1 ?_; rw [cC])
    | wp_step)
  show wpAny _ _ (typeLookup (.ref C) _) _ _ _
  refine i1.at ?_
  refine wpAny_holding (wpAny_bind (b1.at ?_))
  refine wpAny_bind (wpAny_call (codeAny_mono hq fun r s' z => ?_))
  rcases r with e | (v | _ | _ | _)
  all_goals first
    | exact z
    | exact z.elim
    | skip
  obtain ⟨rfl, z⟩ := z
  first
    | exact wpAny_pure (wpAny_pure z)
    | (wp_walk; exact z)
/-- C(..), C's own __init__ -/
theorem run_call (Y : Base B nid iid ml) {us : List Value} {fI : Addr}
    (oC : h.get? C = some (excClassObj nm q C N bs ml hy sn sub ab col dd k0 k1 k2 k3 k5 nid))
    (hi : W.Looks (model prog w) h (typeLookup (.ref C) "__init__") (some (.ref fI))) (hf : ∀ self, W.Looks (model prog w) h (bindSpecial (.ref fI) self) (.ref fI, [self])) (hl : us.length ≤ sizeLine)
    (hq : codeAny (model prog w) (A.under (.builtin "type.__call__" ⟨.ref C :: us, []⟩)) (.call (.ref fI) ⟨.ref (h.objs.size + 1) :: us, []⟩) (W.InitBack (h.objs.size + 1) R)
      ⟨(h.push (W.kdv_tup us)).push (eob C h.objs.size), g, d, t, os⟩) :
    codeAny (model prog w) A (.call (.ref C) ⟨us, []⟩) R ⟨h, g, d, t, os⟩ := by
  have f1 := tc_lookup
  have f2 := tc_bind (.ref C)
  have hTy : (⟨h, g, d, t, os⟩ : Shared).TypeIs (.ref C) "type" := ⟨_, oC, rfl⟩
  refine codeAny_of_tree ?_
  show wpAny _ _ (callAny (.ref C) _) _ _ _
  repeat (any_goals (first
    | assumption
    | with_reducible refine wpAny_loadPart_at oC ?_
    | wp_step))
  refine ⟨rfl, ?_⟩
  refine codeAny_call_builtin_at (Code.quiet_builtin _ (by decide +kernel)) entry_typeCall (wpAny_check_type_call_sub oC (run_type_call Y oC hi hf hl ?_))
  refine codeAny_mono hq fun r s' z => ?_
  rcases r with e | (v | _ | _ | _) <;> exact z
/-- B.__init__(e, ..) -/
theorem run_init (Y : Base B nid iid ml) {e t0 : Addr} {us : List Value} {nw : String}
    (oC : h.get? C = some (excClassObj nm q C N bs ml hy sn sub ab col dd k0 k1 k2 k3 k5 nw)) (he : h.get? e = some (eob C t0)) (hl : us.length ≤ sizeLine)
    (hq : ∀ h' t1, (∀ b o, b ≠ e → h.get? b = some o → h'.get? b = some o) → h'.get? e = some (eob C t1) → R (.ok (.ret .none)) ⟨h', g, d, t, os⟩) :
    codeAny (model prog w) A (.call (.builtin iid) ⟨.ref e :: us, []⟩) R ⟨h, g, d, t, os⟩ := by
  have hrest : us.length ≤ sizeLine := hl
  refine codeAny_call_builtin Y.iPlain Y.iEntry (look_init Y oC he rfl ?_)
  wp_walk
  refine hq _ h.objs.size (fun b o nb ho => ?_) ?_
  · rw [Heap.get?_update_other _ _ (Ne.symm nb)]
    exact Heap.get?_push_of_some _ ho
  · rw [Heap.get?_update_self _ (Heap.get?_push_of_some _ he) rfl]
    rfl
end
end Ex

namespace Ex
open PySem PySem.Spec PySem.Calls PyProof.Rows L2
/-! ### the five bases -/
abbrev mlI : List Value := [.type "IndexError", .type "LookupError", .type "Exception", .type "BaseException", .type "object"]
abbrev mlK : List Value := [.type "KeyError", .type "LookupError", .type "Exception", .type "BaseException", .type "object"]
abbrev mlO : List Value := [.type "OverflowError", .type "ArithmeticError", .type "Exception", .type "BaseException", .type "object"]
abbrev mlA : List Value := [.type "ArithmeticError", .type "Exception", .type "BaseException", .type "object"]
abbrev mlL : List Value := [.type "LookupError", .type "Exception", .type "BaseException", .type "object"]
theorem bI : Base "IndexError" "IndexError.__new__" "IndexError.__init__" mlI :=
  base_of F.excBase_IndexError (by decide +kernel) fun self => by kernel_rfl
theorem bO : Base "OverflowError" "OverflowError.__new__" "OverflowError.__init__" mlO :=
  base_of F.excBase_OverflowError (by decide +kernel) fun self => by kernel_rfl
theorem bA : Base "ArithmeticError" "ArithmeticError.__new__" "ArithmeticError.__init__" mlA :=
  base_of F.excBase_ArithmeticError (by decide +kernel) fun self => by kernel_rfl
theorem bL : Base "LookupError" "LookupError.__new__" "LookupError.__init__" mlL :=
  base_of F.excBase_LookupError (by decide +kernel) fun self => by kernel_rfl
theorem bK : Base "KeyError" "LookupError.__new__" "KeyError.__init__" mlK where
  mak := ⟨_, _, _, F.excBase_LookupError, by decide +kernel⟩
  noA := by decide +kernel
  noN := by decide +kernel
  hasB := by decide +kernel
  hasO := by decide +kernel
  pass := fun self => by kernel_rfl
  iPlain := by decide +kernel
  iEntry := excClass_KeyError.initEntry
  iSplit := by kernel_rfl
  iKind := by kernel_rfl
  iRow := by kernel_rfl
  star := by decide +kernel

section
open Builtin Builtin.ObjectAttr
variable {prog : Program} {w : World} {A : Around} {E : Value → Shared → Prop} {R : Result → Shared → Prop} {hp : Heap} {g : Array GenState} {d : Drawn} {t : Nat} {os : OsState}
/-- self.name = v on an exception without a dict -/
theorem osa_first {K : W.Frag} {name : Str} {tk : Tok} {v : Value} {x C : Addr} {fv : Array Value} {cd : ClassData} {B nid iid : String} {ml : List Value} (Y : Base B nid iid ml)
    (X : K.In hp) (hx : hp.get? x = some { cls := .ref C, data := .fields fv }) (hcd : W.clsIn K C = some cd) (hm : cd.mro = .ref C :: ml) (hh : cd.hasDict = true) (ha : W.findIn K (.ref C) name = some none)
    (hq : ∀ h' tk' dx, (∀ b o, b ≠ x → hp.get? b = some o → h'.get? b = some o) → hp.objs.size ≤ dx → dx ≠ x → h'.get? x = some { cls := .ref C, dict := some dx, data := .fields fv } →
      h'.Ns1 dx (fun y => if y = name then some v else none) → R (.ok (.ret .none)) ⟨h', g, d, tk', os⟩) :
    codeAny (model prog w) A (.call (.builtin "object.__setattr__") ⟨[.ref x, .str name tk, v], []⟩) R ⟨hp, g, d, t, os⟩ := by
  have J : W.InstAt hp x { cls := .ref C, data := .fields fv } C none := ⟨hx, rfl, rfl, trivial⟩
  have SF := F.store_object
  have ne : cd.mro.isEmpty = false := by rw [hm]; rfl
  have hob : cd.mro.contains (.type "object") = true := by
    rw [hm, List.contains_cons, Y.hasO, Bool.or_true]
  have hxs : x ≠ hp.objs.size := Nat.ne_of_lt (Heap.lt_size hx)
  have sub : W.Looks (model prog w) hp (isInstance (.ref x) (.type "object")) true :=
    J.type.andThen (W.looks_mroIn X (by unfold W.mroIn; rw [hcd, Option.bind_some, if_neg (by rw [ne]; decide), hob]))
  refine codeAny_call_builtin SF.slot.plain SF.entry
    (@W.check_slot (model prog w) _ _ ⟨hp, g, d, t, os⟩ "object.__setattr__" "object" "__setattr__" (.ref x) [.str name tk, v] [] _ SF.kind SF.split sub (SF.args (.ref x) (.str name tk) v) ?_)
  have l1 : W.Looks (model prog w) hp (mroOf (.ref C)) cd.mro := (W.looks_clsIn X hcd).andThen .now
  have l2 : W.Looks (model prog w) hp (storeTaker? none) none := .now
  have l3 : W.Looks (model prog w) hp (classData C) cd := W.looks_clsIn X hcd
  rw [W.osa_eq,
    refuse_eq]
  refine wpAny_bind (wpAny_bind (J.type.at (wpAny_bind (l1.at ?_))))
  rw [hm, refuseLoop_ref, Y.pass]
  refine wpAny_pure (wpAny_bind (J.type.at (wpAny_bind ((W.looks_findIn X ha).at (wpAny_bind (l2.at ?_))))))
  show wpAny _ _ (storeInOwnDict (.ref x) (.ref C) (.str name tk) name v false) _ _ _
  obtain ⟨nm, bs, mr, ns, qn, hd, sn, sb, ab, col, del⟩ := cd
  dsimp only at hh
  subst hh
  unfold storeInOwnDict ownDictForStores
  repeat (first
    | with_reducible refine HandSPX.store_in_new ?_ ?_
    | with_reducible refine wpAny_loadPart_at hx ?_
    | with_reducible refine l3.at ?_
    | wp_step)
  · exact ⟨_, #[], _, (Heap.get?_update_ne _ _ _ _ hxs.symm).trans (Heap.get?_push_at rfl rfl), rfl, fun e he => absurd he (by simp), fun _ => rfl⟩
  · intro h' tk' hn' hs
    have hx1 : (hp.push { cls := .type "dict", data := .dict #[] }).get? x = some { cls := .ref C, data := .fields fv } :=
      Heap.get?_push_of_some _ hx
    refine hq h' tk' hp.objs.size (fun b o hb ho => ?_) (Nat.le_refl _) hxs.symm ?_ hn'
    · exact (hs.2 b (Nat.ne_of_lt (Heap.lt_size ho))).trans
        ((Heap.get?_update_ne _ _ _ _ hb).trans (Heap.get?_push_of_some _ ho))
    · exact (hs.2 x hxs).trans (Heap.get?_update_self _ hx1 rfl)
end

/-! ### what the written part says of a class with its own __init__ that keeps one field f -/
structure XC (K : PySem.W.Frag) (C : Addr) (nid : String) (ml : List Value) (f : Str) (fI : Addr) : Prop where
  cls : ∃ nm q N bs sn sub ab col dd k0 k1 k2 k3 k5, K.lookup C = some (excClassObj nm q C N bs ml true sn sub ab col dd k0 k1 k2 k3 k5 nid)
  sa : PySem.W.findIn K (.ref C) "__setattr__" = some (some (.builtin "object.__setattr__"))
  ga : PySem.W.findIn K (.ref C) "__getattribute__" = some (some (.builtin "BaseException.__getattribute__"))
  gg : PySem.W.findIn K (.ref C) "__getattr__" = some none
  noF : PySem.W.findIn K (.ref C) f = some none
  iC : PySem.W.findIn K (.ref C) "__init__" = some (some (.ref fI))
  tI : PySem.W.typeIn K (.ref fI) = some (.type "function")
  kC : PySem.W.keepIn K (.ref C) = true
  exC : PySem.W.subIn K (.ref C) (.type "BaseException") = some true
  tyC : PySem.W.typeIn K (.ref C) = some (.type "type")
  hdC : PySem.W.hasDictIn K C = true
/-- what isinstance asks of an exception class -/
structure IC (K : PySem.W.Frag) (C : Addr) : Prop where
  cl : (PySem.W.clsIn K C).isSome = true
  ga : PySem.W.findIn K (.ref C) "__getattribute__" = some (some (.builtin "BaseException.__getattribute__"))
  gg : PySem.W.findIn K (.ref C) "__getattr__" = some none
  sub : PySem.W.subIn K (.ref C) (.type "BaseException") = some true
  kl : PySem.W.findIn K (.ref C) "__class__" = some (some (.builtin "object.__class__"))
  gt : PySem.W.specialIn K (.builtin "object.__class__") "__get__" = some (some (.builtin "getset_descriptor.__get__"))
  tk : PySem.W.takesIn K (.builtin "object.__class__") = some true
  mo : PySem.W.mroIn K C (.type "object") = some true

/-- at e: an exception of the class at C that keeps v as f -/
def ExcAt (H : Hp) (e C : Addr) (f : Str) (v : V) : Prop := ∃ dx, H e = some (exo e C (some dx)) ∧ H dx = some (exd dx [(f, v)])

section
variable {X : Cx} {pins : List (Addr × Obj)} {σ : L2.St} {H : Hp} {s : Shared} {a C dx fI : Addr} {f : Str} {y : V} {u : Value} {Q : Unit → Shared → Prop} {E : Value → Shared → Prop} {A : Around} {B nid iid : String} {ml : List Value}
theorem cls_data (T : XC X.K C nid ml f fI) : ∃ cd, PySem.W.clsIn X.K C = some cd ∧ cd.mro = .ref C :: ml ∧ cd.hasDict = true := by
  obtain ⟨nm, q, N, bs, sn, sub, ab, col, dd, k0, k1, k2, k3, k5, hC⟩ := T.cls
  have e : PySem.W.clsIn X.K C = some { name := nm, bases := bs, mro := .ref C :: ml, ns := N, qualname := q, hasDict := true, slotNames := sn, subclasses := sub, abstract := ab, collection := col, hasDel := false } := by
    unfold PySem.W.clsIn
    rw [hC] <;> rfl
  exact ⟨_, e, rfl, rfl⟩
/-- self.f = y, the first one -/
theorem ost_first (Y : Base B nid iid ml) (T : XC X.K C nid ml f fI) (I : Inv X pins σ H s) (e : H a = some (exo a C none)) (ry : RelV y u)
    (h : ∀ dx s', H dx = none → dx ≠ a → Inv X pins σ (upd (upd H dx (exd dx [(f, y)])) a (exo a C (some dx))) s' → Q () s') : wpAny (model X.prog X.w) A (setAttr (.ref a) f u) Q E s := by
  obtain ⟨cd, hcl, hm, hh⟩ := cls_data T
  obtain ⟨t1, ho⟩ := exo_at I.hok e
  obtain ⟨hp, g, d, t, os⟩ := s
  refine PySem.W.set_plain I.kIn (ox := { cls := .ref C, dict := none, data := .fields #[.ref t1, .none, .none, .none, .bool false, .none] }) (od := none) ⟨ho, rfl, rfl, trivial⟩ T.sa ?_
  refine osa_first Y I.kIn ho hcl hm hh T.noF (fun h' tk' dx k dn dne hx hn => ?_)
  have hnd : H dx = none := I.hok.fresh dn
  have nd : ∀ {b : Addr} {o : Obj}, hp.get? b = some o → b ≠ dx :=
    fun {b o} q => Nat.ne_of_lt (Nat.lt_of_lt_of_le (Heap.lt_size q) dn)
  have na : ∀ {b : Addr}, H b = none → b ≠ a := fun {b} n z => by
    rw [z, e] at n
    cases n
  have U1 : Un X.fs [] H (upd (upd H dx (exd dx [(f, y)])) a (exo a C (some dx))) hp h' := {
    keep := fun b o q n _ _ => k b o (na n) q
    slot := fun b o q n _ _ => ⟨o.slots, k b o (na n) q⟩
    free := fun b o q n _ => by
      rw [upd_ne (na n), upd_ne (nd q)]
      exact n
    there := fun b o q _ => by
      by_cases hb : b = a
      · exact ⟨_, by rw [hb]; exact hx⟩
      · exact ⟨o, k b o hb q⟩
    tups := fun b xs q => by
      rw [upd_ne (at_ne e q exo_tup), upd_ne (ne_of_none q hnd)]
      exact q
    frzs := fun b o v q => by
      rw [upd_ne (at_ne e q exo_frz), upd_ne (ne_of_none q hnd)]
      exact q
    tbls := fun b ps q => ⟨#[], by
      rw [upd_ne (at_ne e q exo_tbl), upd_ne (ne_of_none q hnd), q]
      simp⟩ }
  refine h dx _ hnd dne (I.un (t' := tk') U1 fun b o q => ?_)
  by_cases hb : b = a
  · subst hb
    rw [upd_same] at q
    cases q
    exact exo_ok hx
  · rw [upd_ne hb] at q
    by_cases hd : b = dx
    · subst hd
      rw [upd_same] at q
      cases q
      exact exd_ok hn (relO_put (fs := []) ry fun g => True.intro)
    · rw [upd_ne hd] at q
      refine (I.hok b o q).stay (fun c v hc r => k c v ?_ r) (fun c hc => ?_) fun c xs hc => ?_
      · rcases hc with z | z
        · rw [z]
          exact hb
        · exact at_ne e z exo_own
      · rw [upd_ne (at_ne e hc exo_own), upd_ne (ne_of_none hc hnd)]
        exact hc
      · rw [upd_ne (at_ne e hc exo_tup), upd_ne (ne_of_none hc hnd)]
        exact hc
/-- B.__init__(self, ..): the args are laid anew, nothing else -/
theorem binit_ok {us : List Value} {Q : Value → Shared → Prop} (Y : Base B nid iid ml) (T : XC X.K C nid ml f fI) (I : Inv X pins σ H s) (e : H a = some (exo a C none)) (hl : us.length ≤ sizeLine) (h : ∀ s', Inv X pins σ H s' → Q .none s') :
    wpAny (model X.prog X.w) A (call (.builtin iid) (.ref a :: us)) Q E s := by
  obtain ⟨nm, q, N, bs, sn, sub, ab, col, dd, k0, k1, k2, k3, k5, hC⟩ := T.cls
  obtain ⟨t1, ho⟩ := exo_at I.hok e
  obtain ⟨hp, g, d, t, os⟩ := s
  refine wpAny_call (run_init Y (I.kIn _ _ hC) ho hl fun h' t2 k hx => ?_)
  have J := I.write (t' := t) (x := a) (e := a) (o := exo a C none) (by rw [e]; exact True.intro) (.inl rfl) k ⟨_, hx⟩ (exo_ok hx)
  have eu : upd H a (exo a C none) = H := by
    funext b
    by_cases hb : b = a
    · rw [hb, upd_same, e]
    · rw [upd_ne hb]
  rw [eu] at J
  exact h _ J
end
end Ex

namespace Ex
open PySem PySem.Spec PySem.Calls PyProof.Rows L2
/-! ### readings -/
/-- B.__init__(self, ..) -/
def tBI (C : Addr) (ta : TA) : TE := fun σ H Q => ta σ H fun vs H1 => ∃ (a : Addr) (ws : List V), vs = .ref a :: ws ∧ ws.length ≤ 1000 ∧ H1 a = some (exo a C none) ∧ Q .non H1
/-- self.f = e -/
def tXst (C : Addr) (f : Str) (to te : TE) : TS := fun D σ H => te σ H fun y H1 => to σ H1 fun x H2 => ∃ a : Addr, x = .ref a ∧ H2 a = some (exo a C none) ∧
  ∀ dx, H2 dx = none → dx ≠ a → D.nx σ (upd (upd H2 dx (exd dx [(f, y)])) a (exo a C (some dx)))
/-- C(e, ..), a value -/
def tXmk (C : Addr) (sp : Sp) (ta : TA) : TE := fun σ H Q => ta σ H fun vs H1 => vs.length ≤ 1000 ∧ ∀ a, H1 a = none → sp (.ref a :: vs) (upd H1 a (exo a C none)) (fun v H2 => v = .non ∧ Q (.ref a) H2) (fun _ _ _ => False)
/-- o.f of such an exception -/
def tXfld (C : Addr) (f : Str) (to : TE) : TE := fun σ H Q => to σ H fun x H1 => ∃ (a : Addr) (v : V), x = .ref a ∧ ExcAt H1 a C f v ∧ Q v H1
/-- isinstance(e, c), e an exception that is tracked -/
inductive IsEx (K : PySem.W.Frag) (H : Hp) : Addr → Addr → Prop where
  | own {a C dx : Addr} {fs : List (Str × V)} (h : H a = some (exo a C (some dx))) (hd : H dx = some (exd dx fs)) : IsEx K H a C
  | msg {a C : Addr} (h : H a = some (ExO (.ref C) a)) : IsEx K H a C
def rIE (K : PySem.W.Frag) : List V → Hp → VK → Prop := fun xs H Q => ∃ (a C : Addr) (c : V) (u : Value) (b : Bool), xs = [.ref a, c] ∧ ClsV c u ∧ IC K C ∧ IsEx K H a C ∧ PySem.W.kitOne K (.ref C) u = some b ∧ Q (.bl b) H
section
variable {X : Cx} {o e : Expr} {es : List Expr} {to te : TE} {ta : TA} {f : Str} {p p' p1 p2 pos : Pos} {C fI : Addr} {B nid iid : String} {ml : List Value}
theorem pe_binit {pl : Sem Bool} {n : Str} (Y : Base B nid iid ml) (T : XC X.K C nid ml f fI) (hg : Gl X n) (hm : X.mg n = none) (hv : bootBuiltins n = some (.type B)) (ht : typeOf (.type B) = pure (.type "type")) (hs : Manifest.isStub B = false) (hh : PySem.W.handedIn (.builtin iid) = true)
    (vV : PySem.W.findCls X.K (.type B) (.type "type") "__init__" = some (.val (.builtin iid))) (ha : PA X (e :: es) ta)
    (hn : n ≠ "__name__" := by decide) (hd : (n == ("__debug__" : Str)) = false := by decide)
    (hc : eval (.Call (.Attribute (.Name n p1) "__init__" p2) (e :: es) [] pos) X.env = (do
      let ov ← eval (.Name n p1) X.env
      standAt p2.atName
      let (f, first) ← holding [ov] (getMethod ov "__init__" pl)
      callWith pos f first (backTo pos (starEach (e :: es) X.env)) (backToKw pos (keywordEach [] X.env))) := by rfl)
    (he : starEach (e :: es) X.env = (false, eval e X.env) :: starEach es X.env := by rfl) (hpl : (backTo pos (starEach es X.env)).any (·.1) = false := by rfl) :
    PE X (.Call (.Attribute (.Name n p1) "__init__" p2) (e :: es) [] pos) (tBI C ta) := by
  refine ⟨fun pins s σ H Q I h => ?_⟩
  refine PySem.W.methodCall_KW (ld_blt I hg hm hv ?_ hn hd) hc
  obtain ⟨m, fr⟩ := I.fr
  refine PySem.W.method_type fr I.ok.mod.kin ht hs vV hh ?_
  show wpAny _ _ (callWith pos (Value.builtin iid) [] (backTo pos (starEach (e :: es) X.env)) []) _ _ _
  refine PyProof.Rows.callWith_method1 (thn (ha.run pos pins _ σ H _ (I.tok _) h) fun us s1 hx => ?_) he hpl
  obtain ⟨vs, H1, I1, r1, a, ws, ev, hl, ea, q⟩ := hx
  subst ev
  cases r1 with
  | @cons _ u0 _ ur ra rw' =>
    obtain rfl : u0 = Value.ref a := ra
    have hlen : ur.length ≤ sizeLine := by
      rw [← Paired.length rw', sizeLine_eq]
      omega
    exact binit_ok Y T I1 ea hlen fun s' J => ⟨.non, H1, J, rfl, q⟩
theorem ps_xst (Y : Base B nid iid ml) (T : XC X.K C nid ml f fI) (ho : PE X o to) (he : PE X e te) (hs : swapsWith e (some (.Attribute o f p')) pos.line X.env = pure false := by rfl) : PS X (.Assign [.Attribute o f p'] e pos) (tXst C f to te) := by
  refine ⟨fun pins s σ H D I h => ?_⟩
  refine plainObj_wpAny_Assign_Attribute (thn (he.run pins s σ H _ I h) fun v s1 h1 => ?_) hs
  obtain ⟨y, H1, I1, r1, q1⟩ := h1
  refine thn (ho.run pins s1 σ H1 _ I1 q1) fun u s2 h2 => ?_
  obtain ⟨x, H2, I2, r2, a, ex, ea, q⟩ := h2
  subst ex
  obtain rfl : u = Value.ref a := r2
  exact ost_first Y T I2 ea r1 fun dx s' n ne J => ⟨σ, _, J, q dx n ne⟩
theorem pe_xmk {x : Str} {CX : CXT} {k : Nat} {fd : FuncData} {ps : List Str} {sp : Sp} (Y : Base B nid iid ml) (T : XC X.K C nid ml f fI) (F : FnOk X.prog X.w X.K X.mg X.base CX k fI fd ps sp) (hr : Room (k + 1) X.A) (hb : Binds X.K fd ps []) (hx : Passes CX X (fun _ _ _ => False))
    (hg : Gl X x) (hm : X.mg x = some (.ref C)) (ha : PA X (e :: es) ta)
    (hdb : (x == ("__debug__" : Str)) = false := by decide) (he : starEach (e :: es) X.env = (false, eval e X.env) :: starEach es X.env := by rfl) (hpl : (backTo pos (starEach es X.env)).any (·.1) = false := by rfl) :
    PE X (.Call (.Name x p) (e :: es) [] pos) (tXmk C sp ta) := by
  refine ⟨fun pins s σ H Q I h => ?_⟩
  obtain ⟨nm, q, N, bs, sn, sub, ab, col, dd, k0, k1, k2, k3, k5, hC⟩ := T.cls
  refine wpAny_Call_Name_kw (ld_glob I hg hm ?_ hdb)
  refine PySem.W.callWith_K (h₀ := X.base) I.ok.mod.kin T.kC (thn (ha.run pos pins s σ H _ I h) fun us s1 h1 => ?_) he hpl
  obtain ⟨vs, H1, I1, r1, hz, q1⟩ := h1
  refine ⟨I1.kIn, ?_⟩
  show wpAny _ _ (call (.ref C) us) _ _ _
  obtain ⟨hp, g, dr, tk, os⟩ := s1
  have hsz : hp.objs.size ≤ hp.objs.size + 1 := Nat.le_succ _
  have hn : H1 (hp.objs.size + 1) = none := I1.hok.fresh hsz
  have hq := q1 (hp.objs.size + 1) hn
  have kk : ∀ b o, hp.get? b = some o → ((hp.push (PySem.W.kdv_tup us)).push (eob C hp.objs.size)).get? b = some o :=
    fun b o e => Heap.get?_push_of_some _ (Heap.get?_push_of_some _ e)
  have hget : ((hp.push (PySem.W.kdv_tup us)).push (eob C hp.objs.size)).get? (hp.objs.size + 1) = some (eob C hp.objs.size) := by
    heap_get
  have I2 : Inv X pins σ (upd H1 (hp.objs.size + 1) (exo (hp.objs.size + 1) C none)) ⟨(hp.push (PySem.W.kdv_tup us)).push (eob C hp.objs.size), g, dr, tk, os⟩ :=
    I1.laid (t' := tk) (a := hp.objs.size + 1) (o := exo (hp.objs.size + 1) C none) (h' := (hp.push (PySem.W.kdv_tup us)).push (eob C hp.objs.size)) kk hsz (exo_ok hget)
  have r2 : Vals (V.ref (hp.objs.size + 1) :: vs) (Value.ref (hp.objs.size + 1) :: us) := .cons rfl r1
  have hl : (Value.ref (hp.objs.size + 1) :: us).length = ps.length := by
    have e := r2.length
    rw [F.len _ _ _ _ hq] at e
    exact e.symm
  have hus : us.length ≤ sizeLine := by
    rw [← Paired.length r1, sizeLine_eq]
    omega
  have hbb := hb (⟨(hp.push (PySem.W.kdv_tup us)).push (eob C hp.objs.size), g, dr, tk, os⟩ : Shared) (Value.ref (hp.objs.size + 1) :: us) I2.kIn (by rw [List.append_nil]; exact hl)
  rw [List.append_nil] at hbb
  refine wpAny_call (run_call Y (I1.kIn _ _ hC) (PySem.W.looks_findIn I1.kIn T.iC) (fun self => PySem.W.bind_fn I1.kIn self T.tI) hus
    (codeAny_mono (F.run _ X.stack _ _ ⟨Value.ref (hp.objs.size + 1) :: us, []⟩ (Value.ref (hp.objs.size + 1) :: us) _ _ (fun _ _ _ => False) (hr.make C us []) (I2.env0.make C us []) hbb r2 hq) fun r s' hq' => ?_))
  cases r with
  | error er => exact hx pins σ _ _ er s' I2 hq'
  | ok fl =>
    cases fl with
    | ret u =>
      obtain ⟨v, H2, I3, rv, ev, q3⟩ := I2.after hq'
      subst ev
      exact ⟨rv, ⟨V.ref (hp.objs.size + 1), H2, I3, rfl, q3⟩⟩
    | next => exact False.elim hq'
    | brk => exact False.elim hq'
    | cont => exact False.elim hq'
theorem pe_xfld (T : XC X.K C nid ml f fI) (ho : PE X o to) (hb : attributeBase o f X.env (eval o X.env) = eval o X.env := by rfl) : PE X (.Attribute o f pos) (tXfld C f to) := by
  refine ⟨fun pins s σ H Q I h => ?_⟩
  refine attr_of hb (thn (ho.run pins s σ H _ I h) fun u s1 hh => ?_)
  obtain ⟨x, H1, I1, rx, a, v, ex, ⟨dx, ea, ed⟩, q⟩ := hh
  subst ex
  obtain rfl : u = Value.ref a := rx
  obtain ⟨t1, hx⟩ := exo_at I1.hok ea
  obtain ⟨mA, hns, rel⟩ := exd_at I1.hok ed
  obtain ⟨od, hod, hl⟩ := lookIn_ns hns
  have l : List.lookup f [(f, v)] = some v := by simp [List.lookup]
  obtain ⟨u, hu, ru⟩ := RelO.some_of (v := v) (o := mA f) (by rw [← l]; exact rel f)
  have J : PySem.W.InstAt s1.heap a { cls := .ref C, dict := some dx, data := .fields #[.ref t1, .none, .none, .none, .bool false, .none] } C (some od) := ⟨hx, rfl, rfl, hod⟩
  exact HandSPX.exc_get I1.kIn J T.ga T.gg T.exC (PySem.W.findObj_own T.hdC T.noF rfl (by rw [hl, hu])) (handed_of ru) ⟨v, H1, I1.tok _, ru, q⟩
theorem call_isX : CallR X (.builtin "isinstance") (rIE X.K) := by
  intro pins s σ H xs us Q I r h
  obtain ⟨a, C, c, cv, b, rfl, hc, T, hx, e, q⟩ := h
  obtain ⟨u1, u2, rfl, r1, r2⟩ := vals2 r
  have e2 := hc.eq r2
  subst e2
  obtain rfl : u1 = Value.ref a := r1
  have fin : ∀ {ox : Obj} {od : Option Obj}, PySem.W.InstAt s.heap a ox C od → wpAny (model X.prog X.w) X.A (call (.builtin "isinstance") [.ref a, u2]) (EP X pins σ Q) X.xe s := fun J =>
    PySem.W.kia_one (PySem.W.kitx_exc T.cl T.ga T.gg T.sub T.kl T.gt T.tk T.mo) I.kIn J e (fun z => nomatch z) fun tk => ⟨.bl b, H, I.tok tk, rfl, q⟩
  cases hx with
  | @own dx fs ea ed =>
    obtain ⟨t1, ho⟩ := exo_at I.hok ea
    obtain ⟨mA, hns, rel⟩ := exd_at I.hok ed
    obtain ⟨od, hod, hl⟩ := lookIn_ns hns
    exact fin (ox := { cls := .ref C, dict := some dx, data := .fields #[.ref t1, .none, .none, .none, .bool false, .none] }) (od := some od) ⟨ho, rfl, rfl, hod⟩
  | msg ea =>
    have z : ObjOk X.prog X.w H s.heap a (ExO (.ref C) a) := I.hok a _ ea
    obtain ⟨⟨oe, vs, ho, hz, hd, _⟩, _⟩ := z
    have J : PySem.W.InstAt s.heap a oe C none := by
      obtain ⟨oc, od, oda, osl⟩ := oe
      obtain ⟨h1, h2⟩ := hz
      dsimp only at h1 h2 hd
      subst h1 h2 hd
      exact ⟨ho, rfl, rfl, trivial⟩
    exact fin J
end
end Ex

/-! repr of data at any depth; defs that are called where no repr runs. -/
namespace Rp
open PySem PySem.Spec PySem.Calls PyProof.Rows L2
def kD : Key → PyData
  | .inl i => .int i
  | .inr x => .str x
mutual
/-- v is data, told by d: lists, tuples, dicts with int and text keys -/
inductive Dt (K : PySem.W.Frag) (H : Hp) : V → PyData → Prop
  | non : Dt K H .non .none
  | bl (b : Bool) : Dt K H (.bl b) (.bool b)
  | int (i : Int) : Dt K H (.int i) (.int i)
  | str (x : Str) : Dt K H (.str x) (.str x)
  | lstR {a : Addr} {xs : List V} {ds : List PyData} : Rd H a (.lst xs) → DtAll K H xs ds → Dt K H (.ref a) (.list ds)
  | tup {a : Addr} {xs : List V} {ds : List PyData} : SqT K H a xs → DtAll K H xs ds → Dt K H (.ref a) (.tuple ds)
  | dicR {a : Addr} {kvs : List (Key × V)} {ds : List (PyData × PyData)} : Rd H a (.dK kvs) → DtKv K H kvs ds → Dt K H (.ref a) (.dict ds)
inductive DtAll (K : PySem.W.Frag) (H : Hp) : List V → List PyData → Prop
  | nil : DtAll K H [] []
  | cons {v : V} {vs : List V} {d : PyData} {ds : List PyData} : Dt K H v d → DtAll K H vs ds → DtAll K H (v :: vs) (d :: ds)
inductive DtKv (K : PySem.W.Frag) (H : Hp) : List (Key × V) → List (PyData × PyData) → Prop
  | nil : DtKv K H [] []
  | cons {k : Key} {v : V} {kvs : List (Key × V)} {d : PyData} {ds : List (PyData × PyData)} : Dt K H v d → DtKv K H kvs ds → DtKv K H ((k, v) :: kvs) ((kD k, d) :: ds)
end
theorem Dt.lst {K : PySem.W.Frag} {H : Hp} {a : Addr} {xs : List V} {ds : List PyData} (h : H a = some (.lst xs)) (k : DtAll K H xs ds) : Dt K H (.ref a) (.list ds) := .lstR (.inl h) k
theorem Dt.dic {K : PySem.W.Frag} {H : Hp} {a : Addr} {kvs : List (Key × V)} {ds : List (PyData × PyData)} (h : H a = some (.dK kvs)) (k : DtKv K H kvs ds) : Dt K H (.ref a) (.dict ds) := .dicR (.inl h) k
/-- the written part shows the dict of the modules -/
def SysD (K : PySem.W.Frag) : Prop := ∃ o, K.lookup sysModules = some o ∧ o.cls = .type "dict"
section
variable {X : Cx} {pins : List (Addr × Obj)} {σ : L2.St} {H : Hp} {s : Shared}
theorem key_reads {h : Heap} {P : Program} {w : World} {k : Key} {v : Value} (e : (mixKind P w).is k v = true) : Reads h v (kD k) [] := by
  rcases keyIs_shape (k := k) (v := v) e with ⟨i, t, rfl, rfl⟩ | ⟨x, t, rfl, rfl⟩
  · exact Reads.int i t
  · exact Reads.str x t
mutual
theorem Dt.reads (hk : SysD X.K) (I : Inv X pins σ H s) : ∀ (d : PyData) (v : V) (u : Value), Dt X.K H v d → RelV v u → ∃ as, Reads s.heap u d as ∧ sysModules ∉ as
  | .none, _, _, h, r => by
    cases h
    cases r
    exact ⟨_, Reads.none, by simp⟩
  | .bool b, _, _, h, r => by
    cases h
    cases r
    exact ⟨_, Reads.bool b, by simp⟩
  | .int i, _, _, h, r => by
    cases h
    obtain ⟨t, rfl⟩ := r
    exact ⟨_, Reads.int i t, by simp⟩
  | .str x, _, _, h, r => by
    cases h
    obtain ⟨t, rfl⟩ := r
    exact ⟨_, Reads.str x t, by simp⟩
  | .list ds, _, _, h, r => by
    cases h with
    | lstR hs ha =>
      cases r
      obtain ⟨its, rv, ⟨o, n, ho, hc, _, hd⟩, _⟩ := I.list (.inl hs)
      obtain ⟨as, hr, hn⟩ := Dt.readsAll hk I ds _ its ha rv
      refine ⟨_, Reads.list ho hc hd hr, fun z => ?_⟩
      rcases List.mem_cons.mp z with z | z
      · obtain ⟨ob, lk, oc⟩ := hk
        have e1 := I.kIn _ _ lk
        rw [z, ho] at e1
        cases e1
        rw [hc] at oc
        exact absurd (Value.type.inj oc) (by decide)
      · exact hn z
  | .tuple ds, _, _, h, r => by
    cases h with
    | tup hs ha =>
      cases r
      obtain ⟨its, rv, ⟨o, ho, hc, n, hd⟩, _⟩ := I.tuple hs
      obtain ⟨as, hr, hn⟩ := Dt.readsAll hk I ds _ its ha rv
      exact ⟨_, Reads.tuple ho hc hd hr, hn⟩
  | .dict ds, _, _, h, r => by
    cases h with
    | @dicR a kvs _ hs ha =>
      cases r
      obtain ⟨_, hsy, vs, rk, o, es, ep, ho, hx, hd, _, hp, _⟩ := dk_rd I.hok hs
      obtain ⟨as, bs, h1, h2, n1, n2⟩ := Dt.readsKv hk I ds kvs vs es.toList ha rk hp
      refine ⟨_, Reads.dict ho hx.1 hd h1 h2, fun z => ?_⟩
      rcases List.mem_append.mp z with z | z
      · rcases List.mem_cons.mp z with z | z
        · rw [← z] at hsy
          simp at hsy
        · exact n1 z
      · exact n2 z
theorem Dt.readsAll (hk : SysD X.K) (I : Inv X pins σ H s) : ∀ (ds : List PyData) (vs : List V) (us : List Value), DtAll X.K H vs ds → Vals vs us → ∃ as, ReadsAll s.heap us ds as ∧ sysModules ∉ as
  | [], _, _, h, r => by
    cases h
    cases r
    exact ⟨_, ReadsAll.nil, by simp⟩
  | d :: ds, _, _, h, r => by
    cases h with
    | cons h1 h2 =>
      cases r with
      | cons r1 r2 =>
        obtain ⟨as, q1, n1⟩ := Dt.reads hk I d _ _ h1 r1
        obtain ⟨bs, q2, n2⟩ := Dt.readsAll hk I ds _ _ h2 r2
        exact ⟨_, ReadsAll.cons q1 q2, fun z => (List.mem_append.mp z).elim n1 n2⟩
theorem Dt.readsKv (hk : SysD X.K) (I : Inv X pins σ H s) : ∀ (ds : List (PyData × PyData)) (kvs : List (Key × V)) (vs : List (Key × Value)) (es : List DictEntry), DtKv X.K H kvs ds → KV kvs vs → Pairs (mixKind X.prog X.w) es vs →
    ∃ as bs, ReadsAll s.heap (es.map (·.key)) (ds.map (·.1)) as ∧ ReadsAll s.heap (es.map (·.val)) (ds.map (·.2)) bs ∧ sysModules ∉ as ∧ sysModules ∉ bs
  | [], _, _, _, h, r, p => by
    cases h
    cases r
    cases p
    exact ⟨_, _, ReadsAll.nil, ReadsAll.nil, by simp, by simp⟩
  | (kd, d) :: ds, _, _, _, h, r, p => by
    cases h with
    | cons h1 h2 =>
      cases r with
      | cons r1 r2 =>
        cases p with
        | cons p1 p2 p3 =>
          obtain ⟨e1, rv⟩ := r1
          obtain ⟨as, q1, n1⟩ := Dt.reads hk I d _ _ h1 rv
          obtain ⟨as', bs', q2, q3, n2, n3⟩ := Dt.readsKv hk I ds _ _ _ h2 r2 p3
          rw [← p2] at q1
          have e1' := e1
          dsimp only at e1'
          rw [← e1'] at p1
          exact ⟨_, _, ReadsAll.cons (key_reads p1) q2, ReadsAll.cons q1 q3, fun z => (List.mem_append.mp z).elim (by simp) n2, fun z => (List.mem_append.mp z).elim n1 n3⟩
end
/-- repr(x), x a list, a tuple or a dict -/
def rRep (K : PySem.W.Frag) : List V → Hp → VK → Prop := fun xs H Q => ∃ (a : Addr) (d : PyData), xs = [.ref a] ∧ Dt K H (.ref a) d ∧ d.showable = true ∧ d.depth ≤ 60 ∧ d.shown.length ≤ sizeLine ∧ Q (.str d.shown) H
theorem call_repr_data (hk : SysD X.K) (hg : X.A.guards = some []) (hu : X.A.units + 64 < cLine) : CallR X (.builtin "repr") (rRep X.K) := by
  intro pins s σ H xs us Q I r h
  obtain ⟨a, d, rfl, hd, hs, hdep, hz, q⟩ := h
  obtain ⟨u, rfl, hr⟩ := vals1 r
  obtain rfl : u = Value.ref a := hr
  obtain ⟨as, rd, hn⟩ := Dt.reads hk I d _ _ hd rfl
  exact repr_of_reads' rd hs (fun _ => hn) hg (by omega) (fun _ _ e => e) (fun h' u tk k => ⟨.str _, H, I.kept (t' := tk) k, ⟨u, rfl⟩, q⟩) hz
end
end Rp

namespace Rp
open PySem PySem.Spec PySem.Calls PyProof.Rows L2
/-- a def's promise, where no repr runs around the call -/
structure FnG (P : Program) (w : World) (K : PySem.W.Frag) (mg : Str → Option Value) (base : Heap) (CX : CXT) (k : Nat) (f : Addr) (fd : FuncData) (ps : List Str) (sp : Sp) : Prop where
  len : ∀ vs H Q E, sp vs H Q E → vs.length = ps.length
  run : ∀ (A : Around) (outer : List Env) (s : Shared) (H : Hp) (args : Args) (us : List Value) (vs : List V) (Q : VK) (E : XK), Room k A → A.guards = some [] →
    Env0 P w K mg base A outer s H → BindsTo s fd args (ps.zip us) → Vals vs us → sp vs H Q E → codeAny (model P w) A (.call (.ref f) args) (CR CX outer P w H s Q E) s
theorem FnG.of {P : Program} {w : World} {K : PySem.W.Frag} {mg : Str → Option Value} {base : Heap} {CX : CXT} {k : Nat} {f : Addr} {fd : FuncData} {ps : List Str} {sp : Sp} (F : FnOk P w K mg base CX k f fd ps sp) : FnG P w K mg base CX k f fd ps sp :=
  ⟨F.len, fun A outer s H args us vs Q E hr _ => F.run A outer s H args us vs Q E hr⟩
theorem fng_of {CX : CXT} {P : Program} {w : World} {K : PySem.W.Frag} {mg : Str → Option Value} {base : Heap} {k : Nat} {f : Addr} {name qual : Str} {params : Arguments} {body : List Stmt} {scope : Scope} {dV kV doc pm cdv ct oc : Value} {an od : Option Addr}
    {osl : Array (Option Value)} {N ps : List Str} {sp : Sp} (lk : K.lookup f = some ⟨oc, od, .func (PySem.W.fnOf name qual params body scope dV kV doc pm an cdv ct), osl⟩) (hcd : PySem.W.codeIn K cdv qual = true) (S : FnScope N ps scope)
    (len : ∀ vs H Q E, sp vs H Q E → vs.length = ps.length)
    (hb : ∀ (A : Around) (outer : List Env) (s : Shared) (H : Hp) (vs : List V) (Q : VK) (E : XK), Room k (A.deeper (envOfC qual scope s.heap.objs.size f cdv)) → (A.deeper (envOfC qual scope s.heap.objs.size f cdv)).guards = some [] → sp vs H Q E →
      ∃ t, PSs (cxOf CX P w K mg base N qual scope f cdv A outer s H E) body t ∧ t { nx := fun _ H' => Q .non H', rt := Q } (start N vs) H) :
    FnG P w K mg base CX (k + 1) f (PySem.W.fnOf name qual params body scope dV kV doc pm an cdv ct) ps sp := by
  refine ⟨len, fun A outer s H args us vs Q E hr hgd e0 bd r hsp => ?_⟩
  have hl := len _ _ _ _ hsp
  have kx : K.In s.heap := e0.mod.kin.keeps fun b o e => (e0.bs b o e).1
  have nl : s.heap.NoLimit := e0.mod.nolimit.keeps fun b o e => (e0.bs b o e).1
  have kd : ∀ y ∈ ps.zip us, scope.names.lookup y.1 = some .local ∨ (scope.names.lookup y.1 = some .cell ∧ ((cellsFrom (s.heap.objs.size + 1) scope.names []).lookup y.1).isSome = true) := by
    intro ⟨n, v⟩ hy
    rcases S.par n (List.of_mem_zip hy).1 with q | q
    · exact .inl q
    · exact .inr ⟨q, PySem.W.cellsFrom_some _ _ _ (.inl q)⟩
  refine codeAny_call_function hr.depth (kx _ _ lk) rfl S.co S.gen rfl (PySem.W.codeRec_of kx hcd) (bd _ _ _ _ ?_)
  refine wpAny_newFunctionEnv_cells S.kind kd fun env he s1 x => ?_
  subst he
  refine ⟨nl.keeps x.toInCall.keep, codeAny_func ?_⟩
  obtain ⟨t, ht, hq⟩ := hb A outer s H vs Q E (hr.deeper _) hgd hsp
  have I : Inv (cxOf CX P w K mg base N qual scope f cdv A outer s H E) [] (start N vs) H s1 := inv_start S hr.hd e0 hl r x
  refine wpAny_mono (ht.run [] s1 (start N vs) H _ I hq) (fun fl s' hs => ?_) fun e s' hs => hs
  have out : ∀ {σ' : L2.St} {H' : Hp} {v : V} {u : Value}, Inv (cxOf CX P w K mg base N qual scope f cdv A outer s H E) [] σ' H' s' → RelV v u → Q v H' → CE outer P w H s Q u s' :=
    fun {σ' H' v u} J rv q => ⟨v, H', J.os, J.bare, J.base, J.hok, rv, q⟩
  cases fl with
  | ret u =>
    obtain ⟨v, σ', H', J, rv, q⟩ := hs
    exact out J rv q
  | next =>
    obtain ⟨σ', H', J, q⟩ := hs
    exact out (v := V.non) (u := Value.none) J rfl q
  | brk =>
    obtain ⟨_, _, _, q⟩ := hs
    exact q.elim
  | cont =>
    obtain ⟨_, _, _, q⟩ := hs
    exact q.elim
section
variable {P : Program} {w : World} {K : PySem.W.Frag} {mg : Str → Option Value} {base : Heap} {x qual : Str} {params : Arguments} {body : List Stmt} {scope : Scope} {dvs : List V} {kws : List (Str × V)} {f : Addr} {fd : FuncData}
theorem FunD.okG {CX : CXT} {N ps : List Str} {k : Nat} {sp : Sp} (F : FunD K x qual params body scope dvs kws f fd) (S : FnScope N ps scope) (len : ∀ vs H Q E, sp vs H Q E → vs.length = ps.length)
    (hb : ∀ (cdv : Value) (A : Around) (outer : List Env) (s : Shared) (H : Hp) (vs : List V) (Q : VK) (E : XK), Room k (A.deeper (envOfC qual scope s.heap.objs.size f cdv)) → (A.deeper (envOfC qual scope s.heap.objs.size f cdv)).guards = some [] → sp vs H Q E →
      ∃ t, PSs (cxOf CX P w K mg base N qual scope f cdv A outer s H E) body t ∧ t { nx := fun _ H' => Q .non H', rt := Q } (start N vs) H) : FnG P w K mg base CX (k + 1) f fd ps sp := by
  obtain ⟨oc, od, dV, kV, doc, pm, an, cdv, ct, osl, rfl, lk, hcd, _, _⟩ := F.ex
  exact fng_of lk hcd S len fun A outer s H vs Q E hr hg hsp => hb cdv A outer s H vs Q E hr hg hsp
end
section
variable {X : Cx} {pins : List (Addr × Obj)} {σ : L2.St} {H : Hp} {s : Shared} {CX : CXT} {k : Nat} {f : Addr} {fd : FuncData} {ps : List Str} {sp : Sp} {E : XK} {x : Str} {p pos : Pos} {e : Expr} {es : List Expr} {t : TA} {ds : List Value} {dvs : List V}
theorem run_fng {Q : VK} {us : List Value} {vs : List V} (F : FnG X.prog X.w X.K X.mg X.base CX k f fd ps sp) (hr : Room k X.A) (hg : X.A.guards = some []) (hb : Binds X.K fd ps ds) (hd : Vals dvs ds) (hx : Passes CX X E)
    (I : Inv X pins σ H s) (r : Vals vs us) (h : sp (vs ++ dvs) H Q E) : wpAny (model X.prog X.w) X.A (call (.ref f) us) (EP X pins σ Q) X.xe s := by
  have r2 : Vals (vs ++ dvs) (us ++ ds) := r.append hd
  have hl : (us ++ ds).length = ps.length := by
    rw [← r2.length]
    exact F.len _ _ _ _ h
  refine wpAny_call (codeAny_mono (F.run X.A X.stack s H ⟨us, []⟩ (us ++ ds) (vs ++ dvs) Q E hr hg I.env0 (hb s us I.kIn hl) r2 h) fun r s' hq => ?_)
  cases r with
  | error e => exact hx pins σ H s e s' I hq
  | ok fl =>
    cases fl with
    | ret u => exact I.after hq
    | next => exact hq.elim
    | brk => exact hq.elim
    | cont => exact hq.elim
theorem pe_callG (F : FnG X.prog X.w X.K X.mg X.base CX k f fd ps sp) (hr : Room k X.A) (hgd : X.A.guards = some []) (hg : Gl X x) (hm : X.mg x = some (.ref f)) (hk : PySem.W.keepIn X.K (.ref f) = true) (hb : Binds X.K fd ps ds) (hd : Vals dvs ds) (hx : Passes CX X E)
    (ha : PA X (e :: es) t) (hdb : (x == ("__debug__" : Str)) = false := by decide) (he : starEach (e :: es) X.env = (false, eval e X.env) :: starEach es X.env := by rfl) (hpl : (backTo pos (starEach es X.env)).any (·.1) = false := by rfl) :
    PE X (.Call (.Name x p) (e :: es) [] pos) (tCall sp dvs E t) := by
  refine ⟨fun pins s σ H Q I h => ?_⟩
  refine wpAny_Call_Name_kw (ld_glob I hg hm ?_ hdb)
  refine PySem.W.callWith_K (h₀ := X.base) I.ok.mod.kin hk (thn (ha.run pos pins s σ H _ I h) fun us s1 h1 => ?_) he hpl
  obtain ⟨vs, H1, I1, r, q⟩ := h1
  exact ⟨I1.kIn, run_fng F hr hgd hb hd hx I1 r q⟩
end
end Rp

namespace Rp
open PySem PySem.Spec PySem.Calls PyProof.Rows L2
/-- the law's call, from a promise that wants no repr around -/
theorem law_callG {P : Program} {w : World} {K : PySem.W.Frag} {mg mb : Str → Option Value} {CX : CXT} {k : Nat} {fa a : Addr} {fd : FuncData} {x : Str} {sp : Sp} {s1 : Shared} {vs : List Value} {ns : List Int}
    (kx : K.In s1.heap) (hns : s1.heap.Ns mainGlobals mg) (hb : s1.heap.Ns builtinsNs mb) (hbb : ∀ x : Str, x ≠ "__name__" → mb x = bootBuiltins x) (nl : s1.heap.NoLimit) (hg : s1.gens = #[])
    (ha : s1.heap.get? a = some { cls := .type "list", data := .seq vs.toArray }) (hi : IntsAre vs ns) (hl : ns.length ≤ sizeLine) (hr : Room k callerA)
    (F : ∀ base : Heap, K.In base → base.Ns mainGlobals mg → FnG P w K mg base CX k fa fd [x] sp) (bd : ∀ (s : Shared) (u : Value), BindsTo s fd ⟨[u], []⟩ [(x, u)])
    (hsp : ∀ H : Hp, Only H → SqL K H a (ns.map V.int) → sp [.ref a] H (fun v _ => v = .bl true) fun _ _ _ => False)
    (hx : ∀ H e s', CX [] H s1 (fun _ _ _ => False) e s' → False) :
    codeAny (model P w) callerA (.call (.ref fa) ⟨[.ref a], []⟩) (fun r s' => r = .ok (.ret (.bool true)) ∧ OldK s1.heap s'.heap ∧ s'.os = s1.os ∧ AllBare s'.gens) s1 := by
  have rv := vals_ints hi
  have ln := hi.length
  have core : ∀ H : Hp, Only H → SqL K H a (ns.map V.int) → HOk P w H s1.heap → (∀ b, H b ≠ none → b = a) → (H a ≠ none → K.lookup a = none) →
      codeAny (model P w) callerA (.call (.ref fa) ⟨[.ref a], []⟩) (fun r s' => r = .ok (.ret (.bool true)) ∧ OldK s1.heap s'.heap ∧ s'.os = s1.os ∧ AllBare s'.gens) s1 := by
    intro H hO hS hok hA hK
    have base_of : ∀ {b : Addr} {o : Obj}, s1.heap.get? b = some o → H b = none → (hidT s1.heap H).get? b = some o :=
      fun e n => hidT_get e n
    have noA : ∀ {b : Addr} {o : Obj} {es : Array DictEntry} {ep : Nat}, s1.heap.get? b = some o → o.data = .dict es ep → H b = none := by
      intro b o es ep e d
      cases q : H b with
      | none => rfl
      | some u =>
        have e' : b = a := hA b (by rw [q]; simp)
        subst e'
        rw [ha] at e
        cases e
        have d' : Data.seq vs.toArray _ = Data.dict es ep := d
        cases d'
    have nsK : ∀ {b : Addr} {m : Str → Option Value}, s1.heap.Ns b m → (hidT s1.heap H).Ns b m := by
      rintro b m ⟨o, es, ep, e, d, r⟩
      exact ⟨o, es, ep, base_of e (noA e d), d, r⟩
    have hKb : K.In (hidT s1.heap H) := by
      intro b o e
      refine base_of (kx b o e) ?_
      cases q : H b with
      | none => rfl
      | some u =>
        have e' : b = a := hA b (by rw [q]; simp)
        subst e'
        rw [hK (by rw [q]; simp)] at e
        cases e
    have hM : Mod K mg (hidT s1.heap H) := by
      obtain ⟨mc, h1, h2⟩ := nl
      exact ⟨hKb, nsK hns, ⟨mb, nsK hb, hbb⟩, ⟨mc, nsK h1, h2⟩⟩
    have e0 : Env0 P w K mg (hidT s1.heap H) callerA [] s1 H :=
      ⟨rfl, hM, fun b o e => of_hidT e, Nat.le_of_eq (hidT_size _ _), trivial, fun b hb => absurd (show b ∈ ([] : List Addr) from hb) (by simp), hok, .of_eq hg⟩
    refine codeAny_mono ((F _ hKb (nsK hns)).run callerA [] s1 H ⟨[.ref a], []⟩ [.ref a] [.ref a] _ _ hr rfl e0 (bd s1 (.ref a)) (.cons rfl .nil) (hsp H hO hS)) fun r s' h => ?_
    cases r with
    | error e => exact (hx H e s' h).elim
    | ok fl =>
      cases fl with
      | next => exact h.elim
      | brk => exact h.elim
      | cont => exact h.elim
      | ret u =>
        obtain ⟨v, H', os, bare, un, hok', r', q⟩ := h
        have q' : v = .bl true := q
        subst q'
        obtain rfl : u = Value.bool true := r'
        refine ⟨rfl, OldK.of_keep fun b o e => ?_, os, bare⟩
        cases q : H b with
        | none => exact un.keep b o e q (by intro z; exact absurd (show b ∈ ([] : List Addr) from z) (by simp)) (by simp)
        | some u =>
          rcases hO b with z | ⟨ob, xs, z⟩
          · rw [q] at z
            cases z
          · have z2 := un.frzs b ob _ z
            obtain ⟨e1, _⟩ := hok b _ z
            obtain ⟨e2, _⟩ := hok' b _ z2
            rw [e] at e1
            cases e1
            exact e2
  cases hk : K.lookup a with
  | some o =>
    have e := kx a o hk
    rw [ha] at e
    cases e
    refine core (fun _ => none) (fun _ => .inl rfl) ?_ (fun b u z => ?_) (fun b z => absurd rfl z) fun z => absurd rfl z
    · exact .inr ⟨_, vs.toArray, _, hk, rfl, rfl, rfl, by rw [List.size_toArray, ln]; exact hl, by simpa using rv⟩
    · have z' : (none : Option HO) = some u := z
      cases z'
  | none =>
    refine core (fun b => if b = a then some (.frz { cls := .type "list", data := .seq vs.toArray } (.lst (ns.map V.int))) else none)
      (fun b => ?_) (.inl (.inr ⟨{ cls := .type "list", data := .seq vs.toArray }, if_pos rfl⟩)) (fun b u z => ?_) (fun b z => ?_) fun _ => hk
    · by_cases hb : b = a
      · exact .inr ⟨_, _, if_pos hb⟩
      · exact .inl (if_neg hb)
    · by_cases hb : b = a
      · have z' := (if_pos hb).symm.trans z
        cases z'
        subst hb
        exact ⟨ha, by rw [List.length_map]; exact hl, vs, _, rv, ha⟩
      · have z' := (if_neg hb).symm.trans z
        cases z'
    · by_cases hb : b = a
      · exact hb
      · exact absurd (if_neg hb) z
/-- a law over a head by facts, its promise wanting no repr around -/
theorem walk_G {l : PySem.W.OpenLaw} {n k : Nat} {q : Program} {loose : List Str} {XP : (Str → Option Value) → Heap → Prop} {YP : World → Heap → Prop} {d : DefRec} {CX : CXT} {x : Str}
    (hn : l.most = some n) (hn2 : n ≤ sizeLine) (hdf : d.params.defaults = []) (hr : Room k callerA)
    (F : ∀ (w : World) (mg : Str → Option Value) (fa : Addr) (h : Heap), YP w h → h.Ns mainGlobals mg → mg d.name = some (.ref fa) →
      ∃ (K : PySem.W.Frag) (fd : FuncData) (sp : Sp), K.In h ∧ (∀ (s : Shared) (u : Value), BindsTo s fd ⟨[u], []⟩ [(x, u)]) ∧
        (∀ (H : Hp) (a : Addr) (ns : List Int), ns.length ≤ n → Only H → SqL K H a (ns.map V.int) → sp [.ref a] H (fun v _ => v = .bl true) fun _ _ _ => False) ∧
        ∀ base : Heap, K.In base → base.Ns mainGlobals mg → FnG l.prog w K mg base CX k fa fd [x] sp)
    (hx : ∀ (H : Hp) (s : Shared) (e : Value) (s' : Shared), CX [] H s (fun _ _ _ => False) e s' → False) :
    PySem.W.WalkO q loose XP YP l.row.toRowW d [] (fun f vs => PySem.call f vs) := by
  refine Att.attach_call hn hdf fun w s₀ s1 mg mb fa o pm cd doc a vs ns G Y ho hd hcd hmg hobj hints hlen hg => ?_
  obtain ⟨K, fd, sp, kx, hb, hsp, hF⟩ := F w mg fa _ Y G.T.g hmg
  exact law_callG kx G.T.g G.T.b G.T.builtins G.T.nolimit hg hobj hints (Nat.le_trans hlen hn2) hr hF hb
    (fun H hO hS => hsp H a ns hlen hO hS) fun H e s' => hx H s1 e s'
end Rp

/-! The end of a law that makes lambdas, its promise wanting no repr around. -/
namespace Rp
open PySem PySem.Spec PySem.Calls PyProof.Rows L2
open LamX (TabB)
abbrev oTab : Obj := { cls := .none, data := .fields #[] }
/-- the abstract heap where the law begins: the script (if it is not written), the tables -/
def H0T (T : List Addr) (a : Addr) (so : Option HO) : Hp := fun b => if b = a then so else if b ∈ T then some (.tbl #[]) else none
theorem law_callGT {P : Program} {w : World} {K : PySem.W.Frag} {mg mb : Str → Option Value} {CX : CXT} {k : Nat} {fa a : Addr} {cs : List (Addr × Addr)} {fd : FuncData} {x : Str} {sp : Sp} {s1 : Shared} {vs : List Value} {ns : List Int}
    (kx : K.In s1.heap) (hns : s1.heap.Ns mainGlobals mg) (hb : s1.heap.Ns builtinsNs mb) (hbb : ∀ x : Str, x ≠ "__name__" → mb x = bootBuiltins x) (nl : s1.heap.NoLimit) (hg : s1.gens = #[])
    (hT : ∀ p ∈ cs, s1.heap.get? p.2 = some oTab) (nT : ∀ p ∈ cs, K.lookup p.2 = none) (hC : ∀ p ∈ cs, PySem.W.CodeHd s1.heap p.1 p.2)
    (hbm : ∃ (bm : Addr) (ob : Obj), mg "__builtins__" = some (.ref bm) ∧ bm ≠ builtinsNs ∧ s1.heap.get? bm = some ob ∧ ob.cls = .type "module" ∧ ob.dict = some builtinsNs ∧ ob.data = .plain)
    (ha : s1.heap.get? a = some { cls := .type "list", data := .seq vs.toArray }) (hi : IntsAre vs ns) (hl : ns.length ≤ sizeLine) (hr : Room k callerA)
    (F : ∀ base : Heap, K.In base → base.Ns mainGlobals mg → (∀ p ∈ cs, TabB base mg p.1 p.2) → FnG P w K mg base CX k fa fd [x] sp) (bd : ∀ (s : Shared) (u : Value), BindsTo s fd ⟨[u], []⟩ [(x, u)])
    (hsp : ∀ H : Hp, (∀ p ∈ cs, H p.2 = some (.tbl #[])) → SqL K H a (ns.map V.int) → sp [.ref a] H (fun v _ => v = .bl true) fun _ _ _ => False)
    (hx : ∀ H e s', CX [] H s1 (fun _ _ _ => False) e s' → False) :
    codeAny (model P w) callerA (.call (.ref fa) ⟨[.ref a], []⟩) (fun r s' => r = .ok (.ret (.bool true)) ∧ OldK s1.heap s'.heap ∧ s'.os = s1.os ∧ AllBare s'.gens) s1 := by
  have rv := vals_ints hi
  have ln := hi.length
  have tab : ∀ {b : Addr}, b ∈ cs.map (·.2) → s1.heap.get? b = some oTab ∧ K.lookup b = none ∧ ∃ c, PySem.W.CodeHd s1.heap c b := fun {b} m => by
    obtain ⟨p, hp, rfl⟩ := List.mem_map.mp m
    exact ⟨hT p hp, nT p hp, _, hC p hp⟩
  have aT : a ∉ cs.map (·.2) := fun z => by
    have e := (tab z).1
    rw [ha] at e
    exact absurd (congrArg Obj.data (Option.some.inj e)) (by simp)
  -- the script: tracked, if it is not written
  obtain ⟨so, hso, hKa, hSq, hOb⟩ : ∃ so : Option HO, (so = none ∨ so = some (.frz { cls := .type "list", data := .seq vs.toArray } (.lst (ns.map V.int)))) ∧ (so ≠ none → K.lookup a = none) ∧
      (∀ H : Hp, H a = so → SqL K H a (ns.map V.int)) ∧ ∀ H : Hp, ∀ u, so = some u → ObjOk P w H s1.heap a u := by
    cases hk : K.lookup a with
    | some o =>
      have e := kx a o hk
      rw [ha] at e
      cases e
      exact ⟨none, .inl rfl, fun z => absurd rfl z, fun H _ => .inr ⟨_, vs.toArray, _, hk, rfl, rfl, rfl, by rw [List.size_toArray, ln]; exact hl, by simpa using rv⟩, fun H u z => nomatch z⟩
    | none =>
      refine ⟨_, .inr rfl, fun _ => rfl, fun H e => .inl (.inr ⟨_, e⟩), fun H u z => ?_⟩
      cases z
      exact ⟨ha, by rw [List.length_map]; exact hl, vs, _, rv, ha⟩
  generalize hHd : H0T (cs.map (·.2)) a so = H
  have atA : H a = so := by
    rw [← hHd]
    exact if_pos rfl
  have atT : ∀ {b : Addr}, b ∈ cs.map (·.2) → H b = some (.tbl #[]) := fun {b} m => by
    rw [← hHd]
    exact (if_neg (show ¬ b = a from fun z => aT (z ▸ m))).trans (if_pos m)
  have only : ∀ {b : Addr} {u : HO}, H b = some u → (b = a ∧ so = some u) ∨ (b ∈ cs.map (·.2) ∧ u = .tbl #[]) := fun {b u} e => by
    rw [← hHd] at e
    unfold H0T at e
    by_cases h1 : b = a
    · rw [if_pos h1] at e
      exact .inl ⟨h1, e⟩
    · rw [if_neg h1] at e
      by_cases h2 : b ∈ cs.map (·.2)
      · rw [if_pos h2] at e
        cases e
        exact .inr ⟨h2, rfl⟩
      · rw [if_neg h2] at e
        cases e
  have hok : HOk P w H s1.heap := fun b u e => by
    rcases only e with ⟨rfl, h2⟩ | ⟨h1, rfl⟩
    · exact hOb H u h2
    · exact (tab h1).1
  -- what is no list and no table is not tracked
  have loose : ∀ {b : Addr} {o : Obj}, s1.heap.get? b = some o → (∀ ws n, o.data ≠ .seq ws n) → o ≠ oTab → H b = none := fun {b o} e h1 h2 => by
    cases q : H b with
    | none => rfl
    | some u =>
      rcases only q with ⟨rfl, _⟩ | ⟨m, _⟩
      · rw [ha] at e
        cases e
        exact absurd rfl (h1 _ _)
      · rw [(tab m).1] at e
        exact absurd (Option.some.inj e).symm h2
  have nsK : ∀ {b : Addr} {m : Str → Option Value}, s1.heap.Ns b m → (hidT s1.heap H).Ns b m := by
    rintro b m ⟨o, es, ep, e, d, r⟩
    refine ⟨o, es, ep, hidT_get e (loose e (fun ws n z => ?_) fun z => ?_), d, r⟩
    · rw [d] at z
      cases z
    · rw [z] at d
      cases d
  have hKb : K.In (hidT s1.heap H) := fun b o e => by
    refine hidT_get (kx b o e) ?_
    cases q : H b with
    | none => rfl
    | some u =>
      rcases only q with ⟨rfl, h2⟩ | ⟨m, _⟩
      · rw [hKa (by rw [h2]; simp)] at e
        cases e
      · rw [(tab m).2.1] at e
        cases e
  have hM : Mod K mg (hidT s1.heap H) := by
    obtain ⟨mc, h1, h2⟩ := nl
    exact ⟨hKb, nsK hns, ⟨mb, nsK hb, hbb⟩, ⟨mc, nsK h1, h2⟩⟩
  have nM : ∀ {b : Addr}, s1.heap.get? b = some oTab → mainGlobals ≠ b := fun {b} e z => by
    obtain ⟨o, es, ep, e2, d, _⟩ := hns
    rw [z, e] at e2
    cases e2
    cases d
  have TB : ∀ p ∈ cs, TabB (hidT s1.heap H) mg p.1 p.2 := fun p hp => by
    refine ⟨?_, ?_, nM (hT p hp)⟩
    · obtain ⟨o, us, file, tf, flags, tg, inF, text, tt, e1, r1, r2, r3, r⟩ := hC p hp
      refine ⟨o, us, file, tf, flags, tg, inF, text, tt, hidT_get e1 (loose e1 (fun ws n z => ?_) fun z => ?_), r1, r2, r3, r⟩
      · rw [r2] at z
        cases z
      · rw [z] at r2
        cases r2
        simp at r3
    · obtain ⟨bm, ob, b1, b2, b3, b4, b5, b6⟩ := hbm
      refine ⟨bm, ob, b1, b2, fun q => ?_, fun q => ?_, hidT_get b3 (loose b3 (fun ws n z => ?_) fun z => ?_), b4, b5, b6⟩
      · obtain ⟨o, es, ep, e, d, _⟩ := hns
        rw [q, e] at b3
        cases b3
        rw [d] at b6
        cases b6
      · rw [q, hT p hp] at b3
        cases b3
        cases b6
      · rw [b6] at z
        cases z
      · rw [z] at b6
        cases b6
  have e0 : Env0 P w K mg (hidT s1.heap H) callerA [] s1 H :=
    ⟨rfl, hM, fun b o e => of_hidT e, Nat.le_of_eq (hidT_size _ _), trivial, fun b hb => absurd (show b ∈ ([] : List Addr) from hb) (by simp), hok, .of_eq hg⟩
  refine codeAny_mono ((F _ hKb (nsK hns) TB).run callerA [] s1 H ⟨[.ref a], []⟩ [.ref a] [.ref a] _ _ hr rfl e0 (bd s1 (.ref a)) (.cons rfl .nil) (hsp H (fun p hp => atT (List.mem_map.mpr ⟨p, hp, rfl⟩)) (hSq H atA))) fun r s' h => ?_
  cases r with
  | error e => exact (hx H e s' h).elim
  | ok fl =>
    cases fl with
    | next => exact h.elim
    | brk => exact h.elim
    | cont => exact h.elim
    | ret u =>
      obtain ⟨v, H', os, bare, un, hok', r', q⟩ := h
      have q' : v = .bl true := q
      subst q'
      obtain rfl : u = Value.bool true := r'
      have key : ∀ b o, b ∉ cs.map (·.2) → s1.heap.get? b = some o → s'.heap.get? b = some o := fun b o nb e => by
        cases q : H b with
        | none => exact un.keep b o e q (by intro z; exact absurd (show b ∈ ([] : List Addr) from z) (by simp)) (by simp)
        | some u =>
          rcases only q with ⟨rfl, h2⟩ | ⟨m, _⟩
          · rcases hso with z | z
            · rw [h2] at z
              cases z
            · rw [h2] at z
              cases z
              obtain ⟨e2, _⟩ := hok' b _ (un.frzs b _ _ q)
              rw [ha] at e
              cases e
              exact e2
          · exact absurd m nb
      have grown : ∀ {b : Addr}, b ∈ cs.map (·.2) → ∃ more : Array Value, s'.heap.get? b = some { cls := .none, data := .fields more } := fun {b} m => by
        obtain ⟨more, z⟩ := un.tbls b #[] (atT m)
        exact ⟨_, hok' b _ z⟩
      refine ⟨rfl, ⟨fun b o e => ?_, fun b o e => ?_⟩, os, bare⟩
      · by_cases m : b ∈ cs.map (·.2)
        · obtain ⟨t1, _, c, t3⟩ := tab m
          obtain ⟨more, hm⟩ := grown m
          rw [t1] at e
          cases e
          exact .inr (.inl ⟨(t3.tab t1).isCodeTable, rfl, #[], more, rfl, by rw [Array.empty_append]; exact hm⟩)
        · exact .inl (key b o m e)
      · by_cases m : b ∈ cs.map (·.2)
        · obtain ⟨more, hm⟩ := grown m
          exact ⟨_, hm⟩
        · exact ⟨o, key b o m e⟩
/-- a law that makes lambdas, over a head by facts -/
theorem walk_GT {l : PySem.W.OpenLaw} {n k : Nat} {q : Program} {loose : List Str} {XP : (Str → Option Value) → Heap → Prop} {YP : World → Heap → Prop} {d : DefRec} {CX : CXT} {x : Str}
    (hn : l.most = some n) (hn2 : n ≤ sizeLine) (hdf : d.params.defaults = []) (hr : Room k callerA)
    (F : ∀ (w : World) (mg : Str → Option Value) (fa : Addr) (h : Heap), YP w h → h.Ns mainGlobals mg → mg d.name = some (.ref fa) →
      ∃ (K : PySem.W.Frag) (fd : FuncData) (cs : List (Addr × Addr)) (sp : Sp), K.In h ∧ (∀ p ∈ cs, h.get? p.2 = some oTab) ∧ (∀ p ∈ cs, K.lookup p.2 = none) ∧ (∀ p ∈ cs, PySem.W.CodeHd h p.1 p.2) ∧ (∀ (s : Shared) (u : Value), BindsTo s fd ⟨[u], []⟩ [(x, u)]) ∧
        (∀ (H : Hp) (a : Addr) (ns : List Int), ns.length ≤ n → (∀ p ∈ cs, H p.2 = some (.tbl #[])) → SqL K H a (ns.map V.int) → sp [.ref a] H (fun v _ => v = .bl true) fun _ _ _ => False) ∧
        ∀ base : Heap, K.In base → base.Ns mainGlobals mg → (∀ p ∈ cs, TabB base mg p.1 p.2) → FnG l.prog w K mg base CX k fa fd [x] sp)
    (hx : ∀ (H : Hp) (s : Shared) (e : Value) (s' : Shared), CX [] H s (fun _ _ _ => False) e s' → False) :
    PySem.W.WalkO q loose XP YP l.row.toRowW d [] (fun f vs => PySem.call f vs) := by
  refine Att.attach_call hn hdf fun w s₀ s1 mg mb fa o pm cd doc a vs ns G Y ho hd hcd hmg hobj hints hlen hg => ?_
  obtain ⟨K, fd, cs, sp, kx, hT, nT, hC, hb, hsp, hF⟩ := F w mg fa _ Y G.T.g hmg
  exact law_callGT kx G.T.g G.T.b G.T.builtins G.T.nolimit hg hT nT hC G.T.bmain hobj hints (Nat.le_trans hlen hn2) hr hF hb
    (fun H hH hS => hsp H a ns hlen hH hS) fun H e s' => hx H s1 e s'
end Rp

/-! The head's facts by tests of one's own. -/
namespace Hx
open PySem PySem.Spec PyProof.Rows L2
open He (ga ma)
/-- from the module's names and the dict of the modules -/
def asX (g : Addr → Option Obj) : Nat → List Addr
  | 0 => [mainGlobals, sysModules]
  | n + 1 => He.growD g (asX g n)
def obsX (ts : PySem.W.Frag → Bool) (fn : List He.DefD) (K : PySem.W.Frag) : He.AlD := (ts K && fn.all fun d => d.ok K, fn.map fun d => He.fnW K d.at_)
def SaysX (ts : PySem.W.Frag → Bool) (fn : List He.DefD) (K : PySem.W.Frag) : Prop := obsX ts fn K = He.valD fn
def obsXG (n : Nat) (ts : PySem.W.Frag → Bool) (fn : List He.DefD) (g : Addr → Option Obj) : He.AlD := obsX ts fn (He.frG g (asX g n))
def hookX (n : Nat) (ts : PySem.W.Frag → Bool) (fn : List He.DefD) : PySem.W.Hook where
  α := He.AlD
  obs := fun s => obsXG n ts fn s.heap.get?
  val := fun _ => He.valD fn
  says := fun _ h => ∃ K : PySem.W.Frag, K.In h ∧ SaysX ts fn K
  of := fun _ _ e => ⟨_, He.frG_in, e⟩
  keeps := fun _ _ _ ⟨K, hK, c⟩ k => ⟨K, PySem.W.Frag.In.keeps hK k, c⟩
theorem obsXG_eq {n : Nat} {ts : PySem.W.Frag → Bool} {fn : List He.DefD} {g : Addr → Option Obj} {s : Shared} (h : ∀ a, g a = s.heap.get? a) : obsXG n ts fn g = (hookX n ts fn).obs s := by
  have e : g = s.heap.get? := funext h
  rw [e] <;> rfl
section
variable {ts : PySem.W.Frag → Bool} {fn : List He.DefD} {K : PySem.W.Frag}
theorem SaysX.test (c : SaysX ts fn K) : ts K = true :=
  (He.ba (show (ts K && fn.all fun d => d.ok K) = true from congrArg (fun z : He.AlD => z.1) c)).1
theorem SaysX.def_ (c : SaysX ts fn K) (i : Nat) {d : He.DefD} (h : fn[i]? = some d := by rfl) : ∃ fd, FunD K d.name d.qual d.params d.body d.scope (d.dvs K) (d.kws K) (He.fAd K d.at_) fd := by
  have c2 := (He.ba (show (ts K && fn.all fun d => d.ok K) = true from congrArg (fun z : He.AlD => z.1) c)).2
  have e : fn.map (fun d => He.fnW K d.at_) = fn.map He.DefD.val := congrArg (fun z : He.AlD => z.2) c
  have e2 : (fn.map fun d => He.fnW K d.at_)[i]? = (fn.map He.DefD.val)[i]? := by
    rw [e]
  rw [List.getElem?_map, List.getElem?_map, h] at e2
  exact He.DefD.funD (Option.some.inj e2) (List.all_eq_true.mp c2 d (List.mem_of_getElem? h))
end
/-! ### tests -/
def eqF (K : PySem.W.Frag) (C : Addr) (f : Str) (v : Option Value) : Bool := decide (PySem.W.findIn K (.ref C) f = some v)
/-- the class named x: an exception class whose instances isinstance may be asked of -/
def icB (K : PySem.W.Frag) (x : Str) : Bool :=
  (PySem.W.clsIn K (ga K x)).isSome && (eqF K (ga K x) "__getattribute__" (some (.builtin "BaseException.__getattribute__")) && (eqF K (ga K x) "__getattr__" none && (decide (PySem.W.subIn K (.ref (ga K x)) (.type "BaseException") = some true) &&
    (eqF K (ga K x) "__class__" (some (.builtin "object.__class__")) && (decide (PySem.W.specialIn K (.builtin "object.__class__") "__get__" = some (some (.builtin "getset_descriptor.__get__"))) &&
      (decide (PySem.W.takesIn K (.builtin "object.__class__") = some true) && decide (PySem.W.mroIn K (ga K x) (.type "object") = some true)))))))
theorem icB_ok {K : PySem.W.Frag} {x : Str} (h : icB K x = true) : Ex.IC K (ga K x) := by
  obtain ⟨h1, h⟩ := He.ba h
  obtain ⟨h2, h⟩ := He.ba h
  obtain ⟨h3, h⟩ := He.ba h
  obtain ⟨h4, h⟩ := He.ba h
  obtain ⟨h5, h⟩ := He.ba h
  obtain ⟨h6, h⟩ := He.ba h
  obtain ⟨h7, h8⟩ := He.ba h
  exact ⟨h1, of_decide_eq_true h2, of_decide_eq_true h3, of_decide_eq_true h4, of_decide_eq_true h5, of_decide_eq_true h6, of_decide_eq_true h7, of_decide_eq_true h8⟩
/-- the class object at C: its mro, its maker -/
def clsB (K : PySem.W.Frag) (C : Addr) (nid : String) (ml : List Value) : Bool := match K.lookup C with
  | some ⟨.type "type", _, .cls cd, sl⟩ => (match sl.toList with
    | [_, _, _, _, some (.builtin n), _] => decide (cd.mro = .ref C :: ml) && (n == nid && (!cd.hasDel && cd.hasDict))
    | _ => false)
  | _ => false
theorem clsB_ok {K : PySem.W.Frag} {C : Addr} {nid : String} {ml : List Value} (q : clsB K C nid ml = true) :
    ∃ nm qn N bs sn sub ab col dd k0 k1 k2 k3 k5, K.lookup C = some (excClassObj nm qn C N bs ml true sn sub ab col dd k0 k1 k2 k3 k5 nid) := by
  unfold clsB at q
  split at q
  · rename_i dd cd sl ho
    split at q
    · rename_i k0 k1 k2 k3 n k5 hs
      obtain ⟨h1, q⟩ := He.ba q
      obtain ⟨h2, q⟩ := He.ba q
      obtain ⟨h3, h4⟩ := He.ba q
      obtain ⟨nm, bs, mro, ns, qn, hd, sn, sub, ab, col, del⟩ := cd
      have hm := of_decide_eq_true h1
      have hn := beq_iff_eq.mp h2
      have hdel : del = false := by simpa using h3
      dsimp only at hm h4
      subst hm hn hdel h4
      have hsl : sl = #[k0, k1, k2, k3, some (.builtin n), k5] := by
        obtain ⟨l⟩ := sl
        simp only at hs
        rw [hs]
      subst hsl
      exact ⟨nm, qn, ns, bs, sn, sub, ab, col, dd, k0, k1, k2, k3, k5, ho⟩
    · cases q
  · cases q
/-- the class named x, with its own __init__, that keeps f -/
def xcB (K : PySem.W.Frag) (x : Str) (nid : String) (ml : List Value) (f : Str) : Bool :=
  clsB K (ga K x) nid ml && (eqF K (ga K x) "__setattr__" (some (.builtin "object.__setattr__")) && (eqF K (ga K x) "__getattribute__" (some (.builtin "BaseException.__getattribute__")) && (eqF K (ga K x) "__getattr__" none && (eqF K (ga K x) f none &&
    (eqF K (ga K x) "__init__" (some (.ref (ma K (ga K x) "__init__"))) && (decide (PySem.W.typeIn K (.ref (ma K (ga K x) "__init__")) = some (.type "function")) && (PySem.W.keepIn K (.ref (ga K x)) &&
      (decide (PySem.W.subIn K (.ref (ga K x)) (.type "BaseException") = some true) && (decide (PySem.W.typeIn K (.ref (ga K x)) = some (.type "type")) && PySem.W.hasDictIn K (ga K x))))))))))
theorem xcB_ok {K : PySem.W.Frag} {x f : Str} {nid : String} {ml : List Value} (h : xcB K x nid ml f = true) : Ex.XC K (ga K x) nid ml f (ma K (ga K x) "__init__") := by
  obtain ⟨h1, h⟩ := He.ba h
  obtain ⟨h2, h⟩ := He.ba h
  obtain ⟨h3, h⟩ := He.ba h
  obtain ⟨h4, h⟩ := He.ba h
  obtain ⟨h5, h⟩ := He.ba h
  obtain ⟨h6, h⟩ := He.ba h
  obtain ⟨h7, h⟩ := He.ba h
  obtain ⟨h8, h⟩ := He.ba h
  obtain ⟨h9, h⟩ := He.ba h
  obtain ⟨h10, h11⟩ := He.ba h
  exact ⟨clsB_ok h1, of_decide_eq_true h2, of_decide_eq_true h3, of_decide_eq_true h4, of_decide_eq_true h5, of_decide_eq_true h6, of_decide_eq_true h7, h8, of_decide_eq_true h9, of_decide_eq_true h10, h11⟩
def gloB (K : PySem.W.Frag) (xs : List Str) : Bool := xs.all fun x => (He.Fa.glo x).ok K
def freeB (K : PySem.W.Frag) (xs : List Str) : Bool := xs.all fun x => (He.Fa.free x).ok K
theorem gloB_ok {K : PySem.W.Frag} {h : Heap} {mg : Str → Option Value} (X : K.In h) (G : h.Ns mainGlobals mg) {xs : List Str} (c : gloB K xs = true) {x : Str} (hx : x ∈ xs) : mg x = some (.ref (ga K x)) :=
  He.glo_ok X G (List.all_eq_true.mp c x hx)
theorem freeB_ok {K : PySem.W.Frag} {h : Heap} {mg : Str → Option Value} (X : K.In h) (G : h.Ns mainGlobals mg) {xs : List Str} (c : freeB K xs = true) {x : Str} (hx : x ∈ xs) : mg x = none :=
  He.free_ok X G (List.all_eq_true.mp c x hx)
def sysB (K : PySem.W.Frag) : Bool := match K.lookup sysModules with
  | some o => decide (o.cls = .type "dict")
  | none => false
theorem sysB_ok {K : PySem.W.Frag} (h : sysB K = true) : Rp.SysD K := by
  unfold sysB at h
  split at h
  · rename_i o ho
    exact ⟨o, ho, of_decide_eq_true h⟩
  · cases h
end Hx

namespace Rp
open PySem PySem.Spec PyProof.Rows L2
/-- for i, x in enumerate(list) -/
theorem for_enum {K : PySem.W.Frag} {a : Addr} {xs : List V} {g : TG} {tb : TS} {D : Ends} {σ : L2.St} {H : Hp} (Pv : Nat → L2.St → Hp → Prop) (h0 : Pv 0 σ H) (hl : ∀ i σ H, i ≤ xs.length → Pv i σ H → SqL K H a xs)
    (hs : ∀ i x σ H T, xs[i]? = some x → Pv i σ H → H T = none → g (.ref T) σ (upd H T (.tup [.int (i : Nat), x])) fun σ2 H2 => tb { D with nx := Pv (i + 1), ct := Pv (i + 1), bk := D.nx } σ2 H2) (hd : ∀ σ H, Pv xs.length σ H → D.nx σ H) :
    ∃ W : Nat → Nat → L2.St → Hp → Prop, (∃ m, W 0 m σ H) ∧ ∀ i m σ H, W i m σ H →
      ((Ite K a).stop i H ∧ D.nx σ H) ∨ ((Ite K a).go i H ∧ ∃ N : L2.St → Hp → Prop, (∀ σ' H', N σ' H' → ∃ m', m' < m ∧ W (i + 1) m' σ' H') ∧ ∀ x H', (Ite K a).yld i H x H' → g x σ H' fun σ2 H2 => tb { D with nx := N, ct := N, bk := D.nx } σ2 H2) := by
  refine ⟨fun i m σ H => m = xs.length - i ∧ i ≤ xs.length ∧ Pv i σ H, ⟨xs.length, by simp, Nat.zero_le _, h0⟩, ?_⟩
  rintro i m σ H ⟨rfl, hi, p⟩
  have q := hl i σ H hi p
  by_cases hlt : i < xs.length
  · refine .inr ⟨⟨xs, xs[i], q, by simp [hlt]⟩, Pv (i + 1), fun σ' H' p' => ⟨xs.length - (i + 1), by omega, rfl, hlt, p'⟩, fun x H' y => ?_⟩
    obtain ⟨T, z, rfl, hT, rfl, hz⟩ := y
    exact hs i z σ H T (hz xs q) p hT
  · refine .inl ⟨⟨xs, q, by omega⟩, hd σ H ?_⟩
    have e : i = xs.length := by omega
    rw [← e]
    exact p
/-- lists of truths as data -/
theorem dp_bools {K : PySem.W.Frag} {H : Hp} : ∀ bs : List Bool, DpAll K H (bs.map V.bl) (bs.map PyData.bool)
  | [] => .nil
  | b :: r => .cons (.bl b) (dp_bools r)
theorem ite_f {c : Bool} {A B : Prop} (hc : c = false) (h : B) : if c = true then A else B := by
  rw [hc, if_neg Bool.false_ne_true]
  exact h
theorem ite_t {c : Bool} {A B : Prop} (hc : c = true) (h : A) : if c = true then A else B := by
  rw [if_pos hc]
  exact h
theorem ne_self {d : PyData} (h : SeqAt.shaped d = true) : (!PyData.eqv d d) = false := by
  rw [SeqAt.eqv_refl d (SeqAt.canLay_of_shaped h)]
  rfl
theorem eq_self {d : PyData} (h : SeqAt.shaped d = true) : PyData.eqv d d = true := SeqAt.eqv_refl d (SeqAt.canLay_of_shaped h)
end Rp

namespace Rp
open PySem PySem.Spec PyProof.Rows L2 Ex
theorem sqt_same {K : PySem.W.Frag} {H H' : Hp} {a : Addr} {xs : List V} (e : Same H H') (h : SqT K H a xs) : SqT K H' a xs := by
  rcases h with (h | ⟨o, h⟩) | h
  · exact .inl (.inl (e _ _ h))
  · exact .inl (.inr ⟨o, e _ _ h⟩)
  · exact .inr h
mutual
/-- data stays data where nothing tracked is lost -/
theorem Dt.same {K : PySem.W.Frag} {H H' : Hp} (s : Same H H') : ∀ (d : PyData) (v : V), Dt K H v d → Dt K H' v d
  | .none, _, h => by cases h; exact .non
  | .bool b, _, h => by cases h; exact .bl b
  | .int i, _, h => by cases h; exact .int i
  | .str x, _, h => by cases h; exact .str x
  | .list ds, _, h => by
    cases h with
    | lstR h1 h2 => exact .lstR (h1.imp (s _ _) fun ⟨o, q⟩ => ⟨o, s _ _ q⟩) (Dt.sameAll s ds _ h2)
  | .tuple ds, _, h => by
    cases h with
    | tup h1 h2 => exact .tup (sqt_same s h1) (Dt.sameAll s ds _ h2)
  | .dict ds, _, h => by
    cases h with
    | dicR h1 h2 => exact .dicR (h1.imp (s _ _) fun ⟨o, q⟩ => ⟨o, s _ _ q⟩) (Dt.sameKv s ds _ h2)
theorem Dt.sameAll {K : PySem.W.Frag} {H H' : Hp} (s : Same H H') : ∀ (ds : List PyData) (vs : List V), DtAll K H vs ds → DtAll K H' vs ds
  | [], _, h => by cases h; exact .nil
  | d :: ds, _, h => by
    cases h with
    | cons h1 h2 => exact .cons (Dt.same s d _ h1) (Dt.sameAll s ds _ h2)
theorem Dt.sameKv {K : PySem.W.Frag} {H H' : Hp} (s : Same H H') : ∀ (ds : List (PyData × PyData)) (kvs : List (Key × V)), DtKv K H kvs ds → DtKv K H' kvs ds
  | [], _, h => by cases h; exact .nil
  | (k, d) :: ds, _, h => by
    cases h with
    | cons h1 h2 => exact .cons (Dt.same s d _ h1) (Dt.sameKv s ds _ h2)
end
theorem ExcAt.same {H H' : Hp} {e C : Addr} {f : Str} {v : V} (h : ExcAt H e C f v) (s : Same H H') : ExcAt H' e C f v := by
  obtain ⟨dx, h1, h2⟩ := h
  exact ⟨dx, s _ _ h1, s _ _ h2⟩
theorem ExcAt.is {K : PySem.W.Frag} {H : Hp} {e C : Addr} {f : Str} {v : V} (h : ExcAt H e C f v) : IsEx K H e C := by
  obtain ⟨dx, h1, h2⟩ := h
  exact .own h1 h2
/-- the heap behind C(v) -/
theorem made {H : Hp} {a dx C : Addr} {f : Str} {v : V} (ha : H a = none) (hd : upd H a (exo a C none) dx = none) (ne : dx ≠ a) :
    Same H (upd (upd (upd H a (exo a C none)) dx (exd dx [(f, v)])) a (exo a C (some dx))) ∧ ExcAt (upd (upd (upd H a (exo a C none)) dx (exd dx [(f, v)])) a (exo a C (some dx))) a C f v := by
  have hd' : H dx = none := by
    rw [upd_ne ne] at hd
    exact hd
  refine ⟨fun b o e => ?_, dx, upd_same, ?_⟩
  · rw [upd_ne (ne_of_none e ha), upd_ne (ne_of_none e hd'), upd_ne (ne_of_none e ha)]
    exact e
  · rw [upd_ne ne, upd_same]
end Rp

/-! The streams of draws: what a stream holds, what each draw leaves. -/
namespace Dr
open PySem PySem.Spec PyProof.Rows L2
/-- a power whose size stays below the line -/
theorem op_powW {X : Cx} : OpR X (binaryOp .Pow) (rI (fun i j => 0 ≤ j ∧ (Builtin.Int.intBits i : Int) * j ≤ 2 ^ 27) fun i j => .int (i ^ j.toNat)) :=
  opI fun _ _ _ _ _ _ _ hc q => pow_int hc.1 hc.2 q
/-- all but p is as it was -/
def But (p : Addr) (H H' : Hp) : Prop := ∀ b o, b ≠ p → H b = some o → H' b = some o
theorem But.refl (p : Addr) (H : Hp) : But p H H := fun _ _ _ h => h
theorem But.trans {p : Addr} {H H1 H2 : Hp} (a : But p H H1) (b : But p H1 H2) : But p H H2 := fun c o n h => b c o n (a c o n h)
theorem But.upd (p : Addr) (H : Hp) (o : HO) : But p H (upd H p o) := fun b u n h => by
  rw [upd_ne n]
  exact h
theorem But.new {p q : Addr} {H H1 : Hp} {o : HO} (a : But p H H1) (hq : H1 q = none) : But p H (L2.upd H1 q o) := fun b u n h => by
  have h1 := a b u n h
  rw [upd_ne (ne_of_none h1 hq)]
  exact h1
theorem But.same {p : Addr} {H H1 H2 : Hp} (a : But p H H1) (b : Same H1 H2) : But p H H2 := fun c o n h => b c o (a c o n h)
theorem But.free {p q : Addr} {H H1 : Hp} (a : But p H H1) (n : q ≠ p) (h : H1 q = none) : H q = none := by
  cases e : H q with
  | none => rfl
  | some o =>
    rw [a q o n e] at h
    cases h
/-- at p: a stream, at most m draws behind its first digits -/
def StrAt (H : Hp) (p : Addr) (_m : Nat) : Prop := ∃ a b c : Int, H p = some (.lst [.int a, .int b, .int c]) ∧ 0 ≤ a ∧ a.natAbs < 2 ^ 2000 ∧ 0 ≤ b ∧ b < 2147483648 ∧ 0 ≤ c
theorem StrAt.mono {H : Hp} {p : Addr} {m n : Nat} (s : StrAt H p m) (h : m ≤ n) : StrAt H p n := by
  exact s
theorem StrAt.keep {H H' : Hp} {p : Addr} {m : Nat} (s : StrAt H p m) (h : ∀ o, H p = some o → H' p = some o) : StrAt H' p m := by
  obtain ⟨a, b, c, h1, r⟩ := s
  exact ⟨a, b, c, h _ h1, r⟩
theorem StrAt.same {H H' : Hp} {p : Addr} {m : Nat} (s : StrAt H p m) (h : Same H H') : StrAt H' p m := s.keep fun o => h p o
theorem StrAt.some {H : Hp} {p : Addr} {m : Nat} (s : StrAt H p m) : ∃ xs, H p = some (.lst xs) := by
  obtain ⟨a, b, c, h1, _⟩ := s
  exact ⟨_, h1⟩
/-- _law_stream(script, at) -/
def spStream (K : PySem.W.Frag) : Sp := fun vs H Q _ => ∃ (a : Addr) (ns : List Int) (i : Nat), vs = [.ref a, .int i] ∧ SqL K H a (ns.map V.int) ∧ ns.length ≤ 63 ∧ i ≤ 100 ∧
  ∀ H' p, Same H H' → H p = none → StrAt H' p 0 → Q (.ref p) H'
/-- _law_draw(stream, high) -/
def spDraw : Sp := fun vs H Q _ => ∃ (p : Addr) (n : Int) (m : Nat), vs = [.ref p, .int n] ∧ StrAt H p m ∧ m ≤ 100000 ∧ 0 < n ∧ n < 1000000 ∧
  ∀ H' v, 0 ≤ v → v < n → But p H H' → StrAt H' p (m + 1) → Q (.int v) H'
/-- _law_pick(stream, items), items a list -/
def spPick (K : PySem.W.Frag) : Sp := fun vs H Q _ => ∃ (p q : Addr) (xs : List V) (m : Nat), vs = [.ref p, .ref q] ∧ StrAt H p m ∧ m ≤ 100000 ∧ p ≠ q ∧ SqL K H q xs ∧ 0 < xs.length ∧ xs.length < 1000000 ∧
  ∀ H' (i : Nat) x, xs[i]? = some x → But p H H' → StrAt H' p (m + 1) → Q x H'
end Dr

/-! Data that does not reach some addresses; small data. -/
namespace Rp
open PySem PySem.Spec PyProof.Rows L2 Ex Dr
/-- the abstract heap without some addresses -/
def cut (ex : List Addr) (H : Hp) : Hp := fun b => if b ∈ ex then none else H b
theorem cut_at {ex : List Addr} {H : Hp} {b : Addr} {o : HO} (h : H b = some o) (n : b ∉ ex) : cut ex H b = some o := by
  unfold cut
  rw [if_neg n]
  exact h
theorem cut_of {ex : List Addr} {H : Hp} {b : Addr} {o : HO} (h : cut ex H b = some o) : b ∉ ex ∧ H b = some o := by
  unfold cut at h
  by_cases n : b ∈ ex
  · rw [if_pos n] at h
    cases h
  · rw [if_neg n] at h
    exact ⟨n, h⟩
theorem cut_same {ex ex' : List Addr} {H H' : Hp} (k : ∀ b o, b ∉ ex → H b = some o → b ∉ ex' ∧ H' b = some o) : Same (cut ex H) (cut ex' H') := fun b o e => by
  obtain ⟨n, h⟩ := cut_of e
  obtain ⟨n', h'⟩ := k b o n h
  exact cut_at h' n'
theorem cut_all {ex : List Addr} {H : Hp} : Same (cut ex H) H := fun b o e => (cut_of e).2
/-- small data -/
def Sm (d : PyData) : Prop := d.showable = true ∧ d.depth ≤ 5 ∧ d.shown.length ≤ 1000
theorem smAll : ∀ ds : List PyData, (∀ d, d ∈ ds → Sm d) → PyData.showableAll ds = true ∧ PyData.depthAll ds ≤ 5 ∧ ((PyData.shownAll ds).map (·.length)).sum ≤ 1000 * ds.length ∧ (PyData.shownAll ds).length = ds.length
  | [], _ => ⟨rfl, Nat.zero_le _, Nat.le_refl _, rfl⟩
  | d :: r, h => by
    obtain ⟨h1, h2, h3⟩ := h d List.mem_cons_self
    obtain ⟨r1, r2, r3, r4⟩ := smAll r fun x hx => h x (List.mem_cons_of_mem _ hx)
    refine ⟨?_, ?_, ?_, ?_⟩
    · simp only [PyData.showableAll, h1, r1, Bool.and_self]
    · simp only [PyData.depthAll]
      omega
    · simp only [PyData.shownAll, List.map_cons, List.sum_cons, List.length_cons]
      omega
    · simp only [PyData.shownAll, List.length_cons, r4]
theorem sm_list {ds : List PyData} (h : ∀ d, d ∈ ds → Sm d) (hl : ds.length ≤ 100) : (PyData.list ds).showable = true ∧ (PyData.list ds).depth ≤ 60 ∧ (PyData.list ds).shown.length ≤ sizeLine := by
  obtain ⟨r1, r2, r3, r4⟩ := smAll ds h
  refine ⟨?_, ?_, ?_⟩
  · simp only [PyData.showable, r1]
  · simp only [PyData.depth]
    omega
  · have z := listText_len_le (PyData.shownAll ds)
    have e : (PyData.list ds).shown = listText (PyData.shownAll ds) := by simp only [PyData.shown]
    rw [e, sizeLine_eq]
    omega
/-- an item of a menu of small data -/
theorem DtAll.get {K : PySem.W.Frag} {H : Hp} : ∀ {xs : List V} {ds : List PyData} {i : Nat} {x : V}, DtAll K H xs ds → (∀ d, d ∈ ds → Sm d) → xs[i]? = some x → ∃ d, Dt K H x d ∧ Sm d
  | _, _, _, _, .nil, _, e => by simp at e
  | _, _, 0, _, .cons h _, s, e => by
    simp at e
    subst e
    exact ⟨_, h, s _ List.mem_cons_self⟩
  | _, _, i + 1, _, .cons _ t, s, e => DtAll.get (i := i) t (fun d hd => s d (List.mem_cons_of_mem _ hd)) (by simpa using e)
theorem DtAll.len {K : PySem.W.Frag} {H : Hp} : ∀ {xs : List V} {ds : List PyData}, DtAll K H xs ds → ds.length = xs.length
  | _, _, .nil => rfl
  | _, _, .cons _ t => by rw [List.length_cons, List.length_cons, DtAll.len t]
theorem dt_strs {K : PySem.W.Frag} {H : Hp} : ∀ xs : List Str, DtAll K H (xs.map V.str) (xs.map PyData.str)
  | [] => .nil
  | x :: r => .cons (.str x) (dt_strs r)
theorem dt_ints {K : PySem.W.Frag} {H : Hp} : ∀ xs : List Int, DtAll K H (xs.map V.int) (xs.map PyData.int)
  | [] => .nil
  | x :: r => .cons (.int x) (dt_ints r)
theorem str_item {zs : List Str} {j : Nat} {x : V} (h : (zs.map V.str)[j]? = some x) : ∃ z, z ∈ zs ∧ x = .str z := by
  rw [List.getElem?_map] at h
  cases e : zs[j]? with
  | none =>
    rw [e] at h
    cases h
  | some z =>
    rw [e] at h
    exact ⟨z, List.mem_of_getElem? e, (Option.some.inj h).symm⟩
theorem int_item {zs : List Int} {j : Nat} {x : V} (h : (zs.map V.int)[j]? = some x) : ∃ z, z ∈ zs ∧ x = .int z := by
  rw [List.getElem?_map] at h
  cases e : zs[j]? with
  | none =>
    rw [e] at h
    cases h
  | some z =>
    rw [e] at h
    exact ⟨z, List.mem_of_getElem? e, (Option.some.inj h).symm⟩
/-- all but p and f is as it was -/
def By (p f : Addr) (A B : Hp) : Prop := ∀ b o, b ≠ p → b ≠ f → A b = some o → B b = some o
theorem By.of {p f : Addr} {A B : Hp} (h : But p A B) : By p f A B := fun b o n _ e => h b o n e
theorem By.sm {p f : Addr} {A B : Hp} (h : Same A B) : By p f A B := fun b o _ _ e => h b o e
theorem By.trans {p f : Addr} {A B C : Hp} (h : By p f A B) (g : By p f B C) : By p f A C := fun b o n m e => g b o n m (h b o n m e)
theorem By.upd (p f : Addr) (A : Hp) (o : HO) : By p f A (L2.upd A f o) := fun b u _ m e => by
  rw [upd_ne m]
  exact e
theorem But.sm {p : Addr} {A B : Hp} (h : Same A B) : But p A B := fun b o _ e => h b o e
/-- data of a tuple of small names -/
theorem sm_names {zs : List Str} (h : ∀ z, z ∈ zs → z = "a" ∨ z = "b" ∨ z = "xx") (hl : zs.length ≤ 5) : (PyData.tuple (zs.map PyData.str)).showable = true ∧ (PyData.tuple (zs.map PyData.str)).depth ≤ 1 ∧ (PyData.tuple (zs.map PyData.str)).shown.length ≤ 300 := by
  have hz : ∀ d, d ∈ zs.map PyData.str → d.showable = true ∧ d.depth = 0 ∧ d.shown.length ≤ 10 := by
    intro d hd
    obtain ⟨z, hz, rfl⟩ := List.mem_map.mp hd
    rcases h z hz with rfl | rfl | rfl <;> exact ⟨rfl, rfl, by decide +kernel⟩
  have all : ∀ ds : List PyData, (∀ d, d ∈ ds → d.showable = true ∧ d.depth = 0 ∧ d.shown.length ≤ 10) → PyData.showableAll ds = true ∧ PyData.depthAll ds = 0 ∧ ((PyData.shownAll ds).map (·.length)).sum ≤ 10 * ds.length ∧ (PyData.shownAll ds).length = ds.length := by
    intro ds
    induction ds with
    | nil => intro _; exact ⟨rfl, rfl, Nat.le_refl _, rfl⟩
    | cons d r ih =>
      intro q
      obtain ⟨h1, h2, h3⟩ := q d List.mem_cons_self
      obtain ⟨r1, r2, r3, r4⟩ := ih fun x hx => q x (List.mem_cons_of_mem _ hx)
      refine ⟨?_, ?_, ?_, ?_⟩
      · simp only [PyData.showableAll, h1, r1, Bool.and_self]
      · simp only [PyData.depthAll, h2, r2]
        rfl
      · simp only [PyData.shownAll, List.map_cons, List.sum_cons, List.length_cons]
        omega
      · simp only [PyData.shownAll, List.length_cons, r4]
  obtain ⟨r1, r2, r3, r4⟩ := all _ hz
  rw [List.length_map] at r3 r4
  refine ⟨?_, ?_, ?_⟩
  · simp only [PyData.showable, r1]
  · simp only [PyData.depth, r2]
    omega
  · have z := tupleText_len_le (PyData.shownAll (zs.map PyData.str))
    have e : (PyData.tuple (zs.map PyData.str)).shown = tupleText (PyData.shownAll (zs.map PyData.str)) := by simp only [PyData.shown]
    rw [e]
    omega
/-- a pair of a short text and small data -/
theorem sm_pair {x : Str} {d : PyData} (hx : (PyData.str x).shown.length ≤ 50) (h : d.showable = true ∧ d.depth ≤ 1 ∧ d.shown.length ≤ 300) : Sm (.tuple [.str x, d]) := by
  obtain ⟨h1, h2, h3⟩ := h
  refine ⟨?_, ?_, ?_⟩
  · simp only [PyData.showable, PyData.showableAll, h1, Bool.and_self]
  · simp only [PyData.depth, PyData.depthAll]
    omega
  · have z := tupleText_len_le (PyData.shownAll [.str x, d])
    have e : (PyData.tuple [.str x, d]).shown = tupleText (PyData.shownAll [.str x, d]) := by simp only [PyData.shown]
    rw [e]
    simp only [PyData.shownAll, List.map_cons, List.map_nil, List.sum_cons, List.sum_nil, List.length_cons, List.length_nil] at z ⊢
    omega
end Rp

/-! repr of any data; the data part of a heap (no stream, no table). -/
namespace Rp
open PySem PySem.Spec PyProof.Rows L2 Ex Dr
open LamX (ExtN TabS Tabs CodeO)
def rRepA (K : PySem.W.Frag) : List V → Hp → VK → Prop := fun xs H Q => ∃ (v : V) (d : PyData), xs = [v] ∧ Dt K H v d ∧ d.showable = true ∧ d.depth ≤ 60 ∧ d.shown.length ≤ sizeLine ∧ Q (.str d.shown) H
theorem call_repr_any {X : Cx} (hk : SysD X.K) (hg : X.A.guards = some []) (hu : X.A.units + 64 < cLine) : CallR X (.builtin "repr") (rRepA X.K) := by
  intro pins s σ H xs us Q I r h
  obtain ⟨v, d, rfl, hd, hs, hdep, hz, q⟩ := h
  obtain ⟨u, rfl, hr⟩ := vals1 r
  have go : ∀ {a : Addr}, v = .ref a → wpAny (model X.prog X.w) X.A (call (.builtin "repr") [u]) (EP X pins σ Q) X.xe s := fun {a} e => by
    subst e
    exact call_repr_data hk hg hu pins s σ H [.ref a] [u] Q I (.cons hr .nil) ⟨a, d, rfl, hd, hs, hdep, hz, q⟩
  cases d with
  | none =>
    cases hd
    obtain rfl : u = Value.none := hr
    exact PySem.P.repr_of_none ⟨.str _, H, I.tok _, ⟨_, rfl⟩, q⟩
  | bool b =>
    cases hd
    obtain rfl : u = Value.bool b := hr
    exact PySem.P.repr_of_bool ⟨.str _, H, I.tok _, ⟨_, rfl⟩, q⟩
  | int i =>
    cases hd
    obtain ⟨t, rfl⟩ := hr
    exact PySem.P.repr_of_int (of_decide_eq_true hs) ⟨.str _, H, I.tok _, ⟨_, rfl⟩, q⟩
  | str x =>
    cases hd
    obtain ⟨t, rfl⟩ := hr
    exact PySem.P.repr_of_str ⟨.str _, H, I.tok _, ⟨_, rfl⟩, q⟩ hz
  | list ds =>
    cases hd with
    | lstR h1 h2 => exact go rfl
  | tuple ds =>
    cases hd with
    | tup h1 h2 => exact go rfl
  | dict ds =>
    cases hd with
    | dicR h1 h2 => exact go rfl
theorem smu {H : Hp} {p : Addr} {o : HO} (h : H p = none) : Same H (upd H p o) := fun b u e => by
  rw [upd_ne (ne_of_none e h)]
  exact e
/-- the heap without the stream at p and without tables -/
def ct (p : Addr) (H : Hp) : Hp := fun b => if b = p then none else match H b with
  | some (.tbl _) => none
  | o => o
theorem ct_at {p b : Addr} {H : Hp} {o : HO} (h : H b = some o) (n : b ≠ p) (nt : ∀ ps, o ≠ .tbl ps) : ct p H b = some o := by
  unfold ct
  rw [if_neg n, h]
  cases o <;> first | rfl | exact absurd rfl (nt _)
theorem ct_of {p b : Addr} {H : Hp} {o : HO} (h : ct p H b = some o) : b ≠ p ∧ H b = some o ∧ ∀ ps, o ≠ .tbl ps := by
  unfold ct at h
  by_cases n : b = p
  · rw [if_pos n] at h
    cases h
  · rw [if_neg n] at h
    refine ⟨n, ?_, fun ps z => ?_⟩
    · cases e : H b with
      | none =>
        rw [e] at h
        cases h
      | some u =>
        rw [e] at h
        cases u <;> first | exact h | cases h
    · subst z
      cases e : H b with
      | none =>
        rw [e] at h
        cases h
      | some u =>
        rw [e] at h
        cases u <;> cases h
theorem ct_all {p : Addr} {H : Hp} : Same (ct p H) H := fun b o e => (ct_of e).2.1
theorem ct_same {p : Addr} {H H' : Hp} (k : ∀ b o, b ≠ p → H b = some o → (∀ ps, o ≠ .tbl ps) → H' b = some o) : Same (ct p H) (ct p H') := fun b o e => by
  obtain ⟨n, h, t⟩ := ct_of e
  exact ct_at (k b o n h t) n t
theorem ct_but {p : Addr} {H H' : Hp} (b : But p H H') : Same (ct p H) (ct p H') := ct_same fun _ _ n h _ => b _ _ n h
theorem ct_sm {p : Addr} {H H' : Hp} (s : Same H H') : Same (ct p H) (ct p H') := ct_same fun _ _ _ h _ => s _ _ h
theorem ct_ext {p : Addr} {H H' : Hp} (e : ExtN H H') : Same (ct p H) (ct p H') := ct_same fun _ _ _ h t => e _ _ h t
/-- a new object -/
theorem ct_new {p q : Addr} {H : Hp} {o : HO} (hp : H p ≠ none) (hq : H q = none) (nt : ∀ ps, o ≠ .tbl ps) : Same (ct p H) (ct p (upd H q o)) ∧ ct p (upd H q o) q = some o :=
  ⟨ct_sm (smu hq), ct_at upd_same (fun z => hp (by rw [← z]; exact hq)) nt⟩
/-- what is free in the data part -/
theorem tabs_sm {T : List (Addr × Str)} {H H' : Hp} (t : Tabs T H) (s : Same H H') : Tabs T H' := t.ext fun b o e => s b o e
theorem tabs_but {T : List (Addr × Str)} {p : Addr} {xs : List V} {H H' : Hp} (t : Tabs T H) (hp : H p = some (.lst xs)) (b : But p H H') : Tabs T H' := fun z hz => by
  obtain ⟨ps, h1, h2, h3⟩ := t z hz
  refine ⟨ps, b _ _ (fun e => ?_) h1, h2, fun pos cv hc => ?_⟩
  · rw [e, hp] at h1
    cases h1
  · obtain ⟨c, e1, e2⟩ := h3 pos cv hc
    refine ⟨c, e1, b _ _ (fun e => ?_) e2⟩
    rw [e, hp] at e2
    cases e2
/-- the type of data -/
def tyD : PyData → String
  | .none => "NoneType"
  | .bool _ => "bool"
  | .int _ => "int"
  | .str _ => "str"
  | .list _ => "list"
  | .tuple _ => "tuple"
  | .dict _ => "dict"
theorem Dt.ty {K : PySem.W.Frag} {H : Hp} {v : V} : ∀ {d : PyData}, Dt K H v d → TyX K H v (.type (tyD d))
  | .none, h => by cases h; exact .base .non
  | .bool b, h => by cases h; exact .base (.bl b)
  | .int i, h => by cases h; exact .base (.int i)
  | .str x, h => by cases h; exact .base (.str x)
  | .list ds, h => by
    cases h with
    | lstR h1 h2 =>
      rcases h1 with h | ⟨o, h⟩
      · exact .base (.lst h)
      · exact .base (.frz h)
  | .tuple ds, h => by
    cases h with
    | tup h1 h2 =>
      rcases h1 with (h | ⟨o, h⟩) | ⟨o, its, n, h, hc, _⟩
      · exact .base (.tup h)
      · exact .fTuple h
      · exact .kTuple h hc
  | .dict ds, h => by
    cases h with
    | dicR h1 h2 =>
      rcases h1 with h | ⟨o, h⟩
      · exact .base (.dK h)
      · exact .fDict h
end Rp

/-! Data ways: values as data, steps of the heap, what is loose. -/
namespace Dw
open PySem PySem.Spec PyProof.Rows L2 Dr Rp
open He (ga)
/-- an object is as it was, or a dict that is walked now -/
def Lk (o o' : HO) : Prop := o' = o ∨ ∃ kvs q, o = .dK kvs ∧ o' = .frz q (.dK kvs)
theorem Lk.trans {a b c : HO} (h : Lk a b) (k : Lk b c) : Lk a c := by
  rcases h with rfl | ⟨kvs, q, rfl, rfl⟩
  · exact k
  · rcases k with rfl | ⟨_, _, e, _⟩
    · exact .inr ⟨kvs, q, rfl, rfl⟩
    · cases e
theorem Lk.notbl {a b : HO} (h : Lk a b) (n : ∀ ps, a ≠ .tbl ps) : ∀ ps, b ≠ .tbl ps := fun ps e => by
  rcases h with rfl | ⟨kvs, q, rfl, rfl⟩
  · exact n ps e
  · cases e
/-- what stood stands -/
def SameR (G G' : Hp) : Prop := ∀ b o, G b = some o → ∃ o', G' b = some o' ∧ Lk o o'
theorem SameR.refl (G : Hp) : SameR G G := fun _ o h => ⟨o, h, .inl rfl⟩
theorem SameR.trans {G G1 G2 : Hp} (a : SameR G G1) (b : SameR G1 G2) : SameR G G2 := fun c o h => by
  obtain ⟨o1, h1, k1⟩ := a c o h
  obtain ⟨o2, h2, k2⟩ := b c o1 h1
  exact ⟨o2, h2, k1.trans k2⟩
theorem SameR.of {G G' : Hp} (s : Same G G') : SameR G G' := fun b o h => ⟨o, s b o h, .inl rfl⟩
theorem SameR.rd {G G' : Hp} (s : SameR G G') {a : Addr} {u : HO} (h : Rd G a u) : Rd G' a u := by
  rcases h with h | ⟨o, h⟩
  · obtain ⟨o', h', k⟩ := s _ _ h
    rcases k with rfl | ⟨kvs, q, rfl, rfl⟩
    · exact .inl h'
    · exact .inr ⟨q, h'⟩
  · obtain ⟨o', h', k⟩ := s _ _ h
    rcases k with rfl | ⟨kvs, q, e, _⟩
    · exact .inr ⟨o, h'⟩
    · cases e
theorem SameR.ins {G G' : Hp} (s : SameR G G') {a C dx : Addr} {fs : List (Str × V)} (h : G a = some (.ins C dx fs)) : G' a = some (.ins C dx fs) := by
  obtain ⟨o', h', k⟩ := s _ _ h
  rcases k with rfl | ⟨kvs, q, e, _⟩
  · exact h'
  · cases e
theorem SameR.sql {K : PySem.W.Frag} {G G' : Hp} (s : SameR G G') {a : Addr} {xs : List V} (h : SqL K G a xs) : SqL K G' a xs := h.imp s.rd id
theorem SameR.sqt {K : PySem.W.Frag} {G G' : Hp} (s : SameR G G') {a : Addr} {xs : List V} (h : SqT K G a xs) : SqT K G' a xs := h.imp s.rd id
mutual
theorem Dt.sameR {K : PySem.W.Frag} {H H' : Hp} (s : SameR H H') : ∀ (d : PyData) (v : V), Dt K H v d → Dt K H' v d
  | .none, _, h => by cases h; exact .non
  | .bool b, _, h => by cases h; exact .bl b
  | .int i, _, h => by cases h; exact .int i
  | .str x, _, h => by cases h; exact .str x
  | .list ds, _, h => by
    cases h with
    | lstR h1 h2 => exact .lstR (s.rd h1) (Dt.sameRAll s ds _ h2)
  | .tuple ds, _, h => by
    cases h with
    | tup h1 h2 => exact .tup (s.sqt h1) (Dt.sameRAll s ds _ h2)
  | .dict ds, _, h => by
    cases h with
    | dicR h1 h2 => exact .dicR (s.rd h1) (Dt.sameRKv s ds _ h2)
theorem Dt.sameRAll {K : PySem.W.Frag} {H H' : Hp} (s : SameR H H') : ∀ (ds : List PyData) (vs : List V), DtAll K H vs ds → DtAll K H' vs ds
  | [], _, h => by cases h; exact .nil
  | d :: ds, _, h => by
    cases h with
    | cons h1 h2 => exact .cons (Dt.sameR s d _ h1) (Dt.sameRAll s ds _ h2)
theorem Dt.sameRKv {K : PySem.W.Frag} {H H' : Hp} (s : SameR H H') : ∀ (ds : List (PyData × PyData)) (kvs : List (Key × V)), DtKv K H kvs ds → DtKv K H' kvs ds
  | [], _, h => by cases h; exact .nil
  | (k, d) :: ds, _, h => by
    cases h with
    | cons h1 h2 => exact .cons (Dt.sameR s d _ h1) (Dt.sameRKv s ds _ h2)
end
/-- the heap without what is loose, and without tables -/
noncomputable def ctL (L : Addr → Prop) (H : Hp) : Hp := fun b => by
  classical exact if L b then none else match H b with
    | some (.tbl _) => none
    | o => o
section
variable {L M : Addr → Prop} {H H' : Hp} {b : Addr} {o : HO}
theorem ctL_at (h : H b = some o) (n : ¬ L b) (nt : ∀ ps, o ≠ .tbl ps) : ctL L H b = some o := by
  unfold ctL
  rw [if_neg n, h]
  cases o <;> first | rfl | exact absurd rfl (nt _)
theorem ctL_of (h : ctL L H b = some o) : ¬ L b ∧ H b = some o ∧ ∀ ps, o ≠ .tbl ps := by
  unfold ctL at h
  by_cases n : L b
  · rw [if_pos n] at h
    cases h
  · rw [if_neg n] at h
    cases e : H b with
    | none =>
      rw [e] at h
      cases h
    | some u =>
      rw [e] at h
      cases u <;> first
        | (cases h; exact ⟨n, rfl, fun ps z => by cases z⟩)
        | cases h
theorem ctL_sub (k : ∀ b, M b → L b) : SameR (ctL L H) (ctL M H) := fun b o h => by
  obtain ⟨n, h, t⟩ := ctL_of h
  exact ⟨o, ctL_at h (fun z => n (k b z)) t, .inl rfl⟩
theorem ctL_all : SameR (ctL L H) H := fun b o h => ⟨o, (ctL_of h).2.1, .inl rfl⟩
end
/-- a step: all but the stream and tables stays; the loose stays as it is -/
structure Stp (L : Addr → Prop) (p : Option Addr) (H H' : Hp) : Prop where
  keep : ∀ b o, p ≠ some b → (∀ ps, o ≠ .tbl ps) → H b = some o → ∃ o', H' b = some o' ∧ Lk o o'
  live : ∀ b, H b ≠ none → H' b ≠ none
  loose : ∀ b, L b → p ≠ some b → H' b = H b
/-- no tuple -/
def NT (o : HO) : Prop := ∀ xs, o ≠ .tup xs ∧ ∀ q, o ≠ .frz q (.tup xs)
theorem NT.lst {xs : List V} : NT (.lst xs) := fun _ => ⟨(fun e => nomatch e), (fun _ e => nomatch e)⟩
theorem NT.dK {xs : List (Key × V)} : NT (.dK xs) := fun _ => ⟨(fun e => nomatch e), (fun _ e => nomatch e)⟩
/-- the loose stands, no tuple is loose; the stream is loose -/
structure LOk (L : Addr → Prop) (p : Option Addr) (H : Hp) : Prop where
  live : ∀ b, L b → ∃ o, H b = some o ∧ NT o
  str : ∀ q, p = some q → L q ∧ StrAt H q 0
section
variable {L M : Addr → Prop} {p : Option Addr} {H H1 H2 : Hp}
theorem Stp.refl : Stp L p H H := ⟨fun _ o _ _ h => ⟨o, h, .inl rfl⟩, fun _ h => h, fun _ _ _ => rfl⟩
theorem Stp.trans (a : Stp L p H H1) (b : Stp L p H1 H2) : Stp L p H H2 := by
  refine ⟨fun c o n t h => ?_, fun c h => b.live c (a.live c h), fun c l n => (b.loose c l n).trans (a.loose c l n)⟩
  obtain ⟨o1, h1, k1⟩ := a.keep c o n t h
  obtain ⟨o2, h2, k2⟩ := b.keep c o1 n (k1.notbl t) h1
  exact ⟨o2, h2, k1.trans k2⟩
theorem Stp.sub (a : Stp L p H H1) (k : ∀ b, M b → L b) : Stp M p H H1 := ⟨a.keep, a.live, fun b l n => a.loose b (k b l) n⟩
theorem Stp.free (a : Stp L p H H1) {b : Addr} (h : H1 b = none) : H b = none := Classical.byContradiction fun n => a.live b n h
theorem Stp.ct (a : Stp L p H H1) (o : LOk L p H) : SameR (ctL L H) (ctL L H1) := fun b u h => by
  obtain ⟨n, h, t⟩ := ctL_of h
  obtain ⟨u', h', k⟩ := a.keep b u (fun e => n (o.str b e).1) t h
  exact ⟨u', ctL_at h' n (k.notbl t), k⟩
theorem Stp.same (s : Same H H1) (lv : ∀ b, L b → H b ≠ none) : Stp L p H H1 := by
  refine ⟨fun b o _ _ h => ⟨o, s b o h, .inl rfl⟩, fun b h => ?_, fun b l _ => ?_⟩
  · cases e : H b with
    | none => exact absurd e h
    | some o => rw [s b o e]; simp
  · cases e : H b with
    | none => exact absurd e (lv b l)
    | some o => exact s b o e
theorem Stp.new {q : Addr} {o : HO} (lv : ∀ b, L b → H b ≠ none) (h : H q = none) : Stp L p H (upd H q o) := Stp.same (smu h) lv
theorem Stp.but {q : Addr} (s : But q H H1) (lv : ∀ b, L b → H b ≠ none) (hq : H1 q ≠ none) : Stp L (some q) H H1 := by
  refine ⟨fun b o n _ h => ⟨o, s b o (fun e => n (by rw [e])) h, .inl rfl⟩, fun b h => ?_, fun b l n => ?_⟩
  · by_cases e : b = q
    · rw [e]; exact hq
    · cases e2 : H b with
      | none => exact absurd e2 h
      | some o => rw [s b o e e2]; simp
  · cases e : H b with
    | none => exact absurd e (lv b l)
    | some o => exact s b o (fun z => n (by rw [z])) e
theorem LOk.ne (o : LOk L p H) : ∀ b, L b → H b ≠ none := fun b l e => by
  obtain ⟨u, h, _⟩ := o.live b l
  rw [e] at h
  cases h
theorem LOk.step (o : LOk L p H) (a : Stp L p H H1) (s : ∀ q, p = some q → StrAt H1 q 0) : LOk L p H1 := by
  refine ⟨fun b l => ?_, fun q e => ⟨(o.str q e).1, s q e⟩⟩
  by_cases e : p = some b
  · obtain ⟨x, y, z, h, _⟩ := s b e
    exact ⟨_, h, .lst⟩
  · rw [a.loose b l e]
    exact o.live b l
theorem LOk.same (o : LOk L p H) (s : Same H H1) : LOk L p H1 := o.step (Stp.same s o.ne) fun q e => (o.str q e).2.same s
theorem LOk.new {q : Addr} {u : HO} (o : LOk L p H) (h : H q = none) : LOk L p (upd H q u) := o.same (smu h)
theorem LOk.sub (o : LOk L p H) (k : ∀ b, M b → L b) (kp : ∀ q, p = some q → M q) : LOk M p H := ⟨fun b l => o.live b (k b l), fun q e => ⟨kp q e, (o.str q e).2⟩⟩
/-- tuples are never loose -/
theorem LOk.sqt {K : PySem.W.Frag} (o : LOk L p H) {a : Addr} {xs : List V} (h : SqT K H a xs) : SqT K (ctL L H) a xs := by
  rcases h with (h | ⟨q, h⟩) | h
  · refine .inl (.inl (ctL_at h (fun l => ?_) fun ps e => by cases e))
    obtain ⟨u, hu, n⟩ := o.live a l
    rw [h] at hu
    exact (n xs).1 (Option.some.inj hu).symm
  · refine .inl (.inr ⟨q, ctL_at h (fun l => ?_) fun ps e => by cases e⟩)
    obtain ⟨u, hu, n⟩ := o.live a l
    rw [h] at hu
    exact (n xs).2 q (Option.some.inj hu).symm
  · exact .inr h
end
/-- a value: data, the stream, an object with fields of data; of a name also: a list or dict that it alone holds, nothing known -/
inductive EV where
  | py (d : PyData) | st | ob (C : Str) (fs : List (Str × PyData)) | own (d : PyData) | no
def Rv (K : PySem.W.Frag) (p : Option Addr) (G : Hp) (v : V) : EV → Prop
  | .py d => Dt K G v d
  | .st => ∃ a, p = some a ∧ v = .ref a
  | .ob C fs => ∃ a dx vs, v = .ref a ∧ G a = some (.ins (ga K C) dx vs) ∧ vs.map (·.1) = fs.map (·.1) ∧ DtAll K G (vs.map (·.2)) (fs.map (·.2))
  | .own _ => False
  | .no => False
theorem Rv.sameR {K : PySem.W.Frag} {p : Option Addr} {G G' : Hp} {v : V} (s : SameR G G') : ∀ {e : EV}, Rv K p G v e → Rv K p G' v e
  | .py d, h => Dt.sameR s d v h
  | .st, h => h
  | .ob C fs, h => by
    obtain ⟨a, dx, vs, e, h1, h2, h3⟩ := h
    exact ⟨a, dx, vs, e, s.ins h1, h2, Dt.sameRAll s _ _ h3⟩
  | .own _, h => h
  | .no, h => h
/-- a list or a dict at a, its parts in G -/
def OwnAt (K : PySem.W.Frag) (G H : Hp) (a : Addr) (d : PyData) : Prop :=
  (∃ vs xs, d = .list xs ∧ H a = some (.lst vs) ∧ DtAll K G vs xs) ∨ (∃ kvs ds, d = .dict ds ∧ H a = some (.dK kvs) ∧ DtKv K G kvs ds)
theorem OwnAt.sameR {K : PySem.W.Frag} {G G' H H' : Hp} {a : Addr} {d : PyData} (h : OwnAt K G H a d) (s : SameR G G') (e : H' a = H a) : OwnAt K G' H' a d := by
  rcases h with ⟨vs, xs, rfl, h1, h2⟩ | ⟨kvs, ds, rfl, h1, h2⟩
  · exact .inl ⟨vs, xs, rfl, e.trans h1, Dt.sameRAll s _ _ h2⟩
  · exact .inr ⟨kvs, ds, rfl, e.trans h1, Dt.sameRKv s _ _ h2⟩
theorem OwnAt.dt {K : PySem.W.Frag} {G H G' : Hp} {a : Addr} {d : PyData} (h : OwnAt K G H a d) (s : SameR G G') (e : ∀ o, H a = some o → (∀ ps, o ≠ .tbl ps) → G' a = some o) : Dt K G' (.ref a) d := by
  rcases h with ⟨vs, xs, rfl, h1, h2⟩ | ⟨kvs, ds, rfl, h1, h2⟩
  · exact .lst (e _ h1 fun ps z => by cases z) (Dt.sameRAll s _ _ h2)
  · exact .dic (e _ h1 fun ps z => by cases z) (Dt.sameRKv s _ _ h2)
inductive Mode where
  | fresh | data | read
  deriving DecidableEq
abbrev Ins (L : Addr → Prop) (a : Addr) : Addr → Prop := fun b => L b ∨ b = a
/-- what an expression hands on: a new list or dict that nothing else holds; data; data or what a name alone holds -/
def Res (K : PySem.W.Frag) (m : Mode) (L : Addr → Prop) (p : Option Addr) (H0 H : Hp) (v : V) (e : EV) : Prop := match m with
  | .fresh => ∃ a d, v = .ref a ∧ e = .py d ∧ H0 a = none ∧ OwnAt K (ctL (Ins L a) H) H a d
  | .data => Rv K p (ctL L H) v e
  | .read => Rv K p (ctL L H) v e ∨ ∃ a d, v = .ref a ∧ e = .py d ∧ (L a ∧ p ≠ some a) ∧ OwnAt K (ctL L H) H a d
section
variable {K : PySem.W.Frag} {L : Addr → Prop} {p : Option Addr} {H0 H H1 H2 : Hp} {v : V} {e : EV} {d : PyData} {a : Addr}
theorem Res.of_data {m : Mode} (hm : m ≠ .fresh) (h : Rv K p (ctL L H) v e) : Res K m L p H0 H v e := by
  cases m with
  | fresh => exact absurd rfl hm
  | data => exact h
  | read => exact .inl h
theorem Res.own_data (o : LOk L p H0) (h0 : H0 a = none) (h : OwnAt K (ctL (Ins L a) H) H a d) : Dt K (ctL L H) (.ref a) d :=
  h.dt (ctL_sub fun b l => .inl l) fun u hu t => ctL_at hu (fun l => o.ne a l h0) t
/-- a new list in any mode -/
theorem Res.of_fresh {m : Mode} (o : LOk L p H0) (h0 : H0 a = none) (h : OwnAt K (ctL (Ins L a) H) H a d) : Res K m L p H0 H (.ref a) (.py d) := by
  cases m with
  | fresh => exact ⟨a, d, rfl, rfl, h0, h⟩
  | data => exact Res.own_data o h0 h
  | read => exact .inl (Res.own_data (p := p) o h0 h)
theorem Res.base {m : Mode} (h : Res K m L p H1 H v e) (s : Stp L p H0 H1) : Res K m L p H0 H v e := by
  cases m with
  | fresh =>
    obtain ⟨a, d, e1, e2, h0, h⟩ := h
    exact ⟨a, d, e1, e2, s.free h0, h⟩
  | data => exact h
  | read => exact h
theorem Rv.step (h : Rv K p (ctL L H1) v e) (o : LOk L p H1) (s : Stp L p H1 H2) : Rv K p (ctL L H2) v e := h.sameR (s.ct o)
theorem Res.step {m : Mode} (hm : m ≠ .fresh) (h : Res K m L p H0 H1 v e) (o : LOk L p H1) (s : Stp L p H1 H2) : Res K m L p H0 H2 v e := by
  cases m with
  | fresh => exact absurd rfl hm
  | data => exact Rv.step h o s
  | read =>
    rcases h with h | ⟨a, d, e1, e2, hl, h⟩
    · exact .inl (Rv.step h o s)
    · exact .inr ⟨a, d, e1, e2, hl, h.sameR (s.ct o) (s.loose a hl.1 hl.2)⟩
/-- what can be read -/
theorem Res.list {xs : List PyData} (h : Res K .read L p H0 H v (.py (.list xs))) : ∃ a vs, v = .ref a ∧ Rd H a (.lst vs) ∧ DtAll K (ctL L H) vs xs := by
  rcases h with h | ⟨a, d, e1, e2, hl, h⟩
  · cases h with
    | lstR h1 h2 => exact ⟨_, _, rfl, SameR.rd ctL_all h1, h2⟩
  · cases e2
    rcases h with ⟨vs, ys, e, h1, h2⟩ | ⟨_, _, e, _⟩
    · cases e
      exact ⟨a, vs, e1, .inl h1, h2⟩
    · cases e
theorem Res.tup {xs : List PyData} (h : Res K .read L p H0 H v (.py (.tuple xs))) : ∃ a vs, v = .ref a ∧ SqT K H a vs ∧ DtAll K (ctL L H) vs xs := by
  rcases h with h | ⟨a, d, e1, e2, hl, h⟩
  · cases h with
    | tup h1 h2 => exact ⟨_, _, rfl, SameR.sqt ctL_all h1, h2⟩
  · cases e2
    rcases h with ⟨vs, ys, e, h1, h2⟩ | ⟨_, _, e, _⟩ <;> cases e
theorem Res.dict {ds : List (PyData × PyData)} (h : Res K .read L p H0 H v (.py (.dict ds))) : ∃ a kvs, v = .ref a ∧ Rd H a (.dK kvs) ∧ DtKv K (ctL L H) kvs ds := by
  rcases h with h | ⟨a, d, e1, e2, hl, h⟩
  · cases h with
    | dicR h1 h2 => exact ⟨_, _, rfl, SameR.rd ctL_all h1, h2⟩
  · cases e2
    rcases h with ⟨_, _, e, _⟩ | ⟨kvs, ys, e, h1, h2⟩
    · cases e
    · cases e
      exact ⟨a, kvs, e1, .inl h1, h2⟩
theorem Res.int {i : Int} (h : Res K .read L p H0 H v (.py (.int i))) : v = .int i := by
  rcases h with h | ⟨a, d, e1, e2, hl, h⟩
  · cases h
    rfl
  · cases e2
    rcases h with ⟨_, _, e, _⟩ | ⟨_, _, e, _⟩ <;> cases e
theorem Res.bool {i : Bool} (h : Res K .read L p H0 H v (.py (.bool i))) : v = .bl i := by
  rcases h with h | ⟨a, d, e1, e2, hl, h⟩
  · cases h
    rfl
  · cases e2
    rcases h with ⟨_, _, e, _⟩ | ⟨_, _, e, _⟩ <;> cases e
theorem Res.str {i : Str} (h : Res K .read L p H0 H v (.py (.str i))) : v = .str i := by
  rcases h with h | ⟨a, d, e1, e2, hl, h⟩
  · cases h
    rfl
  · cases e2
    rcases h with ⟨_, _, e, _⟩ | ⟨_, _, e, _⟩ <;> cases e
/-- as data in the whole heap -/
theorem Res.dt {d : PyData} (h : Res K .read L p H0 H v (.py d)) : Dt K H v d := by
  rcases h with h | ⟨a, d', e1, e2, hl, h⟩
  · exact Dt.sameR ctL_all d v h
  · cases e2
    subst e1
    exact h.dt ctL_all fun o h _ => h
end
end Dw

/-! Data ways: names, expressions. -/
namespace Dw
open PySem PySem.Spec PyProof.Rows L2 Dr Rp
open He (ga)
abbrev EnvD := List EV
abbrev WF := EnvD → (EV → Prop) → Prop
abbrev WT := EnvD → (Bool → Prop) → Prop
abbrev WA := EnvD → (List EV → Prop) → Prop
/-- what is loose: the caller's, and what names alone hold -/
def Ls (Lc : Addr → Prop) (os : Nat → Option Addr) : Addr → Prop := fun b => Lc b ∨ ∃ i, os i = some b
/-- what a loop leans on: objects as they stand, values as data -/
structure Gh where
  ad : List (Addr × HO) := []
  vl : List (V × EV) := []
/-- an object that no step changes -/
def Rigid (o : HO) : Prop := (∀ kvs, o ≠ .dK kvs) ∧ ∀ φ, o ≠ .ext φ
theorem Rigid.lst {xs : List V} : Rigid (.lst xs) := ⟨(fun _ e => nomatch e), (fun _ e => nomatch e)⟩
theorem Rigid.tup {xs : List V} : Rigid (.tup xs) := ⟨(fun _ e => nomatch e), (fun _ e => nomatch e)⟩
theorem Rigid.frz {q : Obj} {u : HO} : Rigid (.frz q u) := ⟨(fun _ e => nomatch e), (fun _ e => nomatch e)⟩
def GhD (K : PySem.W.Frag) (p : Option Addr) (L : Addr → Prop) (H : Hp) (g : Gh) : Prop := (∀ z ∈ g.ad, Rigid z.2 ∧ ctL L H z.1 = some z.2) ∧ ∀ z ∈ g.vl, Rv K p (ctL L H) z.1 z.2
def GhR (K : PySem.W.Frag) (p : Option Addr) (L : Addr → Prop) (H : Hp) (g : Gh) : Prop := (∀ z ∈ g.ad, Rigid z.2 ∧ H z.1 = some z.2 ∧ (∀ ps, z.2 ≠ .tbl ps) ∧ p ≠ some z.1) ∧ ∀ z ∈ g.vl, Rv K p (ctL L H) z.1 z.2
theorem GhD.sameR {K : PySem.W.Frag} {p : Option Addr} {L L' : Addr → Prop} {H H' : Hp} {g : Gh} (h : GhD K p L H g) (s : SameR (ctL L H) (ctL L' H')) : GhD K p L' H' g := by
  refine ⟨fun z hz => ⟨(h.1 z hz).1, ?_⟩, fun z hz => (h.2 z hz).sameR s⟩
  obtain ⟨r, e⟩ := h.1 z hz
  obtain ⟨o', e', k⟩ := s _ _ e
  rcases k with rfl | ⟨kvs, q, e2, _⟩
  · exact e'
  · exact absurd e2 (r.1 kvs)
theorem GhD.read {K : PySem.W.Frag} {p : Option Addr} {L : Addr → Prop} {H : Hp} {g : Gh} (h : GhD K p L H g) (o : LOk L p H) : GhR K p L H g :=
  ⟨fun z hz => ⟨(h.1 z hz).1, (ctL_of (h.1 z hz).2).2.1, (ctL_of (h.1 z hz).2).2.2, fun e => (ctL_of (h.1 z hz).2).1 (o.str _ e).1⟩, h.2⟩
theorem GhR.step {K : PySem.W.Frag} {p : Option Addr} {L : Addr → Prop} {H H' : Hp} {g : Gh} (h : GhR K p L H g) (o : LOk L p H) (s : Stp L p H H') : GhR K p L H' g := by
  refine ⟨fun z hz => ?_, fun z hz => (h.2 z hz).sameR (s.ct o)⟩
  obtain ⟨r, e, t, n⟩ := h.1 z hz
  obtain ⟨o', e', k⟩ := s.keep _ _ n t e
  rcases k with rfl | ⟨kvs, q, e2, _⟩
  · exact ⟨r, e', t, n⟩
  · exact absurd e2 (r.1 kvs)
/-- under more that is loose but none of its values -/
theorem GhR.mono {K : PySem.W.Frag} {p : Option Addr} {L L' : Addr → Prop} {H H' : Hp} {g : Gh} (h : GhR K p L H g) (s : SameR (ctL L H) (ctL L' H')) (k : ∀ z ∈ g.ad, H z.1 = some z.2 → H' z.1 = some z.2) : GhR K p L' H' g :=
  ⟨fun z hz => ⟨(h.1 z hz).1, k z hz (h.1 z hz).2.1, (h.1 z hz).2.2⟩, fun z hz => (h.2 z hz).sameR s⟩
structure EnvOk (K : PySem.W.Frag) (He : Hp) (Lc : Addr → Prop) (os : Nat → Option Addr) (p : Option Addr) (gs : Gh) (H : Hp) (σ : L2.St) (ρ : EnvD) : Prop where
  len : σ.length = ρ.length
  val : ∀ (i : Nat) (e : EV), ρ[i]? = some e → match e with
    | .no => True
    | .own _ => ∃ a, os i = some a
    | e => ∃ v, σ[i]? = some (some v) ∧ Rv K p (ctL (Ls Lc os) H) v e
  own : ∀ i a, os i = some a → ∃ d, ρ[i]? = some (.own d) ∧ σ[i]? = some (some (.ref a)) ∧ OwnAt K (ctL (Ls Lc os) H) H a d
  inj : ∀ i j a, os i = some a → os j = some a → i = j
  fre : ∀ i a, os i = some a → ¬ Lc a ∧ He a = none
  gho : GhD K p (Ls Lc os) H gs
  lok : LOk Lc p H
  stp : Stp Lc p He H
section
variable {K : PySem.W.Frag} {He : Hp} {Lc : Addr → Prop} {os : Nat → Option Addr} {p : Option Addr} {gs : Gh} {H H' : Hp} {σ : L2.St} {ρ : EnvD}
theorem EnvOk.lokL (E : EnvOk K He Lc os p gs H σ ρ) : LOk (Ls Lc os) p H := by
  refine ⟨fun b l => ?_, fun q e => ⟨.inl (E.lok.str q e).1, (E.lok.str q e).2⟩⟩
  rcases l with l | ⟨i, e⟩
  · exact E.lok.live b l
  · obtain ⟨d, _, _, h⟩ := E.own i b e
    rcases h with ⟨_, _, _, h, _⟩ | ⟨_, _, _, h, _⟩
    · exact ⟨_, h, .lst⟩
    · exact ⟨_, h, .dK⟩
/-- behind an expression -/
theorem EnvOk.step (E : EnvOk K He Lc os p gs H σ ρ) (s : Stp (Ls Lc os) p H H') (o : LOk (Ls Lc os) p H') : EnvOk K He Lc os p gs H' σ ρ := by
  have sr := s.ct E.lokL
  refine ⟨E.len, fun i e h => ?_, fun i a h => ?_, E.inj, E.fre, E.gho.sameR sr, o.sub (fun b l => .inl l) fun q e => (E.lok.str q e).1, E.stp.trans (s.sub fun b l => .inl l)⟩
  · have q := E.val i e h
    cases e with
    | no => trivial
    | own d => exact q
    | py d =>
      obtain ⟨v, h1, h2⟩ := q
      exact ⟨v, h1, h2.sameR sr⟩
    | st =>
      obtain ⟨v, h1, h2⟩ := q
      exact ⟨v, h1, h2.sameR sr⟩
    | ob C fs =>
      obtain ⟨v, h1, h2⟩ := q
      exact ⟨v, h1, h2.sameR sr⟩
  · obtain ⟨d, h1, h2, h3⟩ := E.own i a h
    refine ⟨d, h1, h2, h3.sameR sr (s.loose a (.inr ⟨i, h⟩) fun e => ?_)⟩
    exact (E.fre i a h).1 (E.lok.str a e).1
/-- more ghosts, fewer ghosts -/
theorem EnvOk.ghost (E : EnvOk K He Lc os p gs H σ ρ) {gs' : Gh} (h : GhD K p (Ls Lc os) H gs') : EnvOk K He Lc os p gs' H σ ρ :=
  ⟨E.len, E.val, E.own, E.inj, E.fre, h, E.lok, E.stp⟩
end
/-- an expression's way: f tells what may come out, and that the heap is a step on -/
def tW (K : PySem.W.Frag) (m : Mode) (f : WF) : TE := fun σ H Q => ∃ He Lc os p gs ρ P, EnvOk K He Lc os p gs H σ ρ ∧ f ρ P ∧
  ∀ e H' v, P e → Stp (Ls Lc os) p H H' → LOk (Ls Lc os) p H' → Res K m (Ls Lc os) p H H' v e → Q v H'
def tWT (K : PySem.W.Frag) (f : WT) : TT := fun σ H Q => ∃ He Lc os p gs ρ P, EnvOk K He Lc os p gs H σ ρ ∧ f ρ P ∧
  ∀ b H', P b → Stp (Ls Lc os) p H H' → LOk (Ls Lc os) p H' → Q b H'
/-- arguments: data -/
def tWA (K : PySem.W.Frag) (m : Mode) (f : WA) : TA := fun σ H Q => ∃ He Lc os p gs ρ P, EnvOk K He Lc os p gs H σ ρ ∧ f ρ P ∧
  ∀ es H' vs, P es → Stp (Ls Lc os) p H H' → LOk (Ls Lc os) p H' → Paired (fun v e => Res K m (Ls Lc os) p H H' v e) vs es → Q vs H'
theorem pe_mono {X : Cx} {e : Expr} {t t' : TE} (h : PE X e t) (k : ∀ σ H Q, t' σ H Q → t σ H Q) : PE X e t' := ⟨fun pins s σ H Q I q => h.run pins s σ H Q I (k σ H Q q)⟩
theorem pt_mono {X : Cx} {e : Expr} {t t' : TT} (h : PT X e t) (k : ∀ σ H Q, t' σ H Q → t σ H Q) : PT X e t' := ⟨fun pins s σ H Q I q => h.run pins s σ H Q I (k σ H Q q)⟩
theorem pa_mono {X : Cx} {es : List Expr} {t t' : TA} (h : PA X es t) (k : ∀ σ H Q, t' σ H Q → t σ H Q) : PA X es t' := ⟨fun pos pins s σ H Q I q => h.run pos pins s σ H Q I (k σ H Q q)⟩
/-! ### values in ways -/
def wC (d : PyData) : WF := fun _ P => P (.py d)
def wVar (m : Mode) (i : Nat) : WF := fun ρ P => match ρ[i]? with
  | some (.py d) => P (.py d)
  | some .st => P .st
  | some (.ob C fs) => P (.ob C fs)
  | some (.own d) => m = .read ∧ P (.py d)
  | _ => False
/-- one behind another -/
def w1 (fa : WF) (g : EV → (EV → Prop) → Prop) : WF := fun ρ P => fa ρ fun x => g x P
def w2 (fa fb : WF) (g : EV → EV → (EV → Prop) → Prop) : WF := fun ρ P => fa ρ fun x => fb ρ fun y => g x y P
def wT1 (fa : WF) (g : EV → (Bool → Prop) → Prop) : WT := fun ρ P => fa ρ fun x => g x P
section
variable {X : Cx} {m : Mode}
/-- the kernel of all ways of one part -/
theorem k1 {e : Expr} {fa : WF} {ma : Mode} {g : EV → (EV → Prop) → Prop} (r : V → Hp → VK → Prop) (hma : ma ≠ .fresh) (h : PE X e (fun σ H Q => tW X.K ma fa σ H fun x H1 => r x H1 Q))
    (snd : ∀ L p H0 H v a P Q, LOk L p H → Res X.K ma L p H0 H v a → g a P → (∀ b H' v', P b → Stp L p H H' → LOk L p H' → Res X.K m L p H H' v' b → Q v' H') → r v H Q) : PE X e (tW X.K m (w1 fa g)) := by
  refine pe_mono h fun σ H Q q => ?_
  obtain ⟨He, Lc, os, p, gs, ρ, P, E, hf, k⟩ := q
  exact ⟨He, Lc, os, p, gs, ρ, _, E, hf, fun a H1 v ha s o ra => snd _ p H H1 v a P Q o ra ha fun b H' v' hb s' o' rb => k b H' v' hb (s.trans s') o' (rb.base s)⟩
theorem k2 {e : Expr} {fa fb : WF} {ma mb : Mode} {g : EV → EV → (EV → Prop) → Prop} (r : V → V → Hp → VK → Prop) (hma : ma ≠ .fresh) (hmb : mb ≠ .fresh) (h : PE X e (fun σ H Q => tW X.K ma fa σ H fun x H1 => tW X.K mb fb σ H1 fun y H2 => r x y H2 Q))
    (snd : ∀ L p H0 H v a u b P Q, LOk L p H → Res X.K ma L p H0 H v a → Res X.K mb L p H0 H u b → g a b P → (∀ c H' v', P c → Stp L p H H' → LOk L p H' → Res X.K m L p H H' v' c → Q v' H') → r v u H Q) : PE X e (tW X.K m (w2 fa fb g)) := by
  refine pe_mono h fun σ H Q q => ?_
  obtain ⟨He, Lc, os, p, gs, ρ, P, E, hf, k⟩ := q
  refine ⟨He, Lc, os, p, gs, ρ, _, E, hf, fun a H1 v ha s o ra => ?_⟩
  refine ⟨He, Lc, os, p, gs, ρ, _, E.step s o, ha, fun b H2 u hb s2 o2 rb => ?_⟩
  exact snd _ p H H2 v a u b P Q o2 (ra.step hma o s2) (rb.base s) hb fun c H' v' hc s' o' rc => k c H' v' hc ((s.trans s2).trans s') o' (rc.base (s.trans s2))
theorem kt1 {e : Expr} {fa : WF} {ma : Mode} {g : EV → (Bool → Prop) → Prop} (r : V → Hp → (Bool → Hp → Prop) → Prop) (hma : ma ≠ .fresh) (h : PT X e (fun σ H Q => tW X.K ma fa σ H fun x H1 => r x H1 Q))
    (snd : ∀ L p H0 H v a P Q, LOk L p H → Res X.K ma L p H0 H v a → g a P → (∀ b, P b → Q b H) → r v H Q) : PT X e (tWT X.K (wT1 fa g)) := by
  refine pt_mono h fun σ H Q q => ?_
  obtain ⟨He, Lc, os, p, gs, ρ, P, E, hf, k⟩ := q
  exact ⟨He, Lc, os, p, gs, ρ, _, E, hf, fun a H1 v ha s o ra => snd _ p H H1 v a P _ o ra ha fun b hb => k b H1 hb s o⟩
/-! ### names, constants -/
theorem dC {v : V} {d : PyData} {e : Expr} (hm : m ≠ .fresh) (h : PE X e (tC v)) (hd : ∀ G, Dt X.K G v d) : PE X e (tW X.K m (wC d)) := by
  refine pe_mono h fun σ H Q q => ?_
  obtain ⟨He, Lc, os, p, gs, ρ, P, E, hf, k⟩ := q
  exact k _ H v hf Stp.refl E.lokL (Res.of_data hm (hd _))
theorem dint {i j pos} (hm : m ≠ .fresh := by decide) : PE X (.Constant (.int i) j pos) (tW X.K m (wC (.int i))) := dC hm pe_int fun _ => .int i
theorem dbl {b j pos} (hm : m ≠ .fresh := by decide) : PE X (.Constant (.bool b) j pos) (tW X.K m (wC (.bool b))) := dC hm pe_bl fun _ => .bl b
theorem dnon {j pos} (hm : m ≠ .fresh := by decide) : PE X (.Constant .none j pos) (tW X.K m (wC .none)) := dC hm pe_non fun _ => .non
theorem dstr {x j pos} (hm : m ≠ .fresh := by decide) : PE X (.Constant (.str x) j pos) (tW X.K m (wC (.str x))) := dC hm pe_str fun _ => .str x
/-- a module's int -/
theorem dgi {x : Str} {i : Int} {t : Tok} {pos : Pos} (hg : Gl X x) (h : X.mg x = some (.int i t)) (hm : m ≠ .fresh := by decide) (hd : (x == ("__debug__" : Str)) = false := by decide) : PE X (.Name x pos) (tW X.K m (wC (.int i))) := dC hm (pe_glob (v := .int i) hg h ⟨t, rfl⟩ hd) fun _ => .int i
theorem dv_of {e : Expr} {i : Nat} (hm : m ≠ .fresh) (h : PE X e (tVar i)) : PE X e (tW X.K m (wVar m i)) := by
  refine pe_mono h fun σ H Q q => ?_
  obtain ⟨He, Lc, os, p, gs, ρ, P, E, hf, k⟩ := q
  unfold wVar at hf
  cases hi : ρ[i]? with
  | none =>
    rw [hi] at hf
    exact hf.elim
  | some e =>
    rw [hi] at hf
    have z := E.val i e hi
    cases e with
    | no => exact hf.elim
    | own d =>
      obtain ⟨rfl, hf⟩ := hf
      obtain ⟨a, ha⟩ := z
      obtain ⟨d', h1, h2, h3⟩ := E.own i a ha
      rw [hi] at h1
      cases h1
      exact ⟨.ref a, h2, k _ H _ hf Stp.refl E.lokL (.inr ⟨a, d, rfl, rfl, ⟨.inr ⟨i, ha⟩, fun e => (E.fre i a ha).1 (E.lok.str a e).1⟩, h3⟩)⟩
    | py d =>
      obtain ⟨v, h1, h2⟩ := z
      exact ⟨v, h1, k _ H v hf Stp.refl E.lokL (Res.of_data hm h2)⟩
    | st =>
      obtain ⟨v, h1, h2⟩ := z
      exact ⟨v, h1, k _ H v hf Stp.refl E.lokL (Res.of_data hm h2)⟩
    | ob C fs =>
      obtain ⟨v, h1, h2⟩ := z
      exact ⟨v, h1, k _ H v hf Stp.refl E.lokL (Res.of_data hm h2)⟩
theorem dv (i : Nat) {x : Str} {pos : Pos} (hm : m ≠ .fresh := by decide) (hN : X.N[i]? = some x := by rfl) (hv : Vis X.env.scope x := by first | exact Or.inl rfl | exact Or.inr (Or.inl rfl) | exact Or.inr (Or.inr rfl)) (hd : (x == ("__debug__" : Str)) = false := by decide)
    (hcd : (x == ("__classdict__" : Str)) = false := by decide) : PE X (.Name x pos) (tW X.K m (wVar m i)) := dv_of hm (pe_var hN hv hd hcd)
/-! ### arguments -/
def wNil : WA := fun _ P => P []
def wCons (fa : WF) (fr : WA) : WA := fun ρ P => fa ρ fun x => fr ρ fun xs => P (x :: xs)
theorem paired_step {K : PySem.W.Frag} {L : Addr → Prop} {p : Option Addr} {H0 H1 H2 : Hp} {vs : List V} {es : List EV} (h : Paired (fun v e => Res K m L p H0 H1 v e) vs es) (hm : m ≠ .fresh) (o : LOk L p H1) (s : Stp L p H1 H2) : Paired (fun v e => Res K m L p H0 H2 v e) vs es :=
  Paired.mapP h fun v e r => r.step hm o s
theorem danil : PA X [] (tWA X.K m wNil) := by
  refine pa_mono pa_nil fun σ H Q q => ?_
  obtain ⟨He, Lc, os, p, gs, ρ, P, E, hf, k⟩ := q
  exact k [] H [] hf Stp.refl E.lokL .nil
theorem dacons {e : Expr} {es : List Expr} {fa : WF} {fr : WA} (ha : PE X e (tW X.K m fa)) (hr : PA X es (tWA X.K m fr)) (hm : m ≠ .fresh := by decide) (hse : starEach (e :: es) X.env = (false, eval e X.env) :: starEach es X.env := by rfl) : PA X (e :: es) (tWA X.K m (wCons fa fr)) := by
  refine pa_mono (pa_cons ha hr hse) fun σ H Q q => ?_
  obtain ⟨He, Lc, os, p, gs, ρ, P, E, hf, k⟩ := q
  refine ⟨He, Lc, os, p, gs, ρ, _, E, hf, fun a H1 v ha s o ra => ?_⟩
  refine ⟨He, Lc, os, p, gs, ρ, _, E.step s o, ha, fun es H2 vs hb s2 o2 rb => ?_⟩
  exact k _ H2 _ hb (s.trans s2) o2 (.cons (ra.step hm o s2) (Paired.mapP rb fun v e r => r.base s))
/-- the kernel of ways of arguments -/
theorem ka {e : Expr} {fa : WA} {ma : Mode} {g : List EV → (EV → Prop) → Prop} (r : List V → Hp → VK → Prop) (h : PE X e (fun σ H Q => tWA X.K ma fa σ H fun x H1 => r x H1 Q))
    (snd : ∀ L p H0 H vs es P Q, LOk L p H → Paired (fun v e => Res X.K ma L p H0 H v e) vs es → g es P → (∀ b H' v', P b → Stp L p H H' → LOk L p H' → Res X.K m L p H H' v' b → Q v' H') → r vs H Q) : PE X e (tW X.K m (fun ρ P => fa ρ fun xs => g xs P)) := by
  refine pe_mono h fun σ H Q q => ?_
  obtain ⟨He, Lc, os, p, gs, ρ, P, E, hf, k⟩ := q
  exact ⟨He, Lc, os, p, gs, ρ, _, E, hf, fun a H1 v ha s o ra => snd _ p H H1 v a P Q o ra ha fun b H' v' hb s' o' rb => k b H' v' hb (s.trans s') o' (rb.base s)⟩
/-! ### tests -/
def wTB : EV → (Bool → Prop) → Prop
  | .py (.bool b), P => P b
  | _, _ => False
/-- an expression that gives a truth -/
theorem dtest {e : Expr} {fa : WF} (h : PE X e (tW X.K .read fa)) (he : ∀ whole, isTrue e X.env whole = (do let v ← whole; standAt e.pos; holding [v] (truthy v)) := by intro _; rfl) : PT X e (tWT X.K (wT1 fa wTB)) :=
  kt1 (ma := .read) (g := wTB) (fun x H Q => ∃ c, x = .bl c ∧ Q c H) (by decide) (pt_val h he) fun L p H0 H v a P Q o ra hg k => by
    unfold wTB at hg
    split at hg
    · exact ⟨_, ra.bool, k _ hg⟩
    · exact hg.elim
def wTAnd (t u : WT) : WT := fun ρ P => t ρ fun c => if c = true then u ρ P else P false
def wTOr (t u : WT) : WT := fun ρ P => t ρ fun c => if c = true then P true else u ρ P
def wTNot (t : WT) : WT := fun ρ P => t ρ fun c => P (!c)
structure PWD (X : Cx) (e : Expr) (f : WT) : Prop where
  pw : PW X e (tWT X.K f)
theorem pw_mono {e : Expr} {t t' : TT} (h : PW X e t) (k : ∀ σ H Q, t' σ H Q → t σ H Q) : PW X e t' := ⟨fun wh pins s σ H Q I q => h.run wh pins s σ H Q I (k σ H Q q)⟩
theorem dw_and1 {a : Expr} {pos : Pos} {f : WT} (h : PT X a (tWT X.K f)) : PW X (.BoolOp .And [a] pos) (tWT X.K f) := pw_and1 h
theorem dw_or1 {a : Expr} {pos : Pos} {f : WT} (h : PT X a (tWT X.K f)) : PW X (.BoolOp .Or [a] pos) (tWT X.K f) := pw_or1 h
theorem dw_and {a b : Expr} {rest : List Expr} {pos : Pos} {f g : WT} (h : PT X a (tWT X.K f)) (k : PW X (.BoolOp .And (b :: rest) pos) (tWT X.K g)) : PW X (.BoolOp .And (a :: b :: rest) pos) (tWT X.K (wTAnd f g)) := by
  refine pw_mono (pw_and h k) fun σ H Q q => ?_
  obtain ⟨He, Lc, os, p, gs, ρ, P, E, hf, k⟩ := q
  refine ⟨He, Lc, os, p, gs, ρ, _, E, hf, fun b H1 hb s o => ?_⟩
  cases b with
  | true => exact ⟨He, Lc, os, p, gs, ρ, _, E.step s o, hb, fun c H2 hc s2 o2 => k c H2 hc (s.trans s2) o2⟩
  | false => exact k false H1 hb s o
theorem dw_or {a b : Expr} {rest : List Expr} {pos : Pos} {f g : WT} (h : PT X a (tWT X.K f)) (k : PW X (.BoolOp .Or (b :: rest) pos) (tWT X.K g)) : PW X (.BoolOp .Or (a :: b :: rest) pos) (tWT X.K (wTOr f g)) := by
  refine pw_mono (pw_or h k) fun σ H Q q => ?_
  obtain ⟨He, Lc, os, p, gs, ρ, P, E, hf, k⟩ := q
  refine ⟨He, Lc, os, p, gs, ρ, _, E, hf, fun b H1 hb s o => ?_⟩
  cases b with
  | false => exact ⟨He, Lc, os, p, gs, ρ, _, E.step s o, hb, fun c H2 hc s2 o2 => k c H2 hc (s.trans s2) o2⟩
  | true => exact k true H1 hb s o
theorem dt_not {a : Expr} {pos : Pos} {f : WT} (h : PT X a (tWT X.K f)) : PT X (.UnaryOp .Not a pos) (tWT X.K (wTNot f)) := by
  refine pt_mono (pt_not h) fun σ H Q q => ?_
  obtain ⟨He, Lc, os, p, gs, ρ, P, E, hf, k⟩ := q
  exact ⟨He, Lc, os, p, gs, ρ, _, E, hf, fun b H1 hb s o => k _ H1 hb s o⟩
def wAndV (fa fb : WF) : WF := fun ρ P => fa ρ fun x => match x with
  | .py (.bool c) => if c = true then fb ρ P else P (.py (.bool false))
  | _ => False
def wOrV (fa fb : WF) : WF := fun ρ P => fa ρ fun x => match x with
  | .py (.bool c) => if c = true then P (.py (.bool true)) else fb ρ P
  | _ => False
def wIf (t : WT) (fa fb : WF) : WF := fun ρ P => t ρ fun c => if c = true then fa ρ P else fb ρ P
def wNotV : EV → (EV → Prop) → Prop
  | .py (.bool c), P => P (.py (.bool (!c)))
  | _, _ => False
theorem dand {a b : Expr} {rest : List Expr} {pos : Pos} {f g : WF} (h : PE X a (tW X.K .read f)) (k : PE X (.BoolOp .And (b :: rest) pos) (tW X.K m g)) (hm : m ≠ .fresh := by decide) : PE X (.BoolOp .And (a :: b :: rest) pos) (tW X.K m (wAndV f g)) := by
  refine pe_mono (pe_and h k) fun σ H Q q => ?_
  obtain ⟨He, Lc, os, p, gs, ρ, P, E, hf, k⟩ := q
  refine ⟨He, Lc, os, p, gs, ρ, _, E, hf, fun b H1 v hb s o r => ?_⟩
  split at hb
  · refine ⟨_, r.bool, ?_⟩
    split at hb
    · rename_i hc
      rw [if_pos hc]
      exact ⟨He, Lc, os, p, gs, ρ, _, E.step s o, hb, fun c H2 v2 hc s2 o2 r2 => k c H2 v2 hc (s.trans s2) o2 (r2.base s)⟩
    · rename_i hc
      rw [if_neg hc]
      exact k _ H1 _ hb s o (Res.of_data hm (.bl false))
  · exact hb.elim
theorem dor {a b : Expr} {rest : List Expr} {pos : Pos} {f g : WF} (h : PE X a (tW X.K .read f)) (k : PE X (.BoolOp .Or (b :: rest) pos) (tW X.K m g)) (hm : m ≠ .fresh := by decide) : PE X (.BoolOp .Or (a :: b :: rest) pos) (tW X.K m (wOrV f g)) := by
  refine pe_mono (pe_or h k) fun σ H Q q => ?_
  obtain ⟨He, Lc, os, p, gs, ρ, P, E, hf, k⟩ := q
  refine ⟨He, Lc, os, p, gs, ρ, _, E, hf, fun b H1 v hb s o r => ?_⟩
  split at hb
  · refine ⟨_, r.bool, ?_⟩
    split at hb
    · rename_i hc
      rw [if_pos hc]
      exact k _ H1 _ hb s o (Res.of_data hm (.bl true))
    · rename_i hc
      rw [if_neg hc]
      exact ⟨He, Lc, os, p, gs, ρ, _, E.step s o, hb, fun c H2 v2 hc s2 o2 r2 => k c H2 v2 hc (s.trans s2) o2 (r2.base s)⟩
  · exact hb.elim
theorem dnot {a : Expr} {pos : Pos} {f : WF} (h : PE X a (tW X.K .read f)) (hm : m ≠ .fresh := by decide) : PE X (.UnaryOp .Not a pos) (tW X.K m (w1 f wNotV)) :=
  k1 (ma := .read) (g := wNotV) (fun x H Q => ∃ c, x = .bl c ∧ Q (.bl (!c)) H) (by decide) (pe_not h) fun L p H0 H v a P Q o ra hg k => by
    unfold wNotV at hg
    split at hg
    · exact ⟨_, ra.bool, k _ H _ hg Stp.refl o (Res.of_data hm (.bl _))⟩
    · exact hg.elim
theorem dif {c a b : Expr} {pos : Pos} {t : WT} {f g : WF} (hc : PT X c (tWT X.K t)) (ha : PE X a (tW X.K m f)) (hb : PE X b (tW X.K m g)) : PE X (.IfExp c a b pos) (tW X.K m (wIf t f g)) := by
  refine pe_mono (pe_ifExp hc ha hb) fun σ H Q q => ?_
  obtain ⟨He, Lc, os, p, gs, ρ, P, E, hf, k⟩ := q
  refine ⟨He, Lc, os, p, gs, ρ, _, E, hf, fun b H1 hb s o => ?_⟩
  cases b with
  | true => exact ⟨He, Lc, os, p, gs, ρ, _, E.step s o, hb, fun c H2 v2 hc s2 o2 r2 => k c H2 v2 hc (s.trans s2) o2 (r2.base s)⟩
  | false => exact ⟨He, Lc, os, p, gs, ρ, _, E.step s o, hb, fun c H2 v2 hc s2 o2 r2 => k c H2 v2 hc (s.trans s2) o2 (r2.base s)⟩
end
end Dw

/-! t[::-1] of a tuple. -/
namespace Tp
open PySem PySem.Spec PyProof.Rows L2
theorem pick_all (l : List Value) : (List.range l.length).filterMap (fun k => l[k]?) = l := by
  have z := congrArg Array.toList (HT.pick_gen l.toArray 0 l.length)
  simp only [List.toList_toArray, List.drop_zero, List.take_length] at z
  have e : (fun (m : Nat) => l.toArray[(((0 : Nat) : Int) + (m : Int) * 1).toNat]?) = fun k => l[k]? := by
    funext m
    rw [show (((0 : Nat) : Int) + (m : Int) * 1).toNat = m by omega]
    simp
  rw [e] at z
  exact z
theorem fm_congr {α β : Type} {f g : α → Option β} : ∀ (l : List α), (∀ x ∈ l, f x = g x) → l.filterMap f = l.filterMap g
  | [], _ => rfl
  | x :: r, h => by rw [List.filterMap_cons, List.filterMap_cons, h x List.mem_cons_self, fm_congr r fun y hy => h y (List.mem_cons_of_mem _ hy)]
theorem pick_rev (xs : Array Value) : ((List.range xs.size).filterMap fun (k : Nat) => xs[(((xs.size : Nat) : Int) - 1 + (k : Int) * (-1)).toNat]?) = xs.toList.reverse := by
  have z := pick_all xs.toList.reverse
  rw [List.length_reverse, Array.length_toList] at z
  refine Eq.trans (fm_congr _ fun k hk => ?_) z
  have hk : k < xs.size := List.mem_range.mp hk
  rw [show (((xs.size : Nat) : Int) - 1 + (k : Int) * (-1)).toNat = xs.size - 1 - k by omega, List.getElem?_reverse (by rw [Array.length_toList]; exact hk), Array.length_toList]
  simp
theorem applied_rev {prog : Program} {w : World} {A : Around} {E : Value → Shared → Prop} {s : Shared} {sl : Addr} {vl vu vs : Value} {n : Nat} {Q : Int × Int × Nat → Shared → Prop} (hs : s.heap.IsSliceOf sl vl vu vs) (pl : IsPart vl none) (pu : IsPart vu none) (ps : IsPart vs (some (-1)))
    (h : Q ((n : Int) - 1, -1, n) s) : wpAny (model prog w) A (Builtin.Slice.sliceApplied (.ref sl) (pure (n : Int))) Q E s := by
  obtain ⟨os, hos, hcs, hds⟩ := id hs
  unfold Builtin.Slice.sliceApplied Builtin.Slice.sliceFields
  refine wpAny_bind (wpAny_bind (wpAny_field hos hds (x := vl) rfl (wpAny_bind (wpAny_field hos hds (x := vu) rfl (wpAny_bind (wpAny_field hos hds (x := vs) rfl (wpAny_pure ?_)))))))
  refine wpAny_bind (HT.slicePart_ ps ?_)
  show wpAny _ _ (if ((-1 : Int) == 0) = true then _ else _) _ _ s
  rw [if_neg (by decide)]
  refine wpAny_bind (HT.slicePart_ pl (wpAny_bind (HT.slicePart_ pu (wpAny_bind (wpAny_pure ?_)))))
  show wpAny _ _ (pure ((n : Int) - 1, (-1 : Int), Builtin.Slice.slicePlaces ((n : Int) - 1) (-1) (-1))) _ _ s
  have e : Builtin.Slice.slicePlaces ((n : Int) - 1) (-1) (-1) = n := by
    unfold Builtin.Slice.slicePlaces
    rw [if_neg (by decide), show -(-1 : Int) = 1 from rfl, Int.ediv_one]
    split <;> omega
  rw [e]
  exact wpAny_pure h
def tRevT (K : PySem.W.Frag) (te : TE) : TE := fun σ H Q => te σ H fun x H1 => ∃ a xs, x = .ref a ∧ SqT K H1 a xs ∧ ∀ p, H1 p = none → Q (.ref p) (upd H1 p (.tup xs.reverse))
section
variable {X : Cx}
theorem pe_revT {e : Expr} {te : TE} {k : Nat} {p1 p2 p3 pos : Pos} (he : PE X e te) : PE X (.Subscript e (.Slice none none (some (.UnaryOp .USub (.Constant (.int 1) k p1) p2)) p3) pos) (tRevT X.K te) := by
  refine ⟨fun pins s σ H Q I h => Subscript_ (thn (he.run pins s σ H _ I h) fun v s1 ⟨x, H1, I1, r1, q1⟩ => ?_)⟩
  obtain ⟨a, xs, ex, hx, q⟩ := q1
  subst ex
  obtain rfl : v = Value.ref a := r1
  have hst : PO X (some (.UnaryOp .USub (.Constant (.int 1) k p1) p2)) (tPart (tUn (rU fun i => .int (-i)) (tC (.int 1)))) := po_some (pe_un un_neg pe_int)
  refine wpAny_Slice (thn (po_none.run pins s1 σ H1 (fun o H2 => o = none ∧ H2 = H1) I1 ⟨rfl, rfl⟩) fun vl s2 ⟨l, H2, I2, pl, el, e2⟩ => ?_)
  subst el e2
  refine thn (po_none.run pins s2 σ H2 (fun o H3 => o = none ∧ H3 = H2) I2 ⟨rfl, rfl⟩) fun vu s3 ⟨u, H3, I3, pu, eu, e3⟩ => ?_
  subst eu e3
  refine thn (hst.run pins s3 σ H3 (fun o H4 => o = some (-1) ∧ H4 = H3) I3 ⟨1, rfl, -1, rfl, rfl, rfl⟩) fun vs s4 ⟨o, H4, I4, ps, eo, e4⟩ => ?_
  subst eo e4
  generalize hs5 : ({ s4 with heap := s4.heap.push { cls := .type "slice", data := .fields #[vl, vu, vs] } } : Shared) = s5
  have I5 : Inv X pins σ H4 s5 := by
    rw [← hs5]
    exact I4.kept (t' := s4.toks) fun b ob q => Heap.get?_push_of_some _ q
  have hsl : s5.heap.IsSliceOf s4.heap.objs.size vl vu vs := by
    rw [← hs5]
    exact Heap.IsSliceOf.new _ vl vu vs
  obtain ⟨its, r, ht, hz⟩ := I5.tuple hx
  obtain ⟨os, hos, hcs, hds⟩ := id hsl
  have hTs : s5.TypeIs (.ref s4.heap.objs.size) "slice" := ⟨os, hos, hcs⟩
  have hlen := r.length
  show wpAny (model X.prog X.w) X.A (subscriptTail e (.Slice none none (some (.UnaryOp .USub (.Constant (.int 1) k p1) p2)) p3) (.ref a) (.ref s4.heap.objs.size)) (EP X pins σ Q) X.xe _
  refine tail_any (ops := [.ref a, .ref s4.heap.objs.size]) ht.typeIs PyProof.Rows.slot_tuple_getitem.lookup ?_ (by with_unfolding_all rfl)
  unfold getItem
  try with_reducible refine wpAny_holding ?_
  first | refine wpAny_bind (wpAny_pure ?_) | skip
  refine wpAny_bind (wpAny_sequenceKey ht.typeIs (by decide) ?_)
  refine wpAny_bind (wpAny_callSpecial?_slot (name := Str.ofString "__getitem__") ht.typeIs PyProof.Rows.slot_tuple_getitem
    (wpAny_call_entry PyProof.Rows.slot_tuple_getitem ht.typeIs entry_tuple_getitem ?_ (args_tuple_getitem _ _)))
  show wpAny _ _ (Builtin.Tuple.tupleItemsOf (.ref a) >>= _) _ _ s5
  refine wpAny_bind (PyProof.Rows.tupleItemsOf_ ht ?_)
  refine wpAny_bind (wpAny_typeOf hTs ?_)
  rw [if_pos (by decide)]
  refine wpAny_bind (applied_rev hsl pl pu ps ?_)
  show wpAny _ _ (if ((((its.toArray.size : Nat) : Int) - 1) == 0 && (-1 : Int) == 1 && its.toArray.size == its.toArray.size) = true then _ else _) _ _ s5
  rw [if_neg (by rw [show ((-1 : Int) == 1) = false from rfl, Bool.and_false, Bool.false_and]; exact Bool.false_ne_true), pick_rev, List.toList_toArray]
  have hsz : sizeOk (.seq its.reverse.toArray) := by
    show its.reverse.toArray.size ≤ sizeLine
    rw [List.size_toArray, List.length_reverse, ← hlen]
    exact hz
  have new : ObjOk X.prog X.w (upd H4 s5.heap.objs.size (.tup xs.reverse)) (s5.heap.push { cls := .type "tuple", data := .seq its.reverse.toArray }) s5.heap.objs.size (.tup xs.reverse) :=
    ⟨by rw [List.length_reverse]; exact hz, its.reverse, r.reverse, ⟨_, Heap.get?_push_size _ rfl, rfl, _, rfl⟩⟩
  have I6 := I5.laid (t' := s5.toks) (fun b ob q => Heap.get?_push_of_some _ q) (Nat.le_refl _) new
  have fin := (⟨.ref s5.heap.objs.size, _, I6, rfl, q _ (I5.hok.fresh (Nat.le_refl _))⟩ : EP X pins σ Q (.ref s5.heap.objs.size) { s5 with heap := s5.heap.push { cls := .type "tuple", data := .seq its.reverse.toArray }, toks := s5.toks })
  first
    | exact wpAny_bind (m := Builtin.Tuple.tupleExact _) (wpAny_newObj_type (wpAny_pure ⟨_, rfl, wpAny_pure fin⟩) hsz)
    | exact wpAny_bind (wpAny_bind (wpAny_newObj_type (wpAny_pure (wpAny_pure ⟨_, rfl, wpAny_pure fin⟩)) hsz))
end
end Tp

/-! t + u and t[lo:hi] of tuples, wherever they stand. -/
namespace Tp
open PySem PySem.Spec PyProof.Rows L2 Rp
/-- t + u, wherever the sum stands -/
def rCatB (K : PySem.W.Frag) : R2 := fun x y H Q => ∃ a b xs ys, x = .ref a ∧ y = .ref b ∧ SqT K H a xs ∧ SqT K H b ys ∧ xs.length + ys.length ≤ 1000 ∧ ∀ H' p, Same H H' → SqT K H' p (xs ++ ys) → Q (.ref p) H'
theorem op_catB {X : Cx} : OpR X (binaryOp .Add) (rCatB X.K) := by
  intro pins s σ H x y v u Q I rx ry h
  obtain ⟨a, b, xs, ys, rfl, rfl, ha, hb, hz, q⟩ := h
  refine op_catA pins s σ H _ _ v u Q I rx ry ⟨a, b, xs, ys, rfl, rfl, ha, hb, by rw [sizeLine_eq]; omega, fun e => ?_, fun _ e => ?_, fun _ _ p np => q _ p (smu np) (SqT.of upd_same)⟩
  · subst e
    exact q H b (Same.refl H) hb
  · subst e
    refine q H a (Same.refl H) ?_
    rw [List.append_nil]
    exact ha
/-- t[lo:hi], wherever it stands -/
def rSlB (K : PySem.W.Frag) : V → Option Int → Option Int → Hp → VK → Prop := fun x lo hi H Q => ∃ a xs, x = .ref a ∧ SqT K H a xs ∧ ∀ H' p, Same H H' → SqT K H' p (cutV xs lo hi) → Q (.ref p) H'
theorem sl_tupB {X : Cx} : SlR X (rSlB X.K) := by
  intro pins s σ H x v vl vu lo hi sl Q I rx hs pl pu h
  obtain ⟨a, xs, rfl, hx, q⟩ := h
  refine sl_tupA pins s σ H _ v vl vu lo hi sl Q I rx hs pl pu ⟨a, xs, rfl, hx, fun e => ?_, fun _ p np => q _ p (smu np) (SqT.of upd_same)⟩
  refine q H a (Same.refl H) ?_
  have z : cutV xs lo hi = xs := by
    unfold cutV
    rw [e.1, e.2, List.drop_zero, Nat.sub_zero, List.take_length]
  rw [z]
  exact hx
/-- the same of tuples that are tracked: what comes is tracked -/
def rCatT (K : PySem.W.Frag) : R2 := fun x y H Q => ∃ a b xs ys, x = .ref a ∧ y = .ref b ∧ H a = some (.tup xs) ∧ H b = some (.tup ys) ∧ xs.length + ys.length ≤ 1000 ∧ ∀ H' p, Same H H' → H' p = some (.tup (xs ++ ys)) → Q (.ref p) H'
theorem op_catT {X : Cx} : OpR X (binaryOp .Add) (rCatT X.K) := by
  intro pins s σ H x y v u Q I rx ry h
  obtain ⟨a, b, xs, ys, rfl, rfl, ha, hb, hz, q⟩ := h
  refine op_catA pins s σ H _ _ v u Q I rx ry ⟨a, b, xs, ys, rfl, rfl, SqT.of ha, SqT.of hb, by rw [sizeLine_eq]; omega, fun e => ?_, fun _ e => ?_, fun _ _ p np => q _ p (smu np) upd_same⟩
  · subst e
    exact q H b (Same.refl H) hb
  · subst e
    refine q H a (Same.refl H) ?_
    rw [List.append_nil]
    exact ha
def rSlT (K : PySem.W.Frag) : V → Option Int → Option Int → Hp → VK → Prop := fun x lo hi H Q => ∃ a xs, x = .ref a ∧ H a = some (.tup xs) ∧ ∀ H' p, Same H H' → H' p = some (.tup (cutV xs lo hi)) → Q (.ref p) H'
theorem sl_tupT {X : Cx} : SlR X (rSlT X.K) := by
  intro pins s σ H x v vl vu lo hi sl Q I rx hs pl pu h
  obtain ⟨a, xs, rfl, hx, q⟩ := h
  refine sl_tupA pins s σ H _ v vl vu lo hi sl Q I rx hs pl pu ⟨a, xs, rfl, SqT.of hx, fun e => ?_, fun _ p np => q _ p (smu np) upd_same⟩
  refine q H a (Same.refl H) ?_
  have z : cutV xs lo hi = xs := by
    unfold cutV
    rw [e.1, e.2, List.drop_zero, Nat.sub_zero, List.take_length]
  rw [z]
  exact hx
theorem cutLo (xs : List V) (n : Nat) : cutV xs none (some (n : Int)) = xs.take n := by
  unfold cutV
  rw [show HT.sIx xs.length xs.length (some (n : Int)) = min n xs.length from HT.sIx_nat _ _ n, HT.sIx_none, Nat.sub_zero, List.drop_zero]
  by_cases h : n ≤ xs.length
  · rw [Nat.min_eq_left h]
  · rw [Nat.min_eq_right (by omega), List.take_length, List.take_of_length_le (by omega)]
theorem cutHi (xs : List V) (n : Nat) : cutV xs (some (n : Int)) none = xs.drop n := by
  unfold cutV
  have e : HT.sIx xs.length 0 (some (n : Int)) = min n xs.length := HT.sIx_nat _ _ n
  rw [e, HT.sIx_none]
  by_cases h : n ≤ xs.length
  · rw [Nat.min_eq_left h, List.take_of_length_le (by rw [List.length_drop]; exact Nat.le_refl _)]
  · rw [Nat.min_eq_right (by omega), List.drop_length, List.drop_of_length_le (by omega), Nat.sub_self]
    rfl
end Tp

/-! sorted(xs, key=f) where f's calls keep what a promise of one's own tells. -/
namespace SoK
open PySem PySem.W PySem.Calls PyProof.Rows
section
variable {prog : Program} {w : World} {A : Around} {E : Value → Shared → Prop} {s : Shared} {a : Addr} {vs : List Value} {kz : List PyData} {P : PySem.Fin → Shared → Prop}
/-- at most one key: nothing is compared -/
theorem sorts_one {ks : List Value} (e : EachIs (fun v d => ∃ as, Reads s.heap v d as) ks kz) (hal : AllAlike kz) (hnn : ∀ d ∈ kz, d ≠ .none) (h1 : kz.length ≤ 1) (hu : ∀ d, d ∈ kz → A.units + d.depth < cLine) : SortsAt prog w A s (dataKind s.heap kz) ks := by
  refine ⟨fun v hv => ?_, ⟨general', fun E x y p q Q ha hb hq => ?_, fun h2 => ?_⟩⟩
  · obtain ⟨d, hd, as, r⟩ := e.left v hv
    exact ⟨_, dataKind_some hal hd r⟩
  · obtain ⟨d, as, hd, ra, rfl⟩ := dataKind_inv ha
    obtain ⟨d', as', hd', rb, rfl⟩ := dataKind_inv hb
    show wpAny (model prog w) A (oneLt' false x y) Q E s
    exact oneLt_alike (fun z => nomatch z) ra rb (hal d hd d' hd') (hnn d hd) (Nat.lt_of_le_of_lt (Nat.add_le_add_left (Nat.min_le_left _ _) _) (hu d hd)) hq
  · have := e.length
    omega
/-- the list's own sort: a is empty while f runs, the keys stand in a list of their own -/
theorem keyM_tree {f : Value} {n : Nat} (J : Nat → Nat → Shared → Prop) (ho : s.heap.get? a = some (seqObj "list" vs.toArray n)) (hZ : vs.length < sizeLine) (hal : AllAlike kz) (hnn : ∀ d ∈ kz, d ≠ .none) (hsk : Sortable kz ∨ kz.length ≤ 1) (hu : ∀ d, d ∈ kz → A.units + d.depth < cLine)
    (start : ∀ e1, (sortingHeap s.heap a vs).get? a = some (seqObj "list" #[] e1) → (sortingHeap s.heap a vs).get? (s.heap.objs.size + 1) = some (seqObj "list" #[] 0) → J e1 0 { s with heap := sortingHeap s.heap a vs })
    (turn : ∀ e1 j v s', vs[j]? = some v → J e1 j s' → wpAny (model prog w) A (call f [v]) (fun u s2 => ∃ kA e, s2.heap.get? (s.heap.objs.size + 1) = some (seqObj "list" kA e) ∧ kA.size < sizeLine ∧
      J e1 (j + 1) { s2 with heap := s2.heap.update (s.heap.objs.size + 1) (Obj.mapSeq (·.push u)) }) (fun _ _ => False) s')
    (done : ∀ e1 s', J e1 vs.length s' → s'.heap.get? a = some (seqObj "list" #[] e1) ∧ ∃ keys e, s'.heap.get? (s.heap.objs.size + 1) = some (seqObj "list" keys e) ∧ keys.size = vs.length ∧ EachIs (fun v k => ∃ as, Reads s'.heap v k as) keys.toList kz)
    (h : ∀ e1 s' out c h' tk, J e1 vs.length s' → (∀ b o, b ≠ a → b ≠ s.heap.objs.size + 1 → s'.heap.get? b = some o → h'.get? b = some o) → h'.get? a = some (seqObj "list" (List.toArray out) c) → KeyedOut false kz vs out → P (.done (.ret .none)) { s' with heap := h', toks := tk }) :
    wpAny (model prog w) A (ksk_tree a f false) P E s := by
  have ha : a < s.heap.objs.size := Heap.lt_size ho
  obtain ⟨e1, ho1⟩ : ∃ e1, (s.heap.update a (Obj.mapSeq fun _ => (#[] : Array Value))).get? a = some (seqObj "list" #[] e1) := ⟨_, get?_update_seq ho fun _ => #[]⟩
  have size1 : ((s.heap.update a (Obj.mapSeq fun _ => (#[] : Array Value))).push (seqObj "tuple" vs.toArray 0)).objs.size = s.heap.objs.size + 1 := by rw [size_push', Heap.size_update]
  have atA : (sortingHeap s.heap a vs).get? a = some (seqObj "list" #[] e1) := Heap.get?_push_of_some _ (Heap.get?_push_of_some _ ho1)
  have atK : (sortingHeap s.heap a vs).get? (s.heap.objs.size + 1) = some (seqObj "list" #[] 0) := by
    have z := Heap.get?_push_size ((s.heap.update a (Obj.mapSeq fun _ => (#[] : Array Value))).push (seqObj "tuple" vs.toArray 0)) (o := seqObj "list" #[] 0) rfl
    rw [size1] at z
    exact z
  have j0 := start e1 atA atK
  unfold ksk_tree
  refine wpAny_bind (listItems_at ho rfl (wpAny_bind (listUpdate_at ho rfl ?_ (by rw [List.size_toArray]; exact Nat.le_of_lt hZ) (Nat.zero_le _))))
  refine wpAny_bind (seqEpoch_at ho1 rfl (wpAny_bind (wpAny_newTuple ?_ (Nat.le_of_lt hZ))))
  refine wpAny_bind (wpAny_newList (wpAny_holding ?_) (Nat.zero_le _))
  show wpAny (model prog w) A (ksk_rest a f false vs.toArray e1 (.ref ((s.heap.update a (Obj.mapSeq fun _ => (#[] : Array Value))).push (seqObj "tuple" vs.toArray 0)).objs.size)) P E { s with heap := sortingHeap s.heap a vs }
  rw [size1]
  generalize hk : s.heap.objs.size + 1 = kS at turn done h ⊢
  generalize ({ s with heap := sortingHeap s.heap a vs } : Shared) = s1 at j0 ⊢
  unfold ksk_rest
  refine wpAny_bind (wpAny_rule ?_)
  first
    | rw [List.forIn_toArray]
    | (rw [← Array.forIn_toList]; simp only [List.toList_toArray])
  refine wpAny_bind (ksk_fold (fun i s' => J e1 i s') vs 0 s1 j0 (fun j x s' hx hj => ?_) fun s' hj => ?_)
  · rw [Nat.zero_add] at hj ⊢
    refine wpAny_bind (wpAny_attempt (wpAny_mono (turn e1 j x s' hx hj) (fun u s2 he => ?_) fun _ _ hF => hF.elim))
    obtain ⟨kA, e, hk2, hz, hJ⟩ := he
    refine wpAny_bind (listUpdate_at hk2 rfl ?_ (Nat.le_of_lt hz) (by show (kA.push u).size ≤ _; rw [Array.size_push]; omega))
    exact wpAny_pure ⟨rfl, hJ⟩
  · rw [Nat.zero_add] at hj
    obtain ⟨na, keys, e, nk, hsz, hr⟩ := done e1 s' hj
    refine wpAny_bind (listItems_at nk rfl ?_)
    obtain ⟨g, g1, g2⟩ := L2.restrict s'.heap fun b => decide (b ≠ kS)
    have gk : g.get? kS = none := g2 kS (by simp)
    have kp : KeepsBut a g s'.heap := fun b o hb q => by
      by_cases z : b = kS
      · rw [z, gk] at q
        cases q
      · rw [g1 b (decide_eq_true z)] at q
        exact q
    have S : SortsAt prog w A s' (dataKind s'.heap kz) keys.toList := by
      rcases hsk with z | z
      · exact SortsAt.data hr hal z hu
      · exact sorts_one hr hal hnn z hu
    refine keyH_end (κ := dataKind s'.heap kz) (h₁ := g) kp gk nk na (by rw [← hk]; exact Nat.ne_of_gt (Nat.lt_succ_of_lt ha)) S hsz (Nat.le_of_lt hZ) fun h3 tk3 c k3 n3 => ?_
    refine h e1 s' _ c h3 tk3 hj (fun b o h1 h2 q => k3 b o h1 ?_) n3 ⟨s'.heap, keys.toList, hal, rfl, hr⟩
    rw [g1 b (decide_eq_true h2)]
    exact q
/-- sorted(xs, key=f) -/
theorem sortedM {l : Addr} {f : Addr} {Q : Value → Shared → Prop} (J : Nat → Nat → Shared → Prop) (hl : s.heap.IsList l vs.toArray) (hZ : vs.length < sizeLine) (hal : AllAlike kz) (hnn : ∀ d ∈ kz, d ≠ .none) (hsk : Sortable kz ∨ kz.length ≤ 1) (hu : ∀ d, d ∈ kz → A.units + 2 + d.depth < cLine)
    (start : ∀ e1 h, (∀ b o, s.heap.get? b = some o → h.get? b = some o) → h.get? (s.heap.objs.size + 1) = some (seqObj "list" #[] e1) → h.get? (s.heap.objs.size + 3) = some (seqObj "list" #[] 0) → J e1 0 { s with heap := h })
    (turn : ∀ e1 j v s', vs[j]? = some v → J e1 j s' → wpAny (model prog w) A.in1.in1 (call (.ref f) [v]) (fun u s2 => ∃ kA e, s2.heap.get? (s.heap.objs.size + 3) = some (seqObj "list" kA e) ∧ kA.size < sizeLine ∧
      J e1 (j + 1) { s2 with heap := s2.heap.update (s.heap.objs.size + 3) (Obj.mapSeq (·.push u)) }) (fun _ _ => False) s')
    (done : ∀ e1 s', J e1 vs.length s' → s'.heap.get? (s.heap.objs.size + 1) = some (seqObj "list" #[] e1) ∧ ∃ keys e, s'.heap.get? (s.heap.objs.size + 3) = some (seqObj "list" keys e) ∧ keys.size = vs.length ∧ EachIs (fun v k => ∃ as, Reads s'.heap v k as) keys.toList kz)
    (h : ∀ e1 s' out c h' tk, J e1 vs.length s' → (∀ b o, b ≠ s.heap.objs.size + 1 → b ≠ s.heap.objs.size + 3 → s'.heap.get? b = some o → h'.get? b = some o) → h'.get? (s.heap.objs.size + 1) = some (seqObj "list" (List.toArray out) c) → KeyedOut false kz vs out → Q (.ref (s.heap.objs.size + 1)) { s' with heap := h', toks := tk }) :
    wpAny (model prog w) A (call (.builtin "sorted") [.ref l] [(Str.ofString "key", .ref f)]) Q E s := by
  have cs : (copyHeap s.heap vs).objs.size = s.heap.objs.size + 2 := by
    unfold copyHeap
    rw [size_push', Heap.size_update, size_push']
  refine sorted_of_sort hl (Nat.le_of_lt hZ) (ksk_s1 _ _) (fun _ => ksk_l1 _ _) fun E' => ?_
  rw [ksk_t1]
  refine keyM_tree (kz := kz) (s := { s with heap := copyHeap s.heap vs }) J (copyHeap_at s.heap vs) hZ hal hnn hsk (fun d hd => by have := hu d hd; show A.units + 1 + 1 + d.depth < cLine; omega) (fun e1 h1 h2 => ?_) (fun e1 j v s' hv hj => ?_) (fun e1 s' hj => ?_) (fun e1 s' out c h' tk hj k hD ko => ⟨rfl, ?_⟩)
  · refine start e1 _ (fun b o q => ?_) h1 (by rw [show (copyHeap s.heap vs).objs.size + 1 = s.heap.objs.size + 3 by omega] at h2; exact h2)
    exact sortingHeap_old (Nat.ne_of_lt (Nat.lt_succ_of_lt (Heap.lt_size q))) (copyHeap_old q)
  · show wpAny (model prog w) A.in1.in1 _ (fun u s2 => ∃ kA e, s2.heap.get? ((copyHeap s.heap vs).objs.size + 1) = _ ∧ _ ∧ J e1 (j + 1) { s2 with heap := s2.heap.update ((copyHeap s.heap vs).objs.size + 1) _ }) _ s'
    rw [show (copyHeap s.heap vs).objs.size + 1 = s.heap.objs.size + 3 by omega]
    exact turn e1 j v s' hv hj
  · show _ ∧ ∃ keys e, s'.heap.get? ((copyHeap s.heap vs).objs.size + 1) = _ ∧ _
    rw [show (copyHeap s.heap vs).objs.size + 1 = s.heap.objs.size + 3 by omega]
    exact done e1 s' hj
  · refine h e1 s' out c h' tk hj (fun b o h1 h2 q => k b o h1 (fun z => h2 ?_) q) hD ko
    rw [z]
    show (copyHeap s.heap vs).objs.size + 1 = _
    omega
end
end SoK

/-! sorted of a set of tuples of any ints. -/
namespace Tq
open PySem PySem.Spec PySem.W PySem.Calls PyProof.Rows L2
def rowD (ns : List Int) : PyData := .tuple (ns.map PyData.int)
def leD : List Int → List Int → Bool := dataLe false rowD
/-- what a list of references stands for: the items of L in some order -/
theorem refs_perm {L : List (Addr × List Int)} (one : ∀ q ∈ L, ∀ r ∈ L, q.1 = r.1 → q = r) : ∀ {vs : List Value}, (∀ v ∈ vs, v ∈ L.map fun q => Value.ref q.1) → ∃ L1 : List (Addr × List Int), vs = L1.map (fun q => Value.ref q.1) ∧ (∀ q ∈ L1, q ∈ L)
  | [], _ => ⟨[], rfl, fun q hq => nomatch hq⟩
  | v :: vs, h => by
    obtain ⟨q, hq, rfl⟩ := List.mem_map.mp (h v List.mem_cons_self)
    obtain ⟨L1, e1, h1⟩ := refs_perm one fun u hu => h u (List.mem_cons_of_mem _ hu)
    exact ⟨q :: L1, by rw [e1] <;> rfl, fun r hr => (List.mem_cons.mp hr).elim (fun e => e ▸ hq) (h1 r)⟩
theorem perm_of_refs {L L1 : List (Addr × List Int)} (one : ∀ q ∈ L, ∀ r ∈ L, q.1 = r.1 → q = r) (nd : L.Nodup) (sub : ∀ q ∈ L1, q ∈ L) (p : (L1.map fun q => Value.ref q.1).Perm (L.map fun q => Value.ref q.1)) : L1.Perm L := by
  have key : ∀ M : List (Addr × List Int), M.Nodup → (∀ q ∈ M, q ∈ L) → (M.map fun q => Value.ref q.1).Nodup := fun M hM hs => by
    rw [List.Nodup, List.pairwise_map]
    exact hM.imp_of_mem fun {a b} ha hb ne e => ne (one a (hs a ha) b (hs b hb) (by injection e))
  have n2 := p.nodup_iff.mpr (key L nd fun _ h => h)
  have n1 : L1.Nodup := by
    rw [List.Nodup, List.pairwise_map] at n2
    exact n2.imp fun {a b} h e => h (by rw [e])
  refine (List.perm_ext_iff_of_nodup n1 nd).mpr fun q => ⟨sub q, fun hq => ?_⟩
  obtain ⟨r, hr, e⟩ := List.mem_map.mp (p.mem_iff.mpr (List.mem_map_of_mem hq))
  have e2 : r.1 = q.1 := by injection e
  exact one r (sub r hr) q hq e2 ▸ hr
theorem alike_rows (x y : List Int) : alike (rowD x) (rowD y) = true := alike_ints x y
section
variable {P : Program} {w : World} {A : Around} {E : Value → Shared → Prop} {s : Shared} {a : Addr} {L : List (Addr × List Int)} {es : Array (Int × Value)} {ep : Nat} {t : SetTable}
theorem sorted_setTA {Q : Value → Shared → Prop} (R : SetTR P w s.heap a L es ep t) (hh : A.handled = none) (hne : (∀ p ∈ L, p.2 ≠ []) ∨ L.length ≤ 1) (hu : A.units + 64 < cLine) (hr : ∀ q ∈ L, ∃ as, Reads s.heap (.ref q.1) (rowD q.2) as)
    (hQ : ∀ (s' : Shared) (p : Addr) (c : Nat) (L1 : List (Addr × List Int)), (∀ b o, s.heap.get? b = some o → s'.heap.get? b = some o) → s'.gens = s.gens → s'.os = s.os → s.heap.objs.size ≤ p →
      s'.heap.get? p = some (seqObj "list" ((L1.mergeSort (dataLe false fun q : Addr × List Int => rowD q.2)).map fun q => Value.ref q.1).toArray c) → L1.Perm L → Q (.ref p) s') :
    wpAny (model P w) A (call (.builtin "sorted") [.ref a]) Q E s := by
  obtain ⟨o, ho, hex, hd⟩ := R.ob
  have hsz := R.size; have hfew := R.few
  have hes : es.toList.map (·.2) = L.map fun q => Value.ref q.1 := by
    rw [R.rows, L2.rowsOf, List.map_map] <;> rfl
  have one : ∀ q ∈ L, ∀ r ∈ L, q.1 = r.1 → q = r := fun q hq r hr e => Prod.ext e (by
    have z := R.tup q hq
    rw [e] at z
    exact z.inj (R.tup r hr))
  have nd : L.Nodup := by
    have z := R.nd
    rw [List.Nodup, List.pairwise_map] at z
    exact z.imp fun {a b} h e => h (by rw [e])
  refine Calls.call_function_entry (id := "sorted") kind_sorted plain_sorted entry_sorted (args_sorted1 (.ref a)) ?_
  unfold Builtin.«sorted»
  refine wpAny_bind (m := checkCount "sorted" 1 1 _) (wpAny_pure (wpAny_bind ?_))
  refine collect_set (A := A.in1) hh ⟨o, ho, hex.1, hd⟩ R.fits (by rw [hsz]; unfold scanBound; omega) R.tab.ris R.led (fun s1 vs k1 hz g1 o1 pm => ?_)
  rw [hes] at pm
  obtain ⟨L1, rfl, sub⟩ := refs_perm one fun v hv => pm.mem_iff.mp hv
  have pL := perm_of_refs one nd sub pm
  have hl : (L1.map fun q => Value.ref q.1).length = L.length := by rw [List.length_map, pL.length_eq]
  refine wpAny_bind (wpAny_newList ?_ (by rw [hl, sizeLine_eq]; omega))
  have hL : (s1.heap.push (seqObj "list" (L1.map fun q => Value.ref q.1).toArray 0)).get? s1.heap.objs.size = some (seqObj "list" (L1.map fun q => Value.ref q.1).toArray 0) := Heap.get?_push_size s1.heap rfl
  generalize hvs : (L1.map fun q => Value.ref q.1) = vs at hl hL pm
  have old : ∀ b o, s.heap.get? b = some o → (sortingHeap (s1.heap.push (seqObj "list" vs.toArray 0)) s1.heap.objs.size vs).get? b = some o := fun b o e => by
    have e1 := k1 b o e
    exact sortingHeap_old (Nat.ne_of_lt (Heap.lt_size e1)) (Heap.get?_push_of_some _ e1)
  have er : EachIs (fun (v : Value) (q : Addr × List Int) => ∃ as, Reads (sortingHeap (s1.heap.push (seqObj "list" vs.toArray 0)) s1.heap.objs.size vs) v (rowD q.2) as) vs L1 := by
    generalize sortingHeap (s1.heap.push (seqObj "list" vs.toArray 0)) s1.heap.objs.size vs = hz at old ⊢
    rw [← hvs]
    clear hvs hl hL pm pL
    revert sub
    induction L1 with
    | nil => exact fun _ => .nil
    | cons q r ih =>
      intro sub
      obtain ⟨as, h⟩ := hr q (sub q List.mem_cons_self)
      exact .cons ⟨as, PyProof.Rows.Reads.keeps (fun b o e => old b o e) h⟩ (ih fun z hz => sub z (List.mem_cons_of_mem _ hz))
  have ee : EachIs (fun (v : Value) (q : Addr × List Int) => v = Value.ref q.1) vs L1 := by
    rw [← hvs]
    clear hvs hl hL pm pL sub er old
    induction L1 with
    | nil => exact .nil
    | cons q r ih => exact .cons rfl ih
  have hal : AllAlike (L1.map fun q => rowD q.2) := AllAlike.of fun b b' => alike_rows b.2 b'.2
  have hdep : ∀ d, d ∈ L1.map (fun q : Addr × List Int => rowD q.2) → A.in1.units + 1 + d.depth < cLine := fun d hd => by
    obtain ⟨q, _, rfl⟩ := List.mem_map.mp hd
    have z : (rowD q.2).depth ≤ 2 := by
      show PyData.depthAll (q.2.map PyData.int) + 1 ≤ 2
      rw [depth_ints]
      omega
    show A.units + 1 + 1 + _ < cLine
    omega
  have er2 := each_map (R := fun v d => ∃ as, Reads (sortingHeap (s1.heap.push (seqObj "list" vs.toArray 0)) s1.heap.objs.size vs) v d as) (fun q : Addr × List Int => rowD q.2) er
  have S : SortsAt P w A.in1.in1 { s1 with heap := sortingHeap (s1.heap.push (seqObj "list" vs.toArray 0)) s1.heap.objs.size vs } (dataKind (sortingHeap (s1.heap.push (seqObj "list" vs.toArray 0)) s1.heap.objs.size vs) (L1.map fun q => rowD q.2)) vs := by
    rcases hne with h | h
    · exact SortsAt.data (s := { s1 with heap := sortingHeap (s1.heap.push (seqObj "list" vs.toArray 0)) s1.heap.objs.size vs }) er2 hal (.inl fun d hd => by
        obtain ⟨q, hq, rfl⟩ := List.mem_map.mp hd
        have z := h q (sub q hq)
        unfold rowD
        cases e : q.2 with
        | nil => exact absurd e z
        | cons x r => exact ⟨_, _, rfl⟩) hdep
    · exact SoK.sorts_one (s := { s1 with heap := sortingHeap (s1.heap.push (seqObj "list" vs.toArray 0)) s1.heap.objs.size vs }) er2 hal (fun d hd z => by
        obtain ⟨q, _, rfl⟩ := List.mem_map.mp hd
        cases z) (by rw [List.length_map, pL.length_eq]; exact h) hdep
  have sv := sortVals_data (enc := fun q : Addr × List Int => rowD q.2) false ee er hal
  refine wpAny_bind (wpAny_holding ?_)
  refine wpAny_call_entry slot_list_sort ⟨_, hL, rfl⟩ entry_list_sort (list_sort_vals (s := { s1 with heap := s1.heap.push (seqObj "list" vs.toArray 0) }) hL S (by rw [hl, sizeLine_eq]; omega) ⟨_, rfl, ?_⟩) (args_list_sort (.ref s1.heap.objs.size))
  have out : sortVals (dataKind (sortingHeap (s1.heap.push (seqObj "list" vs.toArray 0)) s1.heap.objs.size vs) (L1.map fun q => rowD q.2)) false vs vs = (L1.mergeSort (dataLe false fun q : Addr × List Int => rowD q.2)).map fun q => Value.ref q.1 := by
    generalize sortVals _ false vs vs = z at sv ⊢
    generalize L1.mergeSort _ = M at sv ⊢
    clear hQ hL S er er2 ee old hal hdep pL sub hl pm hvs
    induction sv with
    | nil => rfl
    | cons h t ih => rw [h, ih] <;> rfl
  rw [out]
  obtain ⟨c, hc⟩ := sortedHeap_at (vs := vs) (out := ((L1.mergeSort (dataLe false fun q : Addr × List Int => rowD q.2)).map fun q => Value.ref q.1).toArray) hL
  refine wpAny_pure ⟨_, rfl, hQ _ s1.heap.objs.size c L1 (fun b u e => ?_) g1 o1 hz hc pL⟩
  have e1 := k1 b u e
  have lt := Heap.lt_size e1
  exact (sortedHeap_old (Nat.ne_of_lt lt) (by rw [size_push']; exact Nat.lt_succ_of_lt lt)).trans (Heap.get?_push_of_some _ e1)
end
/-- sorted(set), the set's items tuples of ints -/
def rSortedTA (K : PySem.W.Frag) (P : Program) (w : World) : List V → Hp → VK → Prop := fun vs H Q => ∃ (a : Addr) (L : List (Addr × List Int)), vs = [V.ref a] ∧ H a = some (SetTO P w a L) ∧ (∀ p ∈ L, SqT K H p.1 (p.2.map V.int)) ∧
  ((L.map (·.2)).Nodup → L.length < 64 → ((∀ p ∈ L, p.2 ≠ []) ∨ L.length ≤ 1) ∧ ∀ (L1 : List (Addr × List Int)) (p : Addr), L1.Perm L → H p = none → Q (.ref p) (upd H p (.lst ((L1.mergeSort fun q r => leD q.2 r.2).map fun q => V.ref q.1))))
theorem refs_vals : ∀ L : List (Addr × List Int), Vals (L.map fun q => V.ref q.1) (L.map fun q => Value.ref q.1)
  | [] => .nil
  | _ :: r => .cons rfl (refs_vals r)
theorem dpi {K : PySem.W.Frag} {H : Hp} : ∀ ns : List Int, DpAll K H (ns.map V.int) (ns.map PyData.int)
  | [] => .nil
  | n :: r => .cons (.int n) (dpi r)
theorem cr_sortedTA {X : Cx} (hc : X.calm = true) (hu : X.A.units + 64 < cLine) : CallR X (.builtin "sorted") (rSortedTA X.K X.prog X.w) := by
  intro pins s σ H vs us Q I r h
  obtain ⟨a, L, rfl, ha, hk, q⟩ := h
  obtain ⟨es, ep, t, R⟩ := (show SetT0 X.prog X.w s.heap a L from (I.hok a _ ha).1).full fun p hp => I.isT (hk p hp)
  rw [Vals.ref1 r]
  obtain ⟨hne, q⟩ := q R.nd R.few
  refine sorted_setTA R (I.ok.hd hc) hne hu (fun z hz => Dp.reads I (rowD z.2) (.ref z.1) (.ref z.1) (.tup (hk z hz) (dpi z.2)) rfl) fun s' p c L1 k g o hp hg pm => ?_
  have hn : H p = none := I.hok.fresh hp
  have J : Inv X pins σ (upd H p (.lst ((L1.mergeSort fun q r => leD q.2 r.2).map fun q => V.ref q.1))) { s with heap := s'.heap, gens := s'.gens, drawn := s'.drawn, toks := s'.toks } :=
    I.call (ch := []) (Un.laid k hp hn) (I.hok.laid k hp ⟨by rw [List.length_map, List.length_mergeSort, pm.length_eq, sizeLine_eq]; have := R.few; omega, _, c, refs_vals _, hg⟩) (by rw [g]; exact I.bare) (fun _ z => nomatch z)
  have e : s' = { s with heap := s'.heap, gens := s'.gens, drawn := s'.drawn, toks := s'.toks } := by
    cases s'
    cases s
    cases o
    rfl
  rw [e]
  exact ⟨.ref p, _, J, rfl, q L1 p pm hn⟩
end Tq

/-! Data ways: operators, calls of built-ins. -/
namespace Dw
open PySem PySem.Spec PySem.W PyProof.Rows L2 Dr Rp
open He (ga)
section
variable {X : Cx} {m : Mode}
theorem opr_or {f : Value → Value → Sem Value} {r r' : R2} (h : OpR X f r) (h' : OpR X f r') : OpR X f (fun x y H Q => r x y H Q ∨ r' x y H Q) := by
  intro pins s σ H x y v u Q I rx ry q
  rcases q with q | q
  · exact h pins s σ H x y v u Q I rx ry q
  · exact h' pins s σ H x y v u Q I rx ry q
theorem cr_or {f : Value} {r r' : List V → Hp → VK → Prop} (h : CallR X f r) (h' : CallR X f r') : CallR X f (fun x H Q => r x H Q ∨ r' x H Q) := by
  intro pins s σ H x v Q I rx q
  rcases q with q | q
  · exact h pins s σ H x v Q I rx q
  · exact h' pins s σ H x v Q I rx q
/-! ### what is handed on -/
section
variable {K : PySem.W.Frag} {L : Addr → Prop} {p : Option Addr} {H : Hp} {Q : VK} {P : EV → Prop}
/-- what an operation may do with its answer -/
abbrev Go (K : PySem.W.Frag) (m : Mode) (L : Addr → Prop) (p : Option Addr) (H : Hp) (P : EV → Prop) (Q : VK) : Prop := ∀ b H' v', P b → Stp L p H H' → LOk L p H' → Res K m L p H H' v' b → Q v' H'
theorem Go.val (k : Go K m L p H P Q) (o : LOk L p H) (hm : m ≠ .fresh) {v : V} {e : EV} (h : P e) (r : Rv K p (ctL L H) v e) : Q v H := k e H v h Stp.refl o (Res.of_data hm r)
theorem Go.tup (k : Go K m L p H P Q) (o : LOk L p H) (hm : m ≠ .fresh) {xs : List V} {ds : List PyData} (h : P (.py (.tuple ds))) (r : DtAll K (ctL L H) xs ds) {q : Addr} (hq : H q = none) : Q (.ref q) (upd H q (.tup xs)) := by
  refine k _ _ _ h (Stp.new o.ne hq) (o.new hq) (Res.of_data hm ?_)
  have s : SameR (ctL L H) (ctL L (upd H q (.tup xs))) := (Stp.new (p := p) o.ne hq).ct o
  exact .tup ((o.new hq).sqt (SqT.of upd_same)) (Dt.sameRAll s _ _ r)
theorem Go.tup' (k : Go K m L p H P Q) (o : LOk L p H) (hm : m ≠ .fresh) {xs : List V} {ds : List PyData} (h : P (.py (.tuple ds))) (r : DtAll K (ctL L H) xs ds) {H' : Hp} {q : Addr} (sm : Same H H') (hq : SqT K H' q xs) : Q (.ref q) H' := by
  have s := Stp.same (p := p) sm o.ne
  exact k _ _ _ h s (o.same sm) (Res.of_data hm (.tup ((o.same sm).sqt hq) (Dt.sameRAll (s.ct o) _ _ r)))
theorem Go.lst (k : Go K m L p H P Q) (o : LOk L p H) {xs : List V} {ds : List PyData} (h : P (.py (.list ds))) (r : DtAll K (ctL L H) xs ds) {q : Addr} (hq : H q = none) : Q (.ref q) (upd H q (.lst xs)) := by
  have nq : ¬ L q := fun l => o.ne q l hq
  refine k _ _ _ h (Stp.new o.ne hq) (o.new hq) (Res.of_fresh o hq (.inl ⟨xs, ds, rfl, upd_same, Dt.sameRAll (fun b u hb => ?_) _ _ r⟩))
  obtain ⟨n, h1, t⟩ := ctL_of hb
  exact ⟨u, ctL_at ((smu hq) b u h1) (fun z => z.elim n fun e => by rw [e, hq] at h1; cases h1) t, .inl rfl⟩
theorem Go.dic (k : Go K m L p H P Q) (o : LOk L p H) {kvs : List (Key × V)} {ds : List (PyData × PyData)} (h : P (.py (.dict ds))) (r : DtKv K (ctL L H) kvs ds) {q : Addr} (hq : H q = none) : Q (.ref q) (upd H q (.dK kvs)) := by
  refine k _ _ _ h (Stp.new o.ne hq) (o.new hq) (Res.of_fresh o hq (.inr ⟨kvs, ds, rfl, upd_same, Dt.sameRKv (fun b u hb => ?_) _ _ r⟩))
  obtain ⟨n, h1, t⟩ := ctL_of hb
  exact ⟨u, ctL_at ((smu hq) b u h1) (fun z => z.elim n fun e => by rw [e, hq] at h1; cases h1) t, .inl rfl⟩
end
/-! ### arithmetic -/
def wIntB (C : Int → Int → Prop) (f : Int → Int → Int) : EV → EV → (EV → Prop) → Prop
  | .py (.int i), .py (.int j), P => C i j ∧ P (.py (.int (f i j)))
  | _, _, _ => False
theorem dbinI {a b : Expr} {op : Operator} {pos : Pos} {fa fb : WF} {C : Int → Int → Prop} {f : Int → Int → Int} (ho : OpR X (binaryOp op) (rI C fun i j => .int (f i j))) (ha : PE X a (tW X.K .read fa)) (hb : PE X b (tW X.K .read fb)) (hm : m ≠ .fresh := by decide) :
    PE X (.BinOp a op b pos) (tW X.K m (w2 fa fb (wIntB C f))) :=
  k2 (ma := .read) (mb := .read) (g := wIntB C f) _ (by decide) (by decide) (pe_op ho ha hb) fun L p H0 H v a u b P Q o ra rb hg k => by
    unfold wIntB at hg
    split at hg
    · exact ⟨_, _, ra.int, rb.int, hg.1, Go.val k o hm hg.2 (.int _)⟩
    · exact hg.elim
theorem ri0 {f : Value → Value → Sem Value} {g : Int → Int → V} (h : OpR X f (rI0 g)) : OpR X f (rI (fun _ _ => True) g) := by
  intro pins s σ H x y v u Q I rx ry q
  obtain ⟨i, j, e1, e2, _, q⟩ := q
  exact h pins s σ H x y v u Q I rx ry ⟨i, j, e1, e2, q⟩
theorem op_subT : OpR X (binaryOp .Sub) (rI (fun _ _ => True) fun i j => .int (i - j)) := ri0 op_sub
theorem op_catS : OpR X (binaryOp .Add) (fun x y H Q => ∃ l b xs zs, x = .ref l ∧ y = .ref b ∧ Rd H l (.lst xs) ∧ Rd H b (.lst zs) ∧ xs.length + zs.length ≤ sizeLine ∧ ∀ p, H p = none → Q (.ref p) (upd H p (.lst (xs ++ zs)))) := by
  intro pins s σ H x y v u Q I rx ry h
  obtain ⟨l, b, xs, zs, rfl, rfl, hH, hB, hz, q⟩ := h
  cases rx
  cases ry
  obtain ⟨z, its, n, r, e⟩ := hH.ok I.hok
  obtain ⟨z2, its2, n2, r2, e2⟩ := hB.ok I.hok
  have hl := r.length
  have hl2 := r2.length
  refine PySem.P.add_list e e2 ?_ (by rw [List.size_toArray, List.size_toArray]; omega)
  have ea : its.toArray ++ its2.toArray = (its ++ its2).toArray := by simp
  rw [ea]
  exact ⟨.ref _, _, I.lnew (t' := s.toks) (r.append r2) (by rw [List.length_append]; omega), rfl, q _ I.fresh⟩
theorem dts_append {K : PySem.W.Frag} {H : Hp} : ∀ {xs ys : List V} {ds es : List PyData}, DtAll K H xs ds → DtAll K H ys es → DtAll K H (xs ++ ys) (ds ++ es)
  | _, _, _, _, .nil, h => h
  | _, _, _, _, .cons a t, h => .cons a (dts_append t h)
def wAdd : EV → EV → (EV → Prop) → Prop
  | .py (.int i), .py (.int j), P => P (.py (.int (i + j)))
  | .py (.str a), .py (.str b), P => a.length + b.length ≤ sizeLine ∧ P (.py (.str (a ++ b)))
  | .py (.tuple xs), .py (.tuple ys), P => xs.length + ys.length ≤ 1000 ∧ P (.py (.tuple (xs ++ ys)))
  | .py (.list xs), .py (.list ys), P => xs.length + ys.length ≤ sizeLine ∧ P (.py (.list (xs ++ ys)))
  | _, _, _ => False
def wCatL : EV → EV → (EV → Prop) → Prop
  | .py (.list xs), .py (.list ys), P => xs.length + ys.length ≤ sizeLine ∧ P (.py (.list (xs ++ ys)))
  | _, _, _ => False
theorem dadd {a b : Expr} {pos : Pos} {fa fb : WF} (ha : PE X a (tW X.K .read fa)) (hb : PE X b (tW X.K .read fb)) (hm : m ≠ .fresh := by decide) : PE X (.BinOp a .Add b pos) (tW X.K m (w2 fa fb wAdd)) :=
  k2 (ma := .read) (mb := .read) (g := wAdd) _ (by decide) (by decide) (pe_op (opr_or op_add (opr_or op_add_str (opr_or Tp.op_catB op_catS))) ha hb) fun L p H0 H v a u b P Q o ra rb hg k => by
    unfold wAdd at hg
    split at hg
    · exact .inl ⟨_, _, ra.int, rb.int, Go.val k o hm hg (.int _)⟩
    · exact .inr (.inl ⟨_, _, ra.str, rb.str, hg.1, Go.val k o hm hg.2 (.str _)⟩)
    · obtain ⟨a, vs, rfl, h1, h2⟩ := ra.tup
      obtain ⟨b, us, rfl, h3, h4⟩ := rb.tup
      exact .inr (.inr (.inl ⟨_, _, _, _, rfl, rfl, h1, h3, by rw [← DtAll.len h2, ← DtAll.len h4]; exact hg.1, fun H' q sm hq => Go.tup' k o hm hg.2 (dts_append h2 h4) sm hq⟩))
    · obtain ⟨a, vs, rfl, h1, h2⟩ := ra.list
      obtain ⟨b, us, rfl, h3, h4⟩ := rb.list
      exact .inr (.inr (.inr ⟨_, _, _, _, rfl, rfl, h1, h3, by rw [← DtAll.len h2, ← DtAll.len h4]; exact hg.1, fun q hq => Go.lst k o hg.2 (dts_append h2 h4) hq⟩))
    · exact hg.elim
theorem dcatL {a b : Expr} {pos : Pos} {fa fb : WF} (ha : PE X a (tW X.K .read fa)) (hb : PE X b (tW X.K .read fb)) : PE X (.BinOp a .Add b pos) (tW X.K m (w2 fa fb wCatL)) :=
  k2 (ma := .read) (mb := .read) (g := wCatL) _ (by decide) (by decide) (pe_op op_catS ha hb) fun L p H0 H v a u b P Q o ra rb hg k => by
    unfold wCatL at hg
    split at hg
    · obtain ⟨a, vs, rfl, h1, h2⟩ := ra.list
      obtain ⟨b, us, rfl, h3, h4⟩ := rb.list
      exact ⟨_, _, _, _, rfl, rfl, h1, h3, by rw [← DtAll.len h2, ← DtAll.len h4]; exact hg.1, fun q hq => Go.lst k o hg.2 (dts_append h2 h4) hq⟩
    · exact hg.elim
def wNeg : EV → (EV → Prop) → Prop
  | .py (.int i), P => P (.py (.int (-i)))
  | _, _ => False
theorem dneg {a : Expr} {pos : Pos} {fa : WF} (ha : PE X a (tW X.K .read fa)) (hm : m ≠ .fresh := by decide) : PE X (.UnaryOp .USub a pos) (tW X.K m (w1 fa wNeg)) :=
  k1 (ma := .read) (g := wNeg) _ (by decide) (pe_un un_neg ha) fun L p H0 H v a P Q o ra hg k => by
    unfold wNeg at hg
    split at hg
    · exact ⟨_, ra.int, Go.val k o hm hg (.int _)⟩
    · exact hg.elim
/-! ### comparisons -/
def wCmpI (f : Int → Int → Bool) : EV → EV → (EV → Prop) → Prop
  | .py (.int i), .py (.int j), P => P (.py (.bool (f i j)))
  | _, _, _ => False
theorem dcmpI {a b : Expr} {op : CmpOp} {pos : Pos} {fa fb : WF} {f : Int → Int → Bool} (ho : OpR X (compareOp op) (rI0 fun i j => .bl (f i j))) (ha : PE X a (tW X.K .read fa)) (hb : PE X b (tW X.K .read fb)) (h1 : behindInMarks op b = false := by first | rfl | exact nobehind _ (by decide) (by decide)) (hm : m ≠ .fresh := by decide) :
    PE X (.Compare a [op] [b] pos) (tW X.K m (w2 fa fb (wCmpI f))) :=
  k2 (ma := .read) (mb := .read) (g := wCmpI f) _ (by decide) (by decide) (pe_cmpR ho ha hb h1) fun L p H0 H v a u b P Q o ra rb hg k => by
    unfold wCmpI at hg
    split at hg
    · exact ⟨_, _, ra.int, rb.int, Go.val k o hm hg (.bl _)⟩
    · exact hg.elim
/-- no dict within -/
def noDict : PyData → Bool
  | .dict _ => false
  | .list ds => noDicts ds
  | .tuple ds => noDicts ds
  | _ => true
where noDicts : List PyData → Bool
  | [] => true
  | d :: r => noDict d && noDicts r
mutual
theorem dp_of {K : PySem.W.Frag} {H : Hp} : ∀ (d : PyData) (v : V), noDict d = true → Dt K H v d → Dp K H v d
  | .none, _, _, h => by cases h; exact .non
  | .bool b, _, _, h => by cases h; exact .bl b
  | .int i, _, _, h => by cases h; exact .int i
  | .str x, _, _, h => by cases h; exact .str x
  | .list ds, _, n, h => by
    cases h with
    | lstR h1 h2 => exact .lst (.inl h1) (dps_of ds _ (by simpa [noDict] using n) h2)
  | .tuple ds, _, n, h => by
    cases h with
    | tup h1 h2 => exact .tup h1 (dps_of ds _ (by simpa [noDict] using n) h2)
  | .dict ds, _, n, _ => by simp [noDict] at n
theorem dps_of {K : PySem.W.Frag} {H : Hp} : ∀ (ds : List PyData) (vs : List V), noDict.noDicts ds = true → DtAll K H vs ds → DpAll K H vs ds
  | [], _, _, h => by cases h; exact .nil
  | d :: r, _, n, h => by
    rw [noDict.noDicts, Bool.and_eq_true] at n
    cases h with
    | cons h1 h2 => exact .cons (dp_of d _ n.1 h1) (dps_of r _ n.2 h2)
end
/-- what can be compared by == -/
def eqOk (d : PyData) : Bool := noDict d && SeqAt.shaped d
def wEq (neg : Bool) : EV → EV → (EV → Prop) → Prop
  | .py d, .py e, P => (eqOk d = true ∧ eqOk e = true) ∧ P (.py (.bool (if neg then !PyData.eqv d e else PyData.eqv d e)))
  | _, _, _ => False
theorem deq {a b : Expr} {pos : Pos} {fa fb : WF} (hu : X.A.units + 64 < cLine) (ha : PE X a (tW X.K .read fa)) (hb : PE X b (tW X.K .read fb)) (hm : m ≠ .fresh := by decide) : PE X (.Compare a [.Eq] [b] pos) (tW X.K m (w2 fa fb (wEq false))) :=
  k2 (ma := .read) (mb := .read) (g := wEq false) (rEqD X.K) (by decide) (by decide) (pe_cmpR (op_eqD hu) ha hb (nomark _)) fun L p H0 H v a u b P Q o ra rb hg k => by
    unfold wEq at hg
    split at hg
    · obtain ⟨⟨h1, h2⟩, hg⟩ := hg
      unfold eqOk at h1 h2
      rw [Bool.and_eq_true] at h1 h2
      exact ⟨_, _, dp_of _ _ h1.1 ra.dt, dp_of _ _ h2.1 rb.dt, h1.2, h2.2, Go.val k o hm hg (.bl _)⟩
    · exact hg.elim
theorem dne {a b : Expr} {pos : Pos} {fa fb : WF} (hu : X.A.units + 64 < cLine) (ha : PE X a (tW X.K .read fa)) (hb : PE X b (tW X.K .read fb)) (hm : m ≠ .fresh := by decide) : PE X (.Compare a [.NotEq] [b] pos) (tW X.K m (w2 fa fb (wEq true))) :=
  k2 (ma := .read) (mb := .read) (g := wEq true) (rNeD X.K) (by decide) (by decide) (pe_cmpR (op_neD hu) ha hb (nomark _)) fun L p H0 H v a u b P Q o ra rb hg k => by
    unfold wEq at hg
    split at hg
    · obtain ⟨⟨h1, h2⟩, hg⟩ := hg
      unfold eqOk at h1 h2
      rw [Bool.and_eq_true] at h1 h2
      exact ⟨_, _, dp_of _ _ h1.1 ra.dt, dp_of _ _ h2.1 rb.dt, h1.2, h2.2, Go.val k o hm hg (.bl _)⟩
    · exact hg.elim
/-- is None, is not None -/
def isNonD : PyData → Bool
  | .none => true
  | _ => false
def wIsN : EV → (EV → Prop) → Prop
  | .py d, P => P (.py (.bool (isNonD d)))
  | _, _ => False
def wNotN : EV → (EV → Prop) → Prop
  | .py d, P => P (.py (.bool (!isNonD d)))
  | _, _ => False
theorem dt_non {K : PySem.W.Frag} {H : Hp} {v : V} {d : PyData} (h : Dt K H v d) : decide (v = V.non) = isNonD d := by
  cases h <;> simp [isNonD]
theorem disN {a : Expr} {pos pos' : Pos} {j} {fa : WF} (ha : PE X a (tW X.K .read fa)) (hm : m ≠ .fresh := by decide) : PE X (.Compare a [.Is] [.Constant .none j pos'] pos) (tW X.K m (w1 fa wIsN)) :=
  k1 (ma := .read) (g := wIsN) (fun x H Q => Q (.bl (decide (x = .non))) H) (by decide) (pe_cmp (pc_isN ha)) fun L p H0 H v a P Q o ra hg k => by
    unfold wIsN at hg
    split at hg
    · rw [dt_non ra.dt]
      exact Go.val k o hm hg (.bl _)
    · exact hg.elim
theorem dnotN {a : Expr} {pos pos' : Pos} {j} {fa : WF} (ha : PE X a (tW X.K .read fa)) (hm : m ≠ .fresh := by decide) : PE X (.Compare a [.IsNot] [.Constant .none j pos'] pos) (tW X.K m (w1 fa wNotN)) :=
  k1 (ma := .read) (g := wNotN) (fun x H Q => Q (.bl (!decide (x = .non))) H) (by decide) (pe_cmp (pc_notN ha)) fun L p H0 H v a P Q o ra hg k => by
    unfold wNotN at hg
    split at hg
    · rw [dt_non ra.dt]
      exact Go.val k o hm hg (.bl _)
    · exact hg.elim
def flatD : PyData → Bool
  | .none | .bool _ | .int _ | .str _ => true
  | _ => false
theorem flat_of {K : PySem.W.Frag} {H : Hp} {v : V} {d : PyData} (h : Dt K H v d) (f : flatD d = true) : flatV v = true := by
  cases h <;> first | rfl | cases f
theorem flats_of {K : PySem.W.Frag} {H : Hp} : ∀ {vs : List V} {ds : List PyData}, DtAll K H vs ds → ds.all flatD = true → vs.all flatV = true
  | _, _, .nil, _ => rfl
  | _, _, .cons a t, f => by
    rw [List.all_cons, Bool.and_eq_true] at f ⊢
    exact ⟨flat_of a f.1, flats_of t f.2⟩
theorem eqv_flat {K : PySem.W.Frag} {H : Hp} {v u : V} {d e : PyData} (h : Dt K H v d) (k : Dt K H u e) (f : flatD d = true) (g : flatD e = true) : eqV v u = PyData.eqv d e := by
  cases h <;> cases k <;> first | rfl | cases f | cases g | simp [eqV, PyData.eqv]
def inD (d : PyData) (ds : List PyData) : Bool := ds.any fun e => PyData.eqv e d
theorem inv_flat {K : PySem.W.Frag} {H : Hp} {v : V} {d : PyData} (h : Dt K H v d) (f : flatD d = true) : ∀ {vs : List V} {ds : List PyData}, DtAll K H vs ds → ds.all flatD = true → inV v vs = inD d ds
  | _, _, .nil, _ => rfl
  | _, _, .cons a t, g => by
    rw [List.all_cons, Bool.and_eq_true] at g
    have z := inv_flat h f t g.2
    unfold inV inD at z ⊢
    rw [List.any_cons, List.any_cons, eqv_flat a h g.1 f, z]
def seqD : PyData → Option (List PyData)
  | .list ds => some ds
  | .tuple ds => some ds
  | _ => none
/-- x in y: y a list, a tuple or a dict by text and int keys -/
def wIn (neg : Bool) : EV → EV → (EV → Prop) → Prop
  | .py d, .py e, P => ∃ ds, seqD e = some ds ∧ flatD d = true ∧ ds.all flatD = true ∧ P (.py (.bool (if neg then !inD d ds else inD d ds)))
  | _, _, _ => False
theorem Res.seq {K : PySem.W.Frag} {L : Addr → Prop} {p : Option Addr} {H0 H : Hp} {v : V} {e : PyData} {ds : List PyData} (r : Res K .read L p H0 H v (.py e)) (h : seqD e = some ds) : ∃ a vs, v = .ref a ∧ (SqL K H a vs ∨ SqT K H a vs) ∧ DtAll K (ctL L H) vs ds := by
  unfold seqD at h
  split at h
  · cases h
    obtain ⟨a, vs, e1, h1, h2⟩ := r.list
    exact ⟨a, vs, e1, .inl (.inl h1), h2⟩
  · cases h
    obtain ⟨a, vs, e1, h1, h2⟩ := r.tup
    exact ⟨a, vs, e1, .inr h1, h2⟩
  · cases h
theorem dts_all {K : PySem.W.Frag} {L : Addr → Prop} {H : Hp} {vs : List V} {ds : List PyData} (h : DtAll K (ctL L H) vs ds) : DtAll K H vs ds := Dt.sameRAll ctL_all _ _ h
theorem din {a b : Expr} {pos : Pos} {fa fb : WF} (ha : PE X a (tW X.K .read fa)) (hb : PE X b (tW X.K .read fb)) (h1 : behindInMarks .In b = false := by rfl) (hm : m ≠ .fresh := by decide) : PE X (.Compare a [.In] [b] pos) (tW X.K m (w2 fa fb (wIn false))) :=
  k2 (ma := .read) (mb := .read) (g := wIn false) (rIn X.K false) (by decide) (by decide) (pe_cmpR op_in_seq ha hb h1) fun L p H0 H v a u b P Q o ra rb hg k => by
    unfold wIn at hg
    split at hg
    · obtain ⟨ds, h1, h2, h3, hg⟩ := hg
      obtain ⟨q, vs, rfl, hq, hd⟩ := rb.seq h1
      exact ⟨q, vs, rfl, hq, flat_of ra.dt h2, flats_of hd h3, by rw [inv_flat ra.dt h2 (dts_all hd) h3]; exact Go.val k o hm hg (.bl _)⟩
    · exact hg.elim
theorem dnin {a b : Expr} {pos : Pos} {fa fb : WF} (ha : PE X a (tW X.K .read fa)) (hb : PE X b (tW X.K .read fb)) (h1 : behindInMarks .NotIn b = false := by rfl) (hm : m ≠ .fresh := by decide) : PE X (.Compare a [.NotIn] [b] pos) (tW X.K m (w2 fa fb (wIn true))) :=
  k2 (ma := .read) (mb := .read) (g := wIn true) (rIn X.K true) (by decide) (by decide) (pe_cmpR op_notIn_seq ha hb h1) fun L p H0 H v a u b P Q o ra rb hg k => by
    unfold wIn at hg
    split at hg
    · obtain ⟨ds, h1, h2, h3, hg⟩ := hg
      obtain ⟨q, vs, rfl, hq, hd⟩ := rb.seq h1
      exact ⟨q, vs, rfl, hq, flat_of ra.dt h2, flats_of hd h3, by rw [inv_flat ra.dt h2 (dts_all hd) h3]; exact Go.val k o hm hg (.bl _)⟩
    · exact hg.elim
end
end Dw

/-! Data ways: what is walked, targets, comprehensions. -/
namespace Dw
open PySem PySem.Spec PySem.W PyProof.Rows L2 Dr Rp
open He (ga)
structure ItOk (K : PySem.W.Frag) (p : Option Addr) (J : It) (xs : List EV) (g : Gh) : Prop where
  go : ∀ (L : Addr → Prop) (H : Hp) (i : Nat), LOk L p H → GhR K p L H g → i < xs.length → J.go i H
  stop : ∀ (L : Addr → Prop) (H : Hp), LOk L p H → GhR K p L H g → J.stop xs.length H
  yld : ∀ (L : Addr → Prop) (H : Hp) (i : Nat) (x : V) (H' : Hp), LOk L p H → GhR K p L H g → i < xs.length → J.yld i H x H' → Same H H' ∧ ∃ e, xs[i]? = some e ∧ Rv K p (ctL L H') x e
def GhM (K : PySem.W.Frag) (m : Mode) (p : Option Addr) (L : Addr → Prop) (H : Hp) (g : Gh) : Prop := match m with
  | .read => GhR K p L H g
  | _ => GhD K p L H g
theorem GhM.r {K : PySem.W.Frag} {m : Mode} {p : Option Addr} {L : Addr → Prop} {H : Hp} {g : Gh} (h : GhM K m p L H g) (o : LOk L p H) : GhR K p L H g := by
  cases m with
  | read => exact h
  | data => exact GhD.read h o
  | fresh => exact GhD.read h o
def tI (K : PySem.W.Frag) (m : Mode) (fi : WA) : TI := fun σ H R => ∃ He Lc os p gs ρ P, EnvOk K He Lc os p gs H σ ρ ∧ fi ρ P ∧
  ∀ xs g J H', P xs → Stp (Ls Lc os) p H H' → LOk (Ls Lc os) p H' → GhM K m p (Ls Lc os) H' g → ItOk K p J xs g → R J H'
theorem pi_mono {X : Cx} {tg e : Expr} {t t' : TI} (h : PI X tg e t) (k : ∀ σ H Q, t' σ H Q → t σ H Q) : PI X tg e t' := ⟨fun pins s σ H Q I q => h.run pins s σ H Q I (k σ H Q q)⟩
section
variable {K : PySem.W.Frag} {p : Option Addr} {L : Addr → Prop} {H : Hp} {a : Addr}
theorem zip_rv {G : Hp} : ∀ {vs : List V} {ds : List PyData}, DtAll K G vs ds → ∀ z ∈ vs.zip (ds.map EV.py), Rv K p G z.1 z.2
  | _, _, .nil, _, h => by cases h
  | _, _, .cons a t, z, h => by
    rcases List.mem_cons.mp h with rfl | h
    · exact a
    · exact zip_rv t z h
theorem zip_get {vs : List V} {ds : List PyData} (hl : ds.length = vs.length) {i : Nat} {x : V} (h : vs[i]? = some x) : ∃ d, ds[i]? = some d ∧ (x, EV.py d) ∈ vs.zip (ds.map EV.py) := by
  obtain ⟨hi, rfl⟩ := List.getElem?_eq_some_iff.mp h
  have hd : i < ds.length := by omega
  refine ⟨ds[i], by simp [hd], ?_⟩
  refine List.mem_of_getElem? (i := i) ?_
  rw [List.getElem?_zip_eq_some]
  exact ⟨h, by simp [hd]⟩
/-- a list that is walked -/
theorem it_list {o : HO} {vs : List V} {ds : List PyData} (ho : o = .lst vs ∨ ∃ q, o = .frz q (.lst vs)) (hl : ds.length = vs.length) : ItOk K p (Itl K a) (ds.map .py) { ad := [(a, o)], vl := vs.zip (ds.map EV.py) } := by
  have sq : ∀ H : Hp, H a = some o → SqL K H a vs := fun H h => by
    rcases ho with rfl | ⟨q, rfl⟩
    · exact .inl (.inl h)
    · exact .inl (.inr ⟨q, h⟩)
  refine ⟨fun L H i _ g hi => ?_, fun L H _ g => ?_, fun L H i x H' _ g hi y => ?_⟩
  · have h := sq H (g.1 _ List.mem_cons_self).2.1
    rw [List.length_map, hl] at hi
    exact ⟨vs, vs[i], h, by simp [hi]⟩
  · have h := sq H (g.1 _ List.mem_cons_self).2.1
    exact ⟨vs, h, by rw [List.length_map, hl]; exact Nat.le_refl _⟩
  · have h := sq H (g.1 _ List.mem_cons_self).2.1
    obtain ⟨rfl, y⟩ := y
    obtain ⟨d, h1, h2⟩ := zip_get hl (y vs h)
    exact ⟨fun _ _ e => e, .py d, by rw [List.getElem?_map, h1] <;> rfl, g.2 _ h2⟩
theorem it_tup {vs : List V} {ds : List PyData} (hl : ds.length = vs.length) {ad : List (Addr × HO)} (sq : ∀ H : Hp, (∀ z ∈ ad, H z.1 = some z.2) → SqT K H a vs) : ItOk K p (Itt K a) (ds.map .py) { ad := ad, vl := vs.zip (ds.map EV.py) } := by
  refine ⟨fun L H i _ g hi => ?_, fun L H _ g => ?_, fun L H i x H' _ g hi y => ?_⟩
  · have h := sq H fun z hz => (g.1 z hz).2.1
    rw [List.length_map, hl] at hi
    exact ⟨vs, vs[i], h, by simp [hi]⟩
  · have h := sq H fun z hz => (g.1 z hz).2.1
    exact ⟨vs, h, by rw [List.length_map, hl]; exact Nat.le_refl _⟩
  · have h := sq H fun z hz => (g.1 z hz).2.1
    obtain ⟨rfl, y⟩ := y
    obtain ⟨d, h1, h2⟩ := zip_get hl (y vs h)
    exact ⟨fun _ _ e => e, .py d, by rw [List.getElem?_map, h1] <;> rfl, g.2 _ h2⟩
/-- a list or tuple: how it is walked -/
theorem seq_walk {m : Mode} {H0 : Hp} {v : V} {e : PyData} {ds : List PyData} (hm : m ≠ .fresh) (r : Res K m L p H0 H v (.py e)) (o : LOk L p H) (h : seqD e = some ds) :
    ∃ a g, v = .ref a ∧ (((∃ xs, SqL K H a xs) ∧ ItOk K p (Itl K a) (ds.map .py) g) ∨ ((∃ xs, SqT K H a xs) ∧ ItOk K p (Itt K a) (ds.map .py) g)) ∧ GhM K m p L H g := by
  have data : ∀ {v : V}, Dt K (ctL L H) v e → ∃ a g, v = .ref a ∧ (((∃ xs, SqL K H a xs) ∧ ItOk K p (Itl K a) (ds.map .py) g) ∨ ((∃ xs, SqT K H a xs) ∧ ItOk K p (Itt K a) (ds.map .py) g)) ∧ GhD K p L H g := by
    intro v hd
    unfold seqD at h
    split at h
    · cases h
      cases hd with
      | @lstR a vs _ h1 h2 =>
        obtain ⟨u, hu, ho⟩ : ∃ u, ctL L H a = some u ∧ (u = .lst vs ∨ ∃ q, u = .frz q (.lst vs)) := by
          rcases h1 with h | ⟨q, h⟩
          · exact ⟨_, h, .inl rfl⟩
          · exact ⟨_, h, .inr ⟨q, rfl⟩⟩
        refine ⟨a, _, rfl, .inl ⟨⟨vs, SameR.sql ctL_all (.inl h1)⟩, it_list ho (DtAll.len h2)⟩, fun z hz => ?_, zip_rv h2⟩
        rw [List.mem_singleton.mp hz]
        refine ⟨?_, hu⟩
        rcases ho with rfl | ⟨q, rfl⟩
        · exact Rigid.lst
        · exact Rigid.frz
    · cases h
      cases hd with
      | @tup a vs _ h1 h2 =>
        rcases id h1 with (h | ⟨q, h⟩) | h
        · refine ⟨a, { ad := [(a, .tup vs)], vl := vs.zip (ds.map EV.py) }, rfl, .inr ⟨⟨vs, SameR.sqt ctL_all h1⟩, it_tup (DtAll.len h2) fun H' g => SqT.of (g _ List.mem_cons_self)⟩, fun z hz => ?_, zip_rv h2⟩
          rw [List.mem_singleton.mp hz]
          exact ⟨Rigid.tup, h⟩
        · refine ⟨a, { ad := [(a, .frz q (.tup vs))], vl := vs.zip (ds.map EV.py) }, rfl, .inr ⟨⟨vs, SameR.sqt ctL_all h1⟩, it_tup (DtAll.len h2) fun H' g => .inl (.inr ⟨q, g _ List.mem_cons_self⟩)⟩, fun z hz => ?_, zip_rv h2⟩
          rw [List.mem_singleton.mp hz]
          exact ⟨Rigid.frz, h⟩
        · exact ⟨a, { ad := [], vl := vs.zip (ds.map EV.py) }, rfl, .inr ⟨⟨vs, SameR.sqt ctL_all h1⟩, it_tup (DtAll.len h2) fun H' g => .inr h⟩, (fun z hz => nomatch hz), zip_rv h2⟩
    · cases h
  cases m with
  | fresh => exact absurd rfl hm
  | data => exact data r
  | read =>
    rcases r with r | ⟨a, d, e1, e2, hl, hw⟩
    · obtain ⟨a, g, h1, h2, h3⟩ := data r
      exact ⟨a, g, h1, h2, h3.read o⟩
    · cases e2
      rcases hw with ⟨vs, xs, rfl, h1, h2⟩ | ⟨kvs, ys, rfl, h1, h2⟩
      · cases h
        refine ⟨a, _, e1, .inl ⟨⟨vs, SqL.of h1⟩, it_list (.inl rfl) (DtAll.len h2)⟩, fun z hz => ?_, zip_rv h2⟩
        rw [List.mem_singleton.mp hz]
        exact ⟨Rigid.lst, h1, fun ps e => (by cases e), hl.2⟩
      · cases h
end
section
variable {X : Cx} {tg : Expr} {m : Mode}
/-- a list or a tuple, whichever comes -/
def iSeq (K : PySem.W.Frag) (tl : TE) : TI := fun σ H R => tl σ H fun x H1 => ∃ a, x = .ref a ∧ (((∃ xs, SqL K H1 a xs) ∧ R (Itl K a) H1) ∨ ((∃ xs, SqT K H1 a xs) ∧ R (Itt K a) H1))
theorem pi_seq {l : Expr} {tl : TE} (hl : PE X l tl) : PI X tg l (iSeq X.K tl) := by
  refine ⟨fun pins s σ H R I h => ?_⟩
  refine thn (hl.run pins s σ H _ I h) fun v s1 ⟨x, H1, I1, r1, q1⟩ => ?_
  obtain ⟨a, e, q⟩ := q1
  subst e
  cases r1
  rcases q with ⟨⟨xs, hq⟩, q⟩ | ⟨⟨xs, hq⟩, q⟩
  · obtain ⟨its, rv, p, hz⟩ := I1.list hq
    refine wpAny_pyIter_list p.isList ?_
    refine ⟨s1.heap.objs.size, [s1.heap.objs.size], _, _, H1, rfl, I1.kept (t' := s1.toks) fun b o e => Heap.get?_push_of_some _ e, turn_list a _, ⟨_, Heap.get?_push_size _ rfl, rfl, rfl⟩, fun b hb => ?_, q⟩
    have e : b = s1.heap.objs.size := by simpa using hb
    subst e
    exact I1.fpOk (Nat.le_refl _) (I1.hok.fresh (Nat.le_refl _))
  · obtain ⟨its, rv, p, hz⟩ := I1.tuple hq
    refine wpAny_pyIter_tuple (show s1.heap.IsTuple a its.toArray from p) ?_
    refine ⟨s1.heap.objs.size, [s1.heap.objs.size], _, _, H1, rfl, I1.kept (t' := s1.toks) fun b o e => Heap.get?_push_of_some _ e, turn_tuple a _, ⟨_, Heap.get?_push_size _ rfl, rfl, rfl⟩, fun b hb => ?_, q⟩
    have e : b = s1.heap.objs.size := by simpa using hb
    subst e
    exact I1.fpOk (Nat.le_refl _) (I1.hok.fresh (Nat.le_refl _))
def wSeqI (f : WF) : WA := fun ρ P => f ρ fun e => match e with
  | .py d => ∃ ds, seqD d = some ds ∧ P (ds.map .py)
  | _ => False
theorem di_seq {l : Expr} {f : WF} (hl : PE X l (tW X.K m f)) (hm : m ≠ .fresh := by decide) : PI X tg l (tI X.K m (wSeqI f)) := by
  refine pi_mono (pi_seq hl) fun σ H R q => ?_
  obtain ⟨He, Lc, os, p, gs, ρ, P, E, hf, k⟩ := q
  refine ⟨He, Lc, os, p, gs, ρ, _, E, hf, fun e H1 v he s o r => ?_⟩
  split at he
  · obtain ⟨ds, hs, hP⟩ := he
    obtain ⟨a, g, rfl, hh, hg⟩ := seq_walk hm r o hs
    refine ⟨a, rfl, ?_⟩
    rcases hh with ⟨hx, hi⟩ | ⟨hx, hi⟩
    · exact .inl ⟨hx, k _ g _ H1 hP s o hg hi⟩
    · exact .inr ⟨hx, k _ g _ H1 hP s o hg hi⟩
  · exact he.elim
def intsD (lo : Int) (n : Nat) : List EV := (List.range n).map fun i => .py (.int (lo + (i : Nat)))
theorem it_range {K : PySem.W.Frag} {p : Option Addr} {lo : Int} {n : Nat} {g : Gh} : ItOk K p (Itr lo n) (intsD lo n) g := by
  have hl : (intsD lo n).length = n := by unfold intsD; simp
  refine ⟨fun L H i _ _ hi => ?_, fun L H _ _ => ?_, fun L H i x H' _ _ hi y => ?_⟩
  · rw [hl] at hi
    exact hi
  · rw [hl]
    exact Nat.le_refl _
  · obtain ⟨rfl, rfl⟩ := y
    rw [hl] at hi
    refine ⟨fun _ _ e => e, .py (.int (lo + (i : Nat))), ?_, .int _⟩
    unfold intsD
    simp [hi]
def wRng1 (fa : WF) : WA := fun ρ P => fa ρ fun x => match x with
  | .py (.int j) => (-(2 ^ 62) ≤ j ∧ j < 2 ^ 62) ∧ P (intsD 0 j.toNat)
  | _ => False
def wRng2 (fa fb : WF) : WA := fun ρ P => fa ρ fun x => fb ρ fun y => match x, y with
  | .py (.int i), .py (.int j) => (-(2 ^ 62) ≤ i ∧ i < 2 ^ 62 ∧ -(2 ^ 62) ≤ j ∧ j < 2 ^ 62) ∧ P (intsD i (j - i).toNat)
  | _, _ => False
theorem gh0 {K : PySem.W.Frag} {m : Mode} {p : Option Addr} {L : Addr → Prop} {H : Hp} : GhM K m p L H {} := by
  cases m <;> exact ⟨(fun _ h => nomatch h), (fun _ h => nomatch h)⟩
theorem di_rng1 {a : Expr} {fa : WF} {q pos : Pos} (hg : Gl X "range") (ht : X.mg "range" = none) (ha : PE X a (tW X.K .read fa)) (hs : starEach [a] X.env = [(false, eval a X.env)] := by rfl) : PI X tg (.Call (.Name "range" q) [a] [] pos) (tI X.K m (wRng1 fa)) := by
  refine pi_mono (pi_range1 hg ht (pa_cons ha pa_nil hs) hs) fun σ H R q => ?_
  obtain ⟨He, Lc, os, p, gs, ρ, P, E, hf, k⟩ := q
  refine ⟨He, Lc, os, p, gs, ρ, _, E, hf, fun e H1 v he s o r => ?_⟩
  split at he
  · obtain ⟨⟨h1, h2⟩, hP⟩ := he
    rw [r.int]
    exact ⟨_, rfl, h1, h2, k _ {} _ H1 hP s o gh0 it_range⟩
  · exact he.elim
theorem di_rng2 {a b : Expr} {fa fb : WF} {q pos : Pos} (hg : Gl X "range") (ht : X.mg "range" = none) (ha : PE X a (tW X.K .read fa)) (hb : PE X b (tW X.K .read fb)) (hs : starEach [a, b] X.env = (false, eval a X.env) :: starEach [b] X.env := by rfl) (hs2 : starEach [b] X.env = [(false, eval b X.env)] := by rfl) :
    PI X tg (.Call (.Name "range" q) [a, b] [] pos) (tI X.K m (wRng2 fa fb)) := by
  refine pi_mono (pi_range2 hg ht (pa_cons ha (pa_cons hb pa_nil hs2) hs) (hs.trans (by rw [hs2])) hs2) fun σ H R q => ?_
  obtain ⟨He, Lc, os, p, gs, ρ, P, E, hf, k⟩ := q
  refine ⟨He, Lc, os, p, gs, ρ, _, E, hf, fun e H1 v he s o r => ?_⟩
  refine ⟨He, Lc, os, p, gs, ρ, _, E.step s o, he, fun e2 H2 v2 he2 s2 o2 r2 => ?_⟩
  split at he2
  · obtain ⟨h1, hP⟩ := he2
    have e1 := (r.step (by decide) o s2).int
    rw [e1, r2.int]
    exact ⟨_, _, rfl, h1, k _ {} _ H2 hP (s.trans s2) o2 gh0 it_range⟩
  · exact he2.elim
end
end Dw

/-! Data ways: targets, comprehensions. -/
namespace Dw
open PySem PySem.Spec PySem.W PyProof.Rows L2 Dr Rp
open He (ga)
abbrev WGt := EV → EnvD → (EnvD → Prop) → Prop
def tWG (K : PySem.W.Frag) (vs : List Nat) (g : WGt) : TG := fun v σ H Q => ∃ He Lc os p gs ρ P e, EnvOk K He Lc os p gs H σ ρ ∧ Rv K p (ctL (Ls Lc os) H) v e ∧ g e ρ P ∧
  ∀ ρ' σ', P ρ' → EnvOk K He Lc os p gs H σ' ρ' → wipe σ' vs = wipe σ vs → Q σ' H
def tWGs (K : PySem.W.Frag) (vs : List Nat) (g : List EV → EnvD → (EnvD → Prop) → Prop) : TGs := fun xs σ H Q => ∃ He Lc os p gs ρ P es, EnvOk K He Lc os p gs H σ ρ ∧ Paired (fun v e => Rv K p (ctL (Ls Lc os) H) v e) xs es ∧ g es ρ P ∧
  ∀ ρ' σ', P ρ' → EnvOk K He Lc os p gs H σ' ρ' → wipe σ' vs = wipe σ vs → Q σ' H
theorem pg_mono {X : Cx} {e : Expr} {t t' : TG} (h : PG X e t) (k : ∀ v σ H Q, t' v σ H Q → t v σ H Q) : PG X e t' := ⟨fun pins s σ H v u Q I r q => h.run pins s σ H v u Q I r (k v σ H Q q)⟩
theorem pgs_mono {X : Cx} {es : List Expr} {t t' : TGs} (h : PGs X es t) (k : ∀ v σ H Q, t' v σ H Q → t v σ H Q) : PGs X es t' := ⟨fun pins s σ H vs us Q I r q => h.run pins s σ H vs us Q I r (k vs σ H Q q)⟩
def gN (i : Nat) : WGt := fun e ρ P => match ρ[i]? with
  | some (.own _) => False
  | some _ => P (ρ.set i e)
  | none => False
def gTs : List WGt → List EV → EnvD → (EnvD → Prop) → Prop
  | [], [], ρ, P => P ρ
  | g :: gs, e :: es, ρ, P => g e ρ fun ρ' => gTs gs es ρ' P
  | _, _, _, _ => False
def gT (gs : List WGt) : WGt := fun e ρ P => match e with
  | .py (.tuple ds) => ds.length = gs.length ∧ gTs gs (ds.map .py) ρ P
  | _ => False
theorem wipe_set {σ : L2.St} {i : Nat} {x : Option V} : ∀ {vs : List Nat}, i ∈ vs → wipe (σ.set i x) vs = wipe σ vs
  | v :: vs, h => by
    unfold wipe
    by_cases e : i ∈ vs
    · rw [wipe_set e]
    · have : i = v := by
        rcases List.mem_cons.mp h with e' | e'
        · exact e'
        · exact absurd e' e
      subst this
      apply List.ext_getElem?
      intro j
      by_cases hj : i = j
      · subst hj
        by_cases hl : i < σ.length
        · rw [List.getElem?_set_self (by rw [wipe_length, List.length_set]; exact hl), List.getElem?_set_self (by rw [wipe_length]; exact hl)]
        · rw [List.getElem?_eq_none (by rw [List.length_set, wipe_length, List.length_set]; omega), List.getElem?_eq_none (by rw [List.length_set, wipe_length]; omega)]
      · rw [List.getElem?_set_ne hj, List.getElem?_set_ne hj]
        by_cases hv : j ∈ vs
        · clear h e
          induction vs with
          | nil => cases hv
          | cons w r ih =>
            unfold wipe
            by_cases hw : w = j
            · subst hw
              by_cases hl : w < σ.length
              · rw [List.getElem?_set_self (by rw [wipe_length, List.length_set]; exact hl), List.getElem?_set_self (by rw [wipe_length]; exact hl)]
              · rw [List.getElem?_eq_none (by rw [List.length_set, wipe_length, List.length_set]; omega), List.getElem?_eq_none (by rw [List.length_set, wipe_length]; omega)]
            · rw [List.getElem?_set_ne hw, List.getElem?_set_ne hw]
              rcases List.mem_cons.mp hv with e' | e'
              · exact absurd e'.symm hw
              · exact ih e'
        · rw [wipe_out hv, wipe_out hv, List.getElem?_set_ne hj]
theorem wipe_wipe {σ : L2.St} {vs : List Nat} : wipe (wipe σ vs) vs = wipe σ vs := by
  have : ∀ ws : List Nat, (∀ w ∈ ws, w ∈ vs) → wipe (wipe σ ws) vs = wipe σ vs := by
    intro ws
    induction ws with
    | nil => intro _; rfl
    | cons w r ih =>
      intro h
      show wipe ((wipe σ r).set w none) vs = wipe σ vs
      rw [wipe_set (h w List.mem_cons_self)]
      exact ih fun x hx => h x (List.mem_cons_of_mem _ hx)
  exact this vs fun w h => h
section
variable {K : PySem.W.Frag} {He : Hp} {Lc : Addr → Prop} {os : Nat → Option Addr} {p : Option Addr} {gs : Gh} {H H' : Hp} {σ : L2.St} {ρ : EnvD}
/-- a name that holds no list of its own takes a value -/
theorem EnvOk.set (E : EnvOk K He Lc os p gs H σ ρ) {i : Nat} {v : V} {e : EV} (hi : i < ρ.length) (n : os i = none) (r : Rv K p (ctL (Ls Lc os) H) v e) : EnvOk K He Lc os p gs H (σ.set i (some v)) (ρ.set i e) := by
  refine ⟨by rw [List.length_set, List.length_set]; exact E.len, fun j u h => ?_, fun j a h => ?_, E.inj, E.fre, E.gho, E.lok, E.stp⟩
  · by_cases hj : i = j
    · subst hj
      rw [List.getElem?_set_self hi] at h
      cases h
      have hσ : (σ.set i (some v))[i]? = some (some v) := List.getElem?_set_self (by rw [E.len]; exact hi)
      cases e with
      | own d => exact False.elim r
      | no => trivial
      | py d => exact ⟨v, hσ, r⟩
      | st => exact ⟨v, hσ, r⟩
      | ob C fs => exact ⟨v, hσ, r⟩
    · rw [List.getElem?_set_ne hj] at h
      have z := E.val j u h
      rw [List.getElem?_set_ne hj]
      exact z
  · have hj : i ≠ j := fun e => by
      rw [← e, n] at h
      cases h
    rw [List.getElem?_set_ne hj, List.getElem?_set_ne hj]
    exact E.own j a h
theorem EnvOk.no_own (E : EnvOk K He Lc os p gs H σ ρ) {i : Nat} {e : EV} (h : ρ[i]? = some e) (n : ∀ d, e ≠ .own d) : os i = none := by
  cases q : os i with
  | none => rfl
  | some a =>
    obtain ⟨d, h1, _⟩ := E.own i a q
    rw [h] at h1
    cases h1
    exact absurd rfl (n d)
end
section
variable {X : Cx} {vs : List Nat}
theorem dg_of {e : Expr} {i : Nat} (h : PG X e (gName i)) (hi : i ∈ vs) : PG X e (tWG X.K vs (gN i)) := by
  refine pg_mono h fun v σ H Q q => ?_
  obtain ⟨He, Lc, os, p, gs, ρ, P, e, E, hv, hg, k⟩ := q
  unfold gN at hg
  split at hg
  · exact hg.elim
  · rename_i u hu hn
    refine k _ _ hg (E.set (List.getElem?_eq_some_iff.mp hn).1 (E.no_own hn fun d e => hu d (by rw [← e]) ) hv) (wipe_set hi)
  · exact hg.elim
theorem dg (i : Nat) {x : Str} {pos : Pos} (hN : X.N.Nodup) (hi : X.N[i]? = some x) (hx : Loc X.env.scope x) (hm : i ∈ vs := by decide) (hf : X.fn x = true ∨ X.env.scope.names.lookup x = some .local := by first | exact .inl rfl | exact .inr rfl | assumption) : PG X (.Name x pos) (tWG X.K vs (gN i)) := dg_of (pg_name hN hi hx hf) hm
theorem dgs_nil : PGs X [] (tWGs X.K vs (gTs [])) := by
  refine pgs_mono pgs_nil fun v σ H Q q => ?_
  obtain ⟨He, Lc, os, p, gs, ρ, P, es, E, hv, hg, k⟩ := q
  cases hv with
  | nil => exact ⟨rfl, k ρ σ hg E rfl⟩
  | cons a t => exact hg.elim
theorem dgs_cons {e : Expr} {es : List Expr} {g : WGt} {gl : List WGt} (h : PG X e (tWG X.K vs g)) (k : PGs X es (tWGs X.K vs (gTs gl))) (hst : (assignEach (e :: es) X.env).map (·.2) = assign e X.env :: (assignEach es X.env).map (·.2) := by rfl) : PGs X (e :: es) (tWGs X.K vs (gTs (g :: gl))) := by
  refine pgs_mono (pgs_cons h k hst) fun v σ H Q q => ?_
  obtain ⟨He, Lc, os, p, gs, ρ, P, es, E, hv, hg, k⟩ := q
  cases hv with
  | nil => exact hg.elim
  | cons a t =>
    refine ⟨_, _, rfl, He, Lc, os, p, gs, ρ, _, _, E, a, hg, fun ρ' σ' hP E' hw => ?_⟩
    exact ⟨He, Lc, os, p, gs, ρ', _, _, E', t, hP, fun ρ2 σ2 hP2 E2 hw2 => k ρ2 σ2 hP2 E2 (hw2.trans hw)⟩
theorem dgt {es : List Expr} {kk : Nat} {pos : Pos} {gl : List WGt} (hc : X.calm = true) (h : PGs X es (tWGs X.K vs (gTs gl))) (hn : (assignEach es X.env).length = gl.length := by rfl) (hst : (assignEach es X.env).findIdx? (·.1) = none := by rfl) : PG X (.Tuple es kk pos) (tWG X.K vs (gT gl)) := by
  refine pg_mono (pg_tup hc h hn hst) fun v σ H Q q => ?_
  obtain ⟨He, Lc, os, p, gs, ρ, P, e, E, hv, hg, k⟩ := q
  unfold gT at hg
  split at hg
  · cases hv with
    | @tup a vs _ h1 h2 =>
      refine ⟨a, vs, rfl, SameR.sqt ctL_all h1, by rw [← DtAll.len h2]; exact hg.1, He, Lc, os, p, gs, ρ, P, _, E, ?_, hg.2, k⟩
      clear h1 hg
      have go : ∀ {vs : List V} {ds : List PyData}, DtAll X.K (ctL (Ls Lc os) H) vs ds → Paired (fun v e => Rv X.K p (ctL (Ls Lc os) H) v e) vs (ds.map .py) := by
        intro vs ds h
        induction h using DtAll.rec (motive_1 := fun _ _ _ => True) (motive_3 := fun _ _ _ => True) with
        | nil => exact .nil
        | cons a t _ ih => exact .cons a ih
        | _ => trivial
      exact go h2
  · exact hg.elim
end
/-! ### comprehensions -/
def wipeE (ρ : EnvD) : List Nat → EnvD
  | [] => ρ
  | v :: vs => (wipeE ρ vs).set v .no
def noOwn (ρ : EnvD) (vs : List Nat) : Prop := ∀ i ∈ vs, ∀ d, ρ[i]? ≠ some (.own d)
def wLcGo (g : WGt) (t : WT) (f : WF) (ρ : EnvD) : List EV → List PyData → (List PyData → Prop) → Prop
  | [], acc, P => P acc
  | x :: r, acc, P => g x ρ fun ρ' => t ρ' fun b => if b = true then f ρ' fun e => match e with
    | .py d => acc.length < sizeLine ∧ wLcGo g t f ρ r (acc ++ [d]) P
    | _ => False
    else wLcGo g t f ρ r acc P
def wLc (fi : WA) (g : WGt) (t : WT) (f : WF) (vs : List Nat) : WF := fun ρ P => noOwn ρ vs ∧ fi ρ fun xs => wLcGo g t f (wipeE ρ vs) xs [] fun ds => P (.py (.list ds))
theorem wipeE_length (ρ : EnvD) : ∀ vs, (wipeE ρ vs).length = ρ.length
  | [] => rfl
  | v :: vs => by unfold wipeE; rw [List.length_set, wipeE_length ρ vs]
theorem wipeE_get {ρ : EnvD} {i : Nat} {e : EV} : ∀ {vs : List Nat}, (wipeE ρ vs)[i]? = some e → e = .no ∨ (ρ[i]? = some e ∧ i ∉ vs)
  | [], h => .inr ⟨h, by simp⟩
  | v :: vs, h => by
    unfold wipeE at h
    by_cases hi : v = i
    · subst hi
      by_cases hl : v < (wipeE ρ vs).length
      · rw [List.getElem?_set_self hl] at h
        exact .inl (Option.some.inj h).symm
      · rw [List.getElem?_eq_none (by rw [List.length_set]; omega)] at h
        cases h
    · rw [List.getElem?_set_ne hi] at h
      rcases wipeE_get h with h | ⟨h, n⟩
      · exact .inl h
      · exact .inr ⟨h, fun m => (List.mem_cons.mp m).elim (fun e => hi e.symm) n⟩
theorem wipeE_out {ρ : EnvD} {i : Nat} : ∀ {vs : List Nat}, i ∉ vs → (wipeE ρ vs)[i]? = ρ[i]?
  | [], _ => rfl
  | v :: vs, h => by
    have h1 : v ≠ i := fun e => h (by rw [e]; exact List.mem_cons_self)
    have h2 : i ∉ vs := fun m => h (List.mem_cons_of_mem _ m)
    unfold wipeE
    rw [List.getElem?_set_ne h1]
    exact wipeE_out h2
open Classical in
/-- an entry heap that asks nothing -/
noncomputable def He0 (Lc : Addr → Prop) (H : Hp) : Hp := fun b => if Lc b then H b else none
theorem He0_yes {Lc : Addr → Prop} {H : Hp} {b : Addr} (h : Lc b) : He0 Lc H b = H b := if_pos h
theorem He0_no {Lc : Addr → Prop} {H : Hp} {b : Addr} (h : ¬ Lc b) : He0 Lc H b = none := if_neg h
theorem He0_stp {Lc : Addr → Prop} {p : Option Addr} {H : Hp} : Stp Lc p (He0 Lc H) H := by
  refine ⟨fun b o _ _ h => ?_, fun b h => ?_, fun b l _ => (He0_yes l).symm⟩
  · by_cases l : Lc b
    · rw [He0_yes l] at h
      exact ⟨o, h, .inl rfl⟩
    · rw [He0_no l] at h
      cases h
  · by_cases l : Lc b
    · rw [He0_yes l] at h
      exact h
    · rw [He0_no l] at h
      exact absurd rfl h
theorem He0_free {Lc : Addr → Prop} {p : Option Addr} {H : Hp} {b : Addr} (h : ¬ Lc b) : He0 Lc H b = none := He0_no h
section
variable {K : PySem.W.Frag} {He : Hp} {Lc : Addr → Prop} {os : Nat → Option Addr} {p : Option Addr} {gs : Gh} {H1 H2 : Hp} {σ : L2.St} {ρ : EnvD} {D : Addr}
/-- within a comprehension whose list is at D -/
theorem EnvOk.inner (E : EnvOk K He Lc os p gs H1 σ ρ) {vs : List Nat} (hno : noOwn ρ vs) (hD : H1 D = none) (s : Stp (Ls Lc os) p H1 H2) (o : LOk (Ls (Ins Lc D) os) p H2) (hnD : ∃ u, H2 D = some u) :
    EnvOk K (He0 (Ins Lc D) H2) (Ins Lc D) os p {} H2 (wipe σ vs) (wipeE ρ vs) := by
  have sr : SameR (ctL (Ls Lc os) H1) (ctL (Ls (Ins Lc D) os) H2) := fun b u h => by
    obtain ⟨n, h1, t⟩ := ctL_of h
    obtain ⟨u', h', k⟩ := s.keep b u (fun e => n (.inl (E.lok.str b e).1)) t h1
    refine ⟨u', ctL_at h' (fun l => ?_) (k.notbl t), k⟩
    rcases l with (l | l) | l
    · exact n (.inl l)
    · rw [l, hD] at h1
      cases h1
    · exact n (.inr l)
  have nD : ∀ i a, os i = some a → a ≠ D := fun i a h e => by
    obtain ⟨d, _, _, hw⟩ := E.own i a h
    rw [e] at hw
    rcases hw with ⟨_, _, _, h1, _⟩ | ⟨_, _, _, h1, _⟩ <;> rw [hD] at h1 <;> cases h1
  have np : ∀ i a, os i = some a → p ≠ some a := fun i a h e => (E.fre i a h).1 (E.lok.str a e).1
  refine ⟨by rw [wipe_length, wipeE_length]; exact E.len, fun i e h => ?_, fun i a h => ?_, E.inj, fun i a h => ⟨fun l => ?_, He0_free (p := p) fun l => ?_⟩, ⟨(fun _ h => nomatch h), (fun _ h => nomatch h)⟩, o.sub (fun b l => .inl l) fun q e => .inl (E.lok.str q e).1, He0_stp⟩
  · rcases wipeE_get h with rfl | ⟨h, n⟩
    · trivial
    · have z := E.val i e h
      cases e with
      | no => trivial
      | own d => exact z
      | py d =>
        obtain ⟨v, h1, h2⟩ := z
        exact ⟨v, by rw [wipe_out n]; exact h1, h2.sameR sr⟩
      | st =>
        obtain ⟨v, h1, h2⟩ := z
        exact ⟨v, by rw [wipe_out n]; exact h1, h2.sameR sr⟩
      | ob C fs =>
        obtain ⟨v, h1, h2⟩ := z
        exact ⟨v, by rw [wipe_out n]; exact h1, h2.sameR sr⟩
  · obtain ⟨d, h1, h2, h3⟩ := E.own i a h
    have n : i ∉ vs := fun hm => hno i hm d h1
    exact ⟨d, by rw [wipeE_out n]; exact h1, by rw [wipe_out n]; exact h2, h3.sameR sr (s.loose a (.inr ⟨i, h⟩) (np i a h))⟩
  · rcases l with l | l
    · exact (E.fre i a h).1 l
    · exact nD i a h l
  · rcases l with l | l
    · exact (E.fre i a h).1 l
    · exact nD i a h l
end
section
variable {X : Cx} {m : Mode}
theorem lc_read {K : PySem.W.Frag} {fi : WA} {g : WGt} {t : WT} {f : WF} {vs : List Nat} {σ : L2.St} {H : Hp} {Q : VK} (q : tW K m (wLc fi g t f vs) σ H Q) : tLc (tI K .read fi) (tWG K vs g) (tWT K t) (tW K .data f) vs σ H Q := by
  obtain ⟨He, Lc, os, p, gs, ρ, P, E, ⟨hno, hf⟩, k⟩ := q
  refine ⟨He, Lc, os, p, gs, ρ, _, E, hf, fun xs gh J H1 hP s o hg hI => ?_⟩
  have E1 := E.step s o
  intro D hD
  have L' : Addr → Prop := Ls (Ins Lc D) os
  have nLD : ¬ Ls Lc os D := fun l => o.ne D l hD
  have npD : p ≠ some D := fun e => nLD (o.str D e).1
  have toL : ∀ b, Ls (Ins Lc D) os b → Ls Lc os b ∨ b = D := fun b l => by
    rcases l with (l | l) | l
    · exact .inl (.inl l)
    · exact .inr l
    · exact .inl (.inr l)
  have ofL : ∀ b, Ls Lc os b → Ls (Ins Lc D) os b := fun b l => by
    rcases l with l | l
    · exact .inl (.inl l)
    · exact .inr l
  have LD : Ls (Ins Lc D) os D := .inl (.inr rfl)
  refine ⟨fun i n H2 => n = xs.length - i ∧ i ≤ xs.length ∧ LOk (Ls (Ins Lc D) os) p H2 ∧ Stp (Ls Lc os) p H1 H2 ∧ GhR K p (Ls (Ins Lc D) os) H2 gh ∧ ∃ acc va, H2 D = some (.lst va) ∧ DtAll K (ctL (Ls (Ins Lc D) os) H2) va acc ∧ wLcGo g t f (wipeE ρ vs) (xs.drop i) acc fun ds => P (.py (.list ds)), ⟨xs.length, rfl, Nat.zero_le _, ?_, Stp.new o.ne hD, ?_, [], [], upd_same, .nil, hP⟩, ?_⟩
  · refine ⟨fun b l => ?_, fun q e => ⟨ofL q (o.str q e).1, (o.str q e).2.same (smu hD)⟩⟩
    rcases toL b l with l | rfl
    · obtain ⟨u, h1, h2⟩ := o.live b l
      exact ⟨u, smu hD b u h1, h2⟩
    · exact ⟨_, upd_same, .lst⟩
  · refine (hg.r o).mono (fun b u h => ?_) fun z hz e => smu hD _ _ e
    obtain ⟨n, h1, tt⟩ := ctL_of h
    refine ⟨u, ctL_at (smu hD b u h1) (fun l => ?_) tt, .inl rfl⟩
    rcases toL b l with l | rfl
    · exact n l
    · rw [hD] at h1
      cases h1
  · rintro i n H2 ⟨rfl, hi, o2, s2, g2, acc, va, hL, hA, hgo⟩
    by_cases hlt : i < xs.length
    · refine .inr ⟨hI.go _ _ i o2 g2 hlt, fun H' => ∃ n', n' < xs.length - i ∧ (n' = xs.length - (i + 1) ∧ i + 1 ≤ xs.length ∧ LOk (Ls (Ins Lc D) os) p H' ∧ Stp (Ls Lc os) p H1 H' ∧ GhR K p (Ls (Ins Lc D) os) H' gh ∧ ∃ acc va, H' D = some (.lst va) ∧ DtAll K (ctL (Ls (Ins Lc D) os) H') va acc ∧ wLcGo g t f (wipeE ρ vs) (xs.drop (i + 1)) acc fun ds => P (.py (.list ds))), fun H' h => h, fun x H3 hy => ?_⟩
      obtain ⟨sm, e, he, hv⟩ := hI.yld _ _ i x H3 o2 g2 hlt hy
      have s3 : Stp (Ls (Ins Lc D) os) p H2 H3 := Stp.same sm o2.ne
      have o3 := o2.same sm
      have hdrop : xs.drop i = e :: xs.drop (i + 1) := by
        obtain ⟨h1, rfl⟩ := List.getElem?_eq_some_iff.mp he
        exact List.drop_eq_getElem_cons h1
      rw [hdrop] at hgo
      have s13 : Stp (Ls Lc os) p H1 H3 := s2.trans (s3.sub ofL)
      have Ei := E1.inner hno hD s13 o3 ⟨_, sm _ _ hL⟩
      refine ⟨_, _, _, _, _, _, _, _, Ei, hv, hgo, fun ρ' σ' hP' E' hw => ⟨hw.trans wipe_wipe, ?_⟩⟩
      refine ⟨_, _, _, _, _, _, _, E', hP', fun b H4 hb s4 o4 => ?_⟩
      have s14 : Stp (Ls Lc os) p H1 H4 := s13.trans (s4.sub ofL)
      have s24 := s3.trans s4
      cases b with
      | false =>
        exact ⟨xs.length - (i + 1), by omega, rfl, hlt, o4, s14, (g2.step o2 s24), acc, va, (s24.loose D LD npD).trans hL, Dt.sameRAll (s24.ct o2) _ _ hA, hb⟩
      | true =>
        refine ⟨_, _, _, _, _, _, _, E'.step s4 o4, hb, fun e2 H5 v he2 s5 o5 r5 => ?_⟩
        split at he2
        · rename_i d
          obtain ⟨hsz, hgo'⟩ := he2
          have s25 := s24.trans s5
          have hL5 := (s25.loose D LD npD).trans hL
          have lA := DtAll.len hA
          refine ⟨va, hL5, by omega, xs.length - (i + 1), by omega, rfl, hlt, ?_, ?_, ?_, acc ++ [d], va ++ [v], upd_same, ?_, hgo'⟩
          · refine ⟨fun b l => ?_, fun q e => ⟨(o5.str q e).1, ?_⟩⟩
            · by_cases eb : b = D
              · subst eb
                exact ⟨_, upd_same, .lst⟩
              · rw [upd_ne eb]
                exact o5.live b l
            · have := (o5.str q e).2
              exact this.keep fun u hu => by rw [upd_ne (fun z => npD (by rw [← z]; exact e))]; exact hu
          · have s15 := s14.trans (s5.sub ofL)
            refine ⟨fun b u n tt h => ?_, fun b h => ?_, fun b l n => ?_⟩
            · have nb : b ≠ D := fun e => by rw [e, hD] at h; cases h
              rw [upd_ne nb]
              exact s15.keep b u n tt h
            · have nb : b ≠ D := fun e => by rw [e, hD] at h; exact h rfl
              rw [upd_ne nb]
              exact s15.live b h
            · have nb : b ≠ D := fun e => nLD (by rw [← e]; exact l)
              rw [upd_ne nb]
              exact s15.loose b l n
          · refine (g2.step o2 s25).mono (fun b u h => ?_) fun z hz e => ?_
            · obtain ⟨n, h1, tt⟩ := ctL_of h
              exact ⟨u, ctL_at (by rw [upd_ne (fun z => n (by rw [z]; exact LD))]; exact h1) n tt, .inl rfl⟩
            · have z1 := g2.1 z hz
              by_cases ez : z.1 = D
              · have q := hg.r o
                obtain ⟨_, q1, _⟩ := q.1 z hz
                rw [ez, hD] at q1
                cases q1
              · rw [upd_ne ez]
                exact e
          · have sr : SameR (ctL (Ls (Ins Lc D) os) H5) (ctL (Ls (Ins Lc D) os) (upd H5 D (.lst (va ++ [v])))) := fun b u h => by
              obtain ⟨n, h1, tt⟩ := ctL_of h
              exact ⟨u, ctL_at (by rw [upd_ne (fun z => n (by rw [z]; exact LD))]; exact h1) n tt, .inl rfl⟩
            exact dts_append (Dt.sameRAll sr _ _ (Dt.sameRAll (s25.ct o2) _ _ hA)) (.cons (Dt.sameR sr _ _ r5) .nil)
        · exact he2.elim
    · have ei : i = xs.length := by omega
      subst ei
      refine .inl ⟨hI.stop _ _ o2 g2, ?_⟩
      rw [List.drop_length] at hgo
      refine k _ H2 (.ref D) hgo (s.trans s2) (o2.sub ofL fun q e => (o.str q e).1) (Res.base (H1 := H1) (Res.of_fresh (p := p) o hD (.inl ⟨va, acc, rfl, hL, Dt.sameRAll (ctL_sub fun b l => ?_) _ _ hA⟩)) s)
      rcases l with l | rfl
      · exact ofL b l
      · exact LD
/-- [e for x in xs if t] -/
theorem dlc {elt tg iter : Expr} {ifs : List Expr} {scope : Scope} {pos : Pos} {fi : WA} {g : WGt} {t : WT} {f : WF} (own : List (Str × Nat)) (hc : X.calm = true) (hN : X.N.Nodup) (hi : PI X tg iter (tI X.K .read fi)) (ok : BlkOk X.N X.env.scope scope own)
    (hg : ∀ (s : Shared) (H : Hp) (C : Addr) (cl : List (Str × Addr)) (fp : List Addr), PG (X.blk s H scope (compEnvC scope cl C X.env) fp) tg (tWG X.K (own.map (·.2)) g)) (ht : ∀ (s : Shared) (H : Hp) (C : Addr) (cl : List (Str × Addr)) (fp : List Addr), PTs (X.blk s H scope (compEnvC scope cl C X.env) fp) ifs (tWT X.K t))
    (he : ∀ (s : Shared) (H : Hp) (C : Addr) (cl : List (Str × Addr)) (fp : List Addr), PE (X.blk s H scope (compEnvC scope cl C X.env) fp) elt (tW X.K .data f)) (hs : ∀ x, foldedSetIterable iter X.env x = pure x := by intro _; rfl) :
    PE X (.ListComp elt [⟨tg, iter, ifs, 0⟩] scope pos) (tW X.K m (wLc fi g t f (own.map (·.2)))) :=
  pe_mono (pe_lc (own := own) hc hN hi ok hg ht he hs) fun σ H Q q => lc_read q
def wYes : WT := fun _ P => P true
theorem dts_nil : PTs X [] (tWT X.K wYes) := ⟨fun pins s σ H Q I q => by
  obtain ⟨He, Lc, os, p, gs, ρ, P, E, hf, k⟩ := q
  exact pts_nil.run pins s σ H Q I (k true H hf Stp.refl E.lokL)⟩
theorem dts_one {c : Expr} {t : WT} (h : PT X c (tWT X.K t)) : PTs X [c] (tWT X.K t) := pts_one h
end
end Dw

/-! list.extend(a tuple). -/
namespace Et
open PySem PySem.Spec PySem.Calls PyProof.Rows L2
theorem ext_tup (l : Addr) (items : Array Value) (n : Nat) (b : Addr) (items2 : Array Value) (n2 : Nat) (dd : Option Addr) (sl : Array (Option Value)) (hs0 : ¬(!items.isEmpty && Builtin.List.listTooLong (items.size + items2.size)) = true) (hs1 : items.size ≤ sizeLine) (hs2 : items.size + items2.size ≤ sizeLine + 1) :
    Meets (Builtin.«list.extend» ⟨[.ref l, .ref b], []⟩) (fun _ R s => s.heap.get? l = some { cls := .type "list", dict := none, data := .seq items n, slots := #[] } ∧ s.heap.get? b = some { cls := .type "tuple", dict := dd, data := .seq items2 n2, slots := sl } ∧ R (.ok (.ret Value.none)) { s with heap := s.heap.update l (Obj.mapSeq fun x => x ++ items2), toks := s.toks }) :=
  .of_wp fun prog w A R s h => by
    cases s
    obtain ⟨hl, hb, hR⟩ := h
    have tupleIsTuple := AutoSeq1.sub_tuple_tuple
    have tupleIsNoList := AutoSeq1.sub_tuple_list
    have grown : (items ++ items2).size ≤ sizeLine + 1 := Array.size_append ▸ hs2
    wp_walk using (wpAny_updateSeq hl rfl (hz := hs1) (_hz' := grown)), AutoSeq1.wpAny_loadPart' hl, AutoSeq1.wpAny_loadPart' hb
    exact ⟨_, rfl, hR⟩
def rExtendT (K : PySem.W.Frag) : V → List V → Hp → VK → Prop := fun x vs H Q => ∃ l b xs zs, x = .ref l ∧ vs = [.ref b] ∧ H l = some (.lst xs) ∧ SqT K H b zs ∧ xs.length + zs.length ≤ sizeLine ∧ Q .non (upd H l (.lst (xs ++ zs)))
theorem mt_extendT {X : Cx} : MtM X "list.extend" (rExtendT X.K) := by
  intro pins s σ H x vs v us Q I rx rv h
  obtain ⟨l, b, xs, zs, rfl, rfl, hH, hB, hz, q⟩ := h
  cases rx
  obtain ⟨u, rfl, ru⟩ := rv.one
  cases ru
  obtain ⟨z, its, n, r, hl, e⟩ := I.lstM hH
  obtain ⟨its2, r2, ⟨o2, ho2, hc2, n2, hd2⟩, hl2⟩ := I.tuple hB
  have hn2 := r2.length
  have hsz : its.toArray.size + its2.toArray.size ≤ sizeLine := by rw [List.size_toArray, List.size_toArray]; omega
  have hlong : ¬ (!its.toArray.isEmpty && Builtin.List.listTooLong (its.toArray.size + its2.toArray.size)) = true := by
    rw [notLongL hsz, Bool.and_false]
    exact Bool.false_ne_true
  obtain ⟨oc, od, dt, sl⟩ := o2
  dsimp only at hc2 hd2
  subst hc2 hd2
  refine call_meets F.slot_list_extend ⟨_, e, rfl⟩ F.entry_list_extend (F.args_list_extend_2 _ _)
    (ext_tup l its.toArray n b its2.toArray n2 od sl hlong (by rw [List.size_toArray]; omega) (by omega)) ⟨e, ho2, ?_⟩
  refine ⟨.non, _, I.lset (its' := its ++ its2) hH e (by simp) (r.append r2) ?_, rfl, q⟩
  rw [List.length_append]
  omega
end Et

/-! Data ways: statements, defs. -/
namespace Dw
open PySem PySem.Spec PySem.W PyProof.Rows L2 Dr Rp
open He (ga)
structure WK where
  nx : EnvD → Prop
  rt : EV → Prop
  bk : EnvD → Prop := fun _ => False
  ct : EnvD → Prop := fun _ => False
abbrev WS := EnvD → WK → Prop
def tWS (K : PySem.W.Frag) (mr : Mode) (f : WS) : TS := fun D σ H => ∃ He Lc os p gs ρ k, EnvOk K He Lc os p gs H σ ρ ∧ f ρ k ∧
  (∀ ρ' os' H' σ', k.nx ρ' → EnvOk K He Lc os' p gs H' σ' ρ' → D.nx σ' H') ∧ (∀ ρ' os' H' σ', k.bk ρ' → EnvOk K He Lc os' p gs H' σ' ρ' → D.bk σ' H') ∧ (∀ ρ' os' H' σ', k.ct ρ' → EnvOk K He Lc os' p gs H' σ' ρ' → D.ct σ' H') ∧
  (∀ e v H', k.rt e → Stp Lc p He H' → LOk Lc p H' → Res K mr Lc p He H' v e → D.rt v H')
theorem ps_mono {X : Cx} {e : Stmt} {t t' : TS} (h : PS X e t) (k : ∀ D σ H, t' D σ H → t D σ H) : PS X e t' := ⟨fun pins s σ H D I q => h.run pins s σ H D I (k D σ H q)⟩
theorem pss_mono {X : Cx} {e : List Stmt} {t t' : TS} (h : PSs X e t) (k : ∀ D σ H, t' D σ H → t D σ H) : PSs X e t' := ⟨fun pins s σ H D I q => h.run pins s σ H D I (k D σ H q)⟩
section
variable {K : PySem.W.Frag} {He : Hp} {Lc : Addr → Prop} {os : Nat → Option Addr} {p : Option Addr} {gs : Gh} {H H' : Hp} {σ : L2.St} {ρ : EnvD}
def dropO (os : Nat → Option Addr) (i : Nat) : Nat → Option Addr := fun j => if j = i then none else os j
theorem dropO_some {i j : Nat} {a : Addr} (h : dropO os i j = some a) : j ≠ i ∧ os j = some a := by
  unfold dropO at h
  by_cases e : j = i
  · rw [if_pos e] at h
    cases h
  · rw [if_neg e] at h
    exact ⟨e, h⟩
theorem dropO_sub {i : Nat} : ∀ b, Ls Lc (dropO os i) b → Ls Lc os b := fun b l => by
  rcases l with l | ⟨j, h⟩
  · exact .inl l
  · exact .inr ⟨j, (dropO_some h).2⟩
/-- what a name alone held is let go -/
theorem EnvOk.drop (E : EnvOk K He Lc os p gs H σ ρ) (i : Nat) : EnvOk K He Lc (dropO os i) p gs H σ (ρ.set i .no) := by
  have sr : SameR (ctL (Ls Lc os) H) (ctL (Ls Lc (dropO os i)) H) := ctL_sub dropO_sub
  refine ⟨by rw [List.length_set]; exact E.len, fun j u h => ?_, fun j a h => ?_, fun j l a h1 h2 => E.inj j l a (dropO_some h1).2 (dropO_some h2).2, fun j a h => E.fre j a (dropO_some h).2, E.gho.sameR sr, E.lok, E.stp⟩
  · by_cases hj : i = j
    · subst hj
      by_cases hl : i < ρ.length
      · rw [List.getElem?_set_self hl] at h
        cases h
        trivial
      · rw [List.getElem?_eq_none (by rw [List.length_set]; omega)] at h
        cases h
    · rw [List.getElem?_set_ne hj] at h
      have z := E.val j u h
      cases u with
      | no => trivial
      | own d =>
        obtain ⟨a, ha⟩ := z
        exact ⟨a, by unfold dropO; rw [if_neg (Ne.symm hj)]; exact ha⟩
      | py d =>
        obtain ⟨v, h1, h2⟩ := z
        exact ⟨v, h1, h2.sameR sr⟩
      | st =>
        obtain ⟨v, h1, h2⟩ := z
        exact ⟨v, h1, h2.sameR sr⟩
      | ob C fs =>
        obtain ⟨v, h1, h2⟩ := z
        exact ⟨v, h1, h2.sameR sr⟩
  · obtain ⟨hj, h⟩ := dropO_some h
    obtain ⟨d, h1, h2, h3⟩ := E.own j a h
    exact ⟨d, by rw [List.getElem?_set_ne (Ne.symm hj)]; exact h1, h2, h3.sameR sr rfl⟩
/-- a name takes a value, whatever it held -/
theorem EnvOk.put (E : EnvOk K He Lc os p gs H σ ρ) {i : Nat} {v : V} {e : EV} (hi : i < ρ.length) (r : Rv K p (ctL (Ls Lc os) H) v e) : EnvOk K He Lc (dropO os i) p gs H (σ.set i (some v)) (ρ.set i e) := by
  have E2 := (E.drop i).set (i := i) (v := v) (e := e) (by rw [List.length_set]; exact hi) (by unfold dropO; rw [if_pos rfl]) (r.sameR (ctL_sub dropO_sub))
  rw [List.set_set] at E2
  exact E2
def putO (os : Nat → Option Addr) (i : Nat) (a : Addr) : Nat → Option Addr := fun j => if j = i then some a else os j
/-- a name takes a new list or dict -/
theorem EnvOk.putOwn (E : EnvOk K He Lc os p gs H σ ρ) {i : Nat} {a : Addr} {d : PyData} (hi : i < ρ.length) (h0 : ∃ H0, H0 a = none ∧ EnvOk K He Lc os p gs H0 σ ρ) (r : OwnAt K (ctL (Ins (Ls Lc os) a) H) H a d) (sr0 : ∀ H0, H0 a = none → EnvOk K He Lc os p gs H0 σ ρ → Stp (Ls Lc os) p H0 H) :
    EnvOk K He Lc (putO os i a) p gs H (σ.set i (some (.ref a))) (ρ.set i (.own d)) := by
  obtain ⟨H0, hn, E0⟩ := h0
  have st := sr0 H0 hn E0
  have nL : ¬ Ls Lc os a := fun l => E0.lokL.ne a l hn
  have hput : ∀ {j b}, putO os i a j = some b → (j = i ∧ b = a) ∨ (j ≠ i ∧ os j = some b) := fun {j b} h => by
    unfold putO at h
    by_cases e : j = i
    · rw [if_pos e] at h
      exact .inl ⟨e, (Option.some.inj h).symm⟩
    · rw [if_neg e] at h
      exact .inr ⟨e, h⟩
  have sub : ∀ b, Ls Lc (putO os i a) b → Ins (Ls Lc os) a b := fun b l => by
    rcases l with l | ⟨j, h⟩
    · exact .inl (.inl l)
    · rcases hput h with ⟨_, e⟩ | ⟨_, h⟩
      · exact .inr e
      · exact .inl (.inr ⟨j, h⟩)
  have sr : SameR (ctL (Ls Lc os) H0) (ctL (Ls Lc (putO os i a)) H) := fun b u h => by
    obtain ⟨n, h1, t⟩ := ctL_of h
    obtain ⟨u', h', k⟩ := st.keep b u (fun e => n (E0.lokL.str b e).1) t h1
    refine ⟨u', ctL_at h' (fun l => ?_) (k.notbl t), k⟩
    rcases sub b l with l | e
    · exact n l
    · rw [e, hn] at h1
      cases h1
  refine ⟨by rw [List.length_set, List.length_set]; exact E.len, fun j u h => ?_, fun j b h => ?_, fun j l b h1 h2 => ?_, fun j b h => ?_, E0.gho.sameR sr, E.lok, E.stp⟩
  · by_cases hj : i = j
    · subst hj
      rw [List.getElem?_set_self hi] at h
      cases h
      exact ⟨a, by unfold putO; rw [if_pos rfl]⟩
    · rw [List.getElem?_set_ne hj] at h
      have z := E0.val j u h
      cases u with
      | no => trivial
      | own d =>
        obtain ⟨b, hb⟩ := z
        exact ⟨b, by unfold putO; rw [if_neg (Ne.symm hj)]; exact hb⟩
      | py d =>
        obtain ⟨v, h1, h2⟩ := z
        exact ⟨v, by rw [List.getElem?_set_ne hj]; exact h1, h2.sameR sr⟩
      | st =>
        obtain ⟨v, h1, h2⟩ := z
        exact ⟨v, by rw [List.getElem?_set_ne hj]; exact h1, h2.sameR sr⟩
      | ob C fs =>
        obtain ⟨v, h1, h2⟩ := z
        exact ⟨v, by rw [List.getElem?_set_ne hj]; exact h1, h2.sameR sr⟩
  · rcases hput h with ⟨rfl, rfl⟩ | ⟨hj, h⟩
    · exact ⟨d, List.getElem?_set_self hi, List.getElem?_set_self (by rw [E.len]; exact hi), r.sameR (ctL_sub sub) rfl⟩
    · obtain ⟨d', h1, h2, h3⟩ := E0.own j b h
      have np : p ≠ some b := fun e => (E.fre j b h).1 (E.lok.str b e).1
      exact ⟨d', by rw [List.getElem?_set_ne (Ne.symm hj)]; exact h1, by rw [List.getElem?_set_ne (Ne.symm hj)]; exact h2, h3.sameR sr (st.loose b (.inr ⟨j, h⟩) np)⟩
  · rcases hput h1 with ⟨rfl, rfl⟩ | ⟨hj, q1⟩ <;> rcases hput h2 with ⟨rfl, e⟩ | ⟨hl, q2⟩
    · rfl
    · exact absurd (.inr ⟨l, q2⟩) nL
    · subst e
      exact absurd (.inr ⟨j, q1⟩) nL
    · exact E.inj j l b q1 q2
  · rcases hput h with ⟨rfl, rfl⟩ | ⟨hj, h⟩
    · exact ⟨fun l => nL (.inl l), E0.stp.free hn⟩
    · exact E.fre j b h
/-- a list or dict of a name is changed -/
theorem EnvOk.change (E : EnvOk K He Lc os p gs H σ ρ) {i : Nat} {a : Addr} {d : PyData} {o : HO} (h : os i = some a) (r : OwnAt K (ctL (Ls Lc os) H) (upd H a o) a d) (nt : NT o) : EnvOk K He Lc os p gs (upd H a o) σ (ρ.set i (.own d)) := by
  have La : Ls Lc os a := .inr ⟨i, h⟩
  have np : p ≠ some a := fun e => (E.fre i a h).1 (E.lok.str a e).1
  have hc : ∀ b u, ctL (Ls Lc os) H b = some u → ctL (Ls Lc os) (upd H a o) b = some u := fun b u e => by
    obtain ⟨n, h1, t⟩ := ctL_of e
    exact ctL_at (by rw [upd_ne (fun z => n (by rw [z]; exact La))]; exact h1) n t
  have sr : SameR (ctL (Ls Lc os) H) (ctL (Ls Lc os) (upd H a o)) := fun b u e => ⟨u, hc b u e, .inl rfl⟩
  obtain ⟨d0, hρ, hσ, _⟩ := E.own i a h
  have hi : i < ρ.length := (List.getElem?_eq_some_iff.mp hρ).1
  have ha : H a ≠ none := E.lokL.ne a La
  refine ⟨by rw [List.length_set]; exact E.len, fun j u hu => ?_, fun j b hb => ?_, E.inj, E.fre, E.gho.sameR sr, ⟨fun b l => ?_, fun q e => ⟨(E.lok.str q e).1, (E.lok.str q e).2.keep fun u hu => by rw [upd_ne (fun z => np (by rw [← z]; exact e))]; exact hu⟩⟩, ⟨fun b u n t hu => ?_, fun b hb => ?_, fun b l n => ?_⟩⟩
  · by_cases hj : i = j
    · subst hj
      rw [List.getElem?_set_self hi] at hu
      cases hu
      exact ⟨a, h⟩
    · rw [List.getElem?_set_ne hj] at hu
      have z := E.val j u hu
      cases u with
      | no => trivial
      | own d => exact z
      | py d =>
        obtain ⟨v, h1, h2⟩ := z
        exact ⟨v, h1, h2.sameR sr⟩
      | st =>
        obtain ⟨v, h1, h2⟩ := z
        exact ⟨v, h1, h2.sameR sr⟩
      | ob C fs =>
        obtain ⟨v, h1, h2⟩ := z
        exact ⟨v, h1, h2.sameR sr⟩
  · by_cases hj : i = j
    · subst hj
      rw [h] at hb
      cases hb
      exact ⟨d, List.getElem?_set_self hi, hσ, r.sameR sr rfl⟩
    · obtain ⟨d', h1, h2, h3⟩ := E.own j b hb
      have nb : b ≠ a := fun e => hj (E.inj i j a h (e ▸ hb))
      exact ⟨d', by rw [List.getElem?_set_ne hj]; exact h1, h2, h3.sameR sr (upd_ne nb)⟩
  · by_cases e : b = a
    · subst e
      exact ⟨o, upd_same, nt⟩
    · rw [upd_ne e]
      exact E.lok.live b l
  · have nb : b ≠ a := fun e => by rw [e, (E.fre i a h).2] at hu; cases hu
    rw [upd_ne nb]
    exact E.stp.keep b u n t hu
  · by_cases e : b = a
    · subst e
      rw [upd_same]
      simp
    · rw [upd_ne e]
      exact E.stp.live b hb
  · have nb : b ≠ a := fun e => (E.fre i a h).1 (by rw [← e]; exact l)
    rw [upd_ne nb]
    exact E.stp.loose b l n
end
end Dw

/-! Data ways: statements. -/
namespace Dw
open PySem PySem.Spec PySem.W PyProof.Rows L2 Dr Rp
open He (ga)
section
variable {X : Cx} {m mr : Mode}
def wSeq (f g : WS) : WS := fun ρ k => f ρ { k with nx := fun ρ' => g ρ' k }
def wNext : WS := fun ρ k => k.nx ρ
theorem dss_nil : PSs X [] (tWS X.K mr wNext) := by
  refine pss_mono pss_nil fun D σ H q => ?_
  obtain ⟨He, Lc, os, p, gs, ρ, k, E, hf, k1, _⟩ := q
  exact k1 ρ os H σ hf E
theorem dss_one {st : Stmt} {f : WS} (h : PS X st (tWS X.K mr f)) : PSs X [st] (tWS X.K mr f) := pss_one h
theorem dss_cons {st : Stmt} {rest : List Stmt} {f g : WS} (h : PS X st (tWS X.K mr f)) (k : PSs X rest (tWS X.K mr g)) : PSs X (st :: rest) (tWS X.K mr (wSeq f g)) := by
  refine pss_mono (pss_cons h k) fun D σ H q => ?_
  obtain ⟨He, Lc, os, p, gs, ρ, k, E, hf, k1, k2, k3, k4⟩ := q
  exact ⟨He, Lc, os, p, gs, ρ, _, E, hf, fun ρ' os' H' σ' hk E' => ⟨He, Lc, os', p, gs, ρ', k, E', hk, k1, k2, k3, k4⟩, k2, k3, k4⟩
theorem ds_pass {pos : Pos} : PS X (.Pass pos) (tWS X.K mr wNext) := by
  refine ps_mono ps_pass fun D σ H q => ?_
  obtain ⟨He, Lc, os, p, gs, ρ, k, E, hf, k1, _⟩ := q
  exact k1 ρ os H σ hf E
def wBreak : WS := fun ρ k => k.bk ρ
def wCont : WS := fun ρ k => k.ct ρ
theorem ds_break {pos : Pos} : PS X (.Break pos) (tWS X.K mr wBreak) := by
  refine ps_mono ps_break fun D σ H q => ?_
  obtain ⟨He, Lc, os, p, gs, ρ, k, E, hf, k1, k2, _⟩ := q
  exact k2 ρ os H σ hf E
theorem ds_cont {pos : Pos} : PS X (.Continue pos) (tWS X.K mr wCont) := by
  refine ps_mono ps_continue fun D σ H q => ?_
  obtain ⟨He, Lc, os, p, gs, ρ, k, E, hf, k1, k2, k3, _⟩ := q
  exact k3 ρ os H σ hf E
/-- a statement that is never reached -/
def wNever : WS := fun _ _ => False
theorem ds_never {st : Stmt} : PS X st (tWS X.K mr wNever) := ⟨fun _ _ _ _ _ _ q => by
  obtain ⟨He, Lc, os, p, gs, ρ, k, E, hf, _⟩ := q
  exact hf.elim⟩
def wSet (i : Nat) (f : WF) : WS := fun ρ k => i < ρ.length ∧ f ρ fun e => k.nx (ρ.set i e)
theorem rv_ne {K : PySem.W.Frag} {p : Option Addr} {G : Hp} {v : V} {e : EV} (h : Rv K p G v e) : ∀ d, e ≠ .own d := fun d z => by
  subst z
  exact h
theorem set_read {K : PySem.W.Frag} {i : Nat} {f : WF} {D : Ends} {σ : L2.St} {H : Hp} (q : tWS K mr (wSet i f) D σ H) : tAsg (tW K .data f) (gName i) D σ H := by
  obtain ⟨He, Lc, os, p, gs, ρ, k, E, ⟨hi, hf⟩, k1, _⟩ := q
  refine ⟨He, Lc, os, p, gs, ρ, _, E, hf, fun e H1 v he s o r => ?_⟩
  exact k1 _ _ _ _ he ((E.step s o).put hi r)
theorem ds_set (i : Nat) {x : Str} {e : Expr} {f : WF} {pos pos' : Pos} (hN : X.N.Nodup) (hi : X.N[i]? = some x) (hx : Loc X.env.scope x) (he : PE X e (tW X.K .data f)) (hs : swapsWith e (some (.Name x pos')) pos.line X.env = pure false := by rfl) (hf : X.fn x = true ∨ X.env.scope.names.lookup x = some .local := by first | exact .inl rfl | exact .inr rfl | assumption) :
    PS X (.Assign [.Name x pos'] e pos) (tWS X.K mr (wSet i f)) := ps_mono (ps_set hN hi hx he hs hf) fun D σ H q => set_read q
def wOwn (i : Nat) (f : WF) : WS := fun ρ k => i < ρ.length ∧ f ρ fun e => match e with
  | .py d => k.nx (ρ.set i (.own d))
  | _ => False
theorem own_read {K : PySem.W.Frag} {i : Nat} {f : WF} {D : Ends} {σ : L2.St} {H : Hp} (q : tWS K mr (wOwn i f) D σ H) : tAsg (tW K .fresh f) (gName i) D σ H := by
  obtain ⟨He, Lc, os, p, gs, ρ, k, E, ⟨hi, hf⟩, k1, _⟩ := q
  refine ⟨He, Lc, os, p, gs, ρ, _, E, hf, fun e H1 v he s o r => ?_⟩
  obtain ⟨a, d, rfl, rfl, h0, hw⟩ := r
  have E1 := E.step s o
  have nL : ¬ Ls Lc os a := fun l => E.lokL.ne a l h0
  refine k1 _ (putO os i a) _ _ he ?_
  have hput : ∀ {j b}, putO os i a j = some b → (j = i ∧ b = a) ∨ (j ≠ i ∧ os j = some b) := fun {j b} h => by
    unfold putO at h
    by_cases e : j = i
    · rw [if_pos e] at h
      exact .inl ⟨e, (Option.some.inj h).symm⟩
    · rw [if_neg e] at h
      exact .inr ⟨e, h⟩
  have sub : ∀ b, Ls Lc (putO os i a) b → Ins (Ls Lc os) a b := fun b l => by
    rcases l with l | ⟨j, h⟩
    · exact .inl (.inl l)
    · rcases hput h with ⟨_, e⟩ | ⟨_, h⟩
      · exact .inr e
      · exact .inl (.inr ⟨j, h⟩)
  have sr : SameR (ctL (Ls Lc os) H) (ctL (Ls Lc (putO os i a)) H1) := fun b u h => by
    obtain ⟨n, h1, t⟩ := ctL_of h
    obtain ⟨u', h', k⟩ := s.keep b u (fun e => n (E.lokL.str b e).1) t h1
    refine ⟨u', ctL_at h' (fun l => ?_) (k.notbl t), k⟩
    rcases sub b l with l | e
    · exact n l
    · rw [e, h0] at h1
      cases h1
  refine ⟨by rw [List.length_set, List.length_set]; exact E.len, fun j u h => ?_, fun j b h => ?_, fun j l b h1 h2 => ?_, fun j b h => ?_, E.gho.sameR sr, E1.lok, E1.stp⟩
  · by_cases hj : i = j
    · subst hj
      rw [List.getElem?_set_self hi] at h
      cases h
      exact ⟨a, by unfold putO; rw [if_pos rfl]⟩
    · rw [List.getElem?_set_ne hj] at h
      have z := E.val j u h
      cases u with
      | no => trivial
      | own d =>
        obtain ⟨b, hb⟩ := z
        exact ⟨b, by unfold putO; rw [if_neg (Ne.symm hj)]; exact hb⟩
      | py d =>
        obtain ⟨v, h1, h2⟩ := z
        exact ⟨v, by rw [List.getElem?_set_ne hj]; exact h1, h2.sameR sr⟩
      | st =>
        obtain ⟨v, h1, h2⟩ := z
        exact ⟨v, by rw [List.getElem?_set_ne hj]; exact h1, h2.sameR sr⟩
      | ob C fs =>
        obtain ⟨v, h1, h2⟩ := z
        exact ⟨v, by rw [List.getElem?_set_ne hj]; exact h1, h2.sameR sr⟩
  · rcases hput h with ⟨rfl, rfl⟩ | ⟨hj, h⟩
    · exact ⟨d, List.getElem?_set_self hi, List.getElem?_set_self (by rw [E.len]; exact hi), hw.sameR (ctL_sub sub) rfl⟩
    · obtain ⟨d', h1, h2, h3⟩ := E.own j b h
      have np : p ≠ some b := fun e => (E.fre j b h).1 (E.lok.str b e).1
      exact ⟨d', by rw [List.getElem?_set_ne (Ne.symm hj)]; exact h1, by rw [List.getElem?_set_ne (Ne.symm hj)]; exact h2, h3.sameR sr (s.loose b (.inr ⟨j, h⟩) np)⟩
  · rcases hput h1 with ⟨rfl, rfl⟩ | ⟨hj, q1⟩ <;> rcases hput h2 with ⟨rfl, e⟩ | ⟨hl, q2⟩
    · rfl
    · exact absurd (.inr ⟨l, q2⟩) nL
    · subst e
      exact absurd (.inr ⟨j, q1⟩) nL
    · exact E.inj j l b q1 q2
  · rcases hput h with ⟨rfl, rfl⟩ | ⟨hj, h⟩
    · exact ⟨fun l => nL (.inl l), E.stp.free h0⟩
    · exact E.fre j b h
theorem ds_own (i : Nat) {x : Str} {e : Expr} {f : WF} {pos pos' : Pos} (hN : X.N.Nodup) (hi : X.N[i]? = some x) (hx : Loc X.env.scope x) (he : PE X e (tW X.K .fresh f)) (hs : swapsWith e (some (.Name x pos')) pos.line X.env = pure false := by rfl) (hf : X.fn x = true ∨ X.env.scope.names.lookup x = some .local := by first | exact .inl rfl | exact .inr rfl | assumption) :
    PS X (.Assign [.Name x pos'] e pos) (tWS X.K mr (wOwn i f)) := ps_mono (ps_set hN hi hx he hs hf) fun D σ H q => own_read q
/-- x = [..] -/
theorem ds_setLc (i : Nat) {y : Str} {py : Pos} {elt tg iter : Expr} {ifs : List Expr} {scope : Scope} {pos spos : Pos} {fi : WA} {g : WGt} {t : WT} {f : WF} (own : List (Str × Nat)) (hc : X.calm = true) (hN : X.N.Nodup) (hy : X.N[i]? = some y) (hyl : X.env.scope.names.lookup y = some .local)
    (hsw : swapsWith (.ListComp elt [⟨tg, iter, ifs, 0⟩] scope pos) (some (.Name y py)) spos.line X.env = pure true) (hi : PI X tg iter (tI X.K .read fi)) (ok : BlkOk X.N X.env.scope scope own)
    (hg : ∀ (s : Shared) (H : Hp) (C : Addr) (cl : List (Str × Addr)) (fp : List Addr), PG (X.blk s H scope (compEnvC scope cl C X.env) fp) tg (tWG X.K (own.map (·.2)) g)) (ht : ∀ (s : Shared) (H : Hp) (C : Addr) (cl : List (Str × Addr)) (fp : List Addr), PTs (X.blk s H scope (compEnvC scope cl C X.env) fp) ifs (tWT X.K t))
    (he : ∀ (s : Shared) (H : Hp) (C : Addr) (cl : List (Str × Addr)) (fp : List Addr), PE (X.blk s H scope (compEnvC scope cl C X.env) fp) elt (tW X.K .data f)) (hs : ∀ x, foldedSetIterable iter X.env x = pure x := by intro _; rfl) :
    PS X (.Assign [.Name y py] (.ListComp elt [⟨tg, iter, ifs, 0⟩] scope pos) spos) (tWS X.K mr (wSet i (wLc fi g t f (own.map (·.2))))) :=
  ps_mono (ps_setLc (own := own) hc hN hy hyl hsw hi ok hg ht he hs) fun D σ H q => by
    have z := set_read q
    exact lc_read (m := .data) z
theorem ds_ownLc (i : Nat) {y : Str} {py : Pos} {elt tg iter : Expr} {ifs : List Expr} {scope : Scope} {pos spos : Pos} {fi : WA} {g : WGt} {t : WT} {f : WF} (own : List (Str × Nat)) (hc : X.calm = true) (hN : X.N.Nodup) (hy : X.N[i]? = some y) (hyl : X.env.scope.names.lookup y = some .local)
    (hsw : swapsWith (.ListComp elt [⟨tg, iter, ifs, 0⟩] scope pos) (some (.Name y py)) spos.line X.env = pure true) (hi : PI X tg iter (tI X.K .read fi)) (ok : BlkOk X.N X.env.scope scope own)
    (hg : ∀ (s : Shared) (H : Hp) (C : Addr) (cl : List (Str × Addr)) (fp : List Addr), PG (X.blk s H scope (compEnvC scope cl C X.env) fp) tg (tWG X.K (own.map (·.2)) g)) (ht : ∀ (s : Shared) (H : Hp) (C : Addr) (cl : List (Str × Addr)) (fp : List Addr), PTs (X.blk s H scope (compEnvC scope cl C X.env) fp) ifs (tWT X.K t))
    (he : ∀ (s : Shared) (H : Hp) (C : Addr) (cl : List (Str × Addr)) (fp : List Addr), PE (X.blk s H scope (compEnvC scope cl C X.env) fp) elt (tW X.K .data f)) (hs : ∀ x, foldedSetIterable iter X.env x = pure x := by intro _; rfl) :
    PS X (.Assign [.Name y py] (.ListComp elt [⟨tg, iter, ifs, 0⟩] scope pos) spos) (tWS X.K mr (wOwn i (wLc fi g t f (own.map (·.2))))) :=
  ps_mono (ps_setLc (own := own) hc hN hy hyl hsw hi ok hg ht he hs) fun D σ H q => by
    have z := own_read q
    exact lc_read (m := .fresh) z
/-- a, b = .. and the like -/
def wAsgT (g : WGt) (f : WF) : WS := fun ρ k => f ρ fun e => g e ρ fun ρ' => k.nx ρ'
theorem ds_asgT {tg e : Expr} {f : WF} {g : WGt} {pos : Pos} (vs : List Nat) (he : PE X e (tW X.K .data f)) (hg : PG X tg (tWG X.K vs g)) (hs : swapsWithSole [tg] e pos.line X.env = pure false := by rfl) (hw : swappedStores [tg] e X.env = pure none := by rfl)
    (h1 : (assignEach [tg] X.env).map (·.2) = [assign tg X.env] := by rfl) : PS X (.Assign [tg] e pos) (tWS X.K mr (wAsgT g f)) := ps_mono (ps_asg he hg hs hw h1) fun D σ H q => by
  obtain ⟨He, Lc, os, p, gs, ρ, k, E, hf, k1, _⟩ := q
  refine ⟨He, Lc, os, p, gs, ρ, _, E, hf, fun e H1 v he s o r => ?_⟩
  exact ⟨He, Lc, os, p, gs, ρ, _, e, E.step s o, r, he, fun ρ' σ' hk E' _ => k1 _ _ _ _ hk E'⟩
def wIfS (t : WT) (f g : WS) : WS := fun ρ k => t ρ fun b => if b = true then f ρ k else g ρ k
theorem ds_if {c : Expr} {a b : List Stmt} {pos : Pos} {t : WT} {f g : WS} (hc : PT X c (tWT X.K t)) (ha : PSs X a (tWS X.K mr f)) (hb : PSs X b (tWS X.K mr g)) : PS X (.If c a b pos) (tWS X.K mr (wIfS t f g)) := by
  refine ps_mono (ps_if hc ha hb) fun D σ H q => ?_
  obtain ⟨He, Lc, os, p, gs, ρ, k, E, hf, kk⟩ := q
  refine ⟨He, Lc, os, p, gs, ρ, _, E, hf, fun b H1 hb s o => ?_⟩
  cases b with
  | true => exact ⟨He, Lc, os, p, gs, ρ, k, E.step s o, hb, kk⟩
  | false => exact ⟨He, Lc, os, p, gs, ρ, k, E.step s o, hb, kk⟩
theorem Res.out {K : PySem.W.Frag} {He : Hp} {Lc : Addr → Prop} {os : Nat → Option Addr} {p : Option Addr} {H H' : Hp} {v : V} {e : EV} (hm : m ≠ .read) (r : Res K m (Ls Lc os) p H H' v e) (s : Stp Lc p He H) : Res K m Lc p He H' v e := by
  cases m with
  | fresh =>
    obtain ⟨a, d, e1, e2, h0, hw⟩ := r
    refine ⟨a, d, e1, e2, s.free h0, hw.sameR (ctL_sub fun b l => ?_) rfl⟩
    rcases l with l | l
    · exact .inl (.inl l)
    · exact .inr l
  | data => exact Rv.sameR (ctL_sub fun b l => .inl l) r
  | read => exact absurd rfl hm
def wRet (f : WF) : WS := fun ρ k => f ρ k.rt
theorem ds_ret {e : Expr} {pos : Pos} {f : WF} (he : PE X e (tW X.K mr f)) (hm : mr ≠ .read := by decide) : PS X (.Return (some e) pos) (tWS X.K mr (wRet f)) := by
  refine ps_mono (ps_ret he) fun D σ H q => ?_
  obtain ⟨He, Lc, os, p, gs, ρ, k, E, hf, k1, k2, k3, k4⟩ := q
  refine ⟨He, Lc, os, p, gs, ρ, _, E, hf, fun e H1 v he s o r => ?_⟩
  have E1 := E.step s o
  exact k4 e v H1 he E1.stp E1.lok (r.out hm E.stp)
def wRetN : WS := fun _ k => k.rt (.py .none)
theorem ds_retN {pos : Pos} : PS X (.Return none pos) (tWS X.K .data wRetN) := by
  refine ps_mono ps_retN fun D σ H q => ?_
  obtain ⟨He, Lc, os, p, gs, ρ, k, E, hf, k1, k2, k3, k4⟩ := q
  exact k4 _ .non H hf E.stp E.lok .non
/-- return x, x a list of its own: handed out as new -/
def wRetO (i : Nat) : WS := fun ρ k => ∃ d, ρ[i]? = some (.own d) ∧ k.rt (.py d)
theorem ds_retO (i : Nat) {x : Str} {pos pos' : Pos} (hm : mr ≠ .read := by decide) (hN : X.N[i]? = some x := by rfl) (hv : Vis X.env.scope x := by first | exact Or.inl rfl | exact Or.inr (Or.inl rfl) | exact Or.inr (Or.inr rfl)) (hd : (x == ("__debug__" : Str)) = false := by decide)
    (hcd : (x == ("__classdict__" : Str)) = false := by decide) : PS X (.Return (some (.Name x pos')) pos) (tWS X.K mr (wRetO i)) := by
  refine ps_mono (ps_ret (pe_var hN hv hd hcd)) fun D σ H q => ?_
  obtain ⟨He, Lc, os, p, gs, ρ, k, E, ⟨d, hd, hf⟩, k1, k2, k3, k4⟩ := q
  obtain ⟨a, ha⟩ := E.val i _ hd
  obtain ⟨d', h1, h2, h3⟩ := E.own i a ha
  rw [hd] at h1
  cases h1
  refine ⟨.ref a, h2, k4 _ _ H hf E.stp E.lok ?_⟩
  have hw : OwnAt X.K (ctL (Ins Lc a) H) H a d := h3.sameR (ctL_sub fun b l => by
    rcases l with l | rfl
    · exact .inl l
    · exact .inr ⟨i, ha⟩) rfl
  have nl : ∀ o, H a = some o → (∀ ps, o ≠ .tbl ps) → ctL Lc H a = some o := fun o ho t => ctL_at ho (E.fre i a ha).1 t
  cases mr with
  | fresh => exact ⟨a, d, rfl, rfl, (E.fre i a ha).2, hw⟩
  | data => exact hw.dt (ctL_sub fun b l => .inl l) nl
  | read => exact absurd rfl hm
/-- a ghost: what a name alone held is data from here on -/
def wFrz (i : Nat) (f : WS) : WS := fun ρ k => match ρ[i]? with
  | some (.own d) => f (ρ.set i (.py d)) k
  | _ => f ρ k
theorem EnvOk.frz {K : PySem.W.Frag} {He : Hp} {Lc : Addr → Prop} {os : Nat → Option Addr} {p : Option Addr} {gs : Gh} {H : Hp} {σ : L2.St} {ρ : EnvD} (E : EnvOk K He Lc os p gs H σ ρ) {i : Nat} {d : PyData} (h : ρ[i]? = some (.own d)) : EnvOk K He Lc (dropO os i) p gs H σ (ρ.set i (.py d)) := by
  obtain ⟨a, ha⟩ := E.val i _ h
  obtain ⟨d', h1, h2, h3⟩ := E.own i a ha
  rw [h] at h1
  cases h1
  have hi := (List.getElem?_eq_some_iff.mp h).1
  have hσ : σ.set i (some (.ref a)) = σ := by
    apply List.ext_getElem?
    intro j
    by_cases hj : i = j
    · subst hj
      rw [List.getElem?_set_self (by rw [E.len]; exact hi), h2]
    · rw [List.getElem?_set_ne hj]
  have E2 := (E.drop i).set (i := i) (v := .ref a) (e := .py d) (by rw [List.length_set]; exact hi) (by unfold dropO; rw [if_pos rfl]) (h3.dt (ctL_sub dropO_sub) fun o ho t => ctL_at ho (fun l => by
    rcases l with l | ⟨j, hj⟩
    · exact (E.fre i a ha).1 l
    · obtain ⟨q1, q2⟩ := dropO_some hj
      exact q1 (E.inj j i a q2 ha)) t)
  rw [List.set_set, hσ] at E2
  exact E2
theorem dss_frz (i : Nat) {sts : List Stmt} {f : WS} (h : PSs X sts (tWS X.K mr f)) : PSs X sts (tWS X.K mr (wFrz i f)) := by
  refine pss_mono h fun D σ H q => ?_
  obtain ⟨He, Lc, os, p, gs, ρ, k, E, hf, kk⟩ := q
  unfold wFrz at hf
  split at hf
  · rename_i d hd
    exact ⟨He, Lc, _, p, gs, _, k, E.frz hd, hf, kk⟩
  · exact ⟨He, Lc, os, p, gs, ρ, k, E, hf, kk⟩
/-! ### loops -/
def wForGo (g : WGt) (b : WS) : List EV → EnvD → WK → Prop
  | [], ρ, k => k.nx ρ
  | x :: r, ρ, k => g x ρ fun ρ' => b ρ' { nx := fun ρ2 => wForGo g b r ρ2 k, ct := fun ρ2 => wForGo g b r ρ2 k, bk := k.nx, rt := k.rt }
def wFor (fi : WA) (g : WGt) (b : WS) : WS := fun ρ k => fi ρ fun xs => wForGo g b xs ρ k
theorem ds_for {tg iter : Expr} {body : List Stmt} {pos : Pos} {fi : WA} {g : WGt} {b : WS} {mi : Mode} (vs : List Nat) (hmi : mi = .data) (hp : PassesOwn (model X.prog X.w) X.A X.env X.xe) (hc : X.calm = true) (hi : PI X tg iter (tI X.K mi fi)) (hg : PG X tg (tWG X.K vs g)) (hb : PSs X body (tWS X.K mr b))
    (hs : ∀ x, foldedSetIterable iter X.env x = pure x := by intro _; rfl) : PS X (.For tg iter body [] pos) (tWS X.K mr (wFor fi g b)) := by
  subst hmi
  refine ps_mono (ps_for hp hc hi hg hb hs) fun D σ H q => ?_
  obtain ⟨He, Lc, os, p, gs, ρ, k, E, hf, k1, k2, k3, k4⟩ := q
  refine ⟨He, Lc, os, p, gs, ρ, _, E, hf, fun xs gh J H1 hP s o hgh hI => ?_⟩
  have hgh : GhD X.K p (Ls Lc os) H1 gh := hgh
  have E1 := E.step s o
  let g2 : Gh := { ad := gs.ad ++ gh.ad, vl := gs.vl ++ gh.vl }
  have E2 : EnvOk X.K He Lc os p g2 H1 σ ρ := E1.ghost ⟨fun z hz => (List.mem_append.mp hz).elim (E1.gho.1 z) (hgh.1 z), fun z hz => (List.mem_append.mp hz).elim (E1.gho.2 z) (hgh.2 z)⟩
  have back : ∀ {os' : Nat → Option Addr} {H' : Hp} {σ' : L2.St} {ρ' : EnvD}, EnvOk X.K He Lc os' p g2 H' σ' ρ' → EnvOk X.K He Lc os' p gs H' σ' ρ' := fun E' => E'.ghost ⟨fun z hz => E'.gho.1 z (List.mem_append_left _ hz), fun z hz => E'.gho.2 z (List.mem_append_left _ hz)⟩
  have ghr : ∀ {os' : Nat → Option Addr} {H' : Hp} {σ' : L2.St} {ρ' : EnvD}, EnvOk X.K He Lc os' p g2 H' σ' ρ' → GhR X.K p (Ls Lc os') H' gh := fun E' => GhD.read (K := X.K) ⟨fun z hz => E'.gho.1 z (List.mem_append_right _ hz), fun z hz => E'.gho.2 z (List.mem_append_right _ hz)⟩ E'.lokL
  refine ⟨fun i n σ' H' => n = xs.length - i ∧ i ≤ xs.length ∧ ∃ os' ρ', EnvOk X.K He Lc os' p g2 H' σ' ρ' ∧ wForGo g b (xs.drop i) ρ' k, ⟨xs.length, rfl, Nat.zero_le _, os, ρ, E2, hP⟩, ?_⟩
  rintro i n σ' H' ⟨rfl, hi, os', ρ', E', hgo⟩
  by_cases hlt : i < xs.length
  · refine .inr ⟨hI.go _ _ i E'.lokL (ghr E') hlt, fun σ2 H2 => ∃ n', n' < xs.length - i ∧ (n' = xs.length - (i + 1) ∧ i + 1 ≤ xs.length ∧ ∃ os' ρ', EnvOk X.K He Lc os' p g2 H2 σ2 ρ' ∧ wForGo g b (xs.drop (i + 1)) ρ' k), fun σ2 H2 h => h, fun x H3 hy => ?_⟩
    obtain ⟨sm, e, he, hv⟩ := hI.yld _ _ i x H3 E'.lokL (ghr E') hlt hy
    have hdrop : xs.drop i = e :: xs.drop (i + 1) := by
      obtain ⟨h1, rfl⟩ := List.getElem?_eq_some_iff.mp he
      exact List.drop_eq_getElem_cons h1
    rw [hdrop] at hgo
    have E3 := E'.step (Stp.same sm E'.lokL.ne) (E'.lokL.same sm)
    refine ⟨_, _, _, _, _, _, _, _, E3, hv, hgo, fun ρ2 σ2 hb2 E4 _ => ?_⟩
    refine ⟨He, Lc, _, p, g2, ρ2, _, E4, hb2, fun ρ5 os5 H5 σ5 h5 E5 => ⟨xs.length - (i + 1), by omega, rfl, hlt, os5, ρ5, E5, h5⟩, fun ρ5 os5 H5 σ5 h5 E5 => k1 _ _ _ _ h5 (back E5), fun ρ5 os5 H5 σ5 h5 E5 => ⟨xs.length - (i + 1), by omega, rfl, hlt, os5, ρ5, E5, h5⟩, k4⟩
  · have ei : i = xs.length := by omega
    subst ei
    rw [List.drop_length] at hgo
    exact .inl ⟨hI.stop _ _ E'.lokL (ghr E'), k1 _ _ _ _ hgo (back E')⟩
def wWhileN (t : WT) (b : WS) : Nat → WS
  | 0, _, _ => False
  | n + 1, ρ, k => t ρ fun c => if c = true then b ρ { nx := fun ρ2 => wWhileN t b n ρ2 k, ct := fun ρ2 => wWhileN t b n ρ2 k, bk := k.nx, rt := k.rt } else k.nx ρ
def wWhile (t : WT) (b : WS) : WS := fun ρ k => ∃ n, wWhileN t b n ρ k
theorem ds_while {c : Expr} {body : List Stmt} {pos : Pos} {t : WT} {b : WS} (hp : PassesOwn (model X.prog X.w) X.A X.env X.xe) (hc : PT X c (tWT X.K t)) (hb : PSs X body (tWS X.K mr b)) : PS X (.While c body [] pos) (tWS X.K mr (wWhile t b)) := by
  refine ps_mono (ps_while hp hc hb) fun D σ H q => ?_
  obtain ⟨He, Lc, os, p, gs, ρ, k, E, ⟨n, hf⟩, k1, k2, k3, k4⟩ := q
  refine ⟨fun m σ' H' => ∃ os' ρ', EnvOk X.K He Lc os' p gs H' σ' ρ' ∧ wWhileN t b m ρ' k, ⟨n, os, ρ, E, hf⟩, ?_⟩
  rintro m σ' H' ⟨os', ρ', E', hm⟩
  cases m with
  | zero => exact hm.elim
  | succ m =>
    refine ⟨He, Lc, os', p, gs, ρ', _, E', hm, fun c H1 hc s o => ?_⟩
    cases c with
    | false => exact k1 _ _ _ _ hc (E'.step s o)
    | true => exact ⟨fun σ2 H2 => ∃ m', m' < m + 1 ∧ ∃ os' ρ', EnvOk X.K He Lc os' p gs H2 σ2 ρ' ∧ wWhileN t b m' ρ' k, fun σ2 H2 h => h, He, Lc, os', p, gs, ρ', _, E'.step s o, hc, fun ρ5 os5 H5 σ5 h5 E5 => ⟨m, Nat.lt_succ_self m, os5, ρ5, E5, h5⟩, fun ρ5 os5 H5 σ5 h5 E5 => k1 _ _ _ _ h5 E5, fun ρ5 os5 H5 σ5 h5 E5 => ⟨m, Nat.lt_succ_self m, os5, ρ5, E5, h5⟩, k4⟩
end
end Dw

/-! Data ways: calls of built-ins, displays, items, slices. -/
namespace Dw
open PySem PySem.Spec PySem.W PySem.Calls PyProof.Rows L2 Dr Rp
open He (ga)
/-- arguments that are data -/
def pys : List EV → Option (List PyData)
  | [] => some []
  | .py d :: r => (pys r).map (d :: ·)
  | _ :: _ => none
theorem pys_dts {K : PySem.W.Frag} {p : Option Addr} {G : Hp} : ∀ {vs : List V} {es : List EV} {ds : List PyData}, Paired (fun v e => Rv K p G v e) vs es → pys es = some ds → DtAll K G vs ds
  | _, _, _, .nil, h => by
    cases h
    exact .nil
  | _, e :: es, _, .cons a t, h => by
    cases e with
    | py d =>
      unfold pys at h
      cases q : pys es with
      | none => rw [q] at h; cases h
      | some r =>
        rw [q] at h
        cases h
        exact .cons a (pys_dts t q)
    | _ => unfold pys at h; cases h
theorem pys_map (ds : List PyData) : pys (ds.map .py) = some ds := by
  induction ds with
  | nil => rfl
  | cons d r ih => rw [List.map_cons, pys, ih] <;> rfl
def wCallA (g : List EV → (EV → Prop) → Prop) (fa : WA) : WF := fun ρ P => fa ρ fun xs => g xs P
section
variable {X : Cx} {m : Mode} {e : Expr} {es : List Expr} {fa : WA} {pos q : Pos}
/-- (a, b) -/
def wTup (es : List EV) (P : EV → Prop) : Prop := ∃ ds, pys es = some ds ∧ ds.length ≤ sizeLine ∧ P (.py (.tuple ds))
def wLst (es : List EV) (P : EV → Prop) : Prop := ∃ ds, pys es = some ds ∧ ds.length ≤ sizeLine ∧ P (.py (.list ds))
theorem dtup {x1} (h : PA X es (tWA X.K .data fa)) (hm : m ≠ .fresh := by decide) : PE X (.Tuple es x1 pos) (tW X.K m (wCallA wTup fa)) :=
  ka (ma := .data) (g := wTup) (fun xs H1 Q => xs.length ≤ sizeLine ∧ ∀ p, H1 p = none → Q (.ref p) (upd H1 p (.tup xs))) (pe_tup h) fun L p H0 H vs es P Q o ra hg k => by
    obtain ⟨ds, h1, h2, h3⟩ := hg
    have hd := pys_dts (p := p) (ra : Paired (fun v e => Rv X.K p (ctL L H) v e) vs es) h1
    exact ⟨by rw [← DtAll.len hd]; exact h2, fun r hr => Go.tup k o hm h3 hd hr⟩
theorem dlst (h : PA X es (tWA X.K .data fa)) : PE X (.List es pos) (tW X.K m (wCallA wLst fa)) :=
  ka (ma := .data) (g := wLst) (fun xs H1 Q => xs.length ≤ sizeLine ∧ ∀ p, H1 p = none → Q (.ref p) (upd H1 p (.lst xs))) (pe_lst h) fun L p H0 H vs es P Q o ra hg k => by
    obtain ⟨ds, h1, h2, h3⟩ := hg
    have hd := pys_dts (p := p) (ra : Paired (fun v e => Rv X.K p (ctL L H) v e) vs es) h1
    exact ⟨by rw [← DtAll.len hd]; exact h2, fun r hr => Go.lst k o h3 hd hr⟩
/-! ### built-ins -/
theorem dB {id : String} {nm : Str} {r : List V → Hp → VK → Prop} {g : List EV → (EV → Prop) → Prop} (hc : CallR X (.builtin id) r) (hv : bootBuiltins nm = some (.builtin id))
    (snd : ∀ L p H0 H vs es P Q, LOk L p H → Paired (fun v e => Res X.K .read L p H0 H v e) vs es → g es P → Go X.K m L p H P Q → r vs H Q)
    (hg : Gl X nm) (ht : X.mg nm = none) (ha : PA X (e :: es) (tWA X.K .read fa)) (hn : nm ≠ "__name__" := by decide) (hdb : (nm == ("__debug__" : Str)) = false := by decide)
    (he : starEach (e :: es) X.env = (false, eval e X.env) :: starEach es X.env := by rfl) (hpl : (backTo pos (starEach es X.env)).any (·.1) = false := by rfl) : PE X (.Call (.Name nm q) (e :: es) [] pos) (tW X.K m (wCallA g fa)) :=
  ka (ma := .read) (g := g) r (pe_callB hc hg ht hv ha hn hdb he hpl) snd
theorem dT {T : String} {nm : Str} {r : List V → Hp → VK → Prop} {g : List EV → (EV → Prop) → Prop} (hc : CallR X (.type T) r) (hv : bootBuiltins nm = some (.type T))
    (snd : ∀ L p H0 H vs es P Q, LOk L p H → Paired (fun v e => Res X.K .read L p H0 H v e) vs es → g es P → Go X.K m L p H P Q → r vs H Q)
    (hg : Gl X nm) (ht : X.mg nm = none) (ha : PA X (e :: es) (tWA X.K .read fa)) (hn : nm ≠ "__name__" := by decide) (hdb : (nm == ("__debug__" : Str)) = false := by decide)
    (he : starEach (e :: es) X.env = (false, eval e X.env) :: starEach es X.env := by rfl) (hpl : (backTo pos (starEach es X.env)).any (·.1) = false := by rfl) : PE X (.Call (.Name nm q) (e :: es) [] pos) (tW X.K m (wCallA g fa)) :=
  ka (ma := .read) (g := g) r (pe_callTy hc hg ht hv ha hn hdb he hpl) snd
end
section
variable {X : Cx} {m : Mode}
/-- what one built-in gives: a rule of calls and its meaning on data -/
structure BR (X : Cx) (m : Mode) (f : Value) (g : List EV → (EV → Prop) → Prop) where
  r : List V → Hp → VK → Prop
  c : CallR X f r
  s : ∀ L p H0 H vs es P Q, LOk L p H → Paired (fun v e => Res X.K .read L p H0 H v e) vs es → g es P → Go X.K m L p H P Q → r vs H Q
def lenD : PyData → Option Nat
  | .list ds => some ds.length
  | .tuple ds => some ds.length
  | .dict ds => some ds.length
  | .str z => if z.length ≤ sizeLine then some z.length else none
  | _ => none
def wLen : List EV → (EV → Prop) → Prop
  | [.py d], P => ∃ n, lenD d = some n ∧ P (.py (.int (n : Nat)))
  | _, _ => False
theorem paired1 {α β : Type} {R : α → β → Prop} {xs : List α} {y : β} (h : Paired R xs [y]) : ∃ x, xs = [x] ∧ R x y := by
  cases h with
  | cons a t =>
    cases t
    exact ⟨_, rfl, a⟩
theorem paired2 {α β : Type} {R : α → β → Prop} {xs : List α} {y z : β} (h : Paired R xs [y, z]) : ∃ x w, xs = [x, w] ∧ R x y ∧ R w z := by
  cases h with
  | cons a t =>
    obtain ⟨w, rfl, b⟩ := paired1 t
    exact ⟨_, _, rfl, a, b⟩
theorem dkv_len {K : PySem.W.Frag} {G : Hp} : ∀ {kvs : List (Key × V)} {ds : List (PyData × PyData)}, DtKv K G kvs ds → ds.length = kvs.length
  | _, _, .nil => rfl
  | _, _, .cons _ t => by rw [List.length_cons, List.length_cons, dkv_len t]
theorem call_lenDr : CallR X (.builtin "len") (fun xs H Q => ∃ a kvs, xs = [V.ref a] ∧ Rd H a (.dK kvs) ∧ Q (.int kvs.length) H) := by
  intro pins s σ H xs us Q I r h
  obtain ⟨a, kvs, rfl, ha, q⟩ := h
  obtain ⟨u, rfl, ru⟩ := vals1 r
  obtain rfl : u = Value.ref a := ru
  exact d_len I ha fun t s' I' => ⟨.int kvs.length, H, I', ⟨t, rfl⟩, q⟩
def brLen (hm : m ≠ .fresh) : BR X m (.builtin "len") wLen where
  r := _
  c := cr_or (cr_or call_len_seq call_len_str) call_lenDr
  s := fun L p H0 H vs es P Q o ra hg k => by
    unfold wLen at hg
    split at hg
    · rename_i d P
      obtain ⟨n, hn, hP⟩ := hg
      obtain ⟨v, rfl, r⟩ := paired1 ra
      unfold lenD at hn
      split at hn
      · cases hn
        obtain ⟨a, vs, rfl, h1, h2⟩ := r.list
        exact .inl (.inl ⟨a, vs, rfl, .inl (.inl h1), by rw [← DtAll.len h2]; exact Go.val k o hm hP (.int _)⟩)
      · cases hn
        obtain ⟨a, vs, rfl, h1, h2⟩ := r.tup
        exact .inl (.inl ⟨a, vs, rfl, .inr h1, by rw [← DtAll.len h2]; exact Go.val k o hm hP (.int _)⟩)
      · cases hn
        obtain ⟨a, kvs, rfl, h1, h2⟩ := r.dict
        exact .inr ⟨a, kvs, rfl, h1, by rw [← dkv_len h2]; exact Go.val k o hm hP (.int _)⟩
      · rename_i z
        by_cases hz : z.length ≤ sizeLine
        · rw [if_pos hz] at hn
          cases hn
          exact .inl (.inr ⟨z, by rw [r.str], hz, Go.val k o hm hP (.int _)⟩)
        · rw [if_neg hz] at hn
          cases hn
      · cases hn
    · exact hg.elim
def wTupleOf : List EV → (EV → Prop) → Prop
  | [.py (.list ds)], P => P (.py (.tuple ds))
  | [.py (.tuple ds)], P => P (.py (.tuple ds))
  | _, _ => False
def brTuple (hm : m ≠ .fresh) : BR X m (.type "tuple") wTupleOf where
  r := _
  c := call_tuple_of
  s := fun L p H0 H vs es P Q o ra hg k => by
    unfold wTupleOf at hg
    split at hg
    · obtain ⟨v, rfl, r⟩ := paired1 ra
      obtain ⟨a, vs, rfl, h1, h2⟩ := r.list
      exact ⟨a, vs, rfl, .inl ⟨.inl h1, fun l hl => Go.tup k o hm hg h2 hl⟩⟩
    · obtain ⟨v, rfl, r⟩ := paired1 ra
      obtain ⟨a, vs, rfl, h1, h2⟩ := r.tup
      exact ⟨a, vs, rfl, .inr ⟨h1, Go.val k o hm hg (.tup (o.sqt h1) h2)⟩⟩
    · exact hg.elim
def wListOf : List EV → (EV → Prop) → Prop
  | [.py d], P => ∃ ds, seqD d = some ds ∧ P (.py (.list ds))
  | _, _ => False
def brList : BR X m (.type "list") wListOf where
  r := _
  c := call_list_of
  s := fun L p H0 H vs es P Q o ra hg k => by
    unfold wListOf at hg
    split at hg
    · obtain ⟨v, rfl, r⟩ := paired1 ra
      obtain ⟨ds, h1, h2⟩ := hg
      obtain ⟨a, vs, rfl, h3, h4⟩ := r.seq h1
      exact ⟨a, vs, rfl, h3, fun l hl => Go.lst k o h2 h4 hl⟩
    · exact hg.elim
/-! sorted of data that is alike -/
def sortD (ds : List PyData) : List PyData := ds.mergeSort (dataLe false id)
theorem prs_reads {h : Heap} {K : PySem.W.Frag} {H : Hp} {X : Cx} {pins : List (Addr × Obj)} {σ : L2.St} {s : Shared} (I : Inv X pins σ H s) : ∀ {vs : List V} {ds : List PyData} {us : List Value}, DpAll X.K H vs ds → Vals vs us →
    EachIs (fun (u : Value) (q : V × PyData) => RelV q.1 u) us (vs.zip ds) ∧ EachIs (fun (u : Value) (q : V × PyData) => ∃ as, Reads s.heap u q.2 as) us (vs.zip ds)
  | _, _, _, .nil, .nil => ⟨.nil, .nil⟩
  | _, _, _, .cons a t, .cons b r => by
    obtain ⟨h1, h2⟩ := prs_reads (h := h) (K := K) I t r
    obtain ⟨as, q⟩ := Dp.reads I _ _ _ a b
    exact ⟨.cons b h1, .cons ⟨as, q⟩ h2⟩
theorem each_vals : ∀ {us : List Value} {L : List (V × PyData)}, EachIs (fun (u : Value) (q : V × PyData) => RelV q.1 u) us L → Vals (L.map (·.1)) us
  | _, _, .nil => .nil
  | _, _, .cons a t => .cons a (each_vals t)
theorem zip_snd {α β : Type} : ∀ {xs : List α} {ys : List β}, xs.length = ys.length → (xs.zip ys).map (·.2) = ys
  | [], [], _ => rfl
  | x :: xs, y :: ys, h => by
    rw [List.zip_cons_cons, List.map_cons, zip_snd (by simpa using h)]
theorem cr_sortedV (hu : X.A.units + 64 < cLine) : CallR X (.builtin "sorted") (fun xs H Q => ∃ a vs ds, xs = [V.ref a] ∧ SqL X.K H a vs ∧ DpAll X.K H vs ds ∧ vs.length = ds.length ∧ AllAlike ds ∧ Sortable ds ∧ (∀ d ∈ ds, d.depth ≤ 50) ∧
    ∀ p, H p = none → Q (.ref p) (upd H p (.lst (((vs.zip ds).mergeSort (dataLe false (·.2))).map (·.1))))) := by
  intro pins s σ H xs us Q I r h
  obtain ⟨a, vs, ds, rfl, hs, hr, hlen, hal, hk, hd, q⟩ := h
  obtain ⟨its, rv, hl, hz⟩ := I.list hs
  rw [Vals.ref1 r]
  obtain ⟨e1, e2⟩ := prs_reads (h := s.heap) (K := X.K) I hr rv
  have es : (vs.zip ds).map (·.2) = ds := zip_snd hlen
  have ll : (vs.zip ds).length = vs.length := by rw [List.length_zip, hlen, Nat.min_self]
  refine sorted_data (R := fun u (q : V × PyData) => RelV q.1 u) (enc := fun q : V × PyData => q.2) (bs := vs.zip ds) hl.isList e1 e2 (by rw [es]; exact hal) (by rw [es]; exact hk) (by rw [ll]; exact hz) (fun z hz => ?_) fun out ho he => ?_
  · have := hd z.2 (by rw [← es]; exact List.mem_map.mpr ⟨z, hz, rfl⟩)
    omega
  · obtain ⟨ep, he'⟩ := PyProof.Rows.sortedAll_at s.heap its out.toArray
    refine ⟨.ref _, upd H (s.heap.objs.size + 1) (.lst _), I.laid (t' := s.toks) (fun _ _ => PyProof.Rows.sortedAll_old) (Nat.le_succ _) ⟨?_, _, ep, each_vals he, he'⟩, rfl, q _ (I.hok.fresh (Nat.le_succ _))⟩
    rw [List.length_map, List.length_mergeSort, ll]
    exact hz
def wSorted : List EV → (EV → Prop) → Prop
  | [.py (.list ds)], P => (noDict (.list ds) = true ∧ AllAlike ds ∧ Sortable ds ∧ ∀ d ∈ ds, d.depth ≤ 50) ∧ P (.py (.list (sortD ds)))
  | [.py (.tuple ds)], P => (noDict (.list ds) = true ∧ AllAlike ds ∧ Sortable ds ∧ ∀ d ∈ ds, d.depth ≤ 50) ∧ P (.py (.list (sortD ds)))
  | _, _ => False
theorem sort_dts {K : PySem.W.Frag} {G : Hp} {vs : List V} {ds : List PyData} (h : DtAll K G vs ds) : DtAll K G (((vs.zip ds).mergeSort (dataLe false (·.2))).map (·.1)) (sortD ds) := by
  have go : ∀ L : List (V × PyData), (∀ z ∈ L, Dt K G z.1 z.2) → DtAll K G (L.map (·.1)) (L.map (·.2)) := by
    intro L
    induction L with
    | nil => intro _; exact .nil
    | cons z r ih => intro h; exact .cons (h z List.mem_cons_self) (ih fun y hy => h y (List.mem_cons_of_mem _ hy))
  have all : ∀ z ∈ vs.zip ds, Dt K G z.1 z.2 := by
    clear go
    induction h using DtAll.rec (motive_1 := fun _ _ _ => True) (motive_3 := fun _ _ _ => True) with
    | nil => intro z hz; cases hz
    | cons a t _ ih =>
      intro z hz
      rcases List.mem_cons.mp hz with rfl | hz
      · exact a
      · exact ih z hz
    | _ => trivial
  have q := go ((vs.zip ds).mergeSort (dataLe false (·.2))) fun z hz => all z ((List.mergeSort_perm _ _).mem_iff.mp hz)
  have e : ((vs.zip ds).mergeSort (dataLe false (·.2))).map (·.2) = sortD ds := by
    unfold sortD
    have z := List.map_mergeSort (r := dataLe false fun q : V × PyData => q.2) (s := dataLe false id) (f := fun q : V × PyData => q.2) (l := vs.zip ds) (fun a _ b _ => rfl)
    rw [zip_snd (DtAll.len h).symm] at z
    exact z
  rw [e] at q
  exact q
theorem al_nod {ds : List PyData} (h : noDict (.list ds) = true) : noDict.noDicts ds = true := by simpa [noDict] using h
theorem brSorted_s {K : PySem.W.Frag} {L : Addr → Prop} {p : Option Addr} {H : Hp} {vs : List V} {ds : List PyData} {P : EV → Prop} {Q : VK} (o : LOk L p H) (h : (noDict (.list ds) = true ∧ AllAlike ds ∧ Sortable ds ∧ ∀ d ∈ ds, d.depth ≤ 50) ∧ P (.py (.list (sortD ds)))) (hd : DtAll K (ctL L H) vs ds) (k : Go K m L p H P Q) {a : Addr} (hq : SqL K H a vs) :
    ∃ a' vs' ds', [V.ref a] = [V.ref a'] ∧ SqL K H a' vs' ∧ DpAll K H vs' ds' ∧ vs'.length = ds'.length ∧ AllAlike ds' ∧ Sortable ds' ∧ (∀ d ∈ ds', d.depth ≤ 50) ∧ ∀ p, H p = none → Q (.ref p) (upd H p (.lst (((vs'.zip ds').mergeSort (dataLe false (·.2))).map (·.1)))) :=
  ⟨a, vs, ds, rfl, hq, dps_of _ _ (al_nod h.1.1) (dts_all hd), (DtAll.len hd).symm, h.1.2.1, h.1.2.2.1, h.1.2.2.2, fun r hr => Go.lst k o h.2 (sort_dts hd) hr⟩
def wSortedL : List EV → (EV → Prop) → Prop
  | [.py (.list ds)], P => (noDict (.list ds) = true ∧ AllAlike ds ∧ Sortable ds ∧ ∀ d ∈ ds, d.depth ≤ 50) ∧ P (.py (.list (sortD ds)))
  | _, _ => False
def brSorted (hu : X.A.units + 64 < cLine) : BR X m (.builtin "sorted") wSortedL where
  r := _
  c := cr_sortedV hu
  s := fun L p H0 H vs es P Q o ra hg k => by
    unfold wSortedL at hg
    split at hg
    · obtain ⟨v, rfl, r⟩ := paired1 ra
      obtain ⟨a, vs, rfl, h1, h2⟩ := r.list
      exact brSorted_s o hg h2 k (.inl h1)
    · exact hg.elim
def wAbs : List EV → (EV → Prop) → Prop
  | [.py (.int i)], P => P (.py (.int (if i < 0 then -i else i)))
  | _, _ => False
def brAbs (hm : m ≠ .fresh) : BR X m (.builtin "abs") wAbs where
  r := _
  c := call_abs
  s := fun L p H0 H vs es P Q o ra hg k => by
    unfold wAbs at hg
    split at hg
    · obtain ⟨v, rfl, r⟩ := paired1 ra
      rw [r.int]
      exact ⟨_, rfl, Go.val k o hm hg (.int _)⟩
    · exact hg.elim
def wMax2 : List EV → (EV → Prop) → Prop
  | [.py (.int i), .py (.int j)], P => P (.py (.int (if j > i then j else i)))
  | _, _ => False
def brMax2 (hc : X.calm = true) (hm : m ≠ .fresh) : BR X m (.builtin "max") wMax2 where
  r := _
  c := call_max2 hc
  s := fun L p H0 H vs es P Q o ra hg k => by
    unfold wMax2 at hg
    split at hg
    · obtain ⟨v, w, rfl, r, r2⟩ := paired2 ra
      rw [r.int, r2.int]
      exact ⟨_, _, rfl, Go.val k o hm hg (.int _)⟩
    · exact hg.elim
def wMin2 : List EV → (EV → Prop) → Prop
  | [.py (.int i), .py (.int j)], P => P (.py (.int (if j < i then j else i)))
  | _, _ => False
def brMin2 (hc : X.calm = true) (hm : m ≠ .fresh) : BR X m (.builtin "min") wMin2 where
  r := _
  c := call_min2 hc
  s := fun L p H0 H vs es P Q o ra hg k => by
    unfold wMin2 at hg
    split at hg
    · obtain ⟨v, w, rfl, r, r2⟩ := paired2 ra
      rw [r.int, r2.int]
      exact ⟨_, _, rfl, Go.val k o hm hg (.int _)⟩
    · exact hg.elim
def wInt : List EV → (EV → Prop) → Prop
  | [.py (.int i)], P => P (.py (.int i))
  | [.py (.bool b)], P => P (.py (.int (if b then 1 else 0)))
  | _, _ => False
def brInt (hm : m ≠ .fresh) : BR X m (.type "int") wInt where
  r := _
  c := call_int1
  s := fun L p H0 H vs es P Q o ra hg k => by
    unfold wInt at hg
    split at hg
    · obtain ⟨v, rfl, r⟩ := paired1 ra
      rw [r.int]
      exact .inl ⟨_, rfl, Go.val k o hm hg (.int _)⟩
    · obtain ⟨v, rfl, r⟩ := paired1 ra
      rw [r.bool]
      exact .inr ⟨_, rfl, Go.val k o hm hg (.int _)⟩
    · exact hg.elim
def wStrI : List EV → (EV → Prop) → Prop
  | [.py (.int i)], P => i.natAbs.log2 < 1920 ∧ P (.py (.str (toString i)))
  | _, _ => False
def brStrI (hm : m ≠ .fresh) : BR X m (.type "str") wStrI where
  r := _
  c := call_str_int
  s := fun L p H0 H vs es P Q o ra hg k => by
    unfold wStrI at hg
    split at hg
    · obtain ⟨v, rfl, r⟩ := paired1 ra
      rw [r.int]
      exact ⟨_, rfl, hg.1, Go.val k o hm hg.2 (.str _)⟩
    · exact hg.elim
def wRepr : List EV → (EV → Prop) → Prop
  | [.py d], P => (d.showable = true ∧ d.depth ≤ 60 ∧ d.shown.length ≤ sizeLine) ∧ P (.py (.str d.shown))
  | _, _ => False
def brRepr (hk : SysD X.K) (hgd : X.A.guards = some []) (hu : X.A.units + 64 < cLine) (hm : m ≠ .fresh) : BR X m (.builtin "repr") wRepr where
  r := rRepA X.K
  c := call_repr_any hk hgd hu
  s := fun L p H0 H vs es P Q o ra hg k => by
    unfold wRepr at hg
    split at hg
    · obtain ⟨v, rfl, r⟩ := paired1 ra
      exact ⟨v, _, rfl, r.dt, hg.1.1, hg.1.2.1, hg.1.2.2, Go.val k o hm hg.2 (.str _)⟩
    · exact hg.elim
def wDictD : List EV → (EV → Prop) → Prop
  | [.py (.dict ds)], P => P (.py (.dict ds))
  | _, _ => False
def brDictD : BR X m (.type "dict") wDictD where
  r := _
  c := call_dictD
  s := fun L p H0 H vs es P Q o ra hg k => by
    unfold wDictD at hg
    split at hg
    · obtain ⟨v, rfl, r⟩ := paired1 ra
      obtain ⟨a, kvs, rfl, h1, h2⟩ := r.dict
      exact ⟨a, kvs, rfl, h1, fun l hl => Go.dic k o hg h2 hl⟩
    · exact hg.elim
/-- truths -/
def boolsD : List PyData → Option (List Bool)
  | [] => some []
  | .bool b :: r => (boolsD r).map (b :: ·)
  | _ :: _ => none
theorem bools_of {K : PySem.W.Frag} {G : Hp} : ∀ {vs : List V} {ds : List PyData} {bs : List Bool}, DtAll K G vs ds → boolsD ds = some bs → vs = bs.map V.bl
  | _, _, _, .nil, h => by
    cases h
    rfl
  | _, d :: ds, _, .cons a t, h => by
    cases d with
    | bool b =>
      unfold boolsD at h
      cases q : boolsD ds with
      | none => rw [q] at h; cases h
      | some r =>
        rw [q] at h
        cases h
        cases a
        rw [bools_of t q] <;> rfl
    | _ => unfold boolsD at h; cases h
def wAll : List EV → (EV → Prop) → Prop
  | [.py (.list ds)], P => ∃ bs, boolsD ds = some bs ∧ P (.py (.bool (bs.all id)))
  | _, _ => False
def wAny : List EV → (EV → Prop) → Prop
  | [.py (.list ds)], P => ∃ bs, boolsD ds = some bs ∧ P (.py (.bool (bs.any id)))
  | _, _ => False
def brAll (hc : CallR X (.builtin "all") (rAll X.K)) (hm : m ≠ .fresh) : BR X m (.builtin "all") wAll where
  r := rAll X.K
  c := hc
  s := fun L p H0 H vs es P Q o ra hg k => by
    unfold wAll at hg
    split at hg
    · obtain ⟨v, rfl, r⟩ := paired1 ra
      obtain ⟨bs, h1, h2⟩ := hg
      obtain ⟨a, vs, rfl, h3, h4⟩ := r.list
      rw [bools_of h4 h1] at h3
      exact ⟨a, bs, rfl, .inl h3, Go.val k o hm h2 (.bl _)⟩
    · exact hg.elim
def brAny (hc : CallR X (.builtin "any") (rAny X.K)) (hm : m ≠ .fresh) : BR X m (.builtin "any") wAny where
  r := rAny X.K
  c := hc
  s := fun L p H0 H vs es P Q o ra hg k => by
    unfold wAny at hg
    split at hg
    · obtain ⟨v, rfl, r⟩ := paired1 ra
      obtain ⟨bs, h1, h2⟩ := hg
      obtain ⟨a, vs, rfl, h3, h4⟩ := r.list
      rw [bools_of h4 h1] at h3
      exact ⟨a, bs, rfl, .inl h3, Go.val k o hm h2 (.bl _)⟩
    · exact hg.elim
/-- the calls -/
theorem dbf {id : String} {nm : Str} {g : List EV → (EV → Prop) → Prop} {e : Expr} {es : List Expr} {fa : WA} {pos q : Pos} (b : BR X m (.builtin id) g) (hv : bootBuiltins nm = some (.builtin id)) (hg : Gl X nm) (ht : X.mg nm = none) (ha : PA X (e :: es) (tWA X.K .read fa)) (hn : nm ≠ "__name__" := by decide) (hdb : (nm == ("__debug__" : Str)) = false := by decide)
    (he : starEach (e :: es) X.env = (false, eval e X.env) :: starEach es X.env := by rfl) (hpl : (backTo pos (starEach es X.env)).any (·.1) = false := by rfl) : PE X (.Call (.Name nm q) (e :: es) [] pos) (tW X.K m (wCallA g fa)) :=
  dB b.c hv b.s hg ht ha hn hdb he hpl
theorem dbt {T : String} {nm : Str} {g : List EV → (EV → Prop) → Prop} {e : Expr} {es : List Expr} {fa : WA} {pos q : Pos} (b : BR X m (.type T) g) (hv : bootBuiltins nm = some (.type T)) (hg : Gl X nm) (ht : X.mg nm = none) (ha : PA X (e :: es) (tWA X.K .read fa)) (hn : nm ≠ "__name__" := by decide) (hdb : (nm == ("__debug__" : Str)) = false := by decide)
    (he : starEach (e :: es) X.env = (false, eval e X.env) :: starEach es X.env := by rfl) (hpl : (backTo pos (starEach es X.env)).any (·.1) = false := by rfl) : PE X (.Call (.Name nm q) (e :: es) [] pos) (tW X.K m (wCallA g fa)) :=
  dT b.c hv b.s hg ht ha hn hdb he hpl
/-! ### items -/
def keyD : PyData → Option Key
  | .int i => some (.inl i)
  | .str x => some (.inr x)
  | _ => none
def dGet (ds : List (PyData × PyData)) (k : Key) : Option PyData := match ds with
  | [] => none
  | (a, b) :: r => if keyD a = some k then some b else dGet r k
theorem dGet_of {K : PySem.W.Frag} {G : Hp} {k : Key} : ∀ {kvs : List (Key × V)} {ds : List (PyData × PyData)} {d : PyData}, DtKv K G kvs ds → dGet ds k = some d → ∃ v, valV kvs k = some v ∧ Dt K G v d
  | _, _, _, .nil, h => by cases h
  | (k', v) :: kvs, (_, b) :: ds, d, .cons a t, h => by
    have ek : keyD (kD k') = some k' := by cases k' <;> rfl
    unfold dGet at h
    rw [ek] at h
    unfold valV
    by_cases e : k' = k
    · rw [if_pos (by rw [e])] at h
      cases h
      exact ⟨v, by simp [e], a⟩
    · rw [if_neg (fun z => e (Option.some.inj z))] at h
      obtain ⟨w, h1, h2⟩ := dGet_of t h
      refine ⟨w, ?_, h2⟩
      unfold valV at h1
      rw [List.find?_cons, show (decide (k' = k)) = false from decide_eq_false e]
      exact h1
theorem dts_at {K : PySem.W.Frag} {G : Hp} : ∀ {vs : List V} {ds : List PyData} {j : Nat} {d : PyData}, DtAll K G vs ds → ds[j]? = some d → ∃ v, vs[j]? = some v ∧ Dt K G v d
  | _, _, _, _, .nil, h => by simp at h
  | _, _, 0, _, .cons a t, h => by
    cases h
    exact ⟨_, rfl, a⟩
  | _, _, j + 1, _, .cons _ t, h => dts_at (j := j) t h
theorem atI_of {K : PySem.W.Frag} {G : Hp} {vs : List V} {ds : List PyData} (h : DtAll K G vs ds) {i : Int} {d : PyData} (e : atI ds i = some d) : ∃ v, atI vs i = some v ∧ Dt K G v d := by
  unfold atI at e ⊢
  rw [← DtAll.len h]
  cases q : ixN ds.length i with
  | none => rw [q] at e; cases e
  | some j =>
    rw [q] at e
    exact dts_at h (show ds[j]? = some d from e)
def wIx : EV → EV → (EV → Prop) → Prop
  | .py (.list ds), .py (.int i), P => ∃ d, atI ds i = some d ∧ P (.py d)
  | .py (.tuple ds), .py (.int i), P => ∃ d, atI ds i = some d ∧ P (.py d)
  | .py (.str z), .py (.int i), P => ∃ c, z.length ≤ sizeLine ∧ atI z.cps.toList i = some c ∧ P (.py (.str ⟨#[c]⟩))
  | .py (.dict ds), .py k, P => ∃ key d, keyD k = some key ∧ dGet ds key = some d ∧ P (.py d)
  | _, _, _ => False
theorem ix_dic (hu : X.A.units + 1 < cLine) : IxR X (fun x y H Q => ∃ a v, x = .ref a ∧ DGet H a y (some v) ∧ Q v H) := by
  intro value slice pins s σ H x y v u Q I rx ry h hs
  obtain ⟨a, w, rfl, g, q⟩ := h
  cases rx
  exact tail_any (dict_typeIs I g) PySem.F.slot_dict_getitem.lookup (d_getItem hu I g ry fun w' s3 I3 rw' => ⟨w, H, I3, rw', q⟩) hs
theorem keyD_v {K : PySem.W.Frag} {L : Addr → Prop} {p : Option Addr} {H0 H : Hp} {v : V} {d : PyData} {k : Key} (r : Res K .read L p H0 H v (.py d)) (h : keyD d = some k) : v = kV k := by
  unfold keyD at h
  split at h
  · cases h
    exact r.int
  · cases h
    exact r.str
  · cases h
theorem dix {a b : Expr} {pos : Pos} {fa fb : WF} (hu : X.A.units + 1 < cLine) (ha : PE X a (tW X.K .read fa)) (hb : PE X b (tW X.K .read fb)) (hs : PlainIx b := by exact (fun _ _ => rfl)) (hm : m ≠ .fresh := by decide) : PE X (.Subscript a b pos) (tW X.K m (w2 fa fb wIx)) :=
  k2 (ma := .read) (mb := .read) (g := wIx) _ (by decide) (by decide) (pe_ix ((ix_list.or (ix_tup.or ix_str)).or (ix_dic hu)) ha hb hs) fun L p H0 H v a u b P Q o ra rb hg k => by
    unfold wIx at hg
    split at hg
    · obtain ⟨d, h1, h2⟩ := hg
      obtain ⟨a, vs, rfl, h3, h4⟩ := ra.list
      obtain ⟨w, h5, h6⟩ := atI_of h4 h1
      exact .inl (.inl ⟨a, vs, _, w, rfl, rb.int, .inl h3, h5, Go.val k o hm h2 h6⟩)
    · obtain ⟨d, h1, h2⟩ := hg
      obtain ⟨a, vs, rfl, h3, h4⟩ := ra.tup
      obtain ⟨w, h5, h6⟩ := atI_of h4 h1
      exact .inl (.inr (.inl ⟨a, vs, _, w, rfl, rb.int, h3, h5, Go.val k o hm h2 h6⟩))
    · obtain ⟨c, h1, h2, h3⟩ := hg
      exact .inl (.inr (.inr ⟨_, _, c, ra.str, rb.int, h1, h2, Go.val k o hm h3 (.str _)⟩))
    · obtain ⟨key, d, h1, h2, h3⟩ := hg
      obtain ⟨a, kvs, rfl, h4, h5⟩ := ra.dict
      obtain ⟨w, h6, h7⟩ := dGet_of h5 h2
      exact .inr ⟨a, w, rfl, .inl ⟨kvs, key, h4, keyD_v rb h1, h6.symm⟩, Go.val k o hm h3 h7⟩
    · exact hg.elim
/-! ### slices -/
abbrev WO := EnvD → (Option Int → Prop) → Prop
def tWO (K : PySem.W.Frag) (f : WO) : TO := fun σ H Q => ∃ He Lc os p gs ρ P, EnvOk K He Lc os p gs H σ ρ ∧ f ρ P ∧ ∀ b H', P b → Stp (Ls Lc os) p H H' → LOk (Ls Lc os) p H' → Q b H'
theorem po_mono {e : Option Expr} {t t' : TO} (h : PO X e t) (k : ∀ σ H Q, t' σ H Q → t σ H Q) : PO X e t' := ⟨fun pins s σ H Q I q => h.run pins s σ H Q I (k σ H Q q)⟩
def wNoP : WO := fun _ P => P none
def wPart (f : WF) : WO := fun ρ P => f ρ fun e => match e with
  | .py (.int i) => P (some i)
  | _ => False
theorem dno : PO X none (tWO X.K wNoP) := po_mono po_none fun σ H Q q => by
  obtain ⟨He, Lc, os, p, gs, ρ, P, E, hf, k⟩ := q
  exact k _ H hf Stp.refl E.lokL
theorem dso {e : Expr} {f : WF} (h : PE X e (tW X.K .read f)) : PO X (some e) (tWO X.K (wPart f)) := po_mono (po_some h) fun σ H Q q => by
  obtain ⟨He, Lc, os, p, gs, ρ, P, E, hf, k⟩ := q
  refine ⟨He, Lc, os, p, gs, ρ, _, E, hf, fun e H1 v he s o r => ?_⟩
  split at he
  · exact ⟨_, r.int, k _ H1 he s o⟩
  · exact he.elim
def cutD (ds : List PyData) (lo hi : Option Int) : List PyData := (ds.drop (HT.sIx ds.length 0 lo)).take (HT.sIx ds.length ds.length hi - HT.sIx ds.length 0 lo)
theorem dts_drop {K : PySem.W.Frag} {G : Hp} : ∀ {vs : List V} {ds : List PyData} (n : Nat), DtAll K G vs ds → DtAll K G (vs.drop n) (ds.drop n)
  | _, _, 0, h => h
  | _, _, _ + 1, .nil => .nil
  | _, _, n + 1, .cons _ t => dts_drop n t
theorem dts_take {K : PySem.W.Frag} {G : Hp} : ∀ {vs : List V} {ds : List PyData} (n : Nat), DtAll K G vs ds → DtAll K G (vs.take n) (ds.take n)
  | _, _, 0, _ => .nil
  | _, _, _ + 1, .nil => .nil
  | _, _, n + 1, .cons a t => .cons a (dts_take n t)
theorem cut_dts {K : PySem.W.Frag} {G : Hp} {vs : List V} {ds : List PyData} (h : DtAll K G vs ds) (lo hi : Option Int) : DtAll K G (cutV vs lo hi) (cutD ds lo hi) := by
  unfold cutV cutD
  rw [← DtAll.len h]
  exact dts_take _ (dts_drop _ h)
theorem slr_or {r r' : V → Option Int → Option Int → Hp → VK → Prop} (h : SlR X r) (h' : SlR X r') : SlR X (fun x l u H Q => r x l u H Q ∨ r' x l u H Q) := by
  intro pins s σ H x v vl vu lo hi sl Q I rx hs pl pu q
  rcases q with q | q
  · exact h pins s σ H x v vl vu lo hi sl Q I rx hs pl pu q
  · exact h' pins s σ H x v vl vu lo hi sl Q I rx hs pl pu q
def wCut (c : PyData → Option Int → Option Int → (EV → Prop) → Prop) (f : WF) (fl fh : WO) : WF := fun ρ P => f ρ fun e => fl ρ fun lo => fh ρ fun hi => match e with
  | .py d => c d lo hi P
  | _ => False
def cutA : PyData → Option Int → Option Int → (EV → Prop) → Prop
  | .list ds, lo, hi, P => P (.py (.list (cutD ds lo hi)))
  | .tuple ds, lo, hi, P => P (.py (.tuple (cutD ds lo hi)))
  | .str z, lo, hi, P => z.length ≤ sizeLine ∧ P (.py (.str (cutS z lo hi)))
  | _, _, _, _ => False
def cutL : PyData → Option Int → Option Int → (EV → Prop) → Prop
  | .list ds, lo, hi, P => P (.py (.list (cutD ds lo hi)))
  | _, _, _, _ => False
theorem sl_of {e : Expr} {lo hi : Option Expr} {p2 pos : Pos} {f : WF} {fl fh : WO} {c : PyData → Option Int → Option Int → (EV → Prop) → Prop} {r : V → Option Int → Option Int → Hp → VK → Prop} (hr : SlR X r) (he : PE X e (tW X.K .read f)) (hl : PO X lo (tWO X.K fl)) (hh : PO X hi (tWO X.K fh))
    (snd : ∀ L p H0 H v d lo hi P Q, LOk L p H → Res X.K .read L p H0 H v (.py d) → c d lo hi P → Go X.K m L p H P Q → r v lo hi H Q) : PE X (.Subscript e (.Slice lo hi none p2) pos) (tW X.K m (wCut c f fl fh)) := by
  refine pe_mono (pe_slice hr he hl hh) fun σ H Q q => ?_
  obtain ⟨He, Lc, os, p, gs, ρ, P, E, hf, k⟩ := q
  refine ⟨He, Lc, os, p, gs, ρ, _, E, hf, fun e H1 v he s o ra => ?_⟩
  refine ⟨He, Lc, os, p, gs, ρ, _, E.step s o, he, fun lo H2 hlo s2 o2 => ?_⟩
  refine ⟨He, Lc, os, p, gs, ρ, _, (E.step s o).step s2 o2, hlo, fun hi H3 hhi s3 o3 => ?_⟩
  split at hhi
  · exact snd _ p H H3 v _ lo hi P Q o3 ((ra.step (by decide) o s2).step (by decide) o2 s3) hhi fun b H' v' hb s' o' rb => k b H' v' hb (((s.trans s2).trans s3).trans s') o' (rb.base ((s.trans s2).trans s3))
  · exact hhi.elim
theorem dslice {e : Expr} {lo hi : Option Expr} {p2 pos : Pos} {f : WF} {fl fh : WO} (he : PE X e (tW X.K .read f)) (hl : PO X lo (tWO X.K fl)) (hh : PO X hi (tWO X.K fh)) (hm : m ≠ .fresh := by decide) : PE X (.Subscript e (.Slice lo hi none p2) pos) (tW X.K m (wCut cutA f fl fh)) :=
  sl_of (slr_or sl_list (slr_or Tp.sl_tupB sl_str)) he hl hh fun L p H0 H v d lo hi P Q o ra hg k => by
    unfold cutA at hg
    split at hg
    · obtain ⟨a, vs, rfl, h1, h2⟩ := ra.list
      exact .inl ⟨a, vs, rfl, .inl h1, fun r hr => Go.lst k o hg (cut_dts h2 lo hi) hr⟩
    · obtain ⟨a, vs, rfl, h1, h2⟩ := ra.tup
      exact .inr (.inl ⟨a, vs, rfl, h1, fun H' r sm hr => Go.tup' k o hm hg (cut_dts h2 lo hi) sm hr⟩)
    · exact .inr (.inr ⟨_, ra.str, hg.1, Go.val k o hm hg.2 (.str _)⟩)
    · exact hg.elim
theorem dsliceL {e : Expr} {lo hi : Option Expr} {p2 pos : Pos} {f : WF} {fl fh : WO} (he : PE X e (tW X.K .read f)) (hl : PO X lo (tWO X.K fl)) (hh : PO X hi (tWO X.K fh)) : PE X (.Subscript e (.Slice lo hi none p2) pos) (tW X.K m (wCut cutL f fl fh)) :=
  sl_of sl_list he hl hh fun L p H0 H v d lo hi P Q o ra hg k => by
    unfold cutL at hg
    split at hg
    · obtain ⟨a, vs, rfl, h1, h2⟩ := ra.list
      exact ⟨a, vs, rfl, .inl h1, fun r hr => Go.lst k o hg (cut_dts h2 lo hi) hr⟩
    · exact hg.elim
end
end Dw

/-! methods and classmethods called with keywords; a class held by a local name; **names. -/
namespace Mx
open PySem PySem.Spec PyProof.Rows L2 ClX
def tMethK (C : Addr) (m : Str) (n j : Nat) (sp : Sp) (gV : List V → List V → List V) (E : XK) (ta : TE) (t tk : TA) : TE := fun σ H Q => ta σ H fun x H1 => ∃ a dx fs, x = .ref a ∧ H1 a = some (.ins C dx fs) ∧ fs.lookup m = none ∧ t σ H1 fun vs H2 => tk σ H2 fun zs H3 => vs.length = n ∧ zs.length = j ∧ sp (gV (x :: vs) zs) H3 Q E
def tCMethK (C : Addr) (n j : Nat) (sp : Sp) (gV : List V → List V → List V) (E : XK) (ta : TE) (t tk : TA) : TE := fun σ H Q => ta σ H fun x H1 => x = .ref C ∧ t σ H1 fun vs H2 => tk σ H2 fun zs H3 => vs.length = n ∧ zs.length = j ∧ sp (gV (.ref C :: vs) zs) H3 Q E
section
variable {X : Cx} {CX : CXT} {k n : Nat} {C f p g : Addr} {mc : Value} {fd : FuncData} {ps ks : List Str} {sp : Sp} {E : XK} {o e : Expr} {es : List Expr} {m : Str} {kws : List Keyword} {pos apos : Pos} {ta : TE} {t tk : TA} {pl : Sem Bool} {gg : List Value → List Value → List Value} {gV : List V → List V → List V}
/-- o.m(e, .., k = v) -/
theorem pe_methK (he : PE X o ta) (c : Cls X.K C) (hm : Meth X.K C m f) (F : FnOk X.prog X.w X.K X.mg X.base CX k f fd ps sp) (hr : Room k X.A) (hb : KBn X.K fd ps (n + 1) ks gg gV) (hx : Passes CX X E) (ha : PA X (e :: es) t) (hkw : PK X kws tk)
    (hall : (backToKw pos (keywordEach kws X.env)).all (·.1.isSome) = true := by rfl) (hks : (backToKw pos (keywordEach kws X.env)).filterMap (·.1) = ks := by rfl) (hst : starEach (e :: es) X.env = (false, eval e X.env) :: starEach es X.env := by rfl)
    (hpl : ((backTo pos (starEach (e :: es) X.env)).any (·.1) || (backToKw pos (keywordEach kws X.env)).any (·.1.isNone)) = false := by rfl)
    (ht : eval (.Call (.Attribute o m apos) (e :: es) kws pos) X.env = (do
      let ov ← eval o X.env
      standAt apos.atName
      let (fn, fst) ← holding [ov] (getMethod ov m pl)
      callWith pos fn fst (backTo pos (starEach (e :: es) X.env)) (backToKw pos (keywordEach kws X.env))) := by rfl) : PE X (.Call (.Attribute o m apos) (e :: es) kws pos) (tMethK C m n ks.length sp gV E ta t tk) := by
  refine ⟨fun pins s σ H Q I h => ?_⟩
  refine PySem.W.methodCall_KW (pl := pl) (thn (he.run pins s σ H _ I h) fun u s1 ⟨x, H1, I1, rx, a, dx, fs, ex, ea, l, q⟩ => ?_) ht
  subst ex
  obtain rfl : u = Value.ref a := rx
  refine getmeth_ok I1 ea c hm l (PySem.W.callWith_KW (first := [.ref a]) (h₀ := X.base) I.ok.mod.kin hm.kp hall (thn (ha.run pos pins s1 σ H1 _ I1 q) fun us s2 ⟨vs, H2, I2, r, q2⟩ => ?_) hpl hst)
  refine thn (hkw.run pos pins s2 σ H2 _ I2 q2) fun ws s3 ⟨zs, H3, I3, rz, l1, l2, q3⟩ => ⟨I3.kIn, ?_⟩
  rw [hks]
  exact run_fnN (us := .ref a :: us) (vs := .ref a :: vs) F hr hb hx I3 (.cons rfl r) rz (by rw [List.length_cons, l1]) l2 q3
/-- C.m(e, .., k = v), m a classmethod -/
theorem pe_cmethK (he : PE X o ta) (r : CRead X.K C mc) (c : CMet X.K C mc m p g) (F : FnOk X.prog X.w X.K X.mg X.base CX k g fd ps sp) (hr : Room k X.A) (hb : KBn X.K fd ps (n + 1) ks gg gV) (hx : Passes CX X E) (ha : PA X (e :: es) t) (hkw : PK X kws tk)
    (hall : (backToKw pos (keywordEach kws X.env)).all (·.1.isSome) = true := by rfl) (hks : (backToKw pos (keywordEach kws X.env)).filterMap (·.1) = ks := by rfl) (hst : starEach (e :: es) X.env = (false, eval e X.env) :: starEach es X.env := by rfl)
    (hpl : ((backTo pos (starEach (e :: es) X.env)).any (·.1) || (backToKw pos (keywordEach kws X.env)).any (·.1.isNone)) = false := by rfl)
    (ht : eval (.Call (.Attribute o m apos) (e :: es) kws pos) X.env = (do
      let ov ← eval o X.env
      standAt apos.atName
      let (fn, fst) ← holding [ov] (getMethod ov m pl)
      callWith pos fn fst (backTo pos (starEach (e :: es) X.env)) (backToKw pos (keywordEach kws X.env))) := by rfl) : PE X (.Call (.Attribute o m apos) (e :: es) kws pos) (tCMethK C n ks.length sp gV E ta t tk) := by
  refine ⟨fun pins s σ H Q I h => ?_⟩
  refine PySem.W.methodCall_KW (pl := pl) (thn (he.run pins s σ H _ I h) fun u s1 ⟨x, H1, I1, rx, ex, q⟩ => ?_) ht
  subst ex
  obtain rfl : u = Value.ref C := rx
  refine getmethcm_ok I1 r c fun s2 I2 => ?_
  generalize hq0 : s1.heap.objs.size = q0 at I2 ⊢
  refine PySem.W.callWith_of (P := PySem.W.MethP X.K q0 g (.ref C)) hpl (PySem.W.keeps_M c.fi) (evalArgs_kw2 hall (thn (ha.run pos _ s2 σ H1 _ I2 q) fun us s3 ⟨vs, H2, I3, rv, q2⟩ => ?_) hst)
  refine thn (hkw.run pos _ s3 σ H2 _ I3 q2) fun ws s4 ⟨zs, H3, I4, rz, l1, l2, q3⟩ => ⟨⟨pin_at I4, I4.kIn⟩, ?_⟩
  rw [hks]
  have r2 := hb.rel (.cons (show RelV (.ref C) (Value.ref C) from rfl) rv) rz
  have z : wpAny (model X.prog X.w) X.A (call (.ref q0) ([] ++ us) (ks.zip ws)) (EP X ((q0, PySem.W.methodObj (.ref g) (.ref C)) :: pins) σ Q) X.xe s4 := by
    refine wpAny_call (PySem.W.method_call (pin_at I4) (codeAny_mono (F.run X.A X.stack s4 H3 ⟨.ref C :: us, ks.zip ws⟩ (gg (.ref C :: us) ws) (gV (.ref C :: vs) zs) Q E hr I4.env0 (hb.to s4 (.ref C :: us) ws I4.kIn (by rw [List.length_cons, ← rv.length, l1]) (by rw [← rz.length, l2])) r2 q3) fun r s' hq => ?_))
    cases r with
    | error er => exact hx _ σ H3 s4 er s' I4 hq
    | ok fl =>
      cases fl with
      | ret u => exact I4.after hq
      | next => exact False.elim hq
      | brk => exact False.elim hq
      | cont => exact False.elim hq
  exact thn z fun _ _ y => unpinE y
end
/-- x(e, ..), x a local name that holds the class at C -/
def tMakeL (C : Addr) (i : Nat) (sp : Sp) (E : XK) (t : TA) : TE := fun σ H Q => σ[i]? = some (some (.ref C)) ∧ t σ H fun vs H1 => ∀ x dx, H1 x = none → H1 dx = none → dx ≠ x → sp (.ref x :: vs) (upd (upd H1 dx (.own x)) x (.ins C dx [])) (fun v H2 => v = .non ∧ Q (.ref x) H2) E
section
variable {X : Cx} {CX : CXT} {k i : Nat} {f C : Addr} {sp : Sp} {E : XK} {x : Str} {e : Expr} {es : List Expr} {t : TA} {p pos : Pos}
theorem pe_makeL (M : Mk X.K C f) (F : FnR X.prog X.w X.K X.mg X.base CX k f sp) (hr : Room (k + 1) X.A) (hN : X.N[i]? = some x) (hv : Vis X.env.scope x) (hx : Passes CX X E) (ha : PA X (e :: es) t) (hdb : (x == ("__debug__" : Str)) = false := by decide) (hcd : (x == ("__classdict__" : Str)) = false := by decide)
    (he : starEach (e :: es) X.env = (false, eval e X.env) :: starEach es X.env := by rfl) (hpl : (backTo pos (starEach es X.env)).any (·.1) = false := by rfl) : PE X (.Call (.Name x p) (e :: es) [] pos) (tMakeL C i sp E t) := by
  refine ⟨fun pins s σ H Q I h => ?_⟩
  obtain ⟨hs, ht⟩ := h
  refine wpAny_Call_Name_kw (thn ((pe_var (pos := p) hN hv hdb hcd).run pins s σ H (fun v H1 => v = .ref C ∧ H1 = H) I ⟨.ref C, hs, rfl, rfl⟩) fun u s1 ⟨v, H1, I1, r1, q1⟩ => ?_)
  obtain ⟨rfl, rfl⟩ := q1
  cases r1
  refine PySem.W.callWith_K (h₀ := X.base) I.ok.mod.kin M.kp (thn (ha.run pos pins s1 σ _ _ I1 ht) fun us s2 ⟨vs, H2, I2, r, q⟩ => ⟨I2.kIn, ?_⟩) he hpl
  exact StX.run_makeR M F hr hx I2 r q
end
section
variable {P : Program} {w : World} {K : PySem.W.Frag} {mg : Str → Option Value} {base : Heap} {k : Nat} {x qual : Str} {params : Arguments} {body : List Stmt} {scope : Scope} {dvs : List V} {kws : List (Str × V)} {f : Addr} {fd : FuncData} {CX : CXT} {N ps : List Str} {sp : Sp}
/-- def f(a, .., *, k = d, **names), called with all of a, .. and nothing else: k is d, names a new dict -/
theorem fn_kwdict {pd : Str} {n : Nat} (F : FunD K x qual params body scope dvs kws f fd) (S : FnScope N (ps ++ [pd]) scope) (hCX : StX.CXUp CX) (hk : kws ≠ []) (hn : n + kws.length = ps.length)
    (hb : ∀ (dV : Value) (D : Addr) (doc pm : Value) (an : Option Addr) (cdv ct : Value) (us ks : List Value), us.length = n → ks.length = kws.length → ∃ t : Sem (List (Str × Value)), bindArgs (PySem.W.fnOf x qual params body scope dV (.ref D) doc pm an cdv ct) ⟨us, []⟩ = t ∧
      ∀ (M : Model) (h : Heap), (∀ q ∈ (kws.map (·.1)).zip ks, PySem.W.nsIn K D q.1 = some (some q.2)) → K.In h → ∃ (β : Type) (t0 : Sem β) (b : β) (t1 : β → Sem (List (Str × Value))), t = t0 >>= t1 ∧ PySem.W.Looks M h t0 b ∧ t1 b = ((alloc ({ cls := .type "dict", data := .dict #[] } : Obj) : Sem Addr) >>= fun d => pure (ps.zip (us ++ ks) ++ [(pd, Value.ref d)])))
    (hbody : ∀ (cdv : Value) (A : Around) (outer : List Env) (s : Shared) (H : Hp) (vs : List V) (Q : VK) (E : XK), Room k (A.deeper (envOfC qual scope s.heap.objs.size f cdv)) → sp vs H Q E →
      ∃ t, PSs (cxOf CX P w K mg base N qual scope f cdv A outer s H E) body t ∧ t { nx := fun _ H' => Q .non H', rt := Q } (start N vs) H) :
    FnR P w K mg base CX (k + 1) f (fun vs H Q E => vs.length = n ∧ ∀ d, H d = none → sp (vs ++ (kws.map (·.2) ++ [V.ref d])) (upd H d (.dK [])) Q E) := by
  obtain ⟨oc, od, dV, kV, doc, pm, an, cdv, ct, osl, rfl, lk, hcd, hD, hK⟩ := F.ex
  rcases hK with e | ⟨D, rfl, hq⟩
  · exact absurd e hk
  obtain ⟨kk, hl, rk, hks⟩ := kwd_vals hq
  intro A outer s H us vs Q E hr e0 r hsp
  obtain ⟨hlen, hq0⟩ := hsp
  have hn0 : H s.heap.objs.size = none := e0.hok.fresh (Nat.le_refl _)
  have KX : K.In s.heap := e0.mod.kin.keeps fun b o e => (e0.bs b o e).1
  refine StX.run_bnd lk hcd S hr e0 (G := fun xs H2 => ∃ d, H d = none ∧ xs = vs ++ (kws.map (·.2) ++ [V.ref d]) ∧ H2 = upd H d (.dK [])) (fun A' Ex Q' h => ?_) fun s2 H2 xs ⟨d, hd, ex, eH⟩ hr' => ?_
  · obtain ⟨t, e1, e2⟩ := hb dV D doc pm an cdv ct us kk (by rw [← r.length]; exact hlen) hl
    obtain ⟨β, t0, b, t1, e3, lk2, e4⟩ := e2 (model P w) s.heap hks KX
    rw [e1, e3]
    refine wpAny_bind (lk2.here ?_)
    rw [e4]
    refine wpAny_bind (wpAny_alloc (wpAny_pure ?_))
    have new : ObjOk P w (upd H s.heap.objs.size (.dK [])) (s.heap.push ({ cls := .type "dict", data := .dict #[] } : Obj)) s.heap.objs.size (.dK []) := dk_empty _ (StX.env0_big e0)
    have un := StX.un_laid (fs := frs outer) (s := s) (o := ({ cls := .type "dict", data := .dict #[] } : Obj)) (u := .dK []) hn0
    have z := h _ _ (vs ++ (kws.map (·.2) ++ [V.ref s.heap.objs.size])) (us ++ (kk ++ [Value.ref s.heap.objs.size])) (StX.env0_laid e0 new) un rfl (fun e s' => hCX outer s H _ _ E e s' un (fun b o q => Heap.get?_push_of_some _ q) rfl) (r.append (rk.append (.cons rfl .nil)))
      (by simp only [List.length_append, List.length_map, List.length_cons, List.length_nil, hlen]; omega) ⟨_, hn0, rfl, rfl⟩
    rw [← List.append_assoc, List.zip_append (by rw [List.length_append, ← r.length, hlen, hl, hn])] at z
    exact z
  · subst ex eH
    exact hbody cdv A outer s2 _ _ Q E hr' (hq0 d hd)
end
end Mx

/-! Data ways: defs and their calls, objects, lists that change. -/
namespace Dw
open PySem PySem.Spec PySem.W PyProof.Rows L2 Dr Rp
open He (ga)
/-- what a def promises over data: g tells what may come out of the arguments -/
abbrev WD := List EV → (EV → Prop) → Prop
def spW (K : PySem.W.Frag) (mr : Mode) (g : WD) : Sp := fun vs H Q _ => ∃ Lc p es P, LOk Lc p H ∧ Paired (fun v e => Rv K p (ctL Lc H) v e) vs es ∧ g es P ∧
  ∀ e H' v, P e → Stp Lc p H H' → LOk Lc p H' → Res K mr Lc p H H' v e → Q v H'
/-- the names at a def's start, what its end means -/
def startE (n : Nat) (es : List EV) : EnvD := es ++ List.replicate (n - es.length) .no
def wDef (n j : Nat) (f : WS) : WD := fun es P => es.length = j ∧ f (startE n es) { nx := fun _ => P (.py .none), rt := P }
def wDefR (n j : Nat) (f : WS) : WD := fun es P => es.length = j ∧ f (startE n es) { nx := fun _ => False, rt := P }
section
variable {P : Program} {w : World} {K : PySem.W.Frag} {mg : Str → Option Value} {base : Heap} {CX : CXT}
theorem paired_len {α β : Type} {R : α → β → Prop} : ∀ {xs : List α} {ys : List β}, Paired R xs ys → xs.length = ys.length
  | _, _, .nil => rfl
  | _, _, .cons _ t => by rw [List.length_cons, List.length_cons, paired_len t]
theorem paired_get {α β : Type} {R : α → β → Prop} : ∀ {xs : List α} {ys : List β} {i : Nat} {y : β}, Paired R xs ys → ys[i]? = some y → ∃ x, xs[i]? = some x ∧ R x y
  | _, _, _, _, .nil, h => by simp at h
  | _, _, 0, _, .cons a t, h => by
    cases h
    exact ⟨_, rfl, a⟩
  | _, _, i + 1, _, .cons _ t, h => paired_get (i := i) t h
theorem start_ok {N : List Str} {vs : List V} {es : List EV} {Lc : Addr → Prop} {p : Option Addr} {H : Hp} (o : LOk Lc p H) (r : Paired (fun v e => Rv K p (ctL Lc H) v e) vs es) (hn : es.length ≤ N.length) :
    EnvOk K H Lc (fun _ => none) p {} H (L2.start N vs) (startE N.length es) := by
  have hl := paired_len r
  have hs : ∀ b, Ls Lc (fun _ => none) b ↔ Lc b := fun b => ⟨(fun l => l.elim id fun ⟨i, h⟩ => (by cases h)), Or.inl⟩
  have eL : Ls Lc (fun _ => none) = Lc := funext fun b => propext (hs b)
  refine ⟨?_, fun i e h => ?_, fun i a h => (by cases h), fun i j a h => (by cases h), fun i a h => (by cases h), ⟨(fun _ h => nomatch h), (fun _ h => nomatch h)⟩, o, Stp.refl⟩
  · unfold L2.start startE
    rw [List.length_append, List.length_append, List.length_map, List.length_replicate, List.length_replicate, hl]
  · unfold startE at h
    by_cases hi : i < es.length
    · rw [List.getElem?_append_left hi] at h
      obtain ⟨v, h1, h2⟩ := paired_get r h
      have hσ : (L2.start N vs)[i]? = some (some v) := by
        unfold L2.start
        rw [List.getElem?_append_left (by rw [List.length_map]; omega), List.getElem?_map, h1]
        rfl
      rw [eL]
      cases e with
      | own d => exact False.elim h2
      | no => trivial
      | py d => exact ⟨v, hσ, h2⟩
      | st => exact ⟨v, hσ, h2⟩
      | ob C fs => exact ⟨v, hσ, h2⟩
    · rw [List.getElem?_append_right (by omega)] at h
      rw [List.getElem?_replicate] at h
      split at h
      · cases h
        trivial
      · cases h
theorem fn_W {x qual : Str} {params : Arguments} {body : List Stmt} {scope : Scope} {dvs : List V} {kws : List (Str × V)} {f : Addr} {fd : FuncData} {N ps : List Str} {k : Nat} {fw : WS} (F : FunD K x qual params body scope dvs kws f fd) (S : FnScope N ps scope) (hn : ps.length ≤ N.length)
    (hb : ∀ (cdv : Value) (A : Around) (outer : List Env) (s : Shared) (H : Hp) (E : XK), Room k (A.deeper (envOfC qual scope s.heap.objs.size f cdv)) → PSs (cxOf CX P w K mg base N qual scope f cdv A outer s H E).nox body (tWS K .data fw)) :
    FnOk P w K mg base CX (k + 1) f fd ps (spW K .data (wDef N.length ps.length fw)) := by
  refine F.ok S (fun vs H Q E h => ?_) (fun cdv A outer s H vs Q E hr h => ?_)
  · obtain ⟨Lc, p, es, P, o, r, ⟨hl, _⟩, _⟩ := h
    rw [paired_len r, hl]
  · obtain ⟨Lc, p, es, P, o, r, ⟨hl, hg⟩, k⟩ := h
    refine ⟨_, (hb cdv A outer s H E hr).nox, ?_⟩
    refine ⟨H, Lc, _, p, {}, _, _, start_ok o r (by omega), hg, fun ρ' os' H' σ' hk E' => ?_, fun ρ' os' H' σ' hk E' => hk.elim, fun ρ' os' H' σ' hk E' => hk.elim, fun e v H' hk s' o' r' => k e H' v hk s' o' r'⟩
    exact k _ H' .non hk E'.stp E'.lok .non
theorem fn_WF {x qual : Str} {params : Arguments} {body : List Stmt} {scope : Scope} {dvs : List V} {kws : List (Str × V)} {f : Addr} {fd : FuncData} {N ps : List Str} {k : Nat} {fw : WS} (F : FunD K x qual params body scope dvs kws f fd) (S : FnScope N ps scope) (hn : ps.length ≤ N.length)
    (hb : ∀ (cdv : Value) (A : Around) (outer : List Env) (s : Shared) (H : Hp) (E : XK), Room k (A.deeper (envOfC qual scope s.heap.objs.size f cdv)) → PSs (cxOf CX P w K mg base N qual scope f cdv A outer s H E).nox body (tWS K .fresh fw)) :
    FnOk P w K mg base CX (k + 1) f fd ps (spW K .fresh (wDefR N.length ps.length fw)) := by
  refine F.ok S (fun vs H Q E h => ?_) (fun cdv A outer s H vs Q E hr h => ?_)
  · obtain ⟨Lc, p, es, P, o, r, ⟨hl, _⟩, _⟩ := h
    rw [paired_len r, hl]
  · obtain ⟨Lc, p, es, P, o, r, ⟨hl, hg⟩, k⟩ := h
    refine ⟨_, (hb cdv A outer s H E hr).nox, ?_⟩
    exact ⟨H, Lc, _, p, {}, _, _, start_ok o r (by omega), hg, fun ρ' os' H' σ' hk E' => hk.elim, fun ρ' os' H' σ' hk E' => hk.elim, fun ρ' os' H' σ' hk E' => hk.elim, fun e v H' hk s' o' r' => k e H' v hk s' o' r'⟩
/-- another meaning that asks more -/
theorem fn_imp {k : Nat} {f : Addr} {fd : FuncData} {ps : List Str} {mr : Mode} {g g' : WD} (F : FnOk P w K mg base CX k f fd ps (spW K mr g)) (h : ∀ es P, g' es P → g es P) : FnOk P w K mg base CX k f fd ps (spW K mr g') :=
  F.imp fun vs H Q E q => by
    obtain ⟨Lc, p, es, P, o, r, hg, k⟩ := q
    exact ⟨Lc, p, es, P, o, r, h _ _ hg, k⟩
end
section
variable {X : Cx} {m mr : Mode} {CX : CXT} {k : Nat} {f : Addr} {fd : FuncData} {ps : List Str} {g : WD} {fa : WA} {x : Str} {q pos : Pos} {e : Expr} {es : List Expr}
theorem Res.to {K : PySem.W.Frag} {L : Addr → Prop} {p : Option Addr} {H H' : Hp} {v : V} {e : EV} (hm : mr = .fresh ∨ mr = .data ∧ m ≠ .fresh) (o : LOk L p H) (r : Res K mr L p H H' v e) : Res K m L p H H' v e := by
  rcases hm with rfl | ⟨rfl, hm⟩
  · obtain ⟨a, d, rfl, rfl, h0, hw⟩ := r
    exact Res.of_fresh o h0 hw
  · exact Res.of_data hm r
/-- f(..) of a def whose promise is over data -/
theorem dcall (F : FnOk X.prog X.w X.K X.mg X.base CX k f fd ps (spW X.K mr g)) (hr : Room k X.A) (hg : Gl X x) (hmg : X.mg x = some (.ref f)) (hk : PySem.W.keepIn X.K (.ref f) = true) (hb : Binds X.K fd ps []) (hx : Passes CX X E0) (ha : PA X (e :: es) (tWA X.K .data fa)) (hm : mr = .fresh ∨ mr = .data ∧ m ≠ .fresh := by decide) (hdb : (x == ("__debug__" : Str)) = false := by decide)
    (he : starEach (e :: es) X.env = (false, eval e X.env) :: starEach es X.env := by rfl) (hpl : (backTo pos (starEach es X.env)).any (·.1) = false := by rfl) : PE X (.Call (.Name x q) (e :: es) [] pos) (tW X.K m (wCallA g fa)) :=
  ka (ma := .data) (g := g) (fun vs H Q => spW X.K mr g (vs ++ []) H Q E0) (pe_call F hr hg hmg hk hb .nil hx ha hdb he hpl) fun L p H0 H vs es P Q o ra hg k => by
    rw [List.append_nil]
    exact ⟨L, p, es, P, o, ra, hg, fun e H' v hP s o' r => k e H' v hP s o' (r.to hm o)⟩
def wNilA (g : WD) : WF := fun _ P => g [] P
theorem dcall0 (F : FnOk X.prog X.w X.K X.mg X.base CX k f fd ps (spW X.K mr g)) (hr : Room k X.A) (hg : Gl X x) (hmg : X.mg x = some (.ref f)) (hk : PySem.W.keepIn X.K (.ref f) = true) (hb : Binds X.K fd ps []) (hx : Passes CX X E0) (hm : mr = .fresh ∨ mr = .data ∧ m ≠ .fresh := by decide) (hdb : (x == ("__debug__" : Str)) = false := by decide) :
    PE X (.Call (.Name x q) [] [] pos) (tW X.K m (wCallA g wNil)) := by
  refine pe_mono (pe_call0 F hr hg hmg hk hb .nil hx hdb) fun σ H Q q => ?_
  obtain ⟨He, Lc, os, p, gs, ρ, P, E, hf, k⟩ := q
  exact ⟨Ls Lc os, p, [], P, E.lokL, .nil, hf, fun e H' v hP s o' r => k e H' v hP s o' (r.to hm E.lokL)⟩
/-! ### objects -/
theorem look_dts {K : PySem.W.Frag} {G : Hp} {n : Str} : ∀ {vs : List (Str × V)} {fs : List (Str × PyData)} {d : PyData}, vs.map (·.1) = fs.map (·.1) → DtAll K G (vs.map (·.2)) (fs.map (·.2)) → fs.lookup n = some d → ∃ v, vs.lookup n = some v ∧ Dt K G v d
  | [], [], _, _, _, h => by cases h
  | [], _ :: _, _, e, _, _ => by cases e
  | _ :: _, [], _, e, _, _ => by cases e
  | (a, v) :: vs, (b, u) :: fs, d, e, hd, h => by
    rw [List.map_cons, List.map_cons] at e hd
    injection e with e1 e2
    cases hd with
    | cons h1 h2 =>
      have e1 : a = b := e1
      subst e1
      rw [List.lookup_cons] at h ⊢
      cases q : n == a with
      | true =>
        rw [q] at h
        cases h
        exact ⟨v, rfl, h1⟩
      | false =>
        rw [q] at h
        exact look_dts e2 h2 h
theorem look_none {n : Str} : ∀ {vs : List (Str × V)} {fs : List (Str × PyData)}, vs.map (·.1) = fs.map (·.1) → fs.lookup n = none → vs.lookup n = none
  | [], [], _, _ => rfl
  | [], _ :: _, e, _ => by cases e
  | _ :: _, [], e, _ => by cases e
  | (a, v) :: vs, (b, u) :: fs, e, h => by
    rw [List.map_cons, List.map_cons] at e
    injection e with e1 e2
    have e1 : a = b := e1
    subst e1
    rw [List.lookup_cons] at h ⊢
    cases q : n == a with
    | true =>
      rw [q] at h
      cases h
    | false =>
      rw [q] at h
      exact look_none e2 h
def wFld (C f : Str) : EV → (EV → Prop) → Prop
  | .ob C' fs, P => C' = C ∧ ∃ d, fs.lookup f = some d ∧ P (.py d)
  | _, _ => False
/-- e.f, a field -/
theorem dfld {o : Expr} {n C : Str} {fo : WF} (c : Cls X.K (ga X.K C)) (na : NoAttr X.K (ga X.K C) n) (he : PE X o (tW X.K .data fo)) (hb : attributeBase o n X.env (eval o X.env) = eval o X.env := by rfl) (hm : m ≠ .fresh := by decide) : PE X (.Attribute o n pos) (tW X.K m (w1 fo (wFld C n))) :=
  k1 (ma := .data) (g := wFld C n) (fun x H1 Q => ∃ a C dx fs v, x = .ref a ∧ H1 a = some (.ins C dx fs) ∧ Cls X.K C ∧ NoAttr X.K C n ∧ fs.lookup n = some v ∧ Q v H1) (by decide) (pe_fld he hb) fun L p H0 H v a P Q o ra hg k => by
    unfold wFld at hg
    split at hg
    · obtain ⟨rfl, d, h1, h2⟩ := hg
      obtain ⟨a, dx, vs, rfl, h3, h4, h5⟩ := ra
      obtain ⟨w, h6, h7⟩ := look_dts h4 h5 h1
      exact ⟨a, _, dx, vs, w, rfl, (ctL_of h3).2.1, c, na, h6, Go.val k o hm h2 h7⟩
    · exact hg.elim
/-- e.f, a property whose promise is over data -/
def wProp (C : Str) (g : WD) : EV → (EV → Prop) → Prop
  | .ob C' fs, P => C' = C ∧ g [.ob C' fs] P
  | _, _ => False
theorem dprop {o : Expr} {n C : Str} {fo : WF} {pp gg : Addr} (c : Cls X.K (ga X.K C)) (hp : PropOf X.K (ga X.K C) n pp gg) (F : FnOk X.prog X.w X.K X.mg X.base CX k gg fd ps (spW X.K mr g)) (hr : Room (k + 1) X.A) (hb : Binds X.K fd ps []) (hx : Passes CX X.nox E0) (he : PE X o (tW X.K .data fo)) (hab : attributeBase o n X.env (eval o X.env) = eval o X.env := by rfl) (hm : mr = .fresh ∨ mr = .data ∧ m ≠ .fresh := by decide) :
    PE X (.Attribute o n pos) (tW X.K m (w1 fo (wProp C g))) :=
  k1 (ma := .data) (g := wProp C g) (fun x H1 Q => ∃ a dx fs, x = .ref a ∧ H1 a = some (.ins (ga X.K C) dx fs) ∧ spW X.K mr g (.ref a :: []) H1 Q E0) (by decide) (pe_prop he c hp F hr hb .nil hx hab) fun L p H0 H v a P Q o ra hg k => by
    unfold wProp at hg
    split at hg
    · obtain ⟨rfl, hg⟩ := hg
      have rd : Rv X.K p (ctL L H) v (.ob _ _) := ra
      obtain ⟨a, dx, vs, rfl, h3, h4, h5⟩ := id rd
      exact ⟨a, dx, vs, rfl, (ctL_of h3).2.1, L, p, _, P, o, .cons rd .nil, hg, fun e H' v hP s o' r => k e H' v hP s o' (r.to hm o)⟩
    · exact hg.elim
/-- o.m(..) -/
def wMeth (C n : Str) (g : WD) (fo : WF) (fa : WA) : WF := fun ρ P => fo ρ fun o => match o with
  | .ob C' fs => C' = C ∧ fs.lookup n = none ∧ fa ρ fun es => g (.ob C' fs :: es) P
  | _ => False
theorem dmeth {o : Expr} {n C : Str} {fo : WF} {pl : Sem Bool} {apos : Pos} (c : Cls X.K (ga X.K C)) (hme : Meth X.K (ga X.K C) n f) (F : FnOk X.prog X.w X.K X.mg X.base CX k f fd ps (spW X.K mr g)) (hr : Room k X.A) (hb : Binds X.K fd ps []) (hx : Passes CX X E0) (he : PE X o (tW X.K .data fo)) (ha : PA X (e :: es) (tWA X.K .data fa)) (hm : mr = .fresh ∨ mr = .data ∧ m ≠ .fresh := by decide)
    (hst : starEach (e :: es) X.env = (false, eval e X.env) :: starEach es X.env := by rfl) (hpl : (backTo pos (starEach es X.env)).any (·.1) = false := by rfl)
    (ht : eval (.Call (.Attribute o n apos) (e :: es) [] pos) X.env = (do
      let ov ← eval o X.env
      standAt apos.atName
      let (f, first) ← holding [ov] (getMethod ov n pl)
      callWith pos f first (backTo pos (starEach (e :: es) X.env)) (backToKw pos (keywordEach [] X.env))) := by rfl) :
    PE X (.Call (.Attribute o n apos) (e :: es) [] pos) (tW X.K m (wMeth C n g fo fa)) := by
  refine pe_mono (pe_meth (pl := pl) he c hme F hr hb .nil hx ha hst hpl ht) fun σ H Q q => ?_
  obtain ⟨He, Lc, os, p, gs, ρ, P, E, hf, k⟩ := q
  refine ⟨He, Lc, os, p, gs, ρ, _, E, hf, fun e H1 v he s o r => ?_⟩
  split at he
  · obtain ⟨rfl, hl, hfa⟩ := he
    have rd : Rv X.K p (ctL (Ls Lc os) H1) v (.ob _ _) := r
    obtain ⟨a, dx, vs, rfl, h3, h4, h5⟩ := id rd
    refine ⟨a, dx, vs, rfl, (ctL_of h3).2.1, look_none h4 hl, He, Lc, os, p, gs, ρ, _, E.step s o, hfa, fun es2 H2 vs2 hes s2 o2 r2 => ?_⟩
    show spW X.K mr g (V.ref a :: (vs2 ++ [])) H2 Q E0
    rw [List.append_nil]
    refine ⟨Ls Lc os, p, _, P, o2, .cons (Rv.step rd o s2) r2, hes, fun e H' v hP s' o' r' => k e H' v hP ((s.trans s2).trans s') o' ((r'.to hm o2).base (s.trans s2))⟩
  · exact he.elim
/-! ### lists that change -/
def wApp (i : Nat) (f : WF) : WS := fun ρ k => ∃ xs, ρ[i]? = some (.own (.list xs)) ∧ f ρ fun e => match e with
  | .py d => xs.length < sizeLine ∧ k.nx (ρ.set i (.own (.list (xs ++ [d]))))
  | _ => False
theorem EnvOk.lst_at {K : PySem.W.Frag} {He : Hp} {Lc : Addr → Prop} {os : Nat → Option Addr} {p : Option Addr} {gs : Gh} {H : Hp} {σ : L2.St} {ρ : EnvD} (E : EnvOk K He Lc os p gs H σ ρ) {i : Nat} {xs : List PyData} (h : ρ[i]? = some (.own (.list xs))) :
    ∃ a vs, os i = some a ∧ σ[i]? = some (some (.ref a)) ∧ H a = some (.lst vs) ∧ DtAll K (ctL (Ls Lc os) H) vs xs := by
  obtain ⟨a, ha⟩ := E.val i _ h
  obtain ⟨d, h1, h2, h3⟩ := E.own i a ha
  rw [h] at h1
  cases h1
  rcases h3 with ⟨vs, ys, e, h3, h4⟩ | ⟨_, _, e, _⟩
  · cases e
    exact ⟨a, vs, ha, h2, h3, h4⟩
  · cases e
theorem EnvOk.np {K : PySem.W.Frag} {He : Hp} {Lc : Addr → Prop} {os : Nat → Option Addr} {p : Option Addr} {gs : Gh} {H : Hp} {σ : L2.St} {ρ : EnvD} (E : EnvOk K He Lc os p gs H σ ρ) {i : Nat} {a : Addr} (h : os i = some a) : p ≠ some a := fun e => (E.fre i a h).1 (E.lok.str a e).1
theorem ds_append (i : Nat) {x : Str} {a : Expr} {fa : WF} {pos cpos apos npos : Pos} (ha : PE X a (tW X.K .data fa)) (hN : X.N[i]? = some x := by rfl) (hv : Vis X.env.scope x := by first | exact Or.inl rfl | exact Or.inr (Or.inl rfl) | exact Or.inr (Or.inr rfl)) (hd : (x == ("__debug__" : Str)) = false := by decide)
    (hcd : (x == ("__classdict__" : Str)) = false := by decide) (hse : starEach [a] X.env = (false, eval a X.env) :: starEach [] X.env := by rfl) (hbase : attributeBase (.Name x npos) "append" X.env (eval (.Name x npos) X.env) = eval (.Name x npos) X.env := by rfl)
    (hfew : ((backTo cpos (starEach [a] X.env)).all (fun x => !x.1) && (backToKw cpos (keywordEach [] X.env)).all (fun x => x.1.isSome) && decide ([a].length + ([] : List Keyword).length + (if ([] : List Keyword).isEmpty then 0 else 1) < 30)) = true := by rfl)
    (hline : (apos.endLine == cpos.line) = true := by rfl) (hsw : swapsWith (.Call (.Attribute (.Name x npos) "append" apos) [a] [] cpos) none pos.line X.env = pure false := by rfl) :
    PS X (.Expr (.Call (.Attribute (.Name x npos) "append" apos) [a] [] cpos) pos) (tWS X.K mr (wApp i fa)) := by
  refine ps_mono (ps_expr (pe_bm PySem.F.plainAttrs_list PySem.F.slot_list_append PySem.F.type_list_append mt_append (pe_var hN hv hd hcd) (pa_cons ha pa_nil hse) hbase hfew hline hse (by rfl)) hsw) fun D σ H q => ?_
  obtain ⟨He, Lc, os, p, gs, ρ, k, E, ⟨xs, hi, hf⟩, k1, _⟩ := q
  obtain ⟨a, vs, h1, h2, h3, h4⟩ := E.lst_at hi
  refine ⟨.ref a, h2, .inl ⟨rfl, _, SqL.of h3⟩, He, Lc, os, p, gs, ρ, _, E, hf, fun e H1 v he s o r => ?_⟩
  split at he
  · obtain ⟨hz, hk⟩ := he
    have E1 := E.step s o
    have e1 : H1 a = some (.lst vs) := (s.loose a (.inr ⟨i, h1⟩) (E.np h1)).trans h3
    refine ⟨a, vs, v, rfl, rfl, e1, by rw [← DtAll.len h4]; exact hz, k1 _ _ _ _ hk (E1.change h1 (.inl ⟨_, _, rfl, upd_same, dts_append (Dt.sameRAll (s.ct E.lokL) _ _ h4) (.cons r .nil)⟩) .lst)⟩
  · exact he.elim
theorem mt_extendR : MtM X "list.extend" (fun x vs H Q => ∃ l b xs zs, x = .ref l ∧ vs = [.ref b] ∧ H l = some (.lst xs) ∧ Rd H b (.lst zs) ∧ xs.length + zs.length ≤ sizeLine ∧ Q .non (upd H l (.lst (xs ++ zs)))) := by
  intro pins s σ H x vs v us Q I rx rv h
  obtain ⟨l, b, xs, zs, rfl, rfl, hH, hB, hz, q⟩ := h
  cases rx
  obtain ⟨u, rfl, ru⟩ := rv.one
  cases ru
  obtain ⟨z, its, n, r, hl, e⟩ := I.lstM hH
  obtain ⟨z2, its2, n2, r2, e2⟩ := hB.ok I.hok
  have hl2 := r2.length
  have hsz : its.toArray.size + its2.toArray.size ≤ sizeLine := by rw [List.size_toArray, List.size_toArray]; omega
  have hlong : ¬ (!its.toArray.isEmpty && Builtin.List.listTooLong (its.toArray.size + its2.toArray.size)) = true := by
    rw [notLongL hsz, Bool.and_false]
    exact Bool.false_ne_true
  refine call_meets F.slot_list_extend ⟨_, e, rfl⟩ F.entry_list_extend (F.args_list_extend_2 _ _)
    (AutoSeq1.list_extend_list_list_0 l its.toArray n b its2.toArray n2 hlong (by rw [List.size_toArray]; omega) (by omega)) ⟨e, e2, ?_⟩
  refine ⟨.non, _, I.lset (its' := its ++ its2) hH e (by simp) (r.append r2) ?_, rfl, q⟩
  rw [List.length_append]
  omega
theorem mtm_or {id : String} {r r' : V → List V → Hp → VK → Prop} (h : MtM X id r) (h' : MtM X id r') : MtM X id (fun x vs H Q => r x vs H Q ∨ r' x vs H Q) := by
  intro pins s σ H x vs v us Q I rx rv q
  rcases q with q | q
  · exact h pins s σ H x vs v us Q I rx rv q
  · exact h' pins s σ H x vs v us Q I rx rv q
def wExt (i : Nat) (f : WF) : WS := fun ρ k => ∃ xs, ρ[i]? = some (.own (.list xs)) ∧ f ρ fun e => match e with
  | .py d => ∃ ds, seqD d = some ds ∧ xs.length + ds.length ≤ sizeLine ∧ k.nx (ρ.set i (.own (.list (xs ++ ds))))
  | _ => False
theorem ds_extend (i : Nat) {x : Str} {a : Expr} {fa : WF} {pos cpos apos npos : Pos} (ha : PE X a (tW X.K .data fa)) (hN : X.N[i]? = some x := by rfl) (hv : Vis X.env.scope x := by first | exact Or.inl rfl | exact Or.inr (Or.inl rfl) | exact Or.inr (Or.inr rfl)) (hd : (x == ("__debug__" : Str)) = false := by decide)
    (hcd : (x == ("__classdict__" : Str)) = false := by decide) (hse : starEach [a] X.env = (false, eval a X.env) :: starEach [] X.env := by rfl) (hbase : attributeBase (.Name x npos) "extend" X.env (eval (.Name x npos) X.env) = eval (.Name x npos) X.env := by rfl)
    (hfew : ((backTo cpos (starEach [a] X.env)).all (fun x => !x.1) && (backToKw cpos (keywordEach [] X.env)).all (fun x => x.1.isSome) && decide ([a].length + ([] : List Keyword).length + (if ([] : List Keyword).isEmpty then 0 else 1) < 30)) = true := by rfl)
    (hline : (apos.endLine == cpos.line) = true := by rfl) (hsw : swapsWith (.Call (.Attribute (.Name x npos) "extend" apos) [a] [] cpos) none pos.line X.env = pure false := by rfl) :
    PS X (.Expr (.Call (.Attribute (.Name x npos) "extend" apos) [a] [] cpos) pos) (tWS X.K mr (wExt i fa)) := by
  refine ps_mono (ps_expr (pe_bm PySem.F.plainAttrs_list PySem.F.slot_list_extend PySem.F.type_list_extend (mtm_or mt_extendR Et.mt_extendT) (pe_var hN hv hd hcd) (pa_cons ha pa_nil hse) hbase hfew hline hse (by rfl)) hsw) fun D σ H q => ?_
  obtain ⟨He, Lc, os, p, gs, ρ, k, E, ⟨xs, hi, hf⟩, k1, _⟩ := q
  obtain ⟨a, vs, h1, h2, h3, h4⟩ := E.lst_at hi
  refine ⟨.ref a, h2, .inl ⟨rfl, _, SqL.of h3⟩, He, Lc, os, p, gs, ρ, _, E, hf, fun e H1 v he s o r => ?_⟩
  split at he
  · obtain ⟨ds, hd, hz, hk⟩ := he
    have E1 := E.step s o
    have e1 : H1 a = some (.lst vs) := (s.loose a (.inr ⟨i, h1⟩) (E.np h1)).trans h3
    have lv := DtAll.len h4
    have h4' := Dt.sameRAll (s.ct E.lokL) _ _ h4
    have rd : Rv X.K p (ctL (Ls Lc os) H1) v (.py _) := r
    have r' : Res X.K .read (Ls Lc os) p H H1 v _ := .inl rd
    unfold seqD at hd
    split at hd
    · cases hd
      obtain ⟨b, zs, rfl, q1, q2⟩ := r'.list
      have lz := DtAll.len q2
      exact .inl ⟨a, b, vs, zs, rfl, rfl, e1, q1, by omega, k1 _ _ _ _ hk (E1.change h1 (.inl ⟨_, _, rfl, upd_same, dts_append h4' q2⟩) .lst)⟩
    · cases hd
      obtain ⟨b, zs, rfl, q1, q2⟩ := r'.tup
      have lz := DtAll.len q2
      exact .inr ⟨a, b, vs, zs, rfl, rfl, e1, q1, by omega, k1 _ _ _ _ hk (E1.change h1 (.inl ⟨_, _, rfl, upd_same, dts_append h4' q2⟩) .lst)⟩
    · cases hd
  · exact he.elim
end
end Dw

/-! enumerate(a tuple), walked. -/
namespace Tp
open PySem PySem.Spec PyProof.Rows L2
open AutoSeq1 (wpAny_loadPart')
abbrev oIt (t : Addr) : Obj := { cls := .type "tuple_iterator", data := .fields #[.ref t, .int 0 0] }
abbrev oEn (it : Addr) : Obj := { cls := .type "enumerate", data := .fields #[.none, .bool false, .ref it, rawInt 0, .none, .none] }
theorem newEn (t : Addr) (items : Array Value) (n : Nat) (dct : Option Addr) (sl : Array (Option Value)) :
    Meets (Builtin.«enumerate.__new__» ⟨[.type "enumerate", .ref t], []⟩) (fun _ R s => s.heap.get? t = some { cls := .type "tuple", dict := dct, data := .seq items n, slots := sl } ∧
      R (.ok (.ret (.ref (s.heap.push (oIt t)).objs.size))) { s with heap := (s.heap.push (oIt t)).push (oEn s.heap.objs.size) }) :=
  .of_wp fun prog w A R s h => by
    obtain ⟨hp, g, d, tk, os⟩ := s
    obtain ⟨ho, h⟩ := h
    have hsub := sub_enumerate
    have hT : Heap.IsTuple (Shared.heap ⟨hp, g, d, tk, os⟩) t items := ⟨_, ho, rfl, n, rfl⟩
    wp_walk using wpAny_loadPart' ho
    refine wpAny_stack_any fun st => wpAny_pure ?_
    split
    · rename_i c _ _ _ _ _
      cases (c == Value.type "enumerate")
      all_goals
        wp_walk using wpAny_loadPart' ho, wpAny_pyIter_tuple hT
        exact ⟨_, rfl, h⟩
    · wp_walk using wpAny_loadPart' ho, wpAny_pyIter_tuple hT
      exact ⟨_, rfl, h⟩
theorem call_en {prog : Program} {w : World} {A : Around} {E : Value → Shared → Prop} {s : Shared} {t : Addr} {items : Array Value} {Q : Value → Shared → Prop} (hT : s.heap.IsTuple t items)
    (h : ∀ h', IsEnum h' (s.heap.objs.size + 1) s.heap.objs.size 0 .none → h'.IsTupleIter s.heap.objs.size t 0 → (∀ b o, s.heap.get? b = some o → h'.get? b = some o) → Q (.ref (s.heap.objs.size + 1)) { s with heap := h' }) :
    wpAny (model prog w) A (call (.type "enumerate") [.ref t]) Q E s := by
  obtain ⟨⟨c, dct, dt, sl⟩, ho, hc, n, hd⟩ := hT
  dsimp only at hc hd
  subst hc hd
  have hz : (s.heap.push (oIt t)).objs.size = s.heap.objs.size + 1 := Heap.size_push ..
  have e1 := Heap.get?_push_size (s.heap.push (oIt t)) (o := oEn s.heap.objs.size) rfl
  rw [hz] at e1
  refine callType_new F.called_enumerate (by decide) (F.typeCall_enumerate_1 _) (F.newCall_enumerate_1 _) (fun obj => F.args_object_init_2 obj _) F.entry_enumerate_new (newEn t items n dct sl) ⟨ho, ?_⟩
  show _ ∧ _
  rw [hz]
  exact ⟨⟨_, e1, rfl⟩, h _ e1 ⟨_, Heap.get?_push_of_some _ (Heap.get?_push_size _ rfl), rfl, rfl⟩ fun b o x => Heap.get?_push_of_some _ (Heap.get?_push_of_some _ x)⟩
theorem enum_endT {prog : Program} {w : World} {A : Around} {E : Value → Shared → Prop} {s : Shared} {e it t : Addr} {i : Nat} {k : Int} {old : Value} {items : Array Value} {Q : Option Value → Shared → Prop} (hh : A.handled = none)
    (he : IsEnum s.heap e it k old) (hit : s.heap.IsTupleIter it t i) (hT : s.heap.IsTuple t items) (hx : items[i]? = none)
    (hQ : ∀ h', Heap.ExtBut it s.heap h' → Q none { s with heap := h' }) : wpAny (model prog w) A (pyNext (.ref e)) Q E s := by
  have hc : s.TypeIs (.ref e) "enumerate" := ⟨_, he, rfl⟩
  unfold pyNext
  refine wpAny_bind (wpAny_attempt (wpAny_callSpecial?_slot (name := Str.ofString "__next__") hc F.slot_enumerate_next
    (wpAny_call_entry F.slot_enumerate_next hc F.entry_enumerate_next ?_ (F.args_enumerate_next_1 _))))
  show wpAny _ _ (field (.ref e) 2 >>= _) _ _ _
  refine wpAny_bind (wpAny_field he rfl (x := .ref it) rfl ?_)
  refine wpAny_bind (wpAny_nextOf_tuple_end (A := A.in1) hh hit hT hx fun h' x hb hs => ?_)
  obtain ⟨o, ho, hk⟩ := hs
  refine wpAny_bind (wpAny_isInstance (T := "StopIteration") (b := true) ⟨o, ho, hk⟩ isSubtype_stop ?_)
  exact wpAny_pure (hQ _ hb)
/-- the tuple at a, each item with its place in a new pair -/
def IteT (K : PySem.W.Frag) (a : Addr) : It :=
  ⟨fun i H => ∃ (xs : List V) (x : V), SqT K H a xs ∧ xs[i]? = some x,
    fun i H v H' => ∃ T x, v = .ref T ∧ H T = none ∧ H' = upd H T (.tup [.int (i : Nat), x]) ∧ ∀ xs, SqT K H a xs → xs[i]? = some x,
    fun i H => ∃ xs : List V, SqT K H a xs ∧ xs.length ≤ i⟩
theorem turn_enT {P : Program} {w : World} {K : PySem.W.Frag} {elts : List Expr} {kk : Nat} {tpos : Pos} (a e it : Addr) :
    Turn P w K (.Tuple elts kk tpos) (IteT K a) [e, it] e (fun i h => (∃ old, IsEnum h e it ((i : Nat) : Int) old) ∧ h.IsTupleIter it a i ∧ e ≠ it) where
  mem := by simp
  obj := fun i h st b hb => by
    obtain ⟨⟨old, he⟩, ⟨o, ho, hc, hd⟩, _⟩ := st
    rcases (show b = e ∨ b = it by simpa using hb) with z | z
    · subst z
      exact ⟨_, he, fun v q => nomatch q⟩
    · subst z
      exact ⟨o, ho, fun v q => by rw [hd] at q; cases q⟩
  keep := fun i h h' st k => by
    obtain ⟨⟨old, he⟩, hi, hne⟩ := st
    exact ⟨⟨old, k e (by simp) _ he⟩, hi.at fun o q => k it (by simp) o q, hne⟩
  item := by
    intro X hP hw hK hc i pins s σ H E I hf st hg
    subst hP hw hK
    obtain ⟨⟨old, he⟩, hit, hne⟩ := st
    obtain ⟨xs, x, hq, hx⟩ := hg
    obtain ⟨its, rv, p, hz⟩ := I.tuple hq
    obtain ⟨u, hu, ru⟩ := rv.get hx
    have hT : s.heap.IsTuple a its.toArray := p
    have hel : e < s.heap.objs.size := Heap.lt_size he
    have hil : it < s.heap.objs.size := by
      obtain ⟨_, q, _⟩ := hit
      exact Heap.lt_size q
    have nae : a ≠ e := fun z => by
      obtain ⟨o, h1, h2, _⟩ := hT
      subst z
      rw [he] at h1
      cases h1
      exact absurd (Value.type.inj h2) (by decide)
    have nai : a ≠ it := fun z => by
      obtain ⟨o, h1, h2, _⟩ := hT
      obtain ⟨o', h3, h4, _⟩ := hit
      subst z
      rw [h3] at h1
      cases h1
      rw [h4] at h2
      exact absurd (Value.type.inj h2) (by decide)
    have hlt : i < its.toArray.size := by
      have := List.getElem?_eq_some_iff.mp hu
      obtain ⟨q, _⟩ := this
      simpa using q
    have D := Draws.tuple (prog := X.prog) (w := X.w) (A := X.A.in1) (I.ok.hd hc) it a nai its.toArray
    refine wpAny_pyNext_enum_itemD D he ⟨hit, hT⟩ hlt hne (by simp [hne, nae.symm]) fun u' h' tk hP ho hs' hT' hsz hk => ?_
    obtain rfl : u' = u := by
      have q : its[i]? = some u' := by simpa using hP
      rw [hu] at q
      exact (Option.some.inj q).symm
    refine ⟨_, rfl, wpAny_letOwnedTupleGo_enum (s := { s with heap := h', toks := tk + 1 }) ho fun h'' he' sb => ?_⟩
    have hT2 : h''.get? s.heap.objs.size = some { cls := .type "tuple", data := .seq #[.int i tk, u'] } := (sb.2 _ (Nat.ne_of_gt hel)).trans hT'
    have kk2 : ∀ b ob, b ∉ [e, it] → s.heap.get? b = some ob → h''.get? b = some ob := fun b ob hb q =>
      (sb.2 b fun z => hb (by simp [z])).trans (hk b ob (fun z => hb (by simp [z])) (fun z => hb (by simp [z])) q)
    have new : ObjOk X.prog X.w (upd H s.heap.objs.size (.tup [.int (i : Nat), x])) h'' s.heap.objs.size (.tup [.int (i : Nat), x]) :=
      ⟨by show 2 ≤ sizeLine; decide, [.int i tk, u'], .cons ⟨_, rfl⟩ (.cons ru .nil), ⟨_, hT2, rfl, _, rfl⟩⟩
    have I1 : Inv X pins σ (upd H s.heap.objs.size (.tup [.int (i : Nat), x])) { s with heap := h'', toks := tk + 1 } := I.turnedNew (ch := [e, it]) kk2 hf (Nat.le_refl _) new
    refine ⟨.ref s.heap.objs.size, _, I1, rfl, ⟨_, x, rfl, I.hok.fresh (Nat.le_refl _), rfl, fun ys hy => by rw [I.tuple_inj hy hq]; exact hx⟩, ⟨⟨u', he'⟩, hs'.1.at fun o q => (sb.2 it (Ne.symm hne)).trans q, hne⟩, fun b hb => ?_⟩
    have hb' : b < s.heap.objs.size := by
      rcases (show b = e ∨ b = it by simpa using hb) with z | z
      · rw [z]; exact hel
      · rw [z]; exact hil
    rw [upd_ne (Nat.ne_of_lt hb')]
    exact (hf b hb).1
  done := by
    intro X hP hw hK hc i pins s σ H E I hf st hg
    subst hP hw hK
    obtain ⟨⟨old, he⟩, hit, hne⟩ := st
    obtain ⟨xs, hq, hx⟩ := hg
    obtain ⟨its, rv, p, hz⟩ := I.tuple hq
    have hT : s.heap.IsTuple a its.toArray := p
    obtain ⟨f0, f1, f2, f3, f4, f5⟩ := hf it (by simp)
    have hl := rv.length
    refine enum_endT (I.ok.hd hc) he hit hT (by simp; omega) fun h' eb => ⟨rfl, I.turned (t' := s.toks) (fun b o hb q => eb b o hb q) f0 f1 f3 f4 f5⟩
  self := fun A i s Q E st h => by
    obtain ⟨⟨_, he⟩, _⟩ := st
    exact wpAny_pyIter_enum he h
def iEnT (K : PySem.W.Frag) (ta : TA) : TI := fun σ H R => ta σ H fun vs H1 => ∃ a xs, vs = [.ref a] ∧ SqT K H1 a xs ∧ R (IteT K a) H1
theorem pi_enT {X : Cx} {e : Expr} {ta : TA} {p pos tpos : Pos} {elts : List Expr} {kk : Nat} (hg : Gl X "enumerate") (hm : X.mg "enumerate" = none) (ha : PA X [e] ta) (hs : starEach [e] X.env = [(false, eval e X.env)] := by rfl) :
    PI X (.Tuple elts kk tpos) (.Call (.Name "enumerate" p) [e] [] pos) (iEnT X.K ta) := by
  refine ⟨fun pins s σ H R I h => Call_ (ld_blt I hg hm boot_enumerate (PyProof.Rows.callWith_type1 (thn (ha.run pos pins s σ H _ I h) fun us s1 ⟨vs, H1, I1, r1, q1⟩ => ?_) hs rfl))⟩
  obtain ⟨a, xs, ex, hq, q⟩ := q1
  subst ex
  obtain ⟨u, rfl, hr⟩ := vals1 r1
  obtain rfl : u = Value.ref a := hr
  obtain ⟨its, rv, p', hz⟩ := I1.tuple hq
  refine call_en (show s1.heap.IsTuple a its.toArray from p') fun h' he hit hk => wpAny_pyIter_enum he ?_
  have I2 : Inv X pins σ H1 { s1 with heap := h' } := I1.kept (t' := s1.toks) hk
  refine ⟨s1.heap.objs.size + 1, [s1.heap.objs.size + 1, s1.heap.objs.size], _, _, H1, rfl, I2, turn_enT a (s1.heap.objs.size + 1) s1.heap.objs.size, ⟨⟨.none, he⟩, hit, Nat.succ_ne_self _⟩, fun b hb => ?_, q⟩
  have hle : s1.heap.objs.size ≤ b := by
    rcases (show b = s1.heap.objs.size + 1 ∨ b = s1.heap.objs.size by simpa using hb) with z | z
    · rw [z]; exact Nat.le_succ _
    · rw [z]; exact Nat.le_refl _
  exact I1.fpOk hle (I1.hok.fresh hle)
end Tp

/-! Data ways: dicts that are walked and made. -/
namespace Dw
open PySem PySem.Spec PySem.W PyProof.Rows L2 Dr Rp
open He (ga)
section
variable {X : Cx} {tg : Expr} {m : Mode}
/-- a dict is walked from here on -/
theorem pe_frz {e : Expr} {t : TE} (h : PE X e t) : PE X e (fun σ H Q => t σ H fun x H1 => ∃ d kvs, x = .ref d ∧ Rd H1 d (.dK kvs) ∧ ∀ o H2, H2 d = some (.frz o (.dK kvs)) → (H2 = H1 ∨ (H1 d = some (.dK kvs) ∧ H2 = upd H1 d (.frz o (.dK kvs)))) → Q x H2) := by
  refine ⟨fun pins s σ H Q I q => ?_⟩
  refine thn (h.run pins s σ H _ I q) fun v s1 ⟨x, H1, I1, r, d, kvs, ex, hd, k⟩ => ?_
  rcases hd with hd | ⟨o, hd⟩
  · obtain ⟨od, I2⟩ := I1.lock hd trivial
    exact ⟨x, _, I2, r, k od _ upd_same (.inr ⟨hd, rfl⟩)⟩
  · exact ⟨x, _, I1, r, k o _ hd (.inl rfl)⟩
theorem stp_frz {L : Addr → Prop} {p : Option Addr} {H1 H2 : Hp} {d : Addr} {kvs : List (Key × V)} {o : Obj} (ok : LOk L p H1) (nd : ¬ L d) (h : H2 = H1 ∨ (H1 d = some (.dK kvs) ∧ H2 = upd H1 d (.frz o (.dK kvs)))) : Stp L p H1 H2 ∧ LOk L p H2 := by
  rcases h with rfl | ⟨hd, rfl⟩
  · exact ⟨Stp.refl, ok⟩
  · have s : Stp L p H1 (upd H1 d (.frz o (.dK kvs))) := by
      refine ⟨fun b u n t hb => ?_, fun b hb => ?_, fun b l n => upd_ne fun e => nd (by rw [← e]; exact l)⟩
      · by_cases e : b = d
        · subst e
          rw [hd] at hb
          cases hb
          exact ⟨_, upd_same, .inr ⟨kvs, o, rfl, rfl⟩⟩
        · exact ⟨u, by rw [upd_ne e]; exact hb, .inl rfl⟩
      · by_cases e : b = d
        · subst e
          rw [upd_same]
          simp
        · rw [upd_ne e]
          exact hb
    refine ⟨s, ok.step s fun q e => (ok.str q e).2.keep fun u hu => ?_⟩
    rw [upd_ne (fun z => nd (by rw [← z]; exact (ok.str q e).1))]
    exact hu
/-- a dict that is data: not loose -/
theorem dic_inv {K : PySem.W.Frag} {L : Addr → Prop} {p : Option Addr} {H : Hp} {v : V} {ds : List (PyData × PyData)} (r : Rv K p (ctL L H) v (.py (.dict ds))) : ∃ d kvs, v = .ref d ∧ ¬ L d ∧ Rd H d (.dK kvs) ∧ DtKv K (ctL L H) kvs ds := by
  cases r with
  | @dicR a kvs _ h1 h2 =>
    refine ⟨a, kvs, rfl, ?_, SameR.rd ctL_all h1, h2⟩
    rcases h1 with h1 | ⟨o, h1⟩ <;> exact (ctL_of h1).1
theorem dkv_get {K : PySem.W.Frag} {G : Hp} : ∀ {kvs : List (Key × V)} {ds : List (PyData × PyData)} {i : Nat} {k : Key} {v : V}, DtKv K G kvs ds → kvs[i]? = some (k, v) → ∃ d, ds[i]? = some (kD k, d) ∧ Dt K G v d
  | _, _, _, _, _, .nil, h => by simp at h
  | _, _, 0, _, _, .cons a t, h => by
    cases h
    exact ⟨_, rfl, a⟩
  | _, _, i + 1, _, _, .cons _ t, h => dkv_get (i := i) t h
theorem dkv_vl {K : PySem.W.Frag} {p : Option Addr} {G : Hp} : ∀ {kvs : List (Key × V)} {ds : List (PyData × PyData)}, DtKv K G kvs ds → ∀ z ∈ (kvs.map (·.2)).zip (ds.map fun q => EV.py q.2), Rv K p G z.1 z.2
  | _, _, .nil, _, h => by cases h
  | _, _, .cons a t, z, h => by
    rcases List.mem_cons.mp h with rfl | h
    · exact a
    · exact dkv_vl t z h
theorem dkv_mem {K : PySem.W.Frag} {G : Hp} : ∀ {kvs : List (Key × V)} {ds : List (PyData × PyData)} {i : Nat} {k : Key} {v : V}, DtKv K G kvs ds → kvs[i]? = some (k, v) → ∃ d, ds[i]? = some (kD k, d) ∧ (v, EV.py d) ∈ (kvs.map (·.2)).zip (ds.map fun q => EV.py q.2)
  | _, _, _, _, _, .nil, h => by simp at h
  | _, _, 0, _, _, .cons a t, h => by
    cases h
    exact ⟨_, rfl, List.mem_cons_self⟩
  | _, _, i + 1, _, _, .cons _ t, h => by
    obtain ⟨d, h1, h2⟩ := dkv_mem (i := i) t h
    exact ⟨d, h1, List.mem_cons_of_mem _ h2⟩
theorem dt_key {K : PySem.W.Frag} {G : Hp} (k : Key) : Dt K G (kV k) (kD k) := by
  cases k
  · exact .int _
  · exact .str _
def pairsD (ds : List (PyData × PyData)) : List EV := ds.map fun q => .py (.tuple [q.1, q.2])
/-- each entry as data, its value among the ghosts -/
def KvHit (kvs : List (Key × V)) (ds : List (PyData × PyData)) : Prop := ∀ (i : Nat) (k : Key) (v : V), kvs[i]? = some (k, v) → ∃ d : PyData, ds[i]? = some (kD k, d) ∧ (v, EV.py d) ∈ (kvs.map (·.2)).zip (ds.map fun q => EV.py q.2)
theorem it_items {K : PySem.W.Frag} {p : Option Addr} {d : Addr} {o : Obj} {kvs : List (Key × V)} {ds : List (PyData × PyData)} (hl : ds.length = kvs.length) (hm : KvHit kvs ds) :
    ItOk K p (Iti d o kvs) (pairsD ds) { ad := [(d, .frz o (.dK kvs))], vl := (kvs.map (·.2)).zip (ds.map fun q => EV.py q.2) } := by
  have ll : (pairsD ds).length = kvs.length := by unfold pairsD; rw [List.length_map, hl]
  refine ⟨fun L H i _ g hi => ⟨(g.1 _ List.mem_cons_self).2.1, by omega⟩, fun L H _ g => ⟨(g.1 _ List.mem_cons_self).2.1, by omega⟩, fun L H i x H' ok g hi y => ?_⟩
  obtain ⟨T, k, v, h1, rfl, hT, rfl⟩ := y
  obtain ⟨dd, h2, h3⟩ := hm i k v h1
  have s : Stp L p H (upd H T (.tup [kV k, v])) := Stp.new ok.ne hT
  refine ⟨smu hT, .py (.tuple [kD k, dd]), by unfold pairsD; rw [List.getElem?_map, h2] <;> rfl, .tup ((ok.new hT).sqt (SqT.of upd_same)) (.cons (dt_key k) (.cons ((g.2 _ h3).sameR (s.ct ok)) .nil))⟩
theorem it_vals {K : PySem.W.Frag} {p : Option Addr} {d : Addr} {o : Obj} {kvs : List (Key × V)} {ds : List (PyData × PyData)} (hl : ds.length = kvs.length) (hm : KvHit kvs ds) :
    ItOk K p (Itd d o kvs) (ds.map fun q => .py q.2) { ad := [(d, .frz o (.dK kvs))], vl := (kvs.map (·.2)).zip (ds.map fun q => EV.py q.2) } := by
  have ll : (ds.map fun q => EV.py q.2).length = kvs.length := by rw [List.length_map, hl]
  refine ⟨fun L H i _ g hi => ⟨(g.1 _ List.mem_cons_self).2.1, by omega⟩, fun L H _ g => ⟨(g.1 _ List.mem_cons_self).2.1, by omega⟩, fun L H i x H' ok g hi y => ?_⟩
  obtain ⟨rfl, k, h1⟩ := y
  obtain ⟨dd, h2, h3⟩ := hm i k x h1
  exact ⟨fun _ _ e => e, .py dd, by rw [List.getElem?_map, h2] <;> rfl, g.2 _ h3⟩
theorem it_keys {K : PySem.W.Frag} {p : Option Addr} {d : Addr} {o : Obj} {kvs : List (Key × V)} {ds : List (PyData × PyData)} (hl : ds.length = kvs.length) (hm : KvHit kvs ds) {vl : List (V × EV)} :
    ItOk K p (Itk d o kvs) (ds.map fun q => .py q.1) { ad := [(d, .frz o (.dK kvs))], vl := vl } := by
  have ll : (ds.map fun q => EV.py q.1).length = kvs.length := by rw [List.length_map, hl]
  refine ⟨fun L H i _ g hi => ⟨(g.1 _ List.mem_cons_self).2.1, by omega⟩, fun L H _ g => ⟨(g.1 _ List.mem_cons_self).2.1, by omega⟩, fun L H i x H' ok g hi y => ?_⟩
  obtain ⟨rfl, k, v, h1, rfl⟩ := y
  obtain ⟨dd, h2, h3⟩ := hm i k v h1
  exact ⟨fun _ _ e => e, .py (kD k), by rw [List.getElem?_map, h2] <;> rfl, dt_key k⟩
def wDicI (h : List (PyData × PyData) → List EV) (f : WF) : WA := fun ρ P => f ρ fun e => match e with
  | .py (.dict ds) => P (h ds)
  | _ => False
/-- what all three ask -/
theorem dic_start {K : PySem.W.Frag} {h : List (PyData × PyData) → List EV} {f : WF} {σ : L2.St} {H : Hp} {R : It → Hp → Prop} {J : Addr → Obj → List (Key × V) → It} (hJ : ∀ p d o kvs ds, ds.length = kvs.length → (KvHit kvs ds) → ItOk K p (J d o kvs) (h ds) { ad := [(d, .frz o (.dK kvs))], vl := (kvs.map (·.2)).zip (ds.map fun q => EV.py q.2) })
    (hm : m ≠ .fresh) (q : tI K m (wDicI h f) σ H R) : tW K .data f σ H fun x H1 => ∃ d kvs, x = .ref d ∧ Rd H1 d (.dK kvs) ∧ ∀ o H2, H2 d = some (.frz o (.dK kvs)) → (H2 = H1 ∨ (H1 d = some (.dK kvs) ∧ H2 = upd H1 d (.frz o (.dK kvs)))) → ∃ d' o' kvs', x = .ref d' ∧ H2 d' = some (.frz o' (.dK kvs')) ∧ R (J d' o' kvs') H2 := by
  obtain ⟨He, Lc, os, p, gs, ρ, P, E, hf, k⟩ := q
  refine ⟨He, Lc, os, p, gs, ρ, _, E, hf, fun e H1 v he s o r => ?_⟩
  split at he
  · rename_i ds
    obtain ⟨d, kvs, rfl, nd, h1, h2⟩ := dic_inv (p := p) (r : Rv K p (ctL (Ls Lc os) H1) v (.py (.dict ds)))
    refine ⟨d, kvs, rfl, h1, fun ob H2 hd hH => ⟨d, ob, kvs, rfl, hd, ?_⟩⟩
    obtain ⟨s2, o2⟩ := stp_frz o nd hH
    have gd : GhD K p (Ls Lc os) H2 { ad := [(d, .frz ob (.dK kvs))], vl := (kvs.map (·.2)).zip (ds.map fun q => EV.py q.2) } := by
      refine ⟨fun z hz => ?_, fun z hz => (dkv_vl h2 z hz).sameR (s2.ct o)⟩
      rw [List.mem_singleton.mp hz]
      exact ⟨Rigid.frz, ctL_at hd nd fun _ e => (by cases e)⟩
    refine k _ _ _ H2 he (s.trans s2) o2 ?_ (hJ p d ob kvs ds (dkv_len h2) fun i k v hi => dkv_mem h2 hi)
    cases m with
    | fresh => exact absurd rfl hm
    | data => exact gd
    | read => exact gd.read o2
  · exact he.elim
/-- e.items() -/
theorem di_items {e : Expr} {f : WF} {elts : List Expr} {kk : Nat} {tpos apos cpos : Pos} (he : PE X e (tW X.K .data f)) (hm : m ≠ .fresh := by decide) (hbase : attributeBase e "items" X.env (eval e X.env) = eval e X.env := by rfl) (hline : (apos.endLine == cpos.line) = true := by rfl) :
    PI X (.Tuple elts kk tpos) (.Call (.Attribute e "items" apos) [] [] cpos) (tI X.K m (wDicI pairsD f)) := by
  refine pi_mono (pi_items (pe_frz he) hbase hline) fun σ H R q => ?_
  exact dic_start (J := Iti) (fun p d o kvs ds hl hh => it_items hl hh) hm q
theorem di_values {e : Expr} {f : WF} {apos cpos : Pos} (he : PE X e (tW X.K .data f)) (hm : m ≠ .fresh := by decide) (hbase : attributeBase e "values" X.env (eval e X.env) = eval e X.env := by rfl) (hline : (apos.endLine == cpos.line) = true := by rfl) :
    PI X tg (.Call (.Attribute e "values" apos) [] [] cpos) (tI X.K m (wDicI (fun ds => ds.map fun q => .py q.2) f)) := by
  refine pi_mono (pi_values (pe_frz he) hbase hline) fun σ H R q => ?_
  exact dic_start (J := Itd) (fun p d o kvs ds hl hh => it_vals hl hh) hm q
theorem di_keysM {e : Expr} {f : WF} {apos cpos : Pos} (he : PE X e (tW X.K .data f)) (hm : m ≠ .fresh := by decide) (hbase : attributeBase e "keys" X.env (eval e X.env) = eval e X.env := by rfl) (hline : (apos.endLine == cpos.line) = true := by rfl) :
    PI X tg (.Call (.Attribute e "keys" apos) [] [] cpos) (tI X.K m (wDicI (fun ds => ds.map fun q => .py q.1) f)) := by
  refine pi_mono (pi_keysM (pe_frz he) hbase hline) fun σ H R q => ?_
  exact dic_start (J := Itk) (fun p d o kvs ds hl hh => it_keys hl hh) hm q
theorem di_keys {e : Expr} {f : WF} (he : PE X e (tW X.K .data f)) (hm : m ≠ .fresh := by decide) : PI X tg e (tI X.K m (wDicI (fun ds => ds.map fun q => .py q.1) f)) := by
  refine pi_mono (pi_keys (pe_frz he)) fun σ H R q => ?_
  have z := dic_start (J := Itk) (fun p d o kvs ds hl hh => it_keys hl hh) hm q
  obtain ⟨He, Lc, os, p, gs, ρ, P, E, hf, k⟩ := z
  refine ⟨He, Lc, os, p, gs, ρ, P, E, hf, fun e H1 v he s o r => ?_⟩
  obtain ⟨d, kvs, e1, h1, kk⟩ := k e H1 v he s o r
  refine ⟨d, kvs, e1, h1, fun ob H2 hd hH => ?_⟩
  obtain ⟨d', o', kvs', e2, h2, h3⟩ := kk ob H2 hd hH
  exact ⟨d', o', e2, .inl ⟨kvs', h2, h3⟩⟩
/-! zip, enumerate of lists -/
def zipD : List PyData → List PyData → List EV
  | a :: r, b :: s => .py (.tuple [a, b]) :: zipD r s
  | _, _ => []
theorem zipD_get : ∀ {xs ys : List PyData} {i : Nat} {a b : PyData}, xs[i]? = some a → ys[i]? = some b → (zipD xs ys)[i]? = some (.py (.tuple [a, b]))
  | a :: r, b :: s, 0, _, _, h1, h2 => by
    cases h1
    cases h2
    rfl
  | a :: r, b :: s, i + 1, _, _, h1, h2 => zipD_get (xs := r) (ys := s) (i := i) h1 h2
theorem zipD_len : ∀ (xs ys : List PyData), (zipD xs ys).length = min xs.length ys.length
  | [], ys => by unfold zipD; simp
  | a :: r, [] => by unfold zipD; simp
  | a :: r, b :: s => by
    unfold zipD
    rw [List.length_cons, zipD_len r s, List.length_cons, List.length_cons]
    omega
theorem rd_ad {H : Hp} {a : Addr} {vs : List V} (h : Rd H a (.lst vs)) : ∃ o, H a = some o ∧ (o = .lst vs ∨ ∃ q, o = .frz q (.lst vs)) := by
  rcases h with h | ⟨q, h⟩
  · exact ⟨_, h, .inl rfl⟩
  · exact ⟨_, h, .inr ⟨q, rfl⟩⟩
theorem ad_sq {K : PySem.W.Frag} {H : Hp} {a : Addr} {o : HO} {vs : List V} (ho : o = .lst vs ∨ ∃ q, o = .frz q (.lst vs)) (h : H a = some o) : SqL K H a vs := by
  rcases ho with rfl | ⟨q, rfl⟩
  · exact .inl (.inl h)
  · exact .inl (.inr ⟨q, h⟩)
/-- a list that is read: its ghost -/
theorem list_gh {K : PySem.W.Frag} {m : Mode} {L : Addr → Prop} {p : Option Addr} {H0 H : Hp} {v : V} {ds : List PyData} (hm : m ≠ .fresh) (r : Res K m L p H0 H v (.py (.list ds))) (o : LOk L p H) :
    ∃ a u vs, v = .ref a ∧ (u = .lst vs ∨ ∃ q, u = .frz q (.lst vs)) ∧ H a = some u ∧ ds.length = vs.length ∧ GhM K m p L H { ad := [(a, u)], vl := vs.zip (ds.map EV.py) } := by
  have rg : ∀ {u : HO} {vs : List V}, (u = .lst vs ∨ ∃ q, u = .frz q (.lst vs)) → Rigid u ∧ ∀ ps, u ≠ .tbl ps := fun {u vs} h => by
    rcases h with rfl | ⟨q, rfl⟩
    · exact ⟨Rigid.lst, fun _ e => (by cases e)⟩
    · exact ⟨Rigid.frz, fun _ e => (by cases e)⟩
  have data : ∀ {v : V}, Dt K (ctL L H) v (.list ds) → ∃ a u vs, v = .ref a ∧ (u = .lst vs ∨ ∃ q, u = .frz q (.lst vs)) ∧ H a = some u ∧ ds.length = vs.length ∧ GhD K p L H { ad := [(a, u)], vl := vs.zip (ds.map EV.py) } := by
    intro v hd
    cases hd with
    | @lstR a vs _ h1 h2 =>
      obtain ⟨u, hu, ho⟩ := rd_ad h1
      refine ⟨a, u, vs, rfl, ho, (ctL_of hu).2.1, DtAll.len h2, fun z hz => ?_, zip_rv h2⟩
      rw [List.mem_singleton.mp hz]
      exact ⟨(rg ho).1, hu⟩
  cases m with
  | fresh => exact absurd rfl hm
  | data => exact data r
  | read =>
    rcases r with r | ⟨a, d, e1, e2, hl, hw⟩
    · obtain ⟨a, u, vs, h1, h2, h3, h4, h5⟩ := data r
      exact ⟨a, u, vs, h1, h2, h3, h4, h5.read o⟩
    · cases e2
      rcases hw with ⟨vs, xs, e, h1, h2⟩ | ⟨kvs, ys, e, h1, h2⟩
      · cases e
        refine ⟨a, _, vs, e1, .inl rfl, h1, DtAll.len h2, fun z hz => ?_, zip_rv h2⟩
        rw [List.mem_singleton.mp hz]
        exact ⟨Rigid.lst, h1, fun _ e => (by cases e), hl.2⟩
      · cases e
def wZip (fa fb : WF) : WA := fun ρ P => fa ρ fun x => fb ρ fun y => match x, y with
  | .py (.list xs), .py (.list ys) => P (zipD xs ys)
  | _, _ => False
theorem GhM.step {K : PySem.W.Frag} {p : Option Addr} {L : Addr → Prop} {H H' : Hp} {g : Gh} (hm : m ≠ .fresh) (h : GhM K m p L H g) (o : LOk L p H) (s : Stp L p H H') : GhM K m p L H' g := by
  cases m with
  | fresh => exact absurd rfl hm
  | data => exact GhD.sameR h (s.ct o)
  | read => exact GhR.step h o s
theorem GhM.app {K : PySem.W.Frag} {p : Option Addr} {L : Addr → Prop} {H : Hp} {g g' : Gh} (h : GhM K m p L H g) (h' : GhM K m p L H g') : GhM K m p L H { ad := g.ad ++ g'.ad, vl := g.vl ++ g'.vl } := by
  cases m <;> exact ⟨fun z hz => (List.mem_append.mp hz).elim (h.1 z) (h'.1 z), fun z hz => (List.mem_append.mp hz).elim (h.2 z) (h'.2 z)⟩
theorem di_zip {a b : Expr} {fa fb : WF} {q pos tpos : Pos} {elts : List Expr} {kk : Nat} (hg : Gl X "zip") (ht : X.mg "zip" = none) (ha : PE X a (tW X.K m fa)) (hb : PE X b (tW X.K m fb)) (hm : m ≠ .fresh := by decide)
    (hs : starEach [a, b] X.env = (false, eval a X.env) :: starEach [b] X.env := by rfl) (hs2 : starEach [b] X.env = (false, eval b X.env) :: starEach [] X.env := by rfl) (hpl : (backTo pos (starEach [b] X.env)).any (·.1) = false := by rfl) :
    PI X (.Tuple elts kk tpos) (.Call (.Name "zip" q) [a, b] [] pos) (tI X.K m (wZip fa fb)) := by
  refine pi_mono (pi_zip hg ht (pa_cons ha (pa_cons hb pa_nil hs2) hs) hs hpl) fun σ H R q => ?_
  obtain ⟨He, Lc, os, p, gs, ρ, P, E, hf, k⟩ := q
  refine ⟨He, Lc, os, p, gs, ρ, _, E, hf, fun x H1 v hx s o r => ?_⟩
  refine ⟨He, Lc, os, p, gs, ρ, _, E.step s o, hx, fun y H2 w hy s2 o2 r2 => ?_⟩
  split at hy
  · rename_i xs ys
    obtain ⟨a, u, vs, rfl, u1, u2, u3, u4⟩ := list_gh hm (r.step hm o s2) o2
    obtain ⟨b, t, ws, rfl, t1, t2, t3, t4⟩ := list_gh hm r2 o2
    refine ⟨a, b, vs, ws, rfl, ad_sq u1 u2, ad_sq t1 t2, k _ _ _ H2 hy (s.trans s2) o2 (u4.app t4) ?_⟩
    have hl : (zipD xs ys).length = min vs.length ws.length := by rw [zipD_len, u3, t3]
    refine ⟨fun L H i _ g hi => ?_, fun L H _ g => ?_, fun L H i x H' ok g hi yy => ?_⟩
    · rw [hl] at hi
      have i1 : i < vs.length := by omega
      have i2 : i < ws.length := by omega
      exact ⟨vs, ws, vs[i], ws[i], ad_sq u1 (g.1 (a, u) (List.mem_append_left _ List.mem_cons_self)).2.1, ad_sq t1 (g.1 (b, t) (List.mem_append_right _ List.mem_cons_self)).2.1, by simp [i1], by simp [i2]⟩
    · exact ⟨vs, ws, ad_sq u1 (g.1 (a, u) (List.mem_append_left _ List.mem_cons_self)).2.1, ad_sq t1 (g.1 (b, t) (List.mem_append_right _ List.mem_cons_self)).2.1, by rw [hl]; omega⟩
    · obtain ⟨T, x1, y1, rfl, hT, rfl, f1, f2⟩ := yy
      have g1 := f1 vs (ad_sq u1 (g.1 (a, u) (List.mem_append_left _ List.mem_cons_self)).2.1)
      have g2 := f2 ws (ad_sq t1 (g.1 (b, t) (List.mem_append_right _ List.mem_cons_self)).2.1)
      obtain ⟨d1, h1, h2⟩ := zip_get u3 g1
      obtain ⟨d2, h3, h4⟩ := zip_get t3 g2
      have sp : Stp L p H (upd H T (.tup [x1, y1])) := Stp.new ok.ne hT
      exact ⟨smu hT, _, zipD_get h1 h3, .tup ((ok.new hT).sqt (SqT.of upd_same)) (.cons ((g.2 _ (List.mem_append_left _ h2)).sameR (sp.ct ok)) (.cons ((g.2 _ (List.mem_append_right _ h4)).sameR (sp.ct ok)) .nil))⟩
  · exact hy.elim
def enumD : Nat → List PyData → List EV
  | _, [] => []
  | n, a :: r => .py (.tuple [.int (n : Nat), a]) :: enumD (n + 1) r
theorem enumD_len : ∀ (n : Nat) (xs : List PyData), (enumD n xs).length = xs.length
  | _, [] => rfl
  | n, a :: r => by unfold enumD; rw [List.length_cons, enumD_len (n + 1) r, List.length_cons]
theorem enumD_get : ∀ {n : Nat} {xs : List PyData} {i : Nat} {a : PyData}, xs[i]? = some a → (enumD n xs)[i]? = some (.py (.tuple [.int ((n + i : Nat) : Int), a]))
  | n, a :: r, 0, _, h => by
    cases h
    rfl
  | n, a :: r, i + 1, _, h => by
    unfold enumD
    rw [List.getElem?_cons_succ, enumD_get (n := n + 1) (i := i) h, show n + 1 + i = n + (i + 1) by omega]
def wEnum (fa : WF) : WA := fun ρ P => fa ρ fun x => match x with
  | .py (.list xs) => P (enumD 0 xs)
  | _ => False
theorem di_enum {a : Expr} {fa : WF} {q pos tpos : Pos} {elts : List Expr} {kk : Nat} (hg : Gl X "enumerate") (ht : X.mg "enumerate" = none) (ha : PE X a (tW X.K m fa)) (hm : m ≠ .fresh := by decide) (hs : starEach [a] X.env = [(false, eval a X.env)] := by rfl) :
    PI X (.Tuple elts kk tpos) (.Call (.Name "enumerate" q) [a] [] pos) (tI X.K m (wEnum fa)) := by
  refine pi_mono (pi_enum hg ht (pa_cons ha pa_nil hs) hs) fun σ H R q => ?_
  obtain ⟨He, Lc, os, p, gs, ρ, P, E, hf, k⟩ := q
  refine ⟨He, Lc, os, p, gs, ρ, _, E, hf, fun x H1 v hx s o r => ?_⟩
  split at hx
  · rename_i xs
    obtain ⟨a, u, vs, rfl, u1, u2, u3, u4⟩ := list_gh hm r o
    refine ⟨a, vs, rfl, ad_sq u1 u2, k _ _ _ H1 hx s o u4 ?_⟩
    refine ⟨fun L H i _ g hi => ?_, fun L H _ g => ?_, fun L H i x H' ok g hi yy => ?_⟩
    · rw [enumD_len, u3] at hi
      exact ⟨vs, vs[i], ad_sq u1 (g.1 _ List.mem_cons_self).2.1, by simp [hi]⟩
    · exact ⟨vs, ad_sq u1 (g.1 _ List.mem_cons_self).2.1, by rw [enumD_len, u3]; exact Nat.le_refl _⟩
    · obtain ⟨T, x1, rfl, hT, rfl, f1⟩ := yy
      have g1 := f1 vs (ad_sq u1 (g.1 _ List.mem_cons_self).2.1)
      obtain ⟨d1, h1, h2⟩ := zip_get u3 g1
      have sp : Stp L p H (upd H T (.tup [.int (i : Nat), x1])) := Stp.new ok.ne hT
      exact ⟨smu hT, _, enumD_get (n := 0) h1, .tup ((ok.new hT).sqt (SqT.of upd_same)) (.cons (by rw [Nat.zero_add]; exact .int _) (.cons ((g.2 _ h2).sameR (sp.ct ok)) .nil))⟩
  · exact hx.elim
end
end Dw

/-! A set comprehension whose items any rule of set.add takes; such of ints. -/
namespace Tp
open PySem PySem.Spec PyProof.Rows L2
open PpSet (compLoopS_any codeAny_compStart_set newSet_ok)
abbrev oSet (w : World) : Obj := { cls := .type "set", dict := none, data := .set #[] 0 (.fresh 0 0 (!w.params.followText "set-order")) }
/-- r: what set.add asks; new: what is known of the new set -/
def tSg (new : Addr → HO) (r : V → List V → Hp → VK → Prop) (wi : TI) (g : TG) (tt : TT) (te : TE) (ow : List Nat) : TE := fun σ H Q => wi σ H fun J H1 => ∀ D, H1 D = none →
  ∃ W : Nat → Nat → Hp → Prop, (∃ m, W 0 m (upd H1 D (new D))) ∧ ∀ i m G, W i m G → (J.stop i G ∧ Q (.ref D) G) ∨
    (J.go i G ∧ ∃ Nx : Hp → Prop, (∀ G', Nx G' → ∃ m', m' < m ∧ W (i + 1) m' G') ∧ ∀ x G', J.yld i G x G' → g x (wipe σ ow) G' fun τ G2 => wipe τ ow = wipe σ ow ∧ tt τ G2 fun b G3 => if b = true then te τ G3 fun y G4 => r (.ref D) [y] G4 fun _ G5 => Nx G5 else Nx G3)
section
variable {X : Cx}
theorem pe_sg {elt tg iter : Expr} {ifs : List Expr} {scope : Scope} {own : List (PySem.Str × Nat)} {pos : Pos} {wi : TI} {g : TG} {tt : TT} {te : TE} {new : Addr → HO} {r : V → List V → Hp → VK → Prop} (hc : X.calm = true) (hN : X.N.Nodup)
    (hnew : ∀ {h : Heap} {H : Hp}, ObjOk X.prog X.w H (h.push (oSet X.w)) h.objs.size (new h.objs.size)) (hadd : ∀ Y : Cx, Y.prog = X.prog → Y.w = X.w → MtR Y "set.add" r) (hi : PI X tg iter wi) (ok : BlkOk X.N X.env.scope scope own)
    (hg : ∀ (s : Shared) (H : Hp) (C : Addr) (cl : List (PySem.Str × Addr)) (fp : List Addr), PG (X.blk s H scope (compEnvC scope cl C X.env) fp) tg g)
    (ht : ∀ (s : Shared) (H : Hp) (C : Addr) (cl : List (PySem.Str × Addr)) (fp : List Addr), PTs (X.blk s H scope (compEnvC scope cl C X.env) fp) ifs tt)
    (he : ∀ (s : Shared) (H : Hp) (C : Addr) (cl : List (PySem.Str × Addr)) (fp : List Addr), PE (X.blk s H scope (compEnvC scope cl C X.env) fp) elt te)
    (hs : ∀ x, foldedSetIterable iter X.env x = pure x := by intro _; rfl) : PE X (.SetComp elt [⟨tg, iter, ifs, 0⟩] scope pos) (tSg new r wi g tt te (own.map (·.2))) := by
  refine ⟨fun pins s σ H Q I h => ?_⟩
  rw [PpSet.eval_SetComp]
  have fr : ∀ y ∈ scope.names, y.2 = .free → ∃ c, X.env.cells.lookup y.1 = some c := fun y hy e => (ok.free y hy e).elim (fun k => I.ok.has _ (.inl k)) fun k => I.ok.has _ (.inr k)
  refine wpAny_comprehension_free (use := none) rfl hs (closure_ok fr) ok.kind (fun y hy e => by rw [ok.uniq y hy, e]) (thn (hi.run pins s σ H _ I h) fun xv s1 hx => thn hx fun itv s2 h2 => ?_)
  obtain ⟨it, fp, tn, J, H2, e, I2, T, st2, f2, q⟩ := h2
  subst e
  refine newSet_ok (newEnv_comp ?_)
  generalize hD : s2.heap.objs.size = D
  have nD : H2 D = none := I2.hok.fresh (Nat.le_of_eq hD)
  obtain ⟨W, ⟨m0, w0⟩, turn⟩ := q D nD
  generalize hs3 : ({ s2 with heap := s2.heap.push (oSet X.w) } : Shared) = s3
  have h3 : s3.heap = s2.heap.push (oSet X.w) := by rw [← hs3]
  have I3 : Inv X pins σ (upd H2 D (new D)) s3 := by
    rw [← hs3]
    refine I2.laid (t' := s2.toks) (fun b o e => Heap.get?_push_of_some _ e) (Nat.le_of_eq hD) ?_
    rw [← hD]
    exact hnew
  have old : ∀ b ∈ fp, b < s2.heap.objs.size := fun b hb => by
    obtain ⟨o, e, _⟩ := T.obj _ _ st2 b hb
    exact Heap.lt_size e
  have f3 : ∀ b ∈ fp, FpOk X pins (upd H2 D (new D)) b ∧ b < s3.heap.objs.size := fun b hb => by
    have lt := old b hb
    refine ⟨⟨?_, (f2 b hb).2⟩, by rw [h3, Heap.size_push]; exact Nat.lt_succ_of_lt lt⟩
    rw [upd_ne (by rw [← hD]; exact Nat.ne_of_lt lt)]
    exact (f2 b hb).1
  have st3 : tn 0 s3.heap := T.keep _ _ _ st2 fun b _ o e => by
    rw [h3]
    exact Heap.get?_push_of_some _ e
  have I4 := block_start I3 ok hN f3
  have pg := hg s3 (upd H2 D (new D)) s3.heap.objs.size (cellsFrom (s3.heap.objs.size + 1) scope.names (cloFrom X.env.cells scope.names [])) fp
  have pt := ht s3 (upd H2 D (new D)) s3.heap.objs.size (cellsFrom (s3.heap.objs.size + 1) scope.names (cloFrom X.env.cells scope.names [])) fp
  have pe := he s3 (upd H2 D (new D)) s3.heap.objs.size (cellsFrom (s3.heap.objs.size + 1) scope.names (cloFrom X.env.cells scope.names [])) fp
  show codeAny _ _ (.compStart (.SetComp elt [⟨tg, iter, ifs, 0⟩] scope pos) 0 (.ref it) (.ref D) (compEnvC scope (cellsFrom (s3.heap.objs.size + 1) scope.names (cloFrom X.env.cells scope.names [])) s3.heap.objs.size X.env)) (compPost (model X.prog X.w) X.A X.xe none (EP X pins σ Q) (.ref D) s3.heap.objs.size) { s3 with heap := pushCells (s3.heap.push { cls := .type "dict", data := .dict #[] }) scope.names }
  have nfp : ∀ b ∈ fp, (upd H2 D (new D)) b = none := fun b hb => (f3 b hb).1.1
  generalize hce : compEnvC scope (cellsFrom (s3.heap.objs.size + 1) scope.names (cloFrom X.env.cells scope.names [])) s3.heap.objs.size X.env = ce at I4 pg pt pe ⊢
  have cL : ce.locals = s3.heap.objs.size := by
    subst hce
    rfl
  generalize hH3 : upd H2 D (new D) = H3 at I3 I4 pg pt pe w0 nfp f3
  generalize hs4 : ({ s3 with heap := pushCells (s3.heap.push { cls := .type "dict", data := .dict #[] }) scope.names } : Shared) = s4 at I4 ⊢
  have st4 : tn 0 s4.heap := T.keep _ _ _ st3 fun b _ o e => by
    rw [← hs4]
    exact pushCells_keeps _ _ _ _ (Heap.get?_push_of_some _ e)
  have stat : ∀ {τ : L2.St} {G : Hp} {t : Shared}, Inv (X.blk s3 H3 scope ce fp) [] τ G t → (∀ b ∈ fp, G b = none) → ∀ b ∈ fp, FpOk (X.blk s3 H3 scope ce fp) [] G b := fun {τ G t} K hn b hb =>
    ⟨hn b hb, (K.ok.exf b hb).1, K.ok.exfs b hb, .inl hb, fun x c e => (K.ok.exf b hb).2 x c e, fun p hp => absurd (show p ∈ ([] : List (Addr × Obj)) ++ [] from hp) (by simp)⟩
  have loop : codeAny (model X.prog X.w) X.A (.compLoop (.SetComp elt [⟨tg, iter, ifs, 0⟩] scope pos) 0 (.ref it) (.ref D) ce) (compPost (model X.prog X.w) X.A X.xe none (EP X pins σ Q) (.ref D) s3.heap.objs.size) s4 := by
    refine compLoopS_any (fun n t => ∃ i G, Inv (X.blk s3 H3 scope ce fp) [] (wipe σ (own.map (·.2))) G t ∧ tn i t.heap ∧ (∀ b ∈ fp, G b = none) ∧ W i n G) ?_ m0 ⟨0, H3, I4, st4, nfp, w0⟩
    rintro n s5 ⟨i, H5, I5, st5, n5, w5⟩
    rcases turn i n H5 w5 with ⟨stop, qq⟩ | ⟨go, Nx, hNx, step⟩
    · refine thnF (T.done (X.blk s3 H3 scope ce fp) rfl rfl rfl hc i [] s5 _ H5 (fun _ _ => False) I5 (stat I5 n5) st5 stop) fun z s6 ⟨hz, I6⟩ => ?_
      subst hz
      have I7 : Inv X pins σ H5 s6 := I3.call' (ch := fp) I6.os I6.base I6.hok I6.bare fun b hb => ⟨(f3 b hb).1.2.2.2.1, (f3 b hb).1.2.1, (f3 b hb).1.2.2.2.2.1, (f3 b hb).1.2.2.2.2.2⟩
      have nC : H5 s3.heap.objs.size = none := by
        rw [← cL]
        exact I6.free
      obtain ⟨m, hn, _⟩ := I6.loc
      have hn2 : s6.heap.Ns s3.heap.objs.size m := by
        rw [← cL]
        exact hn
      obtain ⟨g0, g1, g2, g3, g4, g5⟩ := I3.fpOk (b := s3.heap.objs.size) (Nat.le_refl _) nC
      exact ⟨m, hn2, fun h'' sb => ⟨.ref D, H5, I7.turned (t' := s6.toks) (fun b o hb e => (sb.2 b hb).trans e) g0 g1 g3 g4 g5, rfl, qq⟩⟩
    · refine thnF (T.item (X.blk s3 H3 scope ce fp) rfl rfl rfl hc i [] s5 _ H5 (fun _ _ => False) I5 (stat I5 n5) st5 go) fun z s6 ⟨u, hz, h6⟩ => ?_
      subst hz
      refine thnF h6 fun _ s7 ⟨x, H7, I7, r7, y7, st7, n7⟩ => ?_
      have P7 := I7.pinned (stat I7 n7) (T.obj _ _ st7)
      refine thnF (pg.run _ s7 _ H7 x u _ P7 r7 (step x H7 y7)) fun _ s8 ⟨σ8, H8, I8, hw8, q8⟩ => ?_
      refine thnF (pt.run _ s8 σ8 H8 _ I8 q8) fun b s9 ⟨H9, I9, q9⟩ => ?_
      have fin : ∀ {t : Shared} {G : Hp}, Inv (X.blk s3 H3 scope ce fp) ([] ++ pinsAt fp s7.heap) σ8 G t → Nx G → ∃ m, m < n ∧ ∃ i G, Inv (X.blk s3 H3 scope ce fp) [] (wipe σ (own.map (·.2))) G t ∧ tn i t.heap ∧ (∀ b ∈ fp, G b = none) ∧ W i m G := fun {t G} K nx => by
        obtain ⟨m', hm, w'⟩ := hNx G nx
        have pin2 : ∀ b ∈ fp, ∀ o, s7.heap.get? b = some o → t.heap.get? b = some o ∧ G b = none := fun b hb o e => by
          have z := K.pin (b, o) (List.mem_append_right _ (List.mem_append_right _ (mem_pinsAt hb e)))
          exact ⟨z.1, z.2.1⟩
        have hl : (wipe σ (own.map (·.2))).length = σ8.length := by rw [← hw8, wipe_length]
        refine ⟨m', hm, i + 1, G, (K.unpinned (pins := [])).weak hl (fun j v e => ?_), T.keep _ _ _ st7 fun b hb o e => (pin2 b hb o e).1, fun b hb => ?_, w'⟩
        · rw [← hw8] at e
          exact (wipe_some e).1
        · obtain ⟨o, e, _⟩ := T.obj _ _ st7 b hb
          exact (pin2 b hb o e).2
      cases b with
      | false =>
        rw [if_neg (by simp)] at q9 ⊢
        exact fin I9 q9
      | true =>
        rw [if_pos rfl] at q9 ⊢
        refine thnF (pe.run _ s9 σ8 H9 _ I9 q9) fun z s10 ⟨yv, H10, I10, r10, qa⟩ => ?_
        refine thnF (hadd (X.blk s3 H3 scope ce fp) rfl rfl _ s10 σ8 H10 (.ref D) [yv] (.ref D) [z] (fun _ G5 => Nx G5) I10 rfl (.cons r10 .nil) qa) fun _ s11 ⟨_, H11, I11, _, nx⟩ => ?_
        exact fin I11 nx
  exact codeAny_compStart_set loop (T.self X.A 0 _ _ _ st4 loop)
/-- of ints -/
theorem pe_si {elt tg iter : Expr} {ifs : List Expr} {scope : Scope} {own : List (PySem.Str × Nat)} {pos : Pos} {wi : TI} {g : TG} {tt : TT} {te : TE} (hc : X.calm = true) (hN : X.N.Nodup) (hi : PI X tg iter wi) (ok : BlkOk X.N X.env.scope scope own)
    (hg : ∀ (s : Shared) (H : Hp) (C : Addr) (cl : List (PySem.Str × Addr)) (fp : List Addr), PG (X.blk s H scope (compEnvC scope cl C X.env) fp) tg g)
    (ht : ∀ (s : Shared) (H : Hp) (C : Addr) (cl : List (PySem.Str × Addr)) (fp : List Addr), PTs (X.blk s H scope (compEnvC scope cl C X.env) fp) ifs tt)
    (he : ∀ (s : Shared) (H : Hp) (C : Addr) (cl : List (PySem.Str × Addr)) (fp : List Addr), PE (X.blk s H scope (compEnvC scope cl C X.env) fp) elt te)
    (hs : ∀ x, foldedSetIterable iter X.env x = pure x := by intro _; rfl) : PE X (.SetComp elt [⟨tg, iter, ifs, 0⟩] scope pos) (tSg (fun D => SetO X.w D (fun _ => false) 0) (rSAdd X.w) wi g tt te (own.map (·.2))) :=
  pe_sg hc hN (fun {h H} => setO_new (setR_fresh X.w)) (fun Y hp hw => by
    have z := mt_sadd (X := Y)
    rw [hw] at z
    exact z) hi ok hg ht he hs
end
end Tp

/-! Sets of ints and texts that can be walked: made, added to, sorted, counted. -/
namespace Sl
open PySem PySem.Spec PyProof.Rows L2
def vKey : Value → Key
  | .int i _ => .inl i
  | .str x _ => .inr x
  | _ => .inl 0
theorem vKey_is {P : Program} {w : World} {k : Key} {v : Value} (h : (mixKind P w).is k v = true) : vKey v = k := by
  rcases keyIs_shape (k := k) (v := v) h with ⟨i, t, rfl, rfl⟩ | ⟨x, t, rfl, rfl⟩ <;> rfl
/-- a set's keys, in some order -/
def SetAtL (P : Program) (w : World) (h : Heap) (a : Addr) (L : List Key) : Prop := ∃ (o : Obj) (es : Array (Int × Value)) (ep : Nat) (t : SetTable), h.get? a = some o ∧ (o.ExactSet ∧ o.data = .set es ep t) ∧ (ElemsOf (mixKind P w) es.toList ∧ L = es.toList.map fun e => vKey e.2) ∧ L.Nodup ∧
  (es.size < scanBound ∧ t.fits es.size = true) ∧ Ris t.place.toList ∧ (w.params.followText "set-order" = true ∨ t.led = true)
def SetLO (P : Program) (w : World) (a : Addr) (L : List Key) : HO := .ext fun h => SetAtL P w h a L
section
variable {P : Program} {w : World} {A : Around} {E : Value → Shared → Prop} {s : Shared} {a : Addr} {L : List Key}
theorem SetAtL.at {h h' : Heap} (R : SetAtL P w h a L) (k : ∀ o, h.get? a = some o → h'.get? a = some o) : SetAtL P w h' a L := by
  obtain ⟨o, es, ep, t, ho, r⟩ := R
  exact ⟨o, es, ep, t, k o ho, r⟩
theorem setLO_new {H : Hp} {h : Heap} (R : SetAtL P w h a L) : ObjOk P w H h a (SetLO P w a L) := by
  obtain ⟨o, es, ep, t, ho, r⟩ := id R
  exact ⟨R, ⟨o, ho⟩, fun _ _ p k => SetAtL.at p k⟩
theorem elem_key {es : List (Int × Value)} (g : ElemsOf (mixKind P w) es) (k : Key) : k ∈ es.map (fun e => vKey e.2) ↔ ∃ e ∈ es, (mixKind P w).is k e.2 = true := by
  rw [List.mem_map]
  constructor
  · rintro ⟨e, he, rfl⟩
    obtain ⟨⟨k, hk, _⟩, _⟩ := g e he
    exact ⟨e, he, by rw [vKey_is hk]; exact hk⟩
  · rintro ⟨e, he, q⟩
    exact ⟨e, he, vKey_is q⟩
theorem SetAtL.fresh {h : Heap} : SetAtL P w (h.push (Tp.oSet w)) h.objs.size [] := by
  refine ⟨_, #[], 0, _, Heap.get?_push_size _ rfl, ⟨⟨rfl, rfl, rfl⟩, rfl⟩, ⟨fun e he => by simp at he, by simp⟩, .nil, ⟨by decide, rfl⟩, .nil, ?_⟩
  cases e : w.params.followText "set-order" with
  | true => exact .inl rfl
  | false => exact .inr (by rfl)
/-- a new place is stored, the table perhaps laid anew -/
theorem store_tail {g : Bool → Sem Unit} (hg : ∀ (b : Bool) (s₁ : Shared) (Q' : Unit → Shared → Prop), Q' () s₁ → wpAny (model P w) A (g b) Q' E s₁) {o : Obj} {es es1 : Array (Int × Value)} {ep : Nat} {t t2 : SetTable}
    (ho : s.heap.get? a = some o) (hx : o.ExactSet ∧ o.data = .set es ep t) (g1 : ElemsOf (mixKind P w) es1.toList) (nd : (es1.toList.map fun e => vKey e.2).Nodup) (hb : es1.size < scanBound ∧ t2.fits es1.size = true) (hr : Ris t2.place.toList)
    (hl : w.params.followText "set-order" = true ∨ t2.led = true) {wd : Bool} {R : Option Bool → Shared → Prop} (hR : ∀ h' L', Heap.SameBut a s.heap h' → SetAtL P w h' a L' → L'.Perm (es1.toList.map fun e => vKey e.2) → R (some true) { s with heap := h' }) :
    wpAny (model P w) A (storeSet a es1 t2 >>= fun _ => if (!wd && t2.tooFull) = true then (g (relayAll t2 es1 (SetTable.grown es1.size)).2.2 >>= fun _ => storeSet a (relayAll t2 es1 (SetTable.grown es1.size)).1 (relayAll t2 es1 (SetTable.grown es1.size)).2.1 >>= fun _ => pure (some true)) else pure (some true)) R E s := by
  refine wpAny_bind (wpAny_storeSet_of ho hx.2 ?_ (fits_of_scanBound hb.1))
  have o1 := store_at (es' := es1) (t' := t2) ho hx.2
  have b1 := Heap.SameBut.update s.heap a (Obj.putSet es1 t2)
  by_cases hc : (!wd && t2.tooFull) = true
  · rw [if_pos hc]
    have p1 := relayAll_perm t2 es1 (SetTable.grown es1.size); have p2 := relayAll_fits t2 es1 (SetTable.grown es1.size)
    have p3 := relayAll_ris t2 es1 (SetTable.grown es1.size); have p4 := relayAll_led t2 es1 (SetTable.grown es1.size)
    generalize relayAll t2 es1 (SetTable.grown es1.size) = Z at p1 p2 p3 p4 ⊢
    obtain ⟨es2, t3, gv⟩ := Z
    have z2 : es2.size = es1.size := by rw [← Array.length_toList, p1.length_eq, Array.length_toList]
    have z3 : es2.size < scanBound := z2 ▸ hb.1
    refine wpAny_bind (hg _ _ _ (wpAny_bind (wpAny_storeSet_of o1 rfl ?_ (fits_of_scanBound z3))))
    have pm : (es2.toList.map fun e => vKey e.2).Perm (es1.toList.map fun e => vKey e.2) := p1.map _
    exact wpAny_pure (hR _ _ (b1.trans (Heap.SameBut.update _ a _)) ⟨_, es2, _, t3, store_at (es' := es2) (t' := t3) o1 rfl, ⟨hx.1, rfl⟩, ⟨fun e he => g1 e (p1.mem_iff.mp he), rfl⟩, pm.nodup_iff.mpr nd, ⟨z3, p2⟩, p3, hl.imp id fun z => p4.trans z⟩ pm)
  · rw [if_neg hc]
    exact wpAny_pure (hR _ _ b1 ⟨_, es1, _, t2, o1, ⟨hx.1, rfl⟩, ⟨g1, rfl⟩, nd, hb, hr, hl⟩ (List.Perm.refl _))
theorem add_hashed {k : Key} {v : Value} {Q : Bool → Shared → Prop} (hk : (mixKind P w).is k v = true) (hs : v.scannable = true) (R : SetAtL P w s.heap a L) (room : L.length + 1 < scanBound)
    (hQ : ∀ h' L' b, Heap.SameBut a s.heap h' → SetAtL P w h' a L' → (∀ y, y ∈ L' ↔ y = k ∨ y ∈ L) → L'.length ≤ L.length + 1 → Q b { s with heap := h' }) :
    wpAny (model P w) A (setAddHashed a v ((mixKind P w).hash k)) Q E s := by
  obtain ⟨o, es, ep, t, ho, hx, ⟨hel, hL⟩, nd, hb, hr, hl⟩ := R
  have len : L.length = es.size := by rw [hL, List.length_map, Array.length_toList]
  unfold setAddHashed setAddHashedIn
  refine wpAny_holding (wpAny_bind (wpAny_setState_of ho hx.2 hb.2 ?_))
  dsimp only
  rw [byScan_of hs hb.1 hel]
  simp only [↓reduceIte]
  unfold setAddByScan
  refine wpAny_bind (wpAny_bind (wpAny_rule (wpAny_bind (wpAny_setScan_of hk ho hx.2 hb.2 hel ?_))))
  cases hf : List.findIdx? (fun e => (mixKind P w).is k e.2) es.toList with
  | some j =>
    obtain ⟨hj, pj, _⟩ := List.findIdx?_eq_some_iff_getElem.mp hf
    have hm : k ∈ L := by rw [hL]; exact (elem_key hel k).mpr ⟨_, List.getElem_mem hj, pj⟩
    exact wpAny_pure (wpAny_pure (hQ s.heap L false (Heap.SameBut.refl a s.heap) ⟨o, es, ep, t, ho, hx, ⟨hel, hL⟩, nd, hb, hr, hl⟩ (fun y => ⟨.inr, fun z => z.elim (fun e => e ▸ hm) id⟩) (Nat.le_succ _)))
  | none =>
    have hm : k ∉ L := fun z => by
      obtain ⟨e, he, q⟩ := (elem_key hel k).mp (hL ▸ z)
      have c := List.findIdx?_eq_none_iff.mp hf e he
      rw [q] at c
      exact absurd c (by simp)
    have p1 := layNew_perm t es ((mixKind P w).hash k) v; have p2 := layNew_fits t es ((mixKind P w).hash k) v
    have p3 := layNew_ris t es ((mixKind P w).hash k) v hr; have p4 := layNew_led t es ((mixKind P w).hash k) v
    dsimp only
    generalize layNew t es ((mixKind P w).hash k) v = Z at p1 p2 p3 p4 ⊢
    obtain ⟨es1, t1, wd, gv⟩ := Z
    rw [Array.toList_push] at p1
    have pc : es1.toList.Perm (((mixKind P w).hash k, v) :: es.toList) := p1.trans (List.perm_append_singleton _ _)
    have pk : (es1.toList.map fun e => vKey e.2).Perm (k :: L) := by
      have z := pc.map fun e => vKey e.2
      rw [List.map_cons, ← hL, vKey_is hk] at z
      exact z
    have g1 : ElemsOf (mixKind P w) es1.toList := fun e he => by
      rcases List.mem_cons.mp (pc.mem_iff.mp he) with z | z
      · exact z ▸ ⟨⟨k, hk, rfl⟩, hs⟩
      · exact hel e z
    have n1 : (es1.toList.map fun e => vKey e.2).Nodup := pk.nodup_iff.mpr (List.nodup_cons.mpr ⟨hm, nd⟩)
    have sz : es1.size = L.length + 1 := by
      have z := pk.length_eq
      rw [List.length_map, Array.length_toList, List.length_cons] at z
      exact z
    have hb1 : es1.size < scanBound := sz ▸ room
    have l1 : w.params.followText "set-order" = true ∨ t1.led = true := hl.imp id fun z => p4.trans z
    have fin : ∀ h' L', Heap.SameBut a s.heap h' → SetAtL P w h' a L' → L'.Perm (es1.toList.map fun e => vKey e.2) → Q true { s with heap := h' } := fun h' L' sb r pm =>
      hQ h' L' true sb r (fun y => ((pm.trans pk).mem_iff).trans List.mem_cons) (by rw [(pm.trans pk).length_eq]; exact Nat.le_refl _)
    have gate : ∀ (b : Bool) (s₁ : Shared) (Q' : Unit → Shared → Prop), Q' () s₁ → wpAny (model P w) A (match b with | true => rule "set.scan.the-table-gave-way" | false => pure ()) Q' E s₁ := fun b s₁ Q' q => match b with | true => wpAny_rule q | false => wpAny_pure q
    refine wpAny_bind (gate _ _ _ ?_)
    dsimp only at p1 p2 p3 p4 ⊢
    split
    · refine wpAny_bind ?_
      rw [hashByValue_scannable 8 hs]
      refine wpAny_pure (store_tail (fun b s₁ Q' q => ?_) ho hx g1 n1 ⟨hb1, ?_⟩ ?_ ?_ fun h' L' sb r pm => ?_)
      · exact gate b s₁ Q' q
      · split
        · exact p2
        · exact SetTable.fits_plain_off p2
      · split <;> exact p3
      · split <;> exact l1
      · exact wpAny_pure (fin h' L' sb r pm)
    · refine wpAny_bind (wpAny_pure ?_)
      simp only [↓reduceIte]
      refine store_tail (fun b s₁ Q' q => ?_) ho hx g1 n1 ⟨hb1, p2⟩ p3 l1 fun h' L' sb r pm => ?_
      · exact gate b s₁ Q' q
      · exact wpAny_pure (fin h' L' sb r pm)
theorem SetAtL.is {h : Heap} (R : SetAtL P w h a L) : ∃ o, h.get? a = some o ∧ o.ExactSet := by
  obtain ⟨o, _, _, _, ho, hx, _⟩ := R
  exact ⟨o, ho, hx.1⟩
/-- s.add(k) -/
theorem call_addL {k : Key} {v : Value} {Q : Value → Shared → Prop} (hk : (mixKind P w).is k v = true) (hs : v.scannable = true) (R : SetAtL P w s.heap a L) (room : L.length + 1 < scanBound)
    (hQ : ∀ h' L', Heap.SameBut a s.heap h' → SetAtL P w h' a L' → (∀ y, y ∈ L' ↔ y = k ∨ y ∈ L) → L'.length ≤ L.length + 1 → Q .none { s with heap := h', toks := s.toks + 1 }) : wpAny (model P w) A (call (.builtin "set.add") [.ref a, v]) Q E s := by
  obtain ⟨o, ho, hx⟩ := R.is
  have ty : s.TypeIs (.ref a) "set" := ⟨o, ho, hx.1⟩
  refine wpAny_call_entry F.slot_set_add ty F.entry_set_add ?_ (F.args_set_add_2 (.ref a) v)
  unfold Builtin.«set.add» Builtin.Frozenset.oneOther Builtin.Frozenset.addrOf setAdd
  simp only [List.isEmpty_nil, bind_assoc]
  repeat' first | refine wpAny_bind (wpAny_pure ?_) | dsimp only
  refine wpAny_bind (wpAny_holding (wpAny_bind ((mixKind P w).pyHash hk (add_hashed (s := { s with toks := s.toks + 1 }) hk hs R room fun h' L' b sb r m l => ?_))))
  exact wpAny_pure ⟨_, rfl, hQ h' L' sb r m l⟩
end
section
variable {X : Cx}
/-- what set.add asks of a set that can be walked -/
def rAddL (P : Program) (w : World) : V → List V → Hp → VK → Prop := fun x xs H Q => ∃ (a : Addr) (k : Key) (L : List Key), x = V.ref a ∧ xs = [kV k] ∧ H a = some (SetLO P w a L) ∧ L.length + 1 < scanBound ∧
  ∀ L', L'.Nodup → (∀ y, y ∈ L' ↔ y = k ∨ y ∈ L) → L'.length ≤ L.length + 1 → Q .non (upd H a (SetLO P w a L'))
theorem SetAtL.nodup {P : Program} {w : World} {h : Heap} {a : Addr} {L : List Key} (R : SetAtL P w h a L) : L.Nodup := by
  obtain ⟨_, _, _, _, _, _, _, nd, _⟩ := R
  exact nd
theorem setL_get {pins : List (Addr × Obj)} {σ : L2.St} {H : Hp} {s : Shared} {a : Addr} {L : List Key} (I : Inv X pins σ H s) (ha : H a = some (SetLO X.prog X.w a L)) : SetAtL X.prog X.w s.heap a L := (I.hok a _ ha).1
theorem mt_addL : MtR X "set.add" (rAddL X.prog X.w) := by
  intro pins s σ H x xs v us Q I rx rxs h
  obtain ⟨a, k, L, rfl, rfl, ha, room, q⟩ := h
  cases rx
  obtain ⟨u, rfl, ru⟩ := vals1 rxs
  refine call_addL (kV_is ru) (key_scan ru) (setL_get I ha) room fun h' L' sb R m l => ?_
  obtain ⟨o, ho, _⟩ := R.is
  exact ⟨.non, upd H a (SetLO X.prog X.w a L'), I.write (e := a) (t' := s.toks + 1) (by rw [ha]; trivial) (.inl rfl) (fun b z hb hz => (sb.2 b hb).trans hz) ⟨o, ho⟩ (setLO_new R), rfl, q L' R.nodup m l⟩
/-- {e for x in it if t}, the items ints and texts -/
theorem pe_sl {elt tg iter : Expr} {ifs : List Expr} {scope : Scope} {own : List (PySem.Str × Nat)} {pos : Pos} {wi : TI} {g : TG} {tt : TT} {te : TE} (hc : X.calm = true) (hN : X.N.Nodup) (hi : PI X tg iter wi) (ok : BlkOk X.N X.env.scope scope own)
    (hg : ∀ (s : Shared) (H : Hp) (C : Addr) (cl : List (PySem.Str × Addr)) (fp : List Addr), PG (X.blk s H scope (compEnvC scope cl C X.env) fp) tg g)
    (ht : ∀ (s : Shared) (H : Hp) (C : Addr) (cl : List (PySem.Str × Addr)) (fp : List Addr), PTs (X.blk s H scope (compEnvC scope cl C X.env) fp) ifs tt)
    (he : ∀ (s : Shared) (H : Hp) (C : Addr) (cl : List (PySem.Str × Addr)) (fp : List Addr), PE (X.blk s H scope (compEnvC scope cl C X.env) fp) elt te)
    (hs : ∀ x, foldedSetIterable iter X.env x = pure x := by intro _; rfl) : PE X (.SetComp elt [⟨tg, iter, ifs, 0⟩] scope pos) (Tp.tSg (fun D => SetLO X.prog X.w D []) (rAddL X.prog X.w) wi g tt te (own.map (·.2))) :=
  Tp.pe_sg hc hN (fun {_ _} => setLO_new SetAtL.fresh) (fun Y hp hw => by
    have z := mt_addL (X := Y)
    rw [hp, hw] at z
    exact z) hi ok hg ht he hs
end
end Sl

/-! set(xs) of a list or a tuple of ints and texts; sorted and len of such sets. -/
namespace Sl
open PySem PySem.Spec PyProof.Rows L2
/-- the walked items, as keys -/
def IsKs (P : Program) (w : World) (items : Array Value) (ks : List Key) : Prop := items.size = ks.length ∧ ∀ (i : Nat) (v : Value), items[i]? = some v → ∃ k, ks[i]? = some k ∧ (mixKind P w).is k v = true ∧ v.scannable = true
section
variable {P : Program} {w : World} {A : Around} {E : Value → Shared → Prop}
theorem update_L {I S : Addr} {fp wr : List Addr} {G : Array GenState → Array GenState → Prop} {n : Nat} {Pv : Nat → Value → Prop} {St : Nat → Shared → Prop} {R : Result → Shared → Prop} {ks : List Key} (W : WalksS P w A.in1 I fp wr G n Pv St) (hS : S ∉ fp) (hn : n = ks.length) (hb : ks.length + 1 < scanBound)
    (hv : ∀ i v, Pv i v → ∃ k, ks[i]? = some k ∧ (mixKind P w).is k v = true ∧ v.scannable = true) : ∀ (j i : Nat) (s : Shared), n - i = j → i ≤ n → St i s → (∃ L, SetAtL P w s.heap S L ∧ (∀ y, y ∈ L ↔ y ∈ ks.take i) ∧ L.length ≤ i) →
      (∀ s' L, Moved (S :: wr) G s s' → SetAtL P w s'.heap S L → (∀ y, y ∈ L ↔ y ∈ ks) → R (.ok (.ret .none)) s') → codeAny (model P w) A (.builtin "set.update.loop" ⟨[.ref S, .ref I], []⟩) R s := by
  have nS : S ∉ wr := fun z => hS (W.sub S z)
  have sub : ∀ b ∈ wr, b ∈ S :: wr := fun b z => List.mem_cons_of_mem S z
  intro j
  induction j with
  | zero =>
    rintro i s hj hi st ⟨L, hL, hm, _⟩ fin
    obtain rfl : i = n := by omega
    refine codeAny_builtin F.entry_set_update_loop (by rw [Around.under_plainId F.plain_set_update_loop _]; refine wpAny_bind (m := pyNext (.ref I)) (W.done s _ _ st fun s' mv => ?_); exact wpAny_pure (fin s' L (mv.mono sub) (hL.at fun o e => mv.heap S o nS e) fun y => by rw [hm y, hn, List.take_length]))
  | succ j ih =>
    rintro i s hj hi st ⟨L, hL, hm, hl⟩ fin
    have lt : i < n := by omega
    refine codeAny_builtin F.entry_set_update_loop (by
      rw [Around.under_plainId F.plain_set_update_loop _]; refine wpAny_bind (m := pyNext (.ref I)) (W.item i s _ _ lt st fun v s' pv st' mv => ?_)
      obtain ⟨k, hk, is, sc⟩ := hv i v pv
      have L1 := hL.at fun o e => mv.heap S o nS e
      have room : L.length + 1 < scanBound := by omega
      refine wpAny_bind (m := holding [v] (setAdd S v)) (wpAny_holding ?_)
      unfold setAdd
      refine wpAny_holding (wpAny_bind ((mixKind P w).pyHash is (add_hashed (s := { s' with toks := s'.toks + 1 }) is sc L1 room fun h' L' b sb R2 m2 l2 => ?_)))
      have take : ks.take (i + 1) = ks.take i ++ [k] := by rw [List.take_add_one, hk] <;> rfl
      refine wpAny_pure ⟨plainId_quiet F.plain_set_update_loop _, ih (i + 1) _ (by omega) lt (W.frame _ s' _ _ st' (Nat.le_succ s'.toks) fun b hb o e => (sb.2 b fun z => hS (z ▸ hb)).trans e) ⟨L', R2, fun y => ?_, by omega⟩ fun s'' L'' mv2 R3 m3 => ?_⟩
      · rw [m2 y, hm y, take, List.mem_append, List.mem_singleton]
        exact Or.comm
      · exact fin s'' L'' (Moved.trans W.gtrans ((mv.mono sub).then_heap (Nat.le_succ s'.toks) fun b o hb e => (sb.2 b fun z => hb (z ▸ List.mem_cons_self)).trans e) mv2) R3 m3)
variable {s : Shared} {l : Addr} {items : Array Value} {ks : List Key} {Q : Value → Shared → Prop}
set_option maxHeartbeats 8000000 in
theorem call_set_listL (hh : A.handled = none) (hl : s.heap.IsList l items) (hk : IsKs P w items ks) (hb : ks.length + 1 < scanBound)
    (h : ∀ (h' : Heap) (tk : Nat) (L : List Key), SetAtL P w h' s.heap.objs.size L → (∀ y, y ∈ L ↔ y ∈ ks) → (∀ b o, s.heap.get? b = some o → h'.get? b = some o) → Q (.ref s.heap.objs.size) { s with heap := h', toks := tk }) : wpAny (model P w) A (call (.type "set") [.ref l]) Q E s := by
  obtain ⟨c, tl, hmro⟩ := F.called_set.mro; have hmade := F.called_set.made; have hsub := F.called_set.sub
  refine wpAny_call (codeAny_of_tree ?_); show wpAny _ _ (callAny (.type "set") _) _ _ _
  refine wpAny_pure ⟨Code.quiet_builtin _ (by decide +kernel), codeAny_builtin F.entry_type_call ?_⟩; rw [Around.under_plain (weight_type_call_type "set" [.ref l] []) rfl]
  have h1 := F.called_set.notType; have h2 := F.called_set.canCreate; have hct := F.typeCall_set_1 (.ref l)
  repeat (any_goals (first | assumption | wp_step))
  refine codeAny_mono (code_set_led1 (.ref l) (E := E) (Q₁ := fun obj s₁ => obj = .ref s.heap.objs.size ∧ s₁ = { s with heap := s.heap.push (Tp.oSet w) }) ⟨rfl, rfl⟩) fun r s₁ hr => ?_
  match r, hr with
  | .error _, hr => exact hr
  | .ok (.ret obj), hr =>
    obtain ⟨rfl, rfl⟩ := hr
    have hS : (s.heap.push (Tp.oSet w)).get? s.heap.objs.size = some (Tp.oSet w) := Heap.get?_push_size s.heap rfl
    have hT : Shared.TypeIs { s with heap := s.heap.push (Tp.oSet w) } (.ref s.heap.objs.size) "set" := ⟨_, hS, rfl⟩
    have hli := F.called_set.init.lookup; have hbi := F.called_set.init.bind (.ref s.heap.objs.size)
    repeat (any_goals (first | assumption | wp_step))
    refine codeAny_mono (codeAny_call_builtin (R := wants (fun r s₂ => r = .none ∧ ∃ h' tk L, s₂ = { s with heap := h', toks := tk } ∧ SetAtL P w h' s.heap.objs.size L ∧ (∀ y, y ∈ L ↔ y ∈ ks) ∧ ∀ b o, s.heap.get? b = some o → h'.get? b = some o) E) F.called_set.init.plain F.entry_set_init (check_set_init_1 hT ?_)) fun r₂ s₂ hr₂ => ?_
    · obtain ⟨⟨ocls, odict, odata, oslots⟩, hol, hcl, nl, hdl⟩ := hl
      simp only at hcl hdl
      subst hcl hdl
      have hol' : (s.heap.push (Tp.oSet w)).get? l = some { cls := .type "list", dict := odict, data := .seq items nl, slots := oslots } := Heap.get?_push_of_some (Tp.oSet w) hol
      have hsls := F.sub_list_set; have hslf := F.sub_list_frozenset; have hne : (Value.type "list" == Value.type "dict") = false := by decide
      have hl1 : (s.heap.push (Tp.oSet w)).IsList l items := ⟨_, hol', rfl, nl, rfl⟩
      unfold Builtin.«set.__init__» noKeywords Builtin.Frozenset.updateFrom
      generalize hPI : pyIter = PI; wp_walk; subst hPI
      refine wpAny_pyIter_list hl1 (wpAny_bind (wpAny_runValue ?_))
      have lt : l < s.heap.objs.size := Heap.lt_size hol
      have sz : (s.heap.push (Tp.oSet w)).objs.size = s.heap.objs.size + 1 := Heap.size_push ..
      have nI : l ≠ (s.heap.push (Tp.oSet w)).objs.size := by rw [sz]; exact Nat.ne_of_lt (Nat.lt_succ_of_lt lt)
      refine update_L ((Walks.list (show A.in1.in1.in1.handled = none by simp [hh]) _ l nI items).toS) (S := s.heap.objs.size) (by
        rw [sz]; simp only [List.mem_cons, List.not_mem_nil, or_false, not_or]
        exact ⟨Nat.ne_of_lt (Nat.lt_succ_self _), Nat.ne_of_gt lt⟩) hk.1 hb hk.2 (items.size - 0) 0 _ rfl (Nat.zero_le _) ⟨⟨_, Heap.get?_push_size _ rfl, rfl, rfl⟩, hl1.push _⟩ ⟨[], SetAtL.fresh.at fun o e => Heap.get?_push_of_some _ e, fun y => by rw [List.take_zero], Nat.le_refl _⟩ fun s' L mv R m => ?_
      obtain ⟨h', g', d', tk', os'⟩ := s'
      obtain rfl : g' = s.gens := mv.gens
      obtain rfl : d' = s.drawn := mv.drawn
      obtain rfl : os' = s.os := mv.os
      refine wpAny_pure (show wpAny _ _ (ret Value.none) _ _ _ from wpAny_pure ⟨rfl, h', tk', L, rfl, R, m, fun b o e => mv.heap b o (fun z => ?_) (Heap.get?_push_of_some _ (Heap.get?_push_of_some _ e))⟩)
      have lb := Heap.lt_size e
      simp only [List.mem_cons, List.not_mem_nil, or_false] at z
      rcases z with z | z
      · exact absurd z (Nat.ne_of_lt lb)
      · rw [sz] at z; exact absurd z (Nat.ne_of_lt (Nat.lt_succ_of_lt lb))
    · match r₂, hr₂ with
      | .error _, hr₂ => exact hr₂
      | .ok (.ret r), hr₂ =>
        obtain ⟨rfl, h', tk, L, rfl, R, m, k⟩ := hr₂
        repeat (any_goals (first | assumption | wp_step))
        exact h h' tk L R m k
set_option maxHeartbeats 8000000 in
theorem call_set_tupleL (hh : A.handled = none) (hl : s.heap.IsTuple l items) (hk : IsKs P w items ks) (hb : ks.length + 1 < scanBound)
    (h : ∀ (h' : Heap) (tk : Nat) (L : List Key), SetAtL P w h' s.heap.objs.size L → (∀ y, y ∈ L ↔ y ∈ ks) → (∀ b o, s.heap.get? b = some o → h'.get? b = some o) → Q (.ref s.heap.objs.size) { s with heap := h', toks := tk }) : wpAny (model P w) A (call (.type "set") [.ref l]) Q E s := by
  obtain ⟨c, tl, hmro⟩ := F.called_set.mro; have hmade := F.called_set.made; have hsub := F.called_set.sub
  refine wpAny_call (codeAny_of_tree ?_); show wpAny _ _ (callAny (.type "set") _) _ _ _
  refine wpAny_pure ⟨Code.quiet_builtin _ (by decide +kernel), codeAny_builtin F.entry_type_call ?_⟩; rw [Around.under_plain (weight_type_call_type "set" [.ref l] []) rfl]
  have h1 := F.called_set.notType; have h2 := F.called_set.canCreate; have hct := F.typeCall_set_1 (.ref l)
  repeat (any_goals (first | assumption | wp_step))
  refine codeAny_mono (code_set_led1 (.ref l) (E := E) (Q₁ := fun obj s₁ => obj = .ref s.heap.objs.size ∧ s₁ = { s with heap := s.heap.push (Tp.oSet w) }) ⟨rfl, rfl⟩) fun r s₁ hr => ?_
  match r, hr with
  | .error _, hr => exact hr
  | .ok (.ret obj), hr =>
    obtain ⟨rfl, rfl⟩ := hr
    have hS : (s.heap.push (Tp.oSet w)).get? s.heap.objs.size = some (Tp.oSet w) := Heap.get?_push_size s.heap rfl
    have hT : Shared.TypeIs { s with heap := s.heap.push (Tp.oSet w) } (.ref s.heap.objs.size) "set" := ⟨_, hS, rfl⟩
    have hli := F.called_set.init.lookup; have hbi := F.called_set.init.bind (.ref s.heap.objs.size)
    repeat (any_goals (first | assumption | wp_step))
    refine codeAny_mono (codeAny_call_builtin (R := wants (fun r s₂ => r = .none ∧ ∃ h' tk L, s₂ = { s with heap := h', toks := tk } ∧ SetAtL P w h' s.heap.objs.size L ∧ (∀ y, y ∈ L ↔ y ∈ ks) ∧ ∀ b o, s.heap.get? b = some o → h'.get? b = some o) E) F.called_set.init.plain F.entry_set_init (check_set_init_1 hT ?_)) fun r₂ s₂ hr₂ => ?_
    · obtain ⟨⟨ocls, odict, odata, oslots⟩, hol, hcl, nl, hdl⟩ := hl
      simp only at hcl hdl
      subst hcl hdl
      have hol' : (s.heap.push (Tp.oSet w)).get? l = some { cls := .type "tuple", dict := odict, data := .seq items nl, slots := oslots } := Heap.get?_push_of_some (Tp.oSet w) hol
      have hsls := F.sub_tuple_set; have hslf := F.sub_tuple_frozenset; have hne : (Value.type "tuple" == Value.type "dict") = false := by decide
      have hl1 : (s.heap.push (Tp.oSet w)).IsTuple l items := ⟨_, hol', rfl, nl, rfl⟩
      unfold Builtin.«set.__init__» noKeywords Builtin.Frozenset.updateFrom
      generalize hPI : pyIter = PI; wp_walk; subst hPI
      refine wpAny_pyIter_tuple hl1 (wpAny_bind (wpAny_runValue ?_))
      have lt : l < s.heap.objs.size := Heap.lt_size hol
      have sz : (s.heap.push (Tp.oSet w)).objs.size = s.heap.objs.size + 1 := Heap.size_push ..
      have nI : l ≠ (s.heap.push (Tp.oSet w)).objs.size := by rw [sz]; exact Nat.ne_of_lt (Nat.lt_succ_of_lt lt)
      refine update_L ((Walks.tuple (show A.in1.in1.in1.handled = none by simp [hh]) _ l nI items).toS) (S := s.heap.objs.size) (by
        rw [sz]; simp only [List.mem_cons, List.not_mem_nil, or_false, not_or]
        exact ⟨Nat.ne_of_lt (Nat.lt_succ_self _), Nat.ne_of_gt lt⟩) hk.1 hb hk.2 (items.size - 0) 0 _ rfl (Nat.zero_le _) ⟨⟨_, Heap.get?_push_size _ rfl, rfl, rfl⟩, hl1.push _⟩ ⟨[], SetAtL.fresh.at fun o e => Heap.get?_push_of_some _ e, fun y => by rw [List.take_zero], Nat.le_refl _⟩ fun s' L mv R m => ?_
      obtain ⟨h', g', d', tk', os'⟩ := s'
      obtain rfl : g' = s.gens := mv.gens
      obtain rfl : d' = s.drawn := mv.drawn
      obtain rfl : os' = s.os := mv.os
      refine wpAny_pure (show wpAny _ _ (ret Value.none) _ _ _ from wpAny_pure ⟨rfl, h', tk', L, rfl, R, m, fun b o e => mv.heap b o (fun z => ?_) (Heap.get?_push_of_some _ (Heap.get?_push_of_some _ e))⟩)
      have lb := Heap.lt_size e
      simp only [List.mem_cons, List.not_mem_nil, or_false] at z
      rcases z with z | z
      · exact absurd z (Nat.ne_of_lt lb)
      · rw [sz] at z; exact absurd z (Nat.ne_of_lt (Nat.lt_succ_of_lt lb))
    · match r₂, hr₂ with
      | .error _, hr₂ => exact hr₂
      | .ok (.ret r), hr₂ =>
        obtain ⟨rfl, h', tk, L, rfl, R, m, k⟩ := hr₂
        repeat (any_goals (first | assumption | wp_step))
        exact h h' tk L R m k
end
end Sl

namespace Sl
open PySem PySem.Spec PySem.W PyProof.Rows L2
def kD : Key → PyData
  | .inl i => .int i
  | .inr x => .str x
def leKey : Key → Key → Bool := dataLe false kD
theorem each_keys {P : Program} {w : World} : ∀ {es : List (Int × Value)} {vs : List Value}, ElemsOf (mixKind P w) es → (∀ v ∈ vs, v ∈ es.map (·.2)) → EachIs (fun v k => RelV (kV k) v ∧ vKey v = k) vs (vs.map vKey)
  | _, [], _, _ => .nil
  | es, v :: vs, g, h => by
    obtain ⟨e, he, q⟩ := List.mem_map.mp (h v List.mem_cons_self)
    obtain ⟨⟨k, hk, _⟩, _⟩ := g e he
    have q : e.2 = v := q
    rw [q] at hk
    refine .cons ⟨?_, rfl⟩ (each_keys g fun u hu => h u (List.mem_cons_of_mem _ hu))
    rcases keyIs_shape (k := k) (v := v) hk with ⟨i, t, rfl, rfl⟩ | ⟨x, t, rfl, rfl⟩ <;> exact ⟨t, rfl⟩
theorem key_reads {h : Heap} {k : Key} {v : Value} (r : RelV (kV k) v) : ∃ as, Reads h v (kD k) as := by
  cases k with
  | inl i => obtain ⟨t, rfl⟩ := r; exact ⟨_, Reads.int i t⟩
  | inr x => obtain ⟨t, rfl⟩ := r; exact ⟨_, Reads.str x t⟩
theorem alike_all {L : List Key} (h : (∀ k ∈ L, ∃ i, k = .inl i) ∨ ∀ k ∈ L, ∃ x, k = .inr x) : AllAlike (L.map kD) := by
  intro d hd d' hd'
  obtain ⟨k, hk, rfl⟩ := List.mem_map.mp hd
  obtain ⟨k', hk', rfl⟩ := List.mem_map.mp hd'
  rcases h with h | h
  · obtain ⟨i, rfl⟩ := h k hk
    obtain ⟨j, rfl⟩ := h k' hk'
    rfl
  · obtain ⟨i, rfl⟩ := h k hk
    obtain ⟨j, rfl⟩ := h k' hk'
    rfl
section
variable {P : Program} {w : World} {A : Around} {E : Value → Shared → Prop} {s : Shared} {a : Addr} {L : List Key}
theorem sorted_setL {Q : Value → Shared → Prop} (R : SetAtL P w s.heap a L) (hh : A.handled = none) (ha : (∀ k ∈ L, ∃ i, k = .inl i) ∨ ∀ k ∈ L, ∃ x, k = .inr x) (hu : A.units + 64 < cLine)
    (hQ : ∀ (s' : Shared) (p : Addr) (c : Nat) (L1 : List Key) (out : List Value), (∀ b o, s.heap.get? b = some o → s'.heap.get? b = some o) → s'.gens = s.gens → s'.os = s.os → s.heap.objs.size ≤ p →
      s'.heap.get? p = some (seqObj "list" out.toArray c) → EachIs (fun v k => RelV (kV k) v) out (L1.mergeSort leKey) → L1.Perm L → Q (.ref p) s') : wpAny (model P w) A (call (.builtin "sorted") [.ref a]) Q E s := by
  obtain ⟨o, es, ep, t, ho, hx, ⟨hel, hL⟩, nd, hb, hr, hl⟩ := R
  refine Calls.call_function_entry (id := "sorted") kind_sorted plain_sorted entry_sorted (args_sorted1 (.ref a)) ?_
  unfold Builtin.«sorted»
  refine wpAny_bind (m := checkCount "sorted" 1 1 _) (wpAny_pure (wpAny_bind ?_))
  refine collect_set (A := A.in1) hh ⟨o, ho, hx.1.1, hx.2⟩ hb.2 hb.1 hr hl (fun s1 vs k1 hz g1 o1 pm => ?_)
  have pL : (vs.map vKey).Perm L := by
    have z := pm.map vKey
    rw [List.map_map] at z
    rw [hL]
    exact z
  have hlen : vs.length ≤ 4096 := by
    rw [pm.length_eq, List.length_map, Array.length_toList]
    exact Nat.le_of_lt hb.1
  have ek : EachIs (fun v k => RelV (kV k) v ∧ vKey v = k) vs (vs.map vKey) := each_keys hel fun v hv => pm.mem_iff.mp hv
  refine wpAny_bind (wpAny_newList ?_ (by rw [sizeLine_eq]; omega))
  have hL1 : (s1.heap.push (seqObj "list" vs.toArray 0)).get? s1.heap.objs.size = some (seqObj "list" vs.toArray 0) := Heap.get?_push_size s1.heap rfl
  have hal : AllAlike ((vs.map vKey).map kD) := alike_all (ha.imp (fun h k hk => h k (pL.mem_iff.mp hk)) fun h k hk => h k (pL.mem_iff.mp hk))
  have er : ∀ h : Heap, EachIs (fun (v : Value) (k : Key) => ∃ as, Reads h v (kD k) as) vs (vs.map vKey) := fun h => ek.mono fun _ _ q => key_reads q.1
  have S : SortsAt P w A.in1.in1 { s1 with heap := sortingHeap (s1.heap.push (seqObj "list" vs.toArray 0)) s1.heap.objs.size vs } (dataKind (sortingHeap (s1.heap.push (seqObj "list" vs.toArray 0)) s1.heap.objs.size vs) ((vs.map vKey).map kD)) vs :=
    SortsAt.data (s := { s1 with heap := sortingHeap (s1.heap.push (seqObj "list" vs.toArray 0)) s1.heap.objs.size vs }) (each_map (R := fun v d => ∃ as, Reads (sortingHeap (s1.heap.push (seqObj "list" vs.toArray 0)) s1.heap.objs.size vs) v d as) kD (er _)) hal
      (Sortable.others fun b => ⟨by cases b <;> exact fun z => (by cases z), by cases b <;> exact fun xs z => (by cases z)⟩) fun d hd => by
        obtain ⟨k, _, rfl⟩ := List.mem_map.mp hd
        have z : (kD k).depth = 0 := by cases k <;> rfl
        rw [z]
        show A.units + 1 + 1 + 0 < cLine
        omega
  have sv := sortVals_data (enc := kD) false ek (er (sortingHeap (s1.heap.push (seqObj "list" vs.toArray 0)) s1.heap.objs.size vs)) hal
  refine wpAny_bind (wpAny_holding ?_)
  refine wpAny_call_entry slot_list_sort ⟨_, hL1, rfl⟩ entry_list_sort (list_sort_vals (s := { s1 with heap := s1.heap.push (seqObj "list" vs.toArray 0) }) hL1 S (by rw [sizeLine_eq]; omega) ⟨_, rfl, ?_⟩) (args_list_sort (.ref s1.heap.objs.size))
  generalize sortVals _ false vs vs = out at sv ⊢
  obtain ⟨c, hc⟩ := sortedHeap_at (vs := vs) (out := out.toArray) hL1
  refine wpAny_pure ⟨_, rfl, hQ _ s1.heap.objs.size c (vs.map vKey) out (fun b u e => ?_) g1 o1 hz hc (sv.mono fun _ _ q => q.1) pL⟩
  have e1 := k1 b u e
  have lt := Heap.lt_size e1
  exact (sortedHeap_old (Nat.ne_of_lt lt) (by rw [size_push']; exact Nat.lt_succ_of_lt lt)).trans (Heap.get?_push_of_some _ e1)
end
theorem each_vals : ∀ {out : List Value} {M : List Key}, EachIs (fun v k => RelV (kV k) v) out M → Vals (M.map kV) out
  | _, _, .nil => .nil
  | _, _, .cons r t => .cons r (each_vals t)
section
variable {X : Cx}
/-- sorted(s), s of ints alone or of texts alone -/
def rSortedL (P : Program) (w : World) : List V → Hp → VK → Prop := fun vs H Q => ∃ (a : Addr) (L : List Key), vs = [V.ref a] ∧ H a = some (SetLO P w a L) ∧ ((∀ k ∈ L, ∃ i, k = .inl i) ∨ ∀ k ∈ L, ∃ x, k = .inr x) ∧
  (L.Nodup → ∀ (L1 : List Key) (p : Addr), L1.Perm L → H p = none → Q (.ref p) (upd H p (.lst ((L1.mergeSort leKey).map kV))))
theorem cr_sortedL (hc : X.calm = true) (hu : X.A.units + 64 < cLine) : CallR X (.builtin "sorted") (rSortedL X.prog X.w) := by
  intro pins s σ H vs us Q I r h
  obtain ⟨a, L, rfl, ha, hk, q⟩ := h
  rw [Vals.ref1 r]
  have R := setL_get I ha
  refine sorted_setL R (I.ok.hd hc) hk hu fun s' p c L1 out k g o hp hg he pm => ?_
  have hn : H p = none := I.hok.fresh hp
  have hlen : L1.length ≤ sizeLine := by
    obtain ⟨_, es, _, _, _, _, ⟨_, hL⟩, _, hb, _⟩ := R
    rw [pm.length_eq, hL, List.length_map, Array.length_toList]
    exact fits_of_scanBound hb.1
  have J : Inv X pins σ (upd H p (.lst ((L1.mergeSort leKey).map kV))) { s with heap := s'.heap, gens := s'.gens, drawn := s'.drawn, toks := s'.toks } :=
    I.call (ch := []) (Un.laid k hp hn) (I.hok.laid k hp ⟨by rw [List.length_map, List.length_mergeSort]; exact hlen, out, c, each_vals he, hg⟩) (by rw [g]; exact I.bare) (fun _ z => nomatch z)
  have e : s' = { s with heap := s'.heap, gens := s'.gens, drawn := s'.drawn, toks := s'.toks } := by
    cases s'
    cases s
    cases o
    rfl
  rw [e]
  exact ⟨.ref p, _, J, rfl, q R.nodup L1 p pm hn⟩
/-- len(s) -/
def rLenL (P : Program) (w : World) : List V → Hp → VK → Prop := fun vs H Q => ∃ (a : Addr) (L : List Key), vs = [V.ref a] ∧ H a = some (SetLO P w a L) ∧ (L.Nodup → Q (.int (L.length : Nat)) H)
theorem cr_lenL : CallR X (.builtin "len") (rLenL X.prog X.w) := by
  intro pins s σ H vs us Q I r h
  obtain ⟨a, L, rfl, ha, q⟩ := h
  rw [Vals.ref1 r]
  have R := setL_get I ha
  obtain ⟨o, es, ep, t, ho, hx, ⟨_, hL⟩, _, hb, _⟩ := id R
  have len : es.size = L.length := by rw [hL, List.length_map, Array.length_toList]
  exact call_len_set ho hx.1 hx.2 hb.2 (by have z := hb.1; unfold scanBound at z; omega) ⟨.int (L.length : Nat), H, I.tok _, ⟨_, by rw [len]⟩, q R.nodup⟩
/-- set(xs), xs a list or a tuple of ints and texts -/
def rSetL (K : PySem.W.Frag) (P : Program) (w : World) : List V → Hp → VK → Prop := fun vs H Q => ∃ (a : Addr) (ks : List Key), vs = [V.ref a] ∧ (SqL K H a (ks.map kV) ∨ SqT K H a (ks.map kV)) ∧ ks.length + 1 < scanBound ∧
  ∀ (p : Addr) (L : List Key), L.Nodup → (∀ y, y ∈ L ↔ y ∈ ks) → H p = none → Q (.ref p) (upd H p (SetLO P w p L))
theorem isKs_go {P : Program} {w : World} : ∀ {ks : List Key} {its : List Value}, Vals (ks.map kV) its → ∀ (i : Nat) (v : Value), its[i]? = some v → ∃ k, ks[i]? = some k ∧ (mixKind P w).is k v = true ∧ v.scannable = true
  | [], _, h, i, v, hv => by
    cases h
    cases hv
  | k :: r, _, h, 0, v, hv => by
    cases h with
    | cons q t =>
      have e := Option.some.inj hv
      subst e
      exact ⟨k, rfl, kV_is q, key_scan q⟩
  | k :: r, _, h, i + 1, v, hv => by
    cases h with
    | cons q t => exact isKs_go t i v hv
theorem isKs_of {P : Program} {w : World} {ks : List Key} {its : List Value} (h : Vals (ks.map kV) its) : IsKs P w its.toArray ks :=
  ⟨by rw [List.size_toArray, ← h.length, List.length_map], fun i v hv => isKs_go h i v (by simpa using hv)⟩
theorem cr_setL (hc : X.calm = true) : CallR X (.type "set") (rSetL X.K X.prog X.w) := by
  intro pins s σ H vs us Q I r h
  obtain ⟨a, ks, rfl, hs, hb, q⟩ := h
  rw [Vals.ref1 r]
  have hn : H s.heap.objs.size = none := I.hok.fresh (Nat.le_refl _)
  have fin : ∀ (h' : Heap) (tk : Nat) (L : List Key), SetAtL X.prog X.w h' s.heap.objs.size L → (∀ y, y ∈ L ↔ y ∈ ks) → (∀ b o, s.heap.get? b = some o → h'.get? b = some o) → EP X pins σ Q (.ref s.heap.objs.size) { s with heap := h', toks := tk } := fun h' tk L R m k =>
    ⟨.ref s.heap.objs.size, upd H s.heap.objs.size (SetLO X.prog X.w s.heap.objs.size L), I.laid (t' := tk) k (Nat.le_refl _) (setLO_new R), rfl, q _ L R.nodup m hn⟩
  rcases hs with hs | hs
  · obtain ⟨its, rv, pl, hz⟩ := I.list hs
    exact call_set_listL (I.ok.hd hc) pl.isList (isKs_of rv) hb fin
  · obtain ⟨its, rv, pl, hz⟩ := I.tuple hs
    exact call_set_tupleL (I.ok.hd hc) pl (isKs_of rv) hb fin
end
/-! ### the sorted texts of a list, each once -/
def strLe (a b : Str) : Bool := leKey (.inr a) (.inr b)
def addA {α : Type} [DecidableEq α] (L : List α) (x : α) : List α := if x ∈ L then L else L ++ [x]
def once {α : Type} [DecidableEq α] (L : List α) : List α := L.foldl addA []
def sSet (L : List Str) : List Str := (once L).mergeSort strLe
section
variable {α : Type} [DecidableEq α]
theorem addA_mem {L : List α} {x y : α} : y ∈ addA L x ↔ y ∈ L ∨ y = x := by
  unfold addA
  split
  · rename_i h
    exact ⟨.inl, fun z => z.elim id fun e => e ▸ h⟩
  · rw [List.mem_append, List.mem_singleton]
theorem fold_memA {m : α} : ∀ (L acc : List α), m ∈ L.foldl addA acc ↔ m ∈ acc ∨ m ∈ L
  | [], acc => by simp
  | x :: r, acc => by
    rw [List.foldl_cons, fold_memA r, addA_mem, List.mem_cons, or_assoc]
theorem once_memA {L : List α} {m : α} : m ∈ once L ↔ m ∈ L := by
  unfold once
  rw [fold_memA]
  simp
theorem addA_nodup {L : List α} {x : α} (h : L.Nodup) : (addA L x).Nodup := by
  unfold addA
  split
  · exact h
  · rename_i q
    exact List.nodup_append.mpr ⟨h, List.nodup_cons.mpr ⟨by simp, .nil⟩, fun a ha b hb e => q (by rw [List.mem_singleton] at hb; rw [← hb, ← e]; exact ha)⟩
theorem fold_nodupA : ∀ (L acc : List α), acc.Nodup → (L.foldl addA acc).Nodup
  | [], _, h => h
  | _ :: r, _, h => fold_nodupA r _ (addA_nodup h)
theorem once_nodupA (L : List α) : (once L).Nodup := fold_nodupA L [] .nil
theorem fold_lenA : ∀ (L acc : List α), (L.foldl addA acc).length ≤ acc.length + L.length
  | [], acc => Nat.le_refl _
  | x :: r, acc => by
    have h1 := fold_lenA r (addA acc x)
    have h2 : (addA acc x).length ≤ acc.length + 1 := by
      unfold addA
      split
      · omega
      · rw [List.length_append] <;> exact Nat.le_refl _
    rw [List.foldl_cons, List.length_cons]
    omega
theorem once_lenA (L : List α) : (once L).length ≤ L.length := by
  have := fold_lenA L []
  rw [List.length_nil, Nat.zero_add] at this
  exact this
end
theorem str_total : TotalLe strLe := by
  have h := sortLe_total (listOrd itemOrd) false fun x : Str => keyToks (kD (.inr x))
  exact h
theorem strLe_eq (a b : Str) : strLe a b = decide (a.cps.toList ≤ b.cps.toList) := by
  have h := dataLe_str (fun x : Str => x)
  exact congrFun (congrFun h a) b
theorem str_anti {a b : Str} (h1 : strLe a b = true) (h2 : strLe b a = true) : a = b := by
  rw [strLe_eq, decide_eq_true_eq] at h1 h2
  have e : a.cps.toList = b.cps.toList := List.le_antisymm h1 h2
  have e2 : a.cps = b.cps := Array.toList_inj.mp e
  cases a
  cases b
  exact congrArg Str.mk e2
theorem sSet_mem {L : List Str} {x : Str} : x ∈ sSet L ↔ x ∈ L := (List.mergeSort_perm _ _).mem_iff.trans once_memA
theorem sSet_nodup (L : List Str) : (sSet L).Nodup := (List.mergeSort_perm _ _).nodup_iff.mpr (once_nodupA L)
theorem sSet_len (L : List Str) : (sSet L).length ≤ L.length := by
  unfold sSet
  rw [List.length_mergeSort]
  exact once_lenA L
theorem sSet_pair (L : List Str) : (sSet L).Pairwise (fun a b => strLe a b = true) :=
  List.pairwise_mergeSort (le := strLe) str_total.trans (fun a b => by rcases str_total.total a b with q | q <;> rw [q] <;> simp) (once L)
/-- what is sorted, each once, and has the same members, is the same -/
theorem sSet_uniq {L M : List Str} (hp : M.Pairwise (fun a b => strLe a b = true)) (hn : M.Nodup) (he : ∀ x, x ∈ M ↔ x ∈ L) : M = sSet L := by
  have pm : M.Perm (sSet L) := (List.perm_ext_iff_of_nodup hn (sSet_nodup L)).mpr fun a => (he a).trans sSet_mem.symm
  exact List.Perm.eq_of_pairwise (le := fun a b => strLe a b = true) (fun a b _ _ q1 q2 => str_anti q1 q2) hp (sSet_pair L) pm
/-- keys that are texts -/
theorem inr_all {L : List Key} (h : ∀ k ∈ L, ∃ x, k = .inr x) : ∃ M : List Str, L = M.map .inr := by
  induction L with
  | nil => exact ⟨[], rfl⟩
  | cons k r ih =>
    obtain ⟨x, rfl⟩ := h k List.mem_cons_self
    obtain ⟨M, rfl⟩ := ih fun k hk => h k (List.mem_cons_of_mem _ hk)
    exact ⟨x :: M, rfl⟩
/-- the sorted keys of a set of texts -/
theorem sorted_strs {L1 L : List Key} {xs : List Str} (pm : L1.Perm L) (nd : L.Nodup) (he : ∀ y, y ∈ L ↔ y ∈ xs.map (Sum.inr (α := Int))) : (L1.mergeSort leKey).map kV = (sSet xs).map V.str := by
  obtain ⟨M, rfl⟩ := inr_all (L := L1) fun k hk => by
    obtain ⟨x, _, e⟩ := List.mem_map.mp ((he k).mp (pm.mem_iff.mp hk))
    exact ⟨x, e.symm⟩
  have e : (M.map (Sum.inr (α := Int))).mergeSort leKey = (M.mergeSort strLe).map Sum.inr := (List.map_mergeSort (r := strLe) (s := leKey) (f := Sum.inr) (fun a _ b _ => rfl)).symm
  have e2 : M.mergeSort strLe = sSet xs := by
    have n1 : (M.map (Sum.inr (α := Int))).Nodup := pm.nodup_iff.mpr nd
    have n2 : M.Nodup := by
      rw [List.Nodup, List.pairwise_map] at n1
      exact n1.imp fun {a b} h e => h (by rw [e])
    refine sSet_uniq (List.pairwise_mergeSort (le := strLe) str_total.trans (fun a b => by rcases str_total.total a b with q | q <;> rw [q] <;> simp) M) ((List.mergeSort_perm _ _).nodup_iff.mpr n2) fun x => ?_
    rw [(List.mergeSort_perm _ _).mem_iff]
    constructor
    · intro h
      obtain ⟨y, hy, q⟩ := List.mem_map.mp ((he (.inr x)).mp (pm.mem_iff.mp (List.mem_map_of_mem h)))
      rw [← Sum.inr.inj q]
      exact hy
    · intro h
      obtain ⟨y, hy, q⟩ := List.mem_map.mp (pm.mem_iff.mpr ((he (.inr x)).mpr (List.mem_map_of_mem h)))
      rw [← Sum.inr.inj q]
      exact hy
  rw [e, List.map_map, e2] <;> rfl
end Sl

/-! Data ways: dict comprehensions, comprehensions of two clauses, lists of dicts' parts, displays of dicts, isinstance, sorted(set(..)). -/
namespace Dw
open PySem PySem.Spec PySem.W PySem.Calls PyProof.Rows L2 Dr Rp
open He (ga)
/-! ### putting into dicts -/
def hasD (ds : List (PyData × PyData)) (k : Key) : Bool := ds.any fun q => decide (keyD q.1 = some k)
def putD (ds : List (PyData × PyData)) (k : Key) (d : PyData) : List (PyData × PyData) :=
  if hasD ds k = true then ds.map (fun q => if keyD q.1 = some k then (q.1, d) else q) else ds ++ [(kD k, d)]
theorem keyD_kD (k : Key) : keyD (kD k) = some k := by cases k <;> rfl
theorem has_eq {K : PySem.W.Frag} {G : Hp} {k : Key} : ∀ {kvs : List (Key × V)} {ds : List (PyData × PyData)}, DtKv K G kvs ds → (kvs.any fun kv => decide (kv.1 = k)) = hasD ds k
  | _, _, .nil => rfl
  | _, _, .cons (k := k') a t => by
    unfold hasD
    rw [List.any_cons, List.any_cons, keyD_kD]
    have z := has_eq (k := k) t
    unfold hasD at z
    rw [z]
    congr 1
    by_cases e : k' = k
    · rw [decide_eq_true e, decide_eq_true (by rw [e])]
    · rw [decide_eq_false e, decide_eq_false fun q => e (Option.some.inj q)]
theorem dkv_mp {K : PySem.W.Frag} {G : Hp} {k : Key} {v : V} {d : PyData} (hd : Dt K G v d) : ∀ {kvs : List (Key × V)} {ds : List (PyData × PyData)}, DtKv K G kvs ds → DtKv K G (kvs.map fun kv => if kv.1 = k then (kv.1, v) else kv) (ds.map fun q => if keyD q.1 = some k then (q.1, d) else q)
  | _, _, .nil => .nil
  | _, _, .cons (k := k') a t => by
    rw [List.map_cons, List.map_cons]
    dsimp only
    rw [keyD_kD]
    by_cases e : k' = k
    · rw [if_pos e, if_pos (by rw [e])]
      exact .cons hd (dkv_mp hd t)
    · rw [if_neg e, if_neg fun q => e (Option.some.inj q)]
      exact .cons a (dkv_mp hd t)
theorem dkv_ap {K : PySem.W.Frag} {G : Hp} {k : Key} {v : V} {d : PyData} (hd : Dt K G v d) : ∀ {kvs : List (Key × V)} {ds : List (PyData × PyData)}, DtKv K G kvs ds → DtKv K G (kvs ++ [(k, v)]) (ds ++ [(kD k, d)])
  | _, _, .nil => .cons hd .nil
  | _, _, .cons a t => .cons a (dkv_ap hd t)
theorem putD_dts {K : PySem.W.Frag} {G : Hp} {k : Key} {v : V} {d : PyData} {kvs : List (Key × V)} {ds : List (PyData × PyData)} (h : DtKv K G kvs ds) (hd : Dt K G v d) : DtKv K G (putK kvs k v) (putD ds k d) := by
  unfold putK putD
  rw [has_eq h]
  split
  · exact dkv_mp hd h
  · exact dkv_ap hd h
/-- the first four premises of a turn, moved on: the list or dict at D is changed -/
structure Turned (L : Addr → Prop) (L' : Addr → Prop) (p : Option Addr) (D : Addr) (H1 H5 H6 : Hp) : Prop where
  lok : LOk L' p H6
  stp : Stp L p H1 H6
  ct : SameR (ctL L' H5) (ctL L' H6)
theorem turned {L L' : Addr → Prop} {p : Option Addr} {D : Addr} {H1 H5 : Hp} {o : HO} (hD : H1 D = none) (nL : ¬ L D) (LD : L' D) (np : p ≠ some D) (nt : NT o) (o5 : LOk L' p H5) (s : Stp L p H1 H5) : Turned L L' p D H1 H5 (upd H5 D o) := by
  refine ⟨⟨fun b l => ?_, fun q e => ⟨(o5.str q e).1, (o5.str q e).2.keep fun u hu => by rw [upd_ne (fun z => np (by rw [← z]; exact e))]; exact hu⟩⟩, ⟨fun b u n tt h => ?_, fun b h => ?_, fun b l n => ?_⟩, fun b u h => ?_⟩
  · by_cases eb : b = D
    · subst eb
      exact ⟨_, upd_same, nt⟩
    · rw [upd_ne eb]
      exact o5.live b l
  · have nb : b ≠ D := fun e => by rw [e, hD] at h; cases h
    rw [upd_ne nb]
    exact s.keep b u n tt h
  · have nb : b ≠ D := fun e => by rw [e, hD] at h; exact h rfl
    rw [upd_ne nb]
    exact s.live b h
  · have nb : b ≠ D := fun e => nL (by rw [← e]; exact l)
    rw [upd_ne nb]
    exact s.loose b l n
  · obtain ⟨n, h1, tt⟩ := ctL_of h
    exact ⟨u, ctL_at (by rw [upd_ne (fun z => n (by rw [z]; exact LD))]; exact h1) n tt, .inl rfl⟩
theorem gh_upd {K : PySem.W.Frag} {L' : Addr → Prop} {p : Option Addr} {D : Addr} {H5 : Hp} {o : HO} {g : Gh} (h : GhR K p L' H5 g) (ct : SameR (ctL L' H5) (ctL L' (upd H5 D o))) (nD : ∀ z ∈ g.ad, z.1 ≠ D) : GhR K p L' (upd H5 D o) g :=
  h.mono ct fun z hz e => by rw [upd_ne (nD z hz)]; exact e
def wDcGo (g : WGt) (t : WT) (fk fv : WF) (ρ : EnvD) : List EV → List (PyData × PyData) → (List (PyData × PyData) → Prop) → Prop
  | [], acc, P => P acc
  | x :: r, acc, P => g x ρ fun ρ' => t ρ' fun b => if b = true then fk ρ' fun ek => fv ρ' fun ev => match ek, ev with
    | .py kd, .py d => ∃ k, keyD kd = some k ∧ acc.length < sizeLine ∧ wDcGo g t fk fv ρ r (putD acc k d) P
    | _, _ => False
    else wDcGo g t fk fv ρ r acc P
def wDc (fi : WA) (g : WGt) (t : WT) (fk fv : WF) (vs : List Nat) : WF := fun ρ P => noOwn ρ vs ∧ fi ρ fun xs => wDcGo g t fk fv (wipeE ρ vs) xs [] fun ds => P (.py (.dict ds))
section
variable {X : Cx} {m : Mode}
theorem dc_read {K : PySem.W.Frag} {fi : WA} {g : WGt} {t : WT} {fk fv : WF} {vs : List Nat} {σ : L2.St} {H : Hp} {Q : VK} (q : tW K m (wDc fi g t fk fv vs) σ H Q) : tDc (tI K .read fi) (tWG K vs g) (tWT K t) (tW K .data fk) (tW K .data fv) vs σ H Q := by
  obtain ⟨He, Lc, os, p, gs, ρ, P, E, ⟨hno, hf⟩, k⟩ := q
  refine ⟨He, Lc, os, p, gs, ρ, _, E, hf, fun xs gh J H1 hP s o hg hI => ?_⟩
  have E1 := E.step s o
  intro D hD
  have nLD : ¬ Ls Lc os D := fun l => o.ne D l hD
  have npD : p ≠ some D := fun e => nLD (o.str D e).1
  have toL : ∀ b, Ls (Ins Lc D) os b → Ls Lc os b ∨ b = D := fun b l => by
    rcases l with (l | l) | l
    · exact .inl (.inl l)
    · exact .inr l
    · exact .inl (.inr l)
  have ofL : ∀ b, Ls Lc os b → Ls (Ins Lc D) os b := fun b l => by
    rcases l with l | l
    · exact .inl (.inl l)
    · exact .inr l
  have LD : Ls (Ins Lc D) os D := .inl (.inr rfl)
  have nDg : ∀ z ∈ gh.ad, z.1 ≠ D := fun z hz e => by
    obtain ⟨_, q1, _⟩ := (hg.r o).1 z hz
    rw [e, hD] at q1
    cases q1
  refine ⟨fun i n H2 => n = xs.length - i ∧ i ≤ xs.length ∧ LOk (Ls (Ins Lc D) os) p H2 ∧ Stp (Ls Lc os) p H1 H2 ∧ GhR K p (Ls (Ins Lc D) os) H2 gh ∧ ∃ acc va, H2 D = some (.dK va) ∧ DtKv K (ctL (Ls (Ins Lc D) os) H2) va acc ∧ wDcGo g t fk fv (wipeE ρ vs) (xs.drop i) acc fun ds => P (.py (.dict ds)), ⟨xs.length, rfl, Nat.zero_le _, ?_, Stp.new o.ne hD, ?_, [], [], upd_same, .nil, hP⟩, ?_⟩
  · refine ⟨fun b l => ?_, fun q e => ⟨ofL q (o.str q e).1, (o.str q e).2.same (smu hD)⟩⟩
    rcases toL b l with l | rfl
    · obtain ⟨u, h1, h2⟩ := o.live b l
      exact ⟨u, smu hD b u h1, h2⟩
    · exact ⟨_, upd_same, .dK⟩
  · refine (hg.r o).mono (fun b u h => ?_) fun z hz e => smu hD _ _ e
    obtain ⟨n, h1, tt⟩ := ctL_of h
    refine ⟨u, ctL_at (smu hD b u h1) (fun l => ?_) tt, .inl rfl⟩
    rcases toL b l with l | rfl
    · exact n l
    · rw [hD] at h1
      cases h1
  · rintro i n H2 ⟨rfl, hi, o2, s2, g2, acc, va, hL, hA, hgo⟩
    by_cases hlt : i < xs.length
    · refine .inr ⟨hI.go _ _ i o2 g2 hlt, fun H' => ∃ n', n' < xs.length - i ∧ (n' = xs.length - (i + 1) ∧ i + 1 ≤ xs.length ∧ LOk (Ls (Ins Lc D) os) p H' ∧ Stp (Ls Lc os) p H1 H' ∧ GhR K p (Ls (Ins Lc D) os) H' gh ∧ ∃ acc va, H' D = some (.dK va) ∧ DtKv K (ctL (Ls (Ins Lc D) os) H') va acc ∧ wDcGo g t fk fv (wipeE ρ vs) (xs.drop (i + 1)) acc fun ds => P (.py (.dict ds))), fun H' h => h, fun x H3 hy => ?_⟩
      obtain ⟨sm, e, he, hv⟩ := hI.yld _ _ i x H3 o2 g2 hlt hy
      have s3 : Stp (Ls (Ins Lc D) os) p H2 H3 := Stp.same sm o2.ne
      have o3 := o2.same sm
      have hdrop : xs.drop i = e :: xs.drop (i + 1) := by
        obtain ⟨h1, rfl⟩ := List.getElem?_eq_some_iff.mp he
        exact List.drop_eq_getElem_cons h1
      rw [hdrop] at hgo
      have s13 : Stp (Ls Lc os) p H1 H3 := s2.trans (s3.sub ofL)
      have hnl : H3 D = some (.dK va) := sm _ _ hL
      have Ei := E1.inner hno hD s13 o3 ⟨_, hnl⟩
      refine ⟨_, _, _, _, _, _, _, _, Ei, hv, hgo, fun ρ' σ' hP' E' hw => ⟨hw.trans wipe_wipe, ?_⟩⟩
      refine ⟨_, _, _, _, _, _, _, E', hP', fun b H4 hb s4 o4 => ?_⟩
      have s14 : Stp (Ls Lc os) p H1 H4 := s13.trans (s4.sub ofL)
      have s24 := s3.trans s4
      cases b with
      | false =>
        exact ⟨xs.length - (i + 1), by omega, rfl, hlt, o4, s14, (g2.step o2 s24), acc, va, (s24.loose D LD npD).trans hL, Dt.sameRKv (s24.ct o2) _ _ hA, hb⟩
      | true =>
        refine ⟨_, _, _, _, _, _, _, E'.step s4 o4, hb, fun ek H5 vk hek s5 o5 r5 => ?_⟩
        refine ⟨_, _, _, _, _, _, _, (E'.step s4 o4).step s5 o5, hek, fun ev H6 vv hev s6 o6 r6 => ?_⟩
        split at hev
        · rename_i kd d
          obtain ⟨key, hkey, hsz, hgo'⟩ := hev
          have s26 := (s24.trans s5).trans s6
          have s16 := (s14.trans (s5.sub ofL)).trans (s6.sub ofL)
          have hL6 := (s26.loose D LD npD).trans hL
          have lA := dkv_len hA
          have ev : vk = kV key := keyD_v (p := p) (H0 := H5) (L := Ls (Ins Lc D) os) (H := H5) (.inl r5) hkey
          have tn := turned (o := .dK (putK va key vv)) hD nLD LD npD .dK o6 s16
          exact ⟨va, key, ev, hL6, by omega, xs.length - (i + 1), by omega, rfl, hlt, tn.lok, tn.stp, gh_upd (g2.step o2 s26) tn.ct nDg, putD acc key d, putK va key vv, upd_same, putD_dts (Dt.sameRKv tn.ct _ _ (Dt.sameRKv (s26.ct o2) _ _ hA)) (Dt.sameR tn.ct _ _ r6), hgo'⟩
        · exact hev.elim
    · have ei : i = xs.length := by omega
      subst ei
      refine .inl ⟨hI.stop _ _ o2 g2, ?_⟩
      rw [List.drop_length] at hgo
      refine k _ H2 (.ref D) hgo (s.trans s2) (o2.sub ofL fun q e => (o.str q e).1) (Res.base (H1 := H1) (Res.of_fresh (p := p) o hD (.inr ⟨va, acc, rfl, hL, Dt.sameRKv (ctL_sub fun b l => ?_) _ _ hA⟩)) s)
      rcases l with l | rfl
      · exact ofL b l
      · exact LD
/-- {k: v for x in xs if t} -/
theorem ddc {kx vx tg iter : Expr} {ifs : List Expr} {scope : Scope} {pos : Pos} {fi : WA} {g : WGt} {t : WT} {fk fv : WF} (own : List (Str × Nat)) (hc : X.calm = true) (hN : X.N.Nodup) (hi : PI X tg iter (tI X.K .read fi)) (ok : BlkOk X.N X.env.scope scope own)
    (hg : ∀ (s : Shared) (H : Hp) (C : Addr) (cl : List (Str × Addr)) (fp : List Addr), PG (X.blk s H scope (compEnvC scope cl C X.env) fp) tg (tWG X.K (own.map (·.2)) g)) (ht : ∀ (s : Shared) (H : Hp) (C : Addr) (cl : List (Str × Addr)) (fp : List Addr), PTs (X.blk s H scope (compEnvC scope cl C X.env) fp) ifs (tWT X.K t))
    (hk : ∀ (s : Shared) (H : Hp) (C : Addr) (cl : List (Str × Addr)) (fp : List Addr), PE (X.blk s H scope (compEnvC scope cl C X.env) fp) kx (tW X.K .data fk)) (he : ∀ (s : Shared) (H : Hp) (C : Addr) (cl : List (Str × Addr)) (fp : List Addr), PE (X.blk s H scope (compEnvC scope cl C X.env) fp) vx (tW X.K .data fv)) (hs : ∀ x, foldedSetIterable iter X.env x = pure x := by intro _; rfl) :
    PE X (.DictComp kx vx [⟨tg, iter, ifs, 0⟩] scope pos) (tW X.K m (wDc fi g t fk fv (own.map (·.2)))) :=
  pe_mono (pe_dc (own := own) hc hN hi ok hg ht hk he hs) fun σ H Q q => dc_read q
/-! ### list(d.items()), list(d.values()) -/
theorem pe_listItemsR {e : Expr} {te : TE} {p apos cpos pos : Pos} (hc : X.calm = true) (he : PE X e te) (hg : Gl X "list") (hm : X.mg "list" = none) (hv : bootBuiltins "list" = some (.type "list")) (hbase : attributeBase e "items" X.env (eval e X.env) = eval e X.env := by rfl) (hline : (apos.endLine == cpos.line) = true := by rfl)
    (hs : starEach [.Call (.Attribute e "items" apos) [] [] cpos] X.env = (false, eval (.Call (.Attribute e "items" apos) [] [] cpos) X.env) :: starEach [] X.env := by rfl) :
    PE X (.Call (.Name "list" p) [.Call (.Attribute e "items" apos) [] [] cpos] [] pos) (fun σ H Q => te σ H fun x H1 => ∃ (d : Addr) (kvs : List (Key × V)), x = .ref d ∧ Rd H1 d (.dK kvs) ∧
      ∀ (H' : Hp) (p : Addr) (ts : List Addr), (∀ b o, H1 b = some o → H' b = some o) → H1 p = none → (∀ t ∈ ts, H1 t = none) → p ∉ ts → H' p = some (.lst (ts.map V.ref)) → Paired (fun (t : Addr) (q : Key × V) => H' t = some (.tup [kV q.1, q.2])) ts kvs → Q (.ref p) H') := by
  refine ⟨fun pins s σ H Q I hq => ?_⟩
  refine wpAny_Call_Name_kw (ld_blt I hg hm hv ?_)
  refine PyProof.Rows.callWith_type1 ?_ hs rfl
  rw [hs]
  show wpAny _ _ (spliced ((false, eval (.Call (.Attribute e "items" apos) [] [] cpos) X.env) :: backTo pos (starEach [] X.env))) _ _ s
  refine Calls.spliced_cons ?_
  refine wpAny_Call_method (T := "dict") (id := "dict.items") hbase rfl hline F.plainAttrs_dict F.slot_dict_items F.type_dict_items (thn (he.run pins s σ H _ I hq) fun u s1 ⟨x, H1, I1, rx, d, kvs, ex, hd, q⟩ => ?_)
  subst ex
  obtain rfl : u = Value.ref d := rx
  obtain ⟨hz, hs0, vs, kv, hdo⟩ := hd.ok I1.hok
  obtain ⟨ep, hat⟩ := hdo.dictAt
  have lk : kvs.length = vs.length := Paired.length kv
  have I2 : Inv X pins σ H1 { s1 with heap := s1.heap.push { cls := .type "dict_items", data := .fields #[.ref d] } } := I1.kept (t' := s1.toks) fun b ob q => Heap.get?_push_of_some _ q
  refine ⟨hdo.typeIs, hdo.mapOf.noDict, ?_⟩
  show wpAny _ _ (callWith cpos (.builtin "dict.items") [.ref d] [] []) _ X.xe s1
  refine method_meetsIn F.slot_dict_items F.entry_dict_items rfl (PySem.evalArgs_none ⟨rfl, hdo.typeIs, F.args_dict_items_1 _, _, meets_dict_items (mixKind X.prog X.w) d hs0, ⟨vs, hdo⟩, ?_⟩)
  refine Calls.spliced_nil ?_
  refine PySem.W.kdx_call (knd := mixKind X.prog X.w) (kvs := vs) (ep := ep) (I1.ok.hd hc) ⟨_, Heap.get?_push_size _ rfl, rfl, rfl⟩ (hat.push _) (by omega) fun h' tk acc c as hk hS hl hG hacc => ?_
  obtain ⟨H', k1, k2, k3, k4, k5, k6, J⟩ := LiI.items_laid (tk := tk) I2 hz kv hk hS hl hG hacc
  exact ⟨.ref _, H', J, rfl, q H' _ as k1 k2 k3 k4 k5 k6⟩
/-- the pairs of a dict as tuples -/
def pairL (ds : List (PyData × PyData)) : List PyData := ds.map fun q => .tuple [q.1, q.2]
theorem pairs_dts {K : PySem.W.Frag} {L : Addr → Prop} {p : Option Addr} {H' : Hp} (o : LOk L p H') : ∀ {ts : List Addr} {kvs : List (Key × V)} {ds : List (PyData × PyData)}, Paired (fun (t : Addr) (q : Key × V) => H' t = some (.tup [kV q.1, q.2])) ts kvs → DtKv K (ctL L H') kvs ds → DtAll K (ctL L H') (ts.map V.ref) (pairL ds)
  | _, _, _, .nil, .nil => .nil
  | _, _, _, .cons h r, .cons a t => .cons (.tup (o.sqt (SqT.of h)) (.cons (dt_key _) (.cons a .nil))) (pairs_dts o r t)
def wItemsL : EV → (EV → Prop) → Prop
  | .py (.dict ds), P => P (.py (.list (pairL ds)))
  | _, _ => False
/-- list(e.items()) -/
theorem dlistItems {e : Expr} {f : WF} {p apos cpos pos : Pos} (hc : X.calm = true) (he : PE X e (tW X.K .data f)) (hg : Gl X "list") (ht : X.mg "list" = none) (hv : bootBuiltins "list" = some (.type "list")) (hbase : attributeBase e "items" X.env (eval e X.env) = eval e X.env := by rfl) (hline : (apos.endLine == cpos.line) = true := by rfl)
    (hs : starEach [.Call (.Attribute e "items" apos) [] [] cpos] X.env = (false, eval (.Call (.Attribute e "items" apos) [] [] cpos) X.env) :: starEach [] X.env := by rfl) :
    PE X (.Call (.Name "list" p) [.Call (.Attribute e "items" apos) [] [] cpos] [] pos) (tW X.K m (w1 f wItemsL)) :=
  k1 (ma := .data) (g := wItemsL) _ (by decide) (pe_listItemsR hc he hg ht hv hbase hline hs) fun L p H0 H v a P Q o ra hg k => by
    unfold wItemsL at hg
    split at hg
    · rename_i ds
      obtain ⟨d, kvs, rfl, nd, h1, h2⟩ := dic_inv (p := p) (ra : Rv X.K p (ctL L H) v (.py (.dict ds)))
      refine ⟨d, kvs, rfl, h1, fun H' r ts sm hr hts nr hL hP => ?_⟩
      have s : Stp L p H H' := Stp.same sm o.ne
      have o' := o.same sm
      have o2 : LOk (Ins L r) p H' := ⟨fun b l => by
        rcases l with l | rfl
        · exact o'.live b l
        · exact ⟨_, hL, .lst⟩, fun q e => ⟨.inl (o'.str q e).1, (o'.str q e).2⟩⟩
      have h2' : DtKv X.K (ctL (Ins L r) H') kvs ds := Dt.sameRKv (fun b u hb => by
        obtain ⟨n, e1, t⟩ := ctL_of hb
        refine ⟨u, ctL_at (sm b u e1) (fun l => ?_) t, .inl rfl⟩
        rcases l with l | rfl
        · exact n l
        · rw [hr] at e1
          cases e1) _ _ h2
      exact k _ H' _ hg s o' (Res.of_fresh o hr (.inl ⟨_, _, rfl, hL, pairs_dts o2 hP h2'⟩))
    · exact hg.elim
theorem vals_of_get : ∀ {xs : List V} {us : List Value}, xs.length = us.length → (∀ (i : Nat) (x : V) (u : Value), xs[i]? = some x → us[i]? = some u → RelV x u) → Vals xs us
  | [], [], _, _ => .nil
  | [], _ :: _, h, _ => by simp at h
  | _ :: _, [], h, _ => by simp at h
  | x :: xs, u :: us, h, k => .cons (k 0 x u rfl rfl) (vals_of_get (by simpa using h) fun i y w h1 h2 => k (i + 1) y w h1 h2)
/-- list(e.values()) -/
theorem pe_listVals {e : Expr} {te : TE} {p apos cpos pos : Pos} (hc : X.calm = true) (he : PE X e te) (hg : Gl X "list") (hm : X.mg "list" = none) (hv : bootBuiltins "list" = some (.type "list")) (hbase : attributeBase e "values" X.env (eval e X.env) = eval e X.env := by rfl) (hline : (apos.endLine == cpos.line) = true := by rfl)
    (hs : starEach [.Call (.Attribute e "values" apos) [] [] cpos] X.env = (false, eval (.Call (.Attribute e "values" apos) [] [] cpos) X.env) :: starEach [] X.env := by rfl) :
    PE X (.Call (.Name "list" p) [.Call (.Attribute e "values" apos) [] [] cpos] [] pos) (fun σ H Q => te σ H fun x H1 => ∃ (d : Addr) (kvs : List (Key × V)), x = .ref d ∧ Rd H1 d (.dK kvs) ∧ ∀ q, H1 q = none → Q (.ref q) (upd H1 q (.lst (kvs.map (·.2))))) := by
  refine ⟨fun pins s σ H Q I hq => ?_⟩
  refine wpAny_Call_Name_kw (ld_blt I hg hm hv ?_)
  refine PyProof.Rows.callWith_type1 ?_ hs rfl
  rw [hs]
  show wpAny _ _ (spliced ((false, eval (.Call (.Attribute e "values" apos) [] [] cpos) X.env) :: backTo pos (starEach [] X.env))) _ _ s
  refine Calls.spliced_cons ?_
  refine wpAny_Call_method (T := "dict") (id := "dict.values") hbase rfl hline F.plainAttrs_dict F.slot_dict_values F.type_dict_values (thn (he.run pins s σ H _ I hq) fun u s1 ⟨x, H1, I1, rx, d, kvs, ex, hd, q⟩ => ?_)
  subst ex
  obtain rfl : u = Value.ref d := rx
  obtain ⟨hz, hs0, vs, kv, hdo⟩ := hd.ok I1.hok
  have lk : kvs.length = vs.length := Paired.length kv
  have I2 : Inv X pins σ H1 { s1 with heap := s1.heap.push { cls := .type "dict_values", data := .fields #[.ref d] } } := I1.kept (t' := s1.toks) fun b ob q => Heap.get?_push_of_some _ q
  refine ⟨hdo.typeIs, hdo.mapOf.noDict, ?_⟩
  show wpAny _ _ (callWith cpos (.builtin "dict.values") [.ref d] [] []) _ X.xe s1
  refine method_meetsIn F.slot_dict_values F.entry_dict_values rfl (PySem.evalArgs_none ⟨rfl, hdo.typeIs, F.args_dict_values_1 _, _, meets_dict_values (mixKind X.prog X.w) d hs0, ⟨vs, hdo⟩, ?_⟩)
  refine Calls.spliced_nil ?_
  obtain ⟨es, ep, hraw, hsz, hent⟩ := hdo.raw
  refine kdl_call (KdlSrc.rawValues (es := es) (ep := ep) (d := d)) (I1.ok.hd hc) ⟨⟨_, Heap.get?_push_size _ rfl, rfl, rfl⟩, hraw.push _⟩ (by omega) fun h' tk acc c hk hS hacc => ?_
  have hfree := I2.hok.fresh (Nat.le_refl (s1.heap.push { cls := .type "dict_values", data := .fields #[.ref d] }).objs.size)
  refine ⟨.ref _, upd H1 _ (.lst (kvs.map (·.2))), I2.laid (t' := tk) hk (Nat.le_refl _) ⟨by rw [List.length_map]; exact hz, acc.toList, c, ?_, by rw [Array.toArray_toList]; exact hS⟩, rfl, q _ hfree⟩
  refine vals_of_get (by have ha := hacc.1; simp only [List.length_map, Array.length_toList]; omega) fun i x u h1 h2 => ?_
  rw [List.getElem?_map] at h1
  cases e1 : kvs[i]? with
  | none => rw [e1] at h1; cases h1
  | some kx =>
    rw [e1] at h1
    have ex : kx.2 = x := Option.some.inj h1
    obtain ⟨qv, g1, g2, g3⟩ := LiI.paired_get kv e1
    obtain ⟨hi, hval⟩ := hacc.2 i u (by rw [← Array.getElem?_toList]; exact h2)
    obtain ⟨_, hv2⟩ := hent i hi qv.1 qv.2 g1
    rw [hval, hv2, ← ex]
    exact g3
def wValsL : EV → (EV → Prop) → Prop
  | .py (.dict ds), P => P (.py (.list (ds.map (·.2))))
  | _, _ => False
theorem dkv_vals {K : PySem.W.Frag} {G : Hp} : ∀ {kvs : List (Key × V)} {ds : List (PyData × PyData)}, DtKv K G kvs ds → DtAll K G (kvs.map (·.2)) (ds.map (·.2))
  | _, _, .nil => .nil
  | _, _, .cons a t => .cons a (dkv_vals t)
theorem dlistVals {e : Expr} {f : WF} {p apos cpos pos : Pos} (hc : X.calm = true) (he : PE X e (tW X.K .read f)) (hg : Gl X "list") (ht : X.mg "list" = none) (hv : bootBuiltins "list" = some (.type "list")) (hbase : attributeBase e "values" X.env (eval e X.env) = eval e X.env := by rfl) (hline : (apos.endLine == cpos.line) = true := by rfl)
    (hs : starEach [.Call (.Attribute e "values" apos) [] [] cpos] X.env = (false, eval (.Call (.Attribute e "values" apos) [] [] cpos) X.env) :: starEach [] X.env := by rfl) :
    PE X (.Call (.Name "list" p) [.Call (.Attribute e "values" apos) [] [] cpos] [] pos) (tW X.K m (w1 f wValsL)) :=
  k1 (ma := .read) (g := wValsL) _ (by decide) (pe_listVals hc he hg ht hv hbase hline hs) fun L p H0 H v a P Q o ra hg k => by
    unfold wValsL at hg
    split at hg
    · obtain ⟨d, kvs, rfl, h1, h2⟩ := ra.dict
      exact ⟨d, kvs, rfl, h1, fun q hq => Go.lst k o hg (dkv_vals h2) hq⟩
    · exact hg.elim
/-! ### displays of dicts -/
def mergeD (ds : List (PyData × PyData)) (more : List (Key × PyData)) : List (PyData × PyData) := more.foldl (fun acc q => putD acc q.1 q.2) ds
theorem merge_dts {K : PySem.W.Frag} {G : Hp} : ∀ {more : List (Key × V)} {ms : List (Key × PyData)} {kvs : List (Key × V)} {ds : List (PyData × PyData)}, Paired (fun (a : Key × V) (b : Key × PyData) => a.1 = b.1 ∧ Dt K G a.2 b.2) more ms → DtKv K G kvs ds → DtKv K G (mergeK kvs more) (mergeD ds ms)
  | _, _, _, _, .nil, h => h
  | _, _, _, _, .cons a t, h => by
    unfold mergeK mergeD
    rw [List.foldl_cons, List.foldl_cons, ← a.1]
    exact merge_dts t (putD_dts h a.2)
/-- the pairs of a display -/
abbrev WP := EnvD → (List (Key × PyData) → Prop) → Prop
def wPnil : WP := fun _ P => P []
def wPcons (fk fv : WF) (r : WP) : WP := fun ρ P => fk ρ fun ek => fv ρ fun ev => r ρ fun ps => match ek, ev with
  | .py kd, .py d => ∃ k, keyD kd = some k ∧ P ((k, d) :: ps)
  | _, _ => False
def wDisp (r : WP) : WF := fun ρ P => r ρ fun ps => ps.length ≤ 15 ∧ P (.py (.dict (mergeD [] ps)))
/-- one after the other, each reading of a display -/
structure DPs (X : Cx) (pos : Pos) (keys : List (Option Expr)) (values : List Expr) (r : WP) : Prop where
  ex : ∃ trs, PPs X pos keys values trs ∧ ∀ (σ : L2.St) (H : Hp) (Q : List (V × V) → Hp → Prop) He Lc os p gs ρ P, EnvOk X.K He Lc os p gs H σ ρ → r ρ P → (∀ ps H' zs, P ps → Stp (Ls Lc os) p H H' → LOk (Ls Lc os) p H' → Paired (fun (a : V × V) (b : Key × PyData) => a.1 = kV b.1 ∧ Dt X.K (ctL (Ls Lc os) H') a.2 b.2) zs ps → Q zs H') → tPairs trs σ H Q
theorem dps_nil {pos : Pos} : DPs X pos [] [] wPnil := ⟨[], pps_nil, fun σ H Q He Lc os p gs ρ P E hf k => k [] H [] hf Stp.refl E.lokL .nil⟩
theorem dps_cons {pos : Pos} {k v : Expr} {ks : List (Option Expr)} {vs : List Expr} {fk fv : WF} {r : WP} (hk : PE X k (tW X.K .data fk)) (hv : PE X v (tW X.K .data fv)) (hr : DPs X pos ks vs r) : DPs X pos (some k :: ks) (v :: vs) (wPcons fk fv r) := by
  obtain ⟨trs, h1, h2⟩ := hr
  refine ⟨_, pps_cons hk hv h1, fun σ H Q He Lc os p gs ρ P E hf k => ?_⟩
  refine ⟨He, Lc, os, p, gs, ρ, _, E, hf, fun ek H1 vk hek s1 o1 r1 => ?_⟩
  refine ⟨He, Lc, os, p, gs, ρ, _, E.step s1 o1, hek, fun ev H2 vv hev s2 o2 r2 => ?_⟩
  refine h2 σ H2 _ He Lc os p gs ρ _ ((E.step s1 o1).step s2 o2) hev fun ps H3 zs hps s3 o3 hz => ?_
  split at hps
  · obtain ⟨key, hkey, hP⟩ := hps
    have ek : vk = kV key := keyD_v (p := p) (H0 := H) (L := Ls Lc os) (H := H1) (.inl r1) hkey
    have r2' : Dt X.K (ctL (Ls Lc os) H2) vv _ := r2
    exact k _ H3 _ hP ((s1.trans s2).trans s3) o3 (.cons ⟨ek, Dt.sameR (s3.ct o2) _ _ r2'⟩ hz)
  · exact hps.elim
theorem zs_kvs {K : PySem.W.Frag} {G : Hp} : ∀ {zs : List (V × V)} {ps : List (Key × PyData)}, Paired (fun (a : V × V) (b : Key × PyData) => a.1 = kV b.1 ∧ Dt K G a.2 b.2) zs ps → ∃ kvs : List (Key × V), zs = kvs.map (fun kv => (kV kv.1, kv.2)) ∧ kvs.length = ps.length ∧ Paired (fun (a : Key × V) (b : Key × PyData) => a.1 = b.1 ∧ Dt K G a.2 b.2) kvs ps
  | _, _, .nil => ⟨[], rfl, rfl, .nil⟩
  | (x, y) :: zs, (key, d) :: ps, .cons a t => by
    obtain ⟨kvs, h1, h2, h3⟩ := zs_kvs t
    refine ⟨(key, y) :: kvs, ?_, by rw [List.length_cons, List.length_cons, h2], .cons ⟨rfl, a.2⟩ h3⟩
    rw [List.map_cons, h1]
    have e : x = kV key := a.1
    rw [e]
/-- {k: v, ..} -/
theorem ddisp {pos : Pos} {keys : List (Option Expr)} {values : List Expr} {r : WP} (h : DPs X pos keys values r) (hall : keys.all (·.isSome) = true := by rfl) (hl : keys.length = values.length := by rfl) (h0 : keys ≠ [] := by exact (fun z => by cases z)) (h15 : keys.length ≤ 15 := by decide) : PE X (.Dict keys values pos) (tW X.K m (wDisp r)) := by
  obtain ⟨trs, h1, h2⟩ := h
  refine pe_mono (pe_disp h1 hall hl h0 h15) fun σ H Q q => ?_
  obtain ⟨He, Lc, os, p, gs, ρ, P, E, hf, k⟩ := q
  intro D hD
  have o := E.lokL
  have nLD : ¬ Ls Lc os D := fun l => o.ne D l hD
  have npD : p ≠ some D := fun e => nLD (o.str D e).1
  have ofL : ∀ b, Ls Lc os b → Ls (Ins Lc D) os b := fun b l => by
    rcases l with l | l
    · exact .inl (.inl l)
    · exact .inr l
  have LD : Ls (Ins Lc D) os D := .inl (.inr rfl)
  have oI : LOk (Ls (Ins Lc D) os) p (upd H D (.dK [])) := by
    refine ⟨fun b l => ?_, fun q e => ⟨ofL q (o.str q e).1, (o.str q e).2.same (smu hD)⟩⟩
    have l' : Ls Lc os b ∨ b = D := by
      rcases l with (l | l) | l
      · exact .inl (.inl l)
      · exact .inr l
      · exact .inl (.inr l)
    rcases l' with l | rfl
    · obtain ⟨u, h1, h2⟩ := o.live b l
      exact ⟨u, smu hD b u h1, h2⟩
    · exact ⟨_, upd_same, .dK⟩
  have Ei := E.inner (vs := []) (fun _ h => nomatch h) hD (Stp.new o.ne hD) oI ⟨_, upd_same⟩
  refine h2 σ _ _ _ _ _ _ _ ρ _ Ei hf fun ps H2 zs hps s2 o2 hz => ?_
  obtain ⟨kvs, e1, e2, e3⟩ := zs_kvs hz
  have s12 : Stp (Ls Lc os) p H H2 := (Stp.new o.ne hD).trans (s2.sub ofL)
  have tn := turned (o := .dK (mergeK [] kvs)) hD nLD LD npD .dK o2 s12
  refine ⟨(s2.loose D LD npD).trans upd_same, kvs, e1, by rw [e2]; exact hps.1, ?_⟩
  refine k _ _ _ hps.2 tn.stp (tn.lok.sub ofL fun q e => (o.str q e).1) (Res.of_fresh o hD (.inr ⟨_, _, rfl, upd_same, Dt.sameRKv (tn.ct.trans (ctL_sub fun b l => ?_)) _ _ (merge_dts e3 .nil)⟩))
  rcases l with l | rfl
  · exact ofL b l
  · exact LD
def wEmptyD : WF := fun _ P => P (.py (.dict []))
theorem dempty {pos : Pos} : PE X (.Dict [] [] pos) (tW X.K m wEmptyD) := by
  refine pe_mono pe_dnewK fun σ H Q q => ?_
  obtain ⟨He, Lc, os, p, gs, ρ, P, E, hf, k⟩ := q
  intro D hD
  have o := E.lokL
  exact k _ _ _ hf (Stp.new o.ne hD) (o.new hD) (Res.of_fresh o hD (.inr ⟨_, _, rfl, upd_same, .nil⟩))
/-! ### isinstance -/
def isiD (T : String) : EV → (EV → Prop) → Prop
  | .py d, P => ∃ b, kitB (tyD d) T = some b ∧ P (.py (.bool b))
  | _, _ => False
theorem disi {a : Expr} {T : String} {nm : Str} {fa : WF} {q q2 pos : Pos} (ha : PE X a (tW X.K .read fa)) (hg : Gl X "isinstance") (ht : X.mg "isinstance" = none) (hg2 : Gl X nm) (ht2 : X.mg nm = none) (hv : bootBuiltins nm = some (.type T)) (hv0 : bootBuiltins "isinstance" = some (.builtin "isinstance") := by decide +kernel) (hm : m ≠ .fresh := by decide) (hn : nm ≠ "__name__" := by decide) (hdb : (nm == ("__debug__" : Str)) = false := by decide)
    (hs : starEach [a, .Name nm q2] X.env = (false, eval a X.env) :: starEach [.Name nm q2] X.env := by rfl) (hs2 : starEach [.Name nm q2] X.env = (false, eval (.Name nm q2) X.env) :: starEach [] X.env := by rfl) (hpl : (backTo pos (starEach [.Name nm q2] X.env)).any (·.1) = false := by rfl) :
    PE X (.Call (.Name "isinstance" q) [a, .Name nm q2] [] pos) (tW X.K m (w1 fa (isiD T))) :=
  k1 (ma := .read) (g := isiD T) (fun x H Q => rIsi X.K [x, .ty T] H Q) (by decide) (pe_callB call_isi hg ht hv0 (pa_cons ha (pa_cons (pe_bltn (v := .ty T) hg2 ht2 hv rfl hn hdb) pa_nil hs2) hs) (by decide) (by decide) hs hpl) fun L p H0 H v a P Q o ra hg k => by
    unfold isiD at hg
    split at hg
    · obtain ⟨b, h1, h2⟩ := hg
      exact ⟨v, _, _, _, b, rfl, .ty T, ra.dt.ty, kit_ty h1, Go.val k o hm h2 (.bl _)⟩
    · exact hg.elim
/-! ### sorted(set(..)) of texts -/
def strsD : List PyData → Option (List Str)
  | [] => some []
  | .str x :: r => (strsD r).map (x :: ·)
  | _ :: _ => none
theorem strs_of {K : PySem.W.Frag} {G : Hp} : ∀ {vs : List V} {ds : List PyData} {xs : List Str}, DtAll K G vs ds → strsD ds = some xs → vs = xs.map V.str
  | _, _, _, .nil, h => by
    cases h
    rfl
  | _, d :: ds, _, .cons a t, h => by
    cases d with
    | str b =>
      unfold strsD at h
      cases q : strsD ds with
      | none => rw [q] at h; cases h
      | some r =>
        rw [q] at h
        cases h
        cases a
        rw [strs_of t q] <;> rfl
    | _ => unfold strsD at h; cases h
theorem strsD_map (xs : List Str) : strsD (xs.map .str) = some xs := by
  induction xs with
  | nil => rfl
  | cons x r ih => rw [List.map_cons, strsD, ih] <;> rfl
theorem dts_strs' {K : PySem.W.Frag} {G : Hp} : ∀ xs : List Str, DtAll K G (xs.map V.str) (xs.map PyData.str)
  | [] => .nil
  | x :: r => .cons (.str x) (dts_strs' r)
def wSortSet : EV → (EV → Prop) → Prop
  | .py d, P => ∃ ds xs, seqD d = some ds ∧ strsD ds = some xs ∧ xs.length + 1 < scanBound ∧ P (.py (.list ((Sl.sSet xs).map .str)))
  | _, _ => False
theorem dsortset {a : Expr} {fa : WF} {q q2 pos pos2 : Pos} (hc : X.calm = true) (hu : X.A.units + 64 < cLine) (ha : PE X a (tW X.K .read fa)) (hg : Gl X "sorted") (ht : X.mg "sorted" = none) (hg2 : Gl X "set") (ht2 : X.mg "set" = none) (hv : bootBuiltins "sorted" = some (.builtin "sorted") := by decide +kernel) (hv2 : bootBuiltins "set" = some (.type "set") := by decide +kernel)
    (hs : starEach [.Call (.Name "set" q2) [a] [] pos2] X.env = (false, eval (.Call (.Name "set" q2) [a] [] pos2) X.env) :: starEach [] X.env := by rfl) (hs2 : starEach [a] X.env = (false, eval a X.env) :: starEach [] X.env := by rfl) :
    PE X (.Call (.Name "sorted" q) [.Call (.Name "set" q2) [a] [] pos2] [] pos) (tW X.K m (w1 fa wSortSet)) :=
  k1 (ma := .read) (g := wSortSet) (fun x H Q => Sl.rSetL X.K X.prog X.w [x] H fun y H1 => Sl.rSortedL X.prog X.w [y] H1 Q) (by decide)
    (pe_callB (show CallR _ _ (Sl.rSortedL X.prog X.w) from Sl.cr_sortedL hc hu) hg ht hv (pa_cons (pe_callTy (show CallR _ (.type "set") (Sl.rSetL X.K X.prog X.w) from Sl.cr_setL hc) hg2 ht2 hv2 (pa_cons ha pa_nil hs2) (by decide) (by decide) hs2 (by rfl)) pa_nil hs) (by decide) (by decide) hs (by rfl)) fun L p H0 H v a P Q o ra hg k => by
    unfold wSortSet at hg
    split at hg
    · obtain ⟨ds, xs, h1, h2, h3, h4⟩ := hg
      obtain ⟨a, vs, rfl, h5, h6⟩ := ra.seq h1
      rw [strs_of h6 h2] at h5
      have ek : xs.map V.str = (xs.map (Sum.inr (α := Int))).map kV := by
        rw [List.map_map (f := Sum.inr)] <;> rfl
      rw [ek] at h5
      refine ⟨a, xs.map Sum.inr, rfl, h5, by rw [List.length_map]; exact h3, fun p1 L1 nL mL np => ?_⟩
      refine ⟨p1, L1, rfl, upd_same, .inr fun y hy => ?_, fun _ L2 q pm nq => ?_⟩
      · obtain ⟨s, _, e⟩ := List.mem_map.mp ((mL y).mp hy)
        exact ⟨s, e.symm⟩
      · rw [Sl.sorted_strs pm nL mL]
        have s1 : Stp L p H (upd H p1 (Sl.SetLO X.prog X.w p1 L1)) := Stp.new o.ne np
        have o1 := o.new (u := Sl.SetLO X.prog X.w p1 L1) np
        exact Go.lst (m := m) (H := upd H p1 (Sl.SetLO X.prog X.w p1 L1)) (fun b H' v' hb s' o' r' => k b H' v' hb (s1.trans s') o' (r'.base s1)) o1 h4 (dts_strs' _) nq
    · exact hg.elim
end
end Dw

/-! Data ways: calls where no repr runs around, more statements, the law's own stream and draws as ways. -/
namespace Dw
open PySem PySem.Spec PySem.W PySem.Calls PyProof.Rows L2 Dr Rp
open He (ga)
section
variable {P : Program} {w : World} {K : PySem.W.Frag} {mg : Str → Option Value} {base : Heap} {CX : CXT}
theorem fn_WG {x qual : Str} {params : Arguments} {body : List Stmt} {scope : Scope} {dvs : List V} {kws : List (Str × V)} {f : Addr} {fd : FuncData} {N ps : List Str} {k : Nat} {fw : WS} (F : FunD K x qual params body scope dvs kws f fd) (S : FnScope N ps scope) (hn : ps.length ≤ N.length)
    (hb : ∀ (cdv : Value) (A : Around) (outer : List Env) (s : Shared) (H : Hp) (E : XK), Room k (A.deeper (envOfC qual scope s.heap.objs.size f cdv)) → (A.deeper (envOfC qual scope s.heap.objs.size f cdv)).guards = some [] → PSs (cxOf CX P w K mg base N qual scope f cdv A outer s H E).nox body (tWS K .data fw)) :
    FnG P w K mg base CX (k + 1) f fd ps (spW K .data (wDef N.length ps.length fw)) := by
  refine Rp.FunD.okG F S (fun vs H Q E h => ?_) (fun cdv A outer s H vs Q E hr hgd h => ?_)
  · obtain ⟨Lc, p, es, P, o, r, ⟨hl, _⟩, _⟩ := h
    rw [paired_len r, hl]
  · obtain ⟨Lc, p, es, P, o, r, ⟨hl, hg⟩, k⟩ := h
    refine ⟨_, (hb cdv A outer s H E hr hgd).nox, ?_⟩
    refine ⟨H, Lc, _, p, {}, _, _, start_ok o r (by omega), hg, fun ρ' os' H' σ' hk E' => ?_, fun ρ' os' H' σ' hk E' => hk.elim, fun ρ' os' H' σ' hk E' => hk.elim, fun e v H' hk s' o' r' => k e H' v hk s' o' r'⟩
    exact k _ H' .non hk E'.stp E'.lok .non
end
section
variable {X : Cx} {m mr : Mode} {CX : CXT} {k : Nat} {f : Addr} {fd : FuncData} {ps : List Str} {g : WD} {fa : WA} {x : Str} {q pos : Pos} {e : Expr} {es : List Expr}
theorem dcallG (F : FnG X.prog X.w X.K X.mg X.base CX k f fd ps (spW X.K mr g)) (hr : Room k X.A) (hgd : X.A.guards = some []) (hg : Gl X x) (hmg : X.mg x = some (.ref f)) (hk : PySem.W.keepIn X.K (.ref f) = true) (hb : Binds X.K fd ps []) (hx : Passes CX X E0) (ha : PA X (e :: es) (tWA X.K .data fa)) (hm : mr = .fresh ∨ mr = .data ∧ m ≠ .fresh := by decide) (hdb : (x == ("__debug__" : Str)) = false := by decide)
    (he : starEach (e :: es) X.env = (false, eval e X.env) :: starEach es X.env := by rfl) (hpl : (backTo pos (starEach es X.env)).any (·.1) = false := by rfl) : PE X (.Call (.Name x q) (e :: es) [] pos) (tW X.K m (wCallA g fa)) :=
  ka (ma := .data) (g := g) (fun vs H Q => spW X.K mr g (vs ++ []) H Q E0) (pe_callG F hr hgd hg hmg hk hb .nil hx ha hdb he hpl) fun L p H0 H vs es P Q o ra hg k => by
    rw [List.append_nil]
    exact ⟨L, p, es, P, o, ra, hg, fun e H' v hP s o' r => k e H' v hP s o' (r.to hm o)⟩
/-- e, its value let go -/
def wDrop (f : WF) : WS := fun ρ k => f ρ fun _ => k.nx ρ
theorem ds_expr {e : Expr} {f : WF} {pos : Pos} (he : PE X e (tW X.K .read f)) (hs : swapsWith e none pos.line X.env = pure false := by rfl) : PS X (.Expr e pos) (tWS X.K mr (wDrop f)) := by
  refine ps_mono (ps_expr he hs) fun D σ H q => ?_
  obtain ⟨He, Lc, os, p, gs, ρ, k, E, hf, k1, _⟩ := q
  exact ⟨He, Lc, os, p, gs, ρ, _, E, hf, fun e H1 v he s o r => k1 _ _ _ _ he (E.step s o)⟩
theorem ds_doc {x : Str} {j} {pos pos' : Pos} : PS X (.Expr (.Constant (.str x) j pos') pos) (tWS X.K mr wNext) := by
  refine ps_mono (ps_expr pe_str) fun D σ H q => ?_
  obtain ⟨He, Lc, os, p, gs, ρ, k, E, hf, k1, _⟩ := q
  exact k1 ρ os H σ hf E
/-- a, b = e1, e2 -/
def wPar (i j : Nat) (fa fb : WF) : WS := fun ρ k => i < ρ.length ∧ j < ρ.length ∧ fa ρ fun a => fb ρ fun b => k.nx ((ρ.set i a).set j b)
theorem ds_par {i j : Nat} {x y : Str} {a b : Expr} {fa fb : WF} {px py pt pos : Pos} {kt k2 pt2} (hc : X.calm = true) (hN : X.N.Nodup) (hi : X.N[i]? = some x) (hj : X.N[j]? = some y) (hij : i ≠ j)
    (hx : X.env.scope.names.lookup x = some .local) (hy : X.env.scope.names.lookup y = some .local) (ha : PE X a (tW X.K .data fa)) (hb : PE X b (tW X.K .data fb))
    (hw : swappedStores [.Tuple [.Name x px, .Name y py] kt pt] (.Tuple [a, b] k2 pt2) X.env = pure (some [x, y]))
    (hs : swapsWithSole [.Tuple [.Name x px, .Name y py] kt pt] (.Tuple [a, b] k2 pt2) pos.line X.env = pure false := by rfl) (h1 : starEach [a, b] X.env = (false, eval a X.env) :: starEach [b] X.env := by rfl) (h2 : starEach [b] X.env = (false, eval b X.env) :: starEach [] X.env := by rfl) :
    PS X (.Assign [.Tuple [.Name x px, .Name y py] kt pt] (.Tuple [a, b] k2 pt2) pos) (tWS X.K mr (wPar i j fa fb)) := by
  refine ps_mono (ps_par hc hN hi hj hij hx hy (pa_cons ha (pa_cons hb pa_nil h2) h1) hw hs) fun D σ H q => ?_
  obtain ⟨He, Lc, os, p, gs, ρ, k, E, ⟨hli, hlj, hf⟩, k1, _⟩ := q
  refine ⟨He, Lc, os, p, gs, ρ, _, E, hf, fun a H1 v ha s o r => ?_⟩
  refine ⟨He, Lc, os, p, gs, ρ, _, E.step s o, ha, fun b H2 w hb s2 o2 r2 => ⟨v, w, rfl, ?_⟩⟩
  have E2 := ((E.step s o).step s2 o2).put hli (Rv.step (show Rv X.K p (ctL (Ls Lc os) H1) v a from r) o s2)
  refine k1 _ _ _ _ hb (E2.put (by rw [List.length_set]; exact hlj) (Rv.sameR (ctL_sub dropO_sub) (show Rv X.K p (ctL (Ls Lc os) H2) w b from r2)))
/-- x += e, a number, a text, a tuple that is data -/
def wAug (i : Nat) (f : WF) (g : EV → EV → (EV → Prop) → Prop) : WS := fun ρ k => i < ρ.length ∧ wVar .data i ρ fun x => f ρ fun y => g x y fun z => k.nx (ρ.set i z)
end
/-! ### the law's helpers as ways -/
section
variable {P : Program} {w : World} {K : PySem.W.Frag} {mg : Str → Option Value} {base : Heap} {CX : CXT} {k : Nat} {f : Addr} {fd : FuncData} {ps : List Str}
def dDraw : WD := fun es P => ∃ n : Int, es = [.st, .py (.int n)] ∧ 0 < n ∧ n < 1000000 ∧ ∀ v : Int, 0 ≤ v → v < n → P (.py (.int v))
theorem str_any {H : Hp} {p : Addr} {m n : Nat} (h : StrAt H p m) : StrAt H p n := h
theorem w_draw (F : FnOk P w K mg base CX k f fd ps spDraw) : FnOk P w K mg base CX k f fd ps (spW K .data dDraw) := F.imp fun vs H Q E q => by
  obtain ⟨Lc, p, es, P, o, r, ⟨n, rfl, h1, h2, h3⟩, k⟩ := q
  obtain ⟨x, y, rfl, rx, ry⟩ := paired2 r
  obtain ⟨q, rfl, rfl⟩ := rx
  cases ry
  refine ⟨q, n, 0, rfl, (o.str q rfl).2, by decide, h1, h2, fun H' v v0 v1 b s => ?_⟩
  have st : Stp Lc (some q) H H' := Stp.but b o.ne (by obtain ⟨_, z⟩ := s.some; rw [z]; simp)
  exact k _ H' _ (h3 v v0 v1) st (o.step st fun q' e => by cases e; exact str_any s) (Dt.int v)
def dPick : WD := fun es P => ∃ ds : List PyData, es = [.st, .py (.list ds)] ∧ 0 < ds.length ∧ ds.length < 1000000 ∧ ∀ (i : Nat) (d : PyData), ds[i]? = some d → P (.py d)
theorem w_pick (F : FnOk P w K mg base CX k f fd ps (spPick K)) : FnOk P w K mg base CX k f fd ps (spW K .data dPick) := F.imp fun vs H Q E q => by
  obtain ⟨Lc, p, es, P, o, r, ⟨ds, rfl, h1, h2, h3⟩, k⟩ := q
  obtain ⟨x, y, rfl, rx, ry⟩ := paired2 r
  obtain ⟨q, rfl, rfl⟩ := rx
  cases ry with
  | @lstR a xs _ hq ha =>
    have nl : ¬ Lc a := by rcases hq with hq | ⟨_, hq⟩ <;> exact (ctL_of hq).1
    have hl := DtAll.len ha
    refine ⟨q, a, xs, 0, rfl, (o.str q rfl).2, by decide, fun e => nl (by rw [← e]; exact (o.str q rfl).1), .inl (SameR.rd ctL_all hq), by omega, by omega, fun H' i x hx b s => ?_⟩
    have st : Stp Lc (some q) H H' := Stp.but b o.ne (by obtain ⟨_, z⟩ := s.some; rw [z]; simp)
    have hi : i < ds.length := by have := (List.getElem?_eq_some_iff.mp hx).1; omega
    obtain ⟨v, h4, h5⟩ := dts_at ha (j := i) (d := ds[i]) (by simp [hi])
    rw [hx] at h4
    cases h4
    exact k _ H' _ (h3 i _ (by simp [hi])) st (o.step st fun q' e => by cases e; exact str_any s) (Dt.sameR (st.ct o) _ _ h5)
/-- data without lists and dicts lives nowhere loose -/
def noMut : PyData → Bool
  | .list _ => false
  | .dict _ => false
  | .tuple ds => noMuts ds
  | _ => true
where noMuts : List PyData → Bool
  | [] => true
  | d :: r => noMut d && noMuts r
mutual
theorem tight {L : Addr → Prop} {p : Option Addr} {H : Hp} (o : LOk L p H) : ∀ (d : PyData) (v : V), noMut d = true → Dt K H v d → Dt K (ctL L H) v d
  | .none, _, _, h => by cases h; exact .non
  | .bool b, _, _, h => by cases h; exact .bl b
  | .int i, _, _, h => by cases h; exact .int i
  | .str x, _, _, h => by cases h; exact .str x
  | .list ds, _, n, _ => by simp [noMut] at n
  | .dict ds, _, n, _ => by simp [noMut] at n
  | .tuple ds, _, n, h => by
    cases h with
    | tup h1 h2 => exact .tup (o.sqt h1) (tights o ds _ (by simpa [noMut] using n) h2)
theorem tights {L : Addr → Prop} {p : Option Addr} {H : Hp} (o : LOk L p H) : ∀ (ds : List PyData) (vs : List V), noMut.noMuts ds = true → DtAll K H vs ds → DtAll K (ctL L H) vs ds
  | [], _, _, h => by cases h; exact .nil
  | d :: r, _, n, h => by
    rw [noMut.noMuts, Bool.and_eq_true] at n
    cases h with
    | cons h1 h2 => exact .cons (tight o d _ n.1 h1) (tights o r _ n.2 h2)
end
end
end Dw

/-! Data ways: comparisons as tests. -/
namespace Dw
open PySem PySem.Spec PySem.W PySem.Calls PyProof.Rows L2 Dr Rp
open He (ga)
section
variable {X : Cx}
theorem kt2 {a b : Expr} {op : CmpOp} {pos : Pos} {fa fb : WF} {g : EV → EV → (EV → Prop) → Prop} {r : R2} (ho : OpR X (compareOp op) r) (ha : PE X a (tW X.K .read fa)) (hb : PE X b (tW X.K .read fb)) (hm : behindInMarks op b = false)
    (snd : ∀ L p H0 H v a u b P Q, LOk L p H → Res X.K .read L p H0 H v a → Res X.K .read L p H0 H u b → g a b P → (∀ c H' v', P c → Stp L p H H' → LOk L p H' → Res X.K .read L p H H' v' c → Q v' H') → r v u H Q) : PT X (.Compare a [op] [b] pos) (tWT X.K (wT1 (w2 fa fb g) wTB)) := by
  refine pt_mono (pt_cmpR ho ha hb hm) fun σ H Q q => ?_
  obtain ⟨He, Lc, os, p, gs, ρ, P, E, hf, k⟩ := q
  refine ⟨He, Lc, os, p, gs, ρ, _, E, hf, fun x H1 v hx s o ra => ?_⟩
  refine ⟨He, Lc, os, p, gs, ρ, _, E.step s o, hx, fun y H2 u hy s2 o2 rb => ?_⟩
  refine snd _ p H H2 v x u y _ _ o2 (ra.step (by decide) o s2) (rb.base s) hy fun c H' v' hc s' o' rc => ?_
  unfold wTB at hc
  split at hc
  · exact ⟨_, rc.bool, k _ H' hc ((s.trans s2).trans s') o'⟩
  · exact hc.elim
theorem tcmpI {a b : Expr} {op : CmpOp} {pos : Pos} {fa fb : WF} {f : Int → Int → Bool} (ho : OpR X (compareOp op) (rI0 fun i j => .bl (f i j))) (ha : PE X a (tW X.K .read fa)) (hb : PE X b (tW X.K .read fb)) (h1 : behindInMarks op b = false := by first | rfl | exact nobehind _ (by decide) (by decide)) :
    PT X (.Compare a [op] [b] pos) (tWT X.K (wT1 (w2 fa fb (wCmpI f)) wTB)) :=
  kt2 ho ha hb h1 fun L p H0 H v a u b P Q o ra rb hg k => by
    unfold wCmpI at hg
    split at hg
    · exact ⟨_, _, ra.int, rb.int, Go.val (m := .read) k o (by decide) hg (.bl _)⟩
    · exact hg.elim
theorem teq {a b : Expr} {pos : Pos} {fa fb : WF} (hu : X.A.units + 64 < cLine) (ha : PE X a (tW X.K .read fa)) (hb : PE X b (tW X.K .read fb)) : PT X (.Compare a [.Eq] [b] pos) (tWT X.K (wT1 (w2 fa fb (wEq false)) wTB)) :=
  kt2 (r := rEqD X.K) (op_eqD hu) ha hb (nomark _) fun L p H0 H v a u b P Q o ra rb hg k => by
    unfold wEq at hg
    split at hg
    · obtain ⟨⟨h1, h2⟩, hg⟩ := hg
      unfold eqOk at h1 h2
      rw [Bool.and_eq_true] at h1 h2
      exact ⟨_, _, dp_of _ _ h1.1 ra.dt, dp_of _ _ h2.1 rb.dt, h1.2, h2.2, Go.val (m := .read) k o (by decide) hg (.bl _)⟩
    · exact hg.elim
theorem tne {a b : Expr} {pos : Pos} {fa fb : WF} (hu : X.A.units + 64 < cLine) (ha : PE X a (tW X.K .read fa)) (hb : PE X b (tW X.K .read fb)) : PT X (.Compare a [.NotEq] [b] pos) (tWT X.K (wT1 (w2 fa fb (wEq true)) wTB)) :=
  kt2 (r := rNeD X.K) (op_neD hu) ha hb (nomark _) fun L p H0 H v a u b P Q o ra rb hg k => by
    unfold wEq at hg
    split at hg
    · obtain ⟨⟨h1, h2⟩, hg⟩ := hg
      unfold eqOk at h1 h2
      rw [Bool.and_eq_true] at h1 h2
      exact ⟨_, _, dp_of _ _ h1.1 ra.dt, dp_of _ _ h2.1 rb.dt, h1.2, h2.2, Go.val (m := .read) k o (by decide) hg (.bl _)⟩
    · exact hg.elim
theorem tin {a b : Expr} {pos : Pos} {fa fb : WF} (ha : PE X a (tW X.K .read fa)) (hb : PE X b (tW X.K .read fb)) (h1 : behindInMarks .In b = false := by rfl) : PT X (.Compare a [.In] [b] pos) (tWT X.K (wT1 (w2 fa fb (wIn false)) wTB)) :=
  kt2 (r := rIn X.K false) op_in_seq ha hb h1 fun L p H0 H v a u b P Q o ra rb hg k => by
    unfold wIn at hg
    split at hg
    · obtain ⟨ds, h1, h2, h3, hg⟩ := hg
      obtain ⟨q, vs, rfl, hq, hd⟩ := rb.seq h1
      exact ⟨q, vs, rfl, hq, flat_of ra.dt h2, flats_of hd h3, by rw [inv_flat ra.dt h2 (dts_all hd) h3]; exact Go.val (m := .read) k o (by decide) hg (.bl _)⟩
    · exact hg.elim
theorem tnin {a b : Expr} {pos : Pos} {fa fb : WF} (ha : PE X a (tW X.K .read fa)) (hb : PE X b (tW X.K .read fb)) (h1 : behindInMarks .NotIn b = false := by rfl) : PT X (.Compare a [.NotIn] [b] pos) (tWT X.K (wT1 (w2 fa fb (wIn true)) wTB)) :=
  kt2 (r := rIn X.K true) op_notIn_seq ha hb h1 fun L p H0 H v a u b P Q o ra rb hg k => by
    unfold wIn at hg
    split at hg
    · obtain ⟨ds, h1, h2, h3, hg⟩ := hg
      obtain ⟨q, vs, rfl, hq, hd⟩ := rb.seq h1
      exact ⟨q, vs, rfl, hq, flat_of ra.dt h2, flats_of hd h3, by rw [inv_flat ra.dt h2 (dts_all hd) h3]; exact Go.val (m := .read) k o (by decide) hg (.bl _)⟩
    · exact hg.elim
theorem tisN {a : Expr} {pos pos' : Pos} {j} {fa : WF} (ha : PE X a (tW X.K .read fa)) : PT X (.Compare a [.Is] [.Constant .none j pos'] pos) (tWT X.K (wT1 (w1 fa wIsN) wTB)) := by
  refine pt_mono (pt_cmp (pc_isN ha)) fun σ H Q q => ?_
  obtain ⟨He, Lc, os, p, gs, ρ, P, E, hf, k⟩ := q
  refine ⟨He, Lc, os, p, gs, ρ, _, E, hf, fun x H1 v hx s o ra => ?_⟩
  unfold wIsN at hx
  split at hx
  · refine ⟨_, rfl, ?_⟩
    rw [dt_non ra.dt]
    exact k _ H1 hx s o
  · exact hx.elim
theorem tnotN {a : Expr} {pos pos' : Pos} {j} {fa : WF} (ha : PE X a (tW X.K .read fa)) : PT X (.Compare a [.IsNot] [.Constant .none j pos'] pos) (tWT X.K (wT1 (w1 fa wNotN) wTB)) := by
  refine pt_mono (pt_cmp (pc_notN ha)) fun σ H Q q => ?_
  obtain ⟨He, Lc, os, p, gs, ρ, P, E, hf, k⟩ := q
  refine ⟨He, Lc, os, p, gs, ρ, _, E, hf, fun x H1 v hx s o ra => ?_⟩
  unfold wNotN at hx
  split at hx
  · refine ⟨_, rfl, ?_⟩
    rw [dt_non ra.dt]
    exact k _ H1 hx s o
  · exact hx.elim
end
end Dw

/-! Data ways: in by an own __contains__, isinstance of an own class, methods with keywords. -/
namespace Dw
open PySem PySem.Spec PySem.W PySem.Calls PyProof.Rows L2 Dr Rp
open He (ga)
section
variable {prog : Program} {w : World} {A : Around} {E : Value → Shared → Prop} {s : Shared} {K : PySem.W.Frag} {x C f : Addr} {ox : Obj} {odd : Option Obj} {v : Value}
theorem contains_own {Q : Bool → Shared → Prop} (X : K.In s.heap) (I : PySem.W.InstAt s.heap x ox C odd) (hs : PySem.W.findIn K (.ref C) "__contains__" = some (some (.ref f))) (hf : PySem.W.typeIn K (.ref f) = some (.type "function"))
    (h : wpAny (model prog w) A (call (.ref f) [.ref x, v]) (fun r s' => ∃ b, r = Value.bool b ∧ Q b s') E s) : wpAny (model prog w) A (contains (.ref x) v) Q E s := by
  unfold contains
  refine wpAny_holding ?_
  show wpAny _ A (specialOf (.ref x) (Str.ofString "__contains__") >>= _) Q E s
  refine wpAny_bind (wpAny_bind (I.type.here ((looks_findIn X hs).here ?_)))
  show wpAny _ A (callSpecialUnlessNone? (.ref x) (Str.ofString "__contains__") [v] _ >>= _) Q E s
  unfold callSpecialUnlessNone?
  refine wpAny_bind (wpAny_bind (wpAny_bind (I.type.here ((looks_findIn X hs).here (wpAny_holding (wpAny_bind ((bind_fn X _ hf).here ?_)))))))
  refine wpAny_ite_false (by rfl) ?_
  refine wpAny_bind (wpAny_mono h (fun r s' hr => wpAny_pure ?_) fun _ _ z => z)
  obtain ⟨b, rfl, q⟩ := hr
  exact wpAny_truthy_bool q
end
section
variable {X : Cx} {m mr : Mode} {CX : CXT} {k : Nat} {C f : Addr} {fd : FuncData} {ps : List Str} {sp : Sp} {E : XK}
def rInOwn (C : Addr) (sp : Sp) (E : XK) (neg : Bool) : R2 := fun x y H Q => ∃ a dx fs, y = .ref a ∧ H a = some (.ins C dx fs) ∧ sp [y, x] H (fun z H' => ∃ b, z = .bl b ∧ Q (.bl (if neg then !b else b)) H') E
theorem in_own {pins : List (Addr × Obj)} {s : Shared} {σ : L2.St} {H : Hp} {x y : V} {v u : Value} {Q : Bool → Hp → Prop} (hm : Meth X.K C "__contains__" f) (F : FnOk X.prog X.w X.K X.mg X.base CX k f fd ps sp) (hr : Room k X.A) (hb : Binds X.K fd ps []) (hx : Passes CX X E) (I : Inv X pins σ H s) (rx : RelV x v) (ry : RelV y u)
    (h : ∃ a dx fs, y = .ref a ∧ H a = some (.ins C dx fs) ∧ sp [y, x] H (fun z H' => ∃ b, z = .bl b ∧ Q b H') E) : wpAny (model X.prog X.w) X.A (contains u v) (fun b s' => ∃ H', Inv X pins σ H' s' ∧ Q b H') X.xe s := by
  obtain ⟨a, dx, fs, rfl, ha, q⟩ := h
  obtain rfl : u = Value.ref a := ry
  obtain ⟨mA, O, _⟩ := ins_get I.hok ha
  obtain ⟨od, J, _⟩ := O.look
  refine contains_own I.kIn J hm.at_ (beq_iff_eq.mp hm.fn) ?_
  refine wpAny_mono (run_fn (us := [.ref a, v]) (vs := [.ref a, x]) F hr hb .nil hx I (.cons rfl (.cons rx .nil)) (by rw [List.append_nil]; exact q)) (fun r s' z => ?_) fun _ _ z => z
  obtain ⟨w, H', I', rw', b, rfl, q'⟩ := z
  exact ⟨b, rw', H', I', q'⟩
theorem op_inOwn (hm : Meth X.K C "__contains__" f) (F : FnOk X.prog X.w X.K X.mg X.base CX k f fd ps sp) (hr : Room k X.A) (hb : Binds X.K fd ps []) (hx : Passes CX X E) : OpR X (compareOp .In) (rInOwn C sp E false) := by
  intro pins s σ H x y v u Q I rx ry h
  obtain ⟨a, dx, fs, e, ha, q⟩ := h
  refine wpAny_bind (wpAny_mono (in_own (Q := fun b H' => Q (.bl b) H') hm F hr hb hx I rx ry ⟨a, dx, fs, e, ha, q⟩) (fun b s' z => wpAny_pure ?_) fun _ _ z => z)
  obtain ⟨H', I', q'⟩ := z
  exact ⟨.bl b, H', I', rfl, q'⟩
theorem op_ninOwn (hm : Meth X.K C "__contains__" f) (F : FnOk X.prog X.w X.K X.mg X.base CX k f fd ps sp) (hr : Room k X.A) (hb : Binds X.K fd ps []) (hx : Passes CX X E) : OpR X (compareOp .NotIn) (rInOwn C sp E true) := by
  intro pins s σ H x y v u Q I rx ry h
  obtain ⟨a, dx, fs, e, ha, q⟩ := h
  refine wpAny_bind (wpAny_mono (in_own (Q := fun b H' => Q (.bl (!b)) H') hm F hr hb hx I rx ry ⟨a, dx, fs, e, ha, q⟩) (fun b s' z => wpAny_pure ?_) fun _ _ z => z)
  obtain ⟨H', I', q'⟩ := z
  exact ⟨.bl (!b), H', I', rfl, q'⟩
/-- x in o, o an object with its own __contains__ -/
def wInO (C : Str) (g : WD) (neg : Bool) : EV → EV → (EV → Prop) → Prop
  | x, .ob C' fs, P => C' = C ∧ g [.ob C' fs, x] fun e => match e with
    | .py (.bool b) => P (.py (.bool (if neg then !b else b)))
    | _ => False
  | _, _, _ => False
theorem tninO {a b : Expr} {n : Str} {pos : Pos} {fa fb : WF} {g : WD} (hm : Meth X.K (ga X.K n) "__contains__" f) (F : FnOk X.prog X.w X.K X.mg X.base CX k f fd ps (spW X.K .data g)) (hr : Room k X.A) (hb : Binds X.K fd ps []) (hx : Passes CX X E0) (ha : PE X a (tW X.K .data fa)) (hbb : PE X b (tW X.K .data fb)) (h1 : behindInMarks .NotIn b = false := by rfl) :
    PT X (.Compare a [.NotIn] [b] pos) (tWT X.K (wT1 (w2 fa fb (wInO n g true)) wTB)) := by
  refine pt_mono (pt_cmpR (op_ninOwn hm F hr hb hx) ha hbb h1) fun σ H Q q => ?_
  obtain ⟨He, Lc, os, p, gs, ρ, P, E, hf, k⟩ := q
  refine ⟨He, Lc, os, p, gs, ρ, _, E, hf, fun x H1 v hx s o ra => ?_⟩
  refine ⟨He, Lc, os, p, gs, ρ, _, E.step s o, hx, fun y H2 u hy s2 o2 rb => ?_⟩
  unfold wInO at hy
  split at hy
  · obtain ⟨rfl, hg⟩ := hy
    have rd : Rv X.K p (ctL (Ls Lc os) H2) u (.ob _ _) := rb
    have rx : Rv X.K p (ctL (Ls Lc os) H1) v _ := ra
    obtain ⟨a, dx, vs, rfl, h3, h4, h5⟩ := id rd
    refine ⟨a, dx, vs, rfl, (ctL_of h3).2.1, Ls Lc os, p, _, _, o2, .cons rd (.cons (rx.step o s2) .nil), hg, fun e H' w he s' o' r' => ?_⟩
    split at he
    · have rw' : Rv X.K p (ctL (Ls Lc os) H') w (.py (.bool _)) := r'
      cases rw'
      exact ⟨_, rfl, _, rfl, k _ H' he ((s.trans s2).trans s') o'⟩
    · exact he.elim
  · exact hy.elim
/-- isinstance(o, C) of an object of the class C -/
def wIsiO (C : Str) : EV → (EV → Prop) → Prop
  | .ob C' _, P => C' = C ∧ P (.py (.bool true))
  | _, _ => False
theorem disiO {a : Expr} {n : Str} {fa : WF} {q q2 pos : Pos} (c : C8.InsC X.K (ga X.K n)) (ha : PE X a (tW X.K .data fa)) (hg : Gl X "isinstance") (ht : X.mg "isinstance" = none) (hg2 : Gl X n) (ht2 : X.mg n = some (.ref (ga X.K n))) (hv0 : bootBuiltins "isinstance" = some (.builtin "isinstance") := by decide +kernel) (hm : m ≠ .fresh := by decide) (hdb : (n == ("__debug__" : Str)) = false := by decide)
    (hs : starEach [a, .Name n q2] X.env = (false, eval a X.env) :: starEach [.Name n q2] X.env := by rfl) (hs2 : starEach [.Name n q2] X.env = (false, eval (.Name n q2) X.env) :: starEach [] X.env := by rfl) (hpl : (backTo pos (starEach [.Name n q2] X.env)).any (·.1) = false := by rfl) :
    PE X (.Call (.Name "isinstance" q) [a, .Name n q2] [] pos) (tW X.K m (w1 fa (wIsiO n))) :=
  k1 (ma := .data) (g := wIsiO n) (fun x H Q => ∃ a dx fs, [x, V.ref (ga X.K n)] = [V.ref a, V.ref (ga X.K n)] ∧ H a = some (.ins (ga X.K n) dx fs) ∧ Q (.bl true) H) (by decide) (pe_callB (C8.call_isC c) hg ht hv0 (pa_cons ha (pa_cons (pe_glob (v := .ref (ga X.K n)) hg2 ht2 rfl hdb) pa_nil hs2) hs) (by decide) (by decide) hs hpl) fun L p H0 H v a P Q o ra hg k => by
    unfold wIsiO at hg
    split at hg
    · obtain ⟨rfl, hg⟩ := hg
      have rd : Rv X.K p (ctL L H) v (.ob _ _) := ra
      obtain ⟨a, dx, vs, rfl, h3, h4, h5⟩ := rd
      exact ⟨a, dx, vs, rfl, (ctL_of h3).2.1, Go.val k o hm hg (.bl true)⟩
    · exact hg.elim
end
end Dw

/-! {e for x in xs if .. for y in ys if ..}: the items as any rule of set.add takes them. -/
namespace Tp
open PySem PySem.Spec PyProof.Rows L2
open PpSet (compLoopS_any codeAny_compStart_set newSet_ok)
section
variable {prog : Program} {w : World} {A : Around} {R : Result → Shared → Prop} {s : Shared} {el t0 i0 t1 i1 : Expr} {f0 f1 : List Expr} {sco : Scope} {pos : Pos} {it acc : Value} {env : Env}
abbrev two (el t0 i0 t1 i1 : Expr) (f0 f1 : List Expr) (sco : Scope) (pos : Pos) : Expr := .SetComp el [⟨t0, i0, f0, 0⟩, ⟨t1, i1, f1, 0⟩] sco pos
theorem outer_turn : compTurn (two el t0 i0 t1 i1 f0 f1 sco pos) 0 it acc env = (do
      standAt i0.pos
      match ← pyNext it with
      | none => pure (.done .next)
      | some u =>
        letOwnedTupleGo t0 it u
        assign t0 env u
        let mut yes := true
        for d in f0 do
          if yes then yes ← isTrue d env (eval d env)
        if yes then
          let src ← eval i1 env
          standAt i1.pos
          let src ← foldedSetIterable i1 env src
          let _ ← runOwn (.compStart (two el t0 i0 t1 i1 f0 f1 sco pos) 1 (← holding [src] (pyIter src)) acc env) env
        again (.compLoop (two el t0 i0 t1 i1 f0 f1 sco pos) 0 it acc env)) := by rfl
theorem inner_turn : compTurn (two el t0 i0 t1 i1 f0 f1 sco pos) 1 it acc env = (do
      standAt i1.pos
      match ← pyNext it with
      | none => pure (.done .next)
      | some u =>
        letOwnedTupleGo t1 it u
        assign t1 env u
        let mut yes := true
        for d in f1 do
          if yes then yes ← isTrue d env (eval d env)
        if yes then
          (do let x ← eval el env; standAt el.pos; let _ ← call (.builtin "set.add") [acc, x])
        again (.compLoop (two el t0 i0 t1 i1 f0 f1 sco pos) 1 it acc env)) := by rfl
/-- what the tests of a clause come to -/
abbrev tests (fs : List Expr) (env : Env) : Sem Bool := forIn fs true fun d r => if r = true then do let yes ← isTrue d env (eval d env); pure (ForInStep.yield yes) else pure (ForInStep.yield r)
theorem outer_loop (hs : ∀ x, foldedSetIterable i1 env x = pure x) (I : Nat → Shared → Prop)
    (turn : ∀ n s, I n s → wpAny (model prog w) A (pyNext it) (fun r s1 => match r with
      | none => R (.ok .next) s1
      | some u => wpAny (model prog w) A (letOwnedTupleGo t0 it u) (fun _ s2 => wpAny (model prog w) A (assign t0 env u) (fun _ s3 => wpAny (model prog w) A (tests f0 env) (fun yes s4 =>
          if yes = true then wpAny (model prog w) A (eval i1 env) (fun x s5 => wpAny (model prog w) A (pyIter x) (fun j s6 => codeAny (model prog w) A (.compStart (two el t0 i0 t1 i1 f0 f1 sco pos) 1 j acc env) (fun r s' => match r with
                | .ok _ => ∃ m, m < n ∧ I m s'
                | .error _ => False) s6) (notedBy (model prog w) A env fun e s' => R (.error e) s') s5) (notedBy (model prog w) A env fun e s' => R (.error e) s') s4
          else ∃ m, m < n ∧ I m s4) (notedBy (model prog w) A env fun e s' => R (.error e) s') s3) (notedBy (model prog w) A env fun e s' => R (.error e) s') s2) (notedBy (model prog w) A env fun e s' => R (.error e) s') s1) (notedBy (model prog w) A env fun e s' => R (.error e) s') s)
    (n : Nat) (h : I n s) : codeAny (model prog w) A (.compLoop (two el t0 i0 t1 i1 f0 f1 sco pos) 0 it acc env) R s := by
  refine codeAny_loop rfl I (fun n s hI => ?_) n h
  show wpAny _ A ((compTurn (two el t0 i0 t1 i1 f0 f1 sco pos) 0 it acc env).onRaise (fun x => do noteFrame x env; theTreesLotGoes x)) _ _ s
  refine wpAny_noted ?_; rw [outer_turn]
  refine wpAny_bind (wpAny_standAt (wpAny_bind (wpAny_mono (turn n s hI) (fun r s1 h1 => ?_) fun _ _ z => z)))
  cases r with
  | none => exact wpAny_pure h1
  | some u =>
    refine wpAny_bind (wpAny_mono h1 (fun _ s2 h2 => wpAny_bind (wpAny_mono h2 (fun _ s3 h3 => wpAny_bind (wpAny_mono h3 (fun yes s4 h4 => ?_) fun _ _ z => z)) fun _ _ z => z)) fun _ _ z => z)
    cases yes with
    | false => exact wpAny_pure ⟨rfl, h4⟩
    | true =>
      refine wpAny_bind (wpAny_mono h4 (fun x s5 h5 => wpAny_bind (wpAny_standAt (wpAny_bind (wpAny_of_eq (hs x) (wpAny_bind (wpAny_holding (wpAny_mono h5 (fun j s6 h6 => ?_) fun _ _ z => z))))))) fun _ _ z => z)
      refine wpAny_bind (wpAny_runOwn (by rw [Around.mark_none]; refine codeAny_mono h6 fun r s' hr => ?_; cases r with
        | ok f => first | exact wpAny_pure ⟨rfl, hr⟩ | exact wpAny_bind (wpAny_pure (wpAny_pure ⟨rfl, hr⟩))
        | error e => exact hr.elim))
theorem inner_loop (I : Nat → Shared → Prop)
    (turn : ∀ n s, I n s → wpAny (model prog w) A (pyNext it) (fun r s1 => match r with
      | none => R (.ok .next) s1
      | some u => wpAny (model prog w) A (letOwnedTupleGo t1 it u) (fun _ s2 => wpAny (model prog w) A (assign t1 env u) (fun _ s3 => wpAny (model prog w) A (tests f1 env) (fun yes s4 =>
          if yes = true then wpAny (model prog w) A (eval el env) (fun x s5 => wpAny (model prog w) A (call (.builtin "set.add") [acc, x]) (fun _ s6 => ∃ m, m < n ∧ I m s6) (notedBy (model prog w) A env fun e s' => R (.error e) s') s5) (notedBy (model prog w) A env fun e s' => R (.error e) s') s4
          else ∃ m, m < n ∧ I m s4) (notedBy (model prog w) A env fun e s' => R (.error e) s') s3) (notedBy (model prog w) A env fun e s' => R (.error e) s') s2) (notedBy (model prog w) A env fun e s' => R (.error e) s') s1) (notedBy (model prog w) A env fun e s' => R (.error e) s') s)
    (n : Nat) (h : I n s) : codeAny (model prog w) A (.compLoop (two el t0 i0 t1 i1 f0 f1 sco pos) 1 it acc env) R s := by
  refine codeAny_loop rfl I (fun n s hI => ?_) n h
  show wpAny _ A ((compTurn (two el t0 i0 t1 i1 f0 f1 sco pos) 1 it acc env).onRaise (fun x => do noteFrame x env; theTreesLotGoes x)) _ _ s
  refine wpAny_noted ?_; rw [inner_turn]
  refine wpAny_bind (wpAny_standAt (wpAny_bind (wpAny_mono (turn n s hI) (fun r s1 h1 => ?_) fun _ _ z => z)))
  cases r with
  | none => exact wpAny_pure h1
  | some u =>
    refine wpAny_bind (wpAny_mono h1 (fun _ s2 h2 => wpAny_bind (wpAny_mono h2 (fun _ s3 h3 => wpAny_bind (wpAny_mono h3 (fun yes s4 h4 => ?_) fun _ _ z => z)) fun _ _ z => z)) fun _ _ z => z)
    cases yes with
    | false => exact wpAny_pure ⟨rfl, h4⟩
    | true => exact wpAny_bind (wpAny_bind (wpAny_mono h4 (fun x s5 h5 => wpAny_bind (wpAny_standAt (wpAny_bind (wpAny_mono h5 (fun _ s6 h6 => wpAny_pure (wpAny_pure ⟨rfl, h6⟩)) fun _ _ z => z)))) fun _ _ z => z))
/-- the start of the second clause -/
theorem inner_start (h0 : codeAny (model prog w) A (.compLoop (two el t0 i0 t1 i1 f0 f1 sco pos) 1 it acc env) R s)
    (h : wpAny (model prog w) A (pyIter it) (fun j s' => codeAny (model prog w) A (.compLoop (two el t0 i0 t1 i1 f0 f1 sco pos) 1 j acc env) R s') (notedBy (model prog w) A env fun x s' => R (.error x) s') s) : codeAny (model prog w) A (.compStart (two el t0 i0 t1 i1 f0 f1 sco pos) 1 it acc env) R s := by
  refine codeAny_of_tree ?_
  show wpAny _ _ ((compStart (two el t0 i0 t1 i1 f0 f1 sco pos) 1 it acc env).onRaise (fun x => do noteFrame x env; standAt theWindowsPlace)) _ _ s
  refine wpAny_notedAt ?_; unfold compStart
  show wpAny _ _ (ask >>= _) _ _ s
  refine wpAny_bind (wpAny_askSetting (wpAny_ite ?_)); split
  · first | exact wpAny_bind (wpAny_pure (wpAny_pure ⟨rfl, h0⟩)) | exact wpAny_pure ⟨rfl, h0⟩
  · first
      | exact wpAny_bind (wpAny_rule (wpAny_bind (wpAny_standAt (wpAny_bind (wpAny_mono h (fun j s' z => wpAny_pure ⟨rfl, z⟩) fun _ _ z => z)))))
      | (refine wpAny_bind (wpAny_rule ?_); show wpAny _ _ (standAt i1.pos >>= _) _ _ s; exact wpAny_bind (wpAny_standAt (wpAny_bind (wpAny_mono h (fun j s' z => wpAny_pure ⟨rfl, z⟩) fun _ _ z => z))))
end
/-- as tSg, with a second clause; ow1: the slots of the second target -/
def tSg2 (new : Addr → HO) (r : V → List V → Hp → VK → Prop) (wi : TI) (g : TG) (tt : TT) (wi1 : TI) (g1 : TG) (tt1 : TT) (te : TE) (ow ow1 : List Nat) : TE := fun σ H Q => wi σ H fun J H1 => ∀ D, H1 D = none →
  ∃ W : Nat → Nat → Hp → Prop, (∃ m, W 0 m (upd H1 D (new D))) ∧ ∀ i m G, W i m G → (J.stop i G ∧ Q (.ref D) G) ∨
    (J.go i G ∧ ∃ Nx : Hp → Prop, (∀ G', Nx G' → ∃ m', m' < m ∧ W (i + 1) m' G') ∧ ∀ x G', J.yld i G x G' → g x (wipe σ ow) G' fun τ G2 => wipe τ ow = wipe σ ow ∧ tt τ G2 fun b G3 => if b = true then
      wi1 τ G3 fun J1 G4 => ∃ W1 : Nat → Nat → Hp → Prop, (∃ k, W1 0 k G4) ∧ ∀ j k G, W1 j k G → (J1.stop j G ∧ Nx G) ∨
        (J1.go j G ∧ ∃ Nx1 : Hp → Prop, (∀ G', Nx1 G' → ∃ k', k' < k ∧ W1 (j + 1) k' G') ∧ ∀ y G', J1.yld j G y G' → g1 y (wipe τ ow1) G' fun ρ G5 => wipe ρ ow1 = wipe τ ow1 ∧ tt1 ρ G5 fun c G6 => if c = true then te ρ G6 fun z G7 => r (.ref D) [z] G7 fun _ G8 => Nx1 G8 else Nx1 G6)
      else Nx G3)
section
variable {X : Cx}
theorem pe_sg2 {elt tg iter tg1 iter1 : Expr} {ifs ifs1 : List Expr} {scope : Scope} {own : List (PySem.Str × Nat)} {ow1 : List Nat} {pos : Pos} {wi wi1 : TI} {g g1 : TG} {tt tt1 : TT} {te : TE} {new : Addr → HO} {r : V → List V → Hp → VK → Prop} (hc : X.calm = true) (hN : X.N.Nodup)
    (hnew : ∀ {h : Heap} {H : Hp}, ObjOk X.prog X.w H (h.push (oSet X.w)) h.objs.size (new h.objs.size)) (hadd : ∀ Y : Cx, Y.prog = X.prog → Y.w = X.w → MtR Y "set.add" r) (hi : PI X tg iter wi) (ok : BlkOk X.N X.env.scope scope own) (hv : ∀ i ∈ ow1, i ∈ own.map (·.2))
    (hg : ∀ (s : Shared) (H : Hp) (C : Addr) (cl : List (PySem.Str × Addr)) (fp : List Addr), PG (X.blk s H scope (compEnvC scope cl C X.env) fp) tg g)
    (ht : ∀ (s : Shared) (H : Hp) (C : Addr) (cl : List (PySem.Str × Addr)) (fp : List Addr), PTs (X.blk s H scope (compEnvC scope cl C X.env) fp) ifs tt)
    (hi1 : ∀ (s : Shared) (H : Hp) (C : Addr) (cl : List (PySem.Str × Addr)) (fp : List Addr), PI (X.blk s H scope (compEnvC scope cl C X.env) fp) tg1 iter1 wi1)
    (hg1 : ∀ (s : Shared) (H : Hp) (C : Addr) (cl : List (PySem.Str × Addr)) (fp : List Addr), PG (X.blk s H scope (compEnvC scope cl C X.env) fp) tg1 g1)
    (ht1 : ∀ (s : Shared) (H : Hp) (C : Addr) (cl : List (PySem.Str × Addr)) (fp : List Addr), PTs (X.blk s H scope (compEnvC scope cl C X.env) fp) ifs1 tt1)
    (he : ∀ (s : Shared) (H : Hp) (C : Addr) (cl : List (PySem.Str × Addr)) (fp : List Addr), PE (X.blk s H scope (compEnvC scope cl C X.env) fp) elt te)
    (hs : ∀ x, foldedSetIterable iter X.env x = pure x := by intro _; rfl) (hs1 : ∀ env x, foldedSetIterable iter1 env x = pure x := by intro _ _; rfl) :
    PE X (two elt tg iter tg1 iter1 ifs ifs1 scope pos) (tSg2 new r wi g tt wi1 g1 tt1 te (own.map (·.2)) ow1) := by
  refine ⟨fun pins s σ H Q I h => ?_⟩
  rw [PpSet.eval_SetComp]
  have fr : ∀ y ∈ scope.names, y.2 = .free → ∃ c, X.env.cells.lookup y.1 = some c := fun y hy e => (ok.free y hy e).elim (fun k => I.ok.has _ (.inl k)) fun k => I.ok.has _ (.inr k)
  refine wpAny_comprehension_free (use := none) rfl hs (closure_ok fr) ok.kind (fun y hy e => by rw [ok.uniq y hy, e]) (thn (hi.run pins s σ H _ I h) fun xv s1 hx => thn hx fun itv s2 h2 => ?_)
  obtain ⟨it, fp, tn, J, H2, e, I2, T, st2, f2, q⟩ := h2
  subst e
  refine newSet_ok (newEnv_comp ?_)
  generalize hD : s2.heap.objs.size = D
  have nD : H2 D = none := I2.hok.fresh (Nat.le_of_eq hD)
  obtain ⟨W, ⟨m0, w0⟩, turn⟩ := q D nD
  generalize hs3 : ({ s2 with heap := s2.heap.push (oSet X.w) } : Shared) = s3
  have h3 : s3.heap = s2.heap.push (oSet X.w) := by rw [← hs3]
  have I3 : Inv X pins σ (upd H2 D (new D)) s3 := by
    rw [← hs3]
    refine I2.laid (t' := s2.toks) (fun b o e => Heap.get?_push_of_some _ e) (Nat.le_of_eq hD) ?_
    rw [← hD]
    exact hnew
  have old : ∀ b ∈ fp, b < s2.heap.objs.size := fun b hb => by
    obtain ⟨o, e, _⟩ := T.obj _ _ st2 b hb
    exact Heap.lt_size e
  have f3 : ∀ b ∈ fp, FpOk X pins (upd H2 D (new D)) b ∧ b < s3.heap.objs.size := fun b hb => by
    have lt := old b hb
    refine ⟨⟨?_, (f2 b hb).2⟩, by rw [h3, Heap.size_push]; exact Nat.lt_succ_of_lt lt⟩
    rw [upd_ne (by rw [← hD]; exact Nat.ne_of_lt lt)]
    exact (f2 b hb).1
  have st3 : tn 0 s3.heap := T.keep _ _ _ st2 fun b _ o e => by
    rw [h3]
    exact Heap.get?_push_of_some _ e
  have I4 := block_start I3 ok hN f3
  let cls := cellsFrom (s3.heap.objs.size + 1) scope.names (cloFrom X.env.cells scope.names [])
  have pg := hg s3 (upd H2 D (new D)) s3.heap.objs.size cls fp
  have pt := ht s3 (upd H2 D (new D)) s3.heap.objs.size cls fp
  have pe := he s3 (upd H2 D (new D)) s3.heap.objs.size cls fp
  have pi1 := hi1 s3 (upd H2 D (new D)) s3.heap.objs.size cls fp
  have pg1 := hg1 s3 (upd H2 D (new D)) s3.heap.objs.size cls fp
  have pt1 := ht1 s3 (upd H2 D (new D)) s3.heap.objs.size cls fp
  show codeAny _ _ (.compStart (two elt tg iter tg1 iter1 ifs ifs1 scope pos) 0 (.ref it) (.ref D) (compEnvC scope cls s3.heap.objs.size X.env)) (compPost (model X.prog X.w) X.A X.xe none (EP X pins σ Q) (.ref D) s3.heap.objs.size) { s3 with heap := pushCells (s3.heap.push { cls := .type "dict", data := .dict #[] }) scope.names }
  have nfp : ∀ b ∈ fp, (upd H2 D (new D)) b = none := fun b hb => (f3 b hb).1.1
  generalize hce : compEnvC scope cls s3.heap.objs.size X.env = ce at I4 pg pt pe pi1 pg1 pt1 ⊢
  have cL : ce.locals = s3.heap.objs.size := by
    subst hce
    rfl
  generalize hH3 : upd H2 D (new D) = H3 at I3 I4 pg pt pe pi1 pg1 pt1 w0 nfp f3
  generalize hs4 : ({ s3 with heap := pushCells (s3.heap.push { cls := .type "dict", data := .dict #[] }) scope.names } : Shared) = s4 at I4 ⊢
  have st4 : tn 0 s4.heap := T.keep _ _ _ st3 fun b _ o e => by
    rw [← hs4]
    exact pushCells_keeps _ _ _ _ (Heap.get?_push_of_some _ e)
  have stat : ∀ {τ : L2.St} {G : Hp} {t : Shared}, Inv (X.blk s3 H3 scope ce fp) [] τ G t → (∀ b ∈ fp, G b = none) → ∀ b ∈ fp, FpOk (X.blk s3 H3 scope ce fp) [] G b := fun {τ G t} K hn b hb =>
    ⟨hn b hb, (K.ok.exf b hb).1, K.ok.exfs b hb, .inl hb, fun x c e => (K.ok.exf b hb).2 x c e, fun p hp => absurd (show p ∈ ([] : List (Addr × Obj)) ++ [] from hp) (by simp)⟩
  have loop : codeAny (model X.prog X.w) X.A (.compLoop (two elt tg iter tg1 iter1 ifs ifs1 scope pos) 0 (.ref it) (.ref D) ce) (compPost (model X.prog X.w) X.A X.xe none (EP X pins σ Q) (.ref D) s3.heap.objs.size) s4 := by
    refine outer_loop (hs1 ce) (fun n t => ∃ i G, Inv (X.blk s3 H3 scope ce fp) [] (wipe σ (own.map (·.2))) G t ∧ tn i t.heap ∧ (∀ b ∈ fp, G b = none) ∧ W i n G) ?_ m0 ⟨0, H3, I4, st4, nfp, w0⟩
    rintro n s5 ⟨i, H5, I5, st5, n5, w5⟩
    rcases turn i n H5 w5 with ⟨stop, qq⟩ | ⟨go, Nx, hNx, step⟩
    · refine thnF (T.done (X.blk s3 H3 scope ce fp) rfl rfl rfl hc i [] s5 _ H5 (fun _ _ => False) I5 (stat I5 n5) st5 stop) fun z s6 ⟨hz, I6⟩ => ?_
      subst hz
      have I7 : Inv X pins σ H5 s6 := I3.call' (ch := fp) I6.os I6.base I6.hok I6.bare fun b hb => ⟨(f3 b hb).1.2.2.2.1, (f3 b hb).1.2.1, (f3 b hb).1.2.2.2.2.1, (f3 b hb).1.2.2.2.2.2⟩
      have nC : H5 s3.heap.objs.size = none := by
        rw [← cL]
        exact I6.free
      obtain ⟨m, hn, _⟩ := I6.loc
      have hn2 : s6.heap.Ns s3.heap.objs.size m := by
        rw [← cL]
        exact hn
      obtain ⟨g0, g1, g2, g3, g4, g5⟩ := I3.fpOk (b := s3.heap.objs.size) (Nat.le_refl _) nC
      exact ⟨m, hn2, fun h'' sb => ⟨.ref D, H5, I7.turned (t' := s6.toks) (fun b o hb e => (sb.2 b hb).trans e) g0 g1 g3 g4 g5, rfl, qq⟩⟩
    · refine thnF (T.item (X.blk s3 H3 scope ce fp) rfl rfl rfl hc i [] s5 _ H5 (fun _ _ => False) I5 (stat I5 n5) st5 go) fun z s6 ⟨u, hz, h6⟩ => ?_
      subst hz
      refine thnF h6 fun _ s7 ⟨x, H7, I7, r7, y7, st7, n7⟩ => ?_
      have P7 := I7.pinned (stat I7 n7) (T.obj _ _ st7)
      refine thnF (pg.run _ s7 _ H7 x u _ P7 r7 (step x H7 y7)) fun _ s8 ⟨σ8, H8, I8, hw8, q8⟩ => ?_
      refine thnF (pt.run _ s8 σ8 H8 _ I8 q8) fun b s9 ⟨H9, I9, q9⟩ => ?_
      have fin : ∀ {ρ : L2.St} {t : Shared} {G : Hp}, Inv (X.blk s3 H3 scope ce fp) ([] ++ pinsAt fp s7.heap) ρ G t → (wipe σ (own.map (·.2))).length = ρ.length → (∀ (j : Nat) v, (wipe σ (own.map (·.2)))[j]? = some (some v) → ρ[j]? = some (some v)) → Nx G →
          ∃ m, m < n ∧ ∃ i G, Inv (X.blk s3 H3 scope ce fp) [] (wipe σ (own.map (·.2))) G t ∧ tn i t.heap ∧ (∀ b ∈ fp, G b = none) ∧ W i m G := fun {ρ t G} K hl hk nx => by
        obtain ⟨m', hm, w'⟩ := hNx G nx
        have pin2 : ∀ b ∈ fp, ∀ o, s7.heap.get? b = some o → t.heap.get? b = some o ∧ G b = none := fun b hb o e => by
          have z := K.pin (b, o) (List.mem_append_right _ (List.mem_append_right _ (mem_pinsAt hb e)))
          exact ⟨z.1, z.2.1⟩
        refine ⟨m', hm, i + 1, G, (K.unpinned (pins := [])).weak hl hk, T.keep _ _ _ st7 fun b hb o e => (pin2 b hb o e).1, fun b hb => ?_, w'⟩
        obtain ⟨o, e, _⟩ := T.obj _ _ st7 b hb
        exact (pin2 b hb o e).2
      have l8 : (wipe σ (own.map (·.2))).length = σ8.length := by rw [← hw8, wipe_length]
      have k8 : ∀ (j : Nat) v, (wipe σ (own.map (·.2)))[j]? = some (some v) → σ8[j]? = some (some v) := fun j v e => by
        rw [← hw8] at e
        exact (wipe_some e).1
      have k9 : ∀ (j : Nat) v, (wipe σ (own.map (·.2)))[j]? = some (some v) → (wipe σ8 ow1)[j]? = some (some v) := fun j v e => by
        rw [← hw8] at e
        obtain ⟨e1, e2⟩ := wipe_some e
        rw [wipe_out fun z => e2 (hv j z)]
        exact e1
      cases b with
      | false =>
        rw [if_neg (by simp)] at q9 ⊢
        exact fin I9 l8 k8 q9
      | true =>
        rw [if_pos rfl] at q9 ⊢
        refine thnF (pi1.run _ s9 σ8 H9 _ I9 q9) fun xv s10 hx => thnF hx fun itv s11 h11 => ?_
        obtain ⟨it1, fp1, tn1, J1, H11, e1, I11, T1, st11, f11, W1, ⟨m1, w1⟩, turn1⟩ := h11
        subst e1
        have stat1 : ∀ {G : Hp}, (∀ b ∈ fp1, G b = none) → ∀ b ∈ fp1, FpOk (X.blk s3 H3 scope ce fp) ([] ++ pinsAt fp s7.heap) G b := fun hn b hb => ⟨hn b hb, (f11 b hb).2⟩
        have loop1 : codeAny (model X.prog X.w) X.A (.compLoop (two elt tg iter tg1 iter1 ifs ifs1 scope pos) 1 (.ref it1) (.ref D) ce) (fun r t => match r with
              | .ok _ => ∃ m, m < n ∧ ∃ i G, Inv (X.blk s3 H3 scope ce fp) [] (wipe σ (own.map (·.2))) G t ∧ tn i t.heap ∧ (∀ b ∈ fp, G b = none) ∧ W i m G
              | .error _ => False) s11 := by
          refine inner_loop (fun k t => ∃ j G, Inv (X.blk s3 H3 scope ce fp) ([] ++ pinsAt fp s7.heap) (wipe σ8 ow1) G t ∧ tn1 j t.heap ∧ (∀ b ∈ fp1, G b = none) ∧ W1 j k G) ?_ m1 ⟨0, H11, I11.weak (wipe_length _ _) (fun j v e => (wipe_some e).1), st11, fun b hb => (f11 b hb).1, w1⟩
          rintro k s12 ⟨j, H12, I12, st12, n12, w12⟩
          rcases turn1 j k H12 w12 with ⟨stop1, nx1⟩ | ⟨go1, Nx1, hNx1, step1⟩
          · refine thnF (T1.done (X.blk s3 H3 scope ce fp) rfl rfl rfl hc j _ s12 (wipe σ8 ow1) H12 (fun _ _ => False) I12 (stat1 n12) st12 stop1) fun z s13 ⟨hz, I13⟩ => ?_
            subst hz
            exact fin I13 (l8.trans (wipe_length σ8 ow1).symm) k9 nx1
          · refine thnF (T1.item (X.blk s3 H3 scope ce fp) rfl rfl rfl hc j _ s12 (wipe σ8 ow1) H12 (fun _ _ => False) I12 (stat1 n12) st12 go1) fun z s13 ⟨u1, hz, h13⟩ => ?_
            subst hz
            refine thnF h13 fun _ s14 ⟨x1, H14, I14, r14, y14, st14, n14⟩ => ?_
            have P14 := I14.pinned (stat1 n14) (T1.obj _ _ st14)
            refine thnF (pg1.run _ s14 (wipe σ8 ow1) H14 x1 u1 _ P14 r14 (step1 x1 H14 y14)) fun _ s15 ⟨σ15, H15, I15, hw15, q15⟩ => ?_
            refine thnF (pt1.run _ s15 σ15 H15 _ I15 q15) fun c s16 ⟨H16, I16, q16⟩ => ?_
            have fin1 : ∀ {t : Shared} {G : Hp}, Inv (X.blk s3 H3 scope ce fp) (([] ++ pinsAt fp s7.heap) ++ pinsAt fp1 s14.heap) σ15 G t → Nx1 G → ∃ m, m < k ∧ ∃ j G, Inv (X.blk s3 H3 scope ce fp) ([] ++ pinsAt fp s7.heap) (wipe σ8 ow1) G t ∧ tn1 j t.heap ∧ (∀ b ∈ fp1, G b = none) ∧ W1 j m G := fun {t G} K nx => by
              obtain ⟨m', hm, w'⟩ := hNx1 G nx
              have pin2 : ∀ b ∈ fp1, ∀ o, s14.heap.get? b = some o → t.heap.get? b = some o ∧ G b = none := fun b hb o e => by
                have z := K.pin (b, o) (List.mem_append_right _ (List.mem_append_right _ (mem_pinsAt hb e)))
                exact ⟨z.1, z.2.1⟩
              refine ⟨m', hm, j + 1, G, K.unpinned.weak (by rw [← hw15, wipe_length]) (fun j v e => by rw [← hw15] at e; exact (wipe_some e).1), T1.keep _ _ _ st14 fun b hb o e => (pin2 b hb o e).1, fun b hb => ?_, w'⟩
              obtain ⟨o, e, _⟩ := T1.obj _ _ st14 b hb
              exact (pin2 b hb o e).2
            cases c with
            | false =>
              rw [if_neg (by simp)] at q16 ⊢
              exact fin1 I16 q16
            | true =>
              rw [if_pos rfl] at q16 ⊢
              refine thnF (pe.run _ s16 σ15 H16 _ I16 q16) fun z s17 ⟨yv, H17, I17, r17, qa⟩ => ?_
              refine thnF (hadd (X.blk s3 H3 scope ce fp) rfl rfl _ s17 σ15 H17 (.ref D) [yv] (.ref D) [z] (fun _ G5 => Nx1 G5) I17 rfl (.cons r17 .nil) qa) fun _ s18 ⟨_, H18, I18, _, nx⟩ => ?_
              exact fin1 I18 nx
        exact inner_start loop1 (T1.self X.A 0 _ _ _ st11 loop1)
  exact codeAny_compStart_set loop (T.self X.A 0 _ _ _ st4 loop)
end
end Tp
namespace Sl
open PySem PySem.Spec PyProof.Rows L2
section
variable {X : Cx}
/-- {e for x in xs if .. for y in ys if ..}, the items ints and texts -/
theorem pe_sl2 {elt tg iter tg1 iter1 : Expr} {ifs ifs1 : List Expr} {scope : Scope} {own : List (PySem.Str × Nat)} {ow1 : List Nat} {pos : Pos} {wi wi1 : TI} {g g1 : TG} {tt tt1 : TT} {te : TE} (hc : X.calm = true) (hN : X.N.Nodup) (hi : PI X tg iter wi) (ok : BlkOk X.N X.env.scope scope own) (hv : ∀ i ∈ ow1, i ∈ own.map (·.2))
    (hg : ∀ (s : Shared) (H : Hp) (C : Addr) (cl : List (PySem.Str × Addr)) (fp : List Addr), PG (X.blk s H scope (compEnvC scope cl C X.env) fp) tg g)
    (ht : ∀ (s : Shared) (H : Hp) (C : Addr) (cl : List (PySem.Str × Addr)) (fp : List Addr), PTs (X.blk s H scope (compEnvC scope cl C X.env) fp) ifs tt)
    (hi1 : ∀ (s : Shared) (H : Hp) (C : Addr) (cl : List (PySem.Str × Addr)) (fp : List Addr), PI (X.blk s H scope (compEnvC scope cl C X.env) fp) tg1 iter1 wi1)
    (hg1 : ∀ (s : Shared) (H : Hp) (C : Addr) (cl : List (PySem.Str × Addr)) (fp : List Addr), PG (X.blk s H scope (compEnvC scope cl C X.env) fp) tg1 g1)
    (ht1 : ∀ (s : Shared) (H : Hp) (C : Addr) (cl : List (PySem.Str × Addr)) (fp : List Addr), PTs (X.blk s H scope (compEnvC scope cl C X.env) fp) ifs1 tt1)
    (he : ∀ (s : Shared) (H : Hp) (C : Addr) (cl : List (PySem.Str × Addr)) (fp : List Addr), PE (X.blk s H scope (compEnvC scope cl C X.env) fp) elt te)
    (hs : ∀ x, foldedSetIterable iter X.env x = pure x := by intro _; rfl) (hs1 : ∀ env x, foldedSetIterable iter1 env x = pure x := by intro _ _; rfl) :
    PE X (.SetComp elt [⟨tg, iter, ifs, 0⟩, ⟨tg1, iter1, ifs1, 0⟩] scope pos) (Tp.tSg2 (fun D => SetLO X.prog X.w D []) (rAddL X.prog X.w) wi g tt wi1 g1 tt1 te (own.map (·.2)) ow1) :=
  Tp.pe_sg2 hc hN (fun {_ _} => setLO_new SetAtL.fresh) (fun Y hp hw => by
    have z := mt_addL (X := Y)
    rw [hp, hw] at z
    exact z) hi ok hv hg ht hi1 hg1 ht1 he hs hs1
end
end Sl

/-! Data ways: sorted({e for x in xs if .. for y in ys if ..}) of texts. -/
namespace Dw
open PySem PySem.Spec PySem.W PySem.Calls PyProof.Rows L2 Dr Rp
open He (ga)
section
variable {K : PySem.W.Frag} {He : Hp} {Lc : Addr → Prop} {os : Nat → Option Addr} {p : Option Addr} {gs : Gh} {H H' : Hp} {σ : L2.St} {ρ : EnvD}
/-- the same names over another heap, some forgotten -/
theorem EnvOk.move (E : EnvOk K He Lc os p gs H σ ρ) {vs : List Nat} (hno : noOwn ρ vs) (sr : SameR (ctL (Ls Lc os) H) (ctL (Ls Lc os) H')) (lo : ∀ i a, os i = some a → H' a = H a) (o : LOk (Ls Lc os) p H') : EnvOk K (He0 Lc H') Lc os p {} H' (wipe σ vs) (wipeE ρ vs) := by
  refine ⟨by rw [wipe_length, wipeE_length]; exact E.len, fun i e h => ?_, fun i a h => ?_, E.inj, fun i a h => ⟨(E.fre i a h).1, He0_free (p := p) (E.fre i a h).1⟩, ⟨(fun _ h => nomatch h), (fun _ h => nomatch h)⟩, o.sub (fun b l => .inl l) fun q e => (E.lok.str q e).1, He0_stp⟩
  · rcases wipeE_get h with rfl | ⟨h, n⟩
    · trivial
    · have z := E.val i e h
      cases e with
      | no => trivial
      | own d => exact z
      | py d =>
        obtain ⟨v, h1, h2⟩ := z
        exact ⟨v, by rw [wipe_out n]; exact h1, h2.sameR sr⟩
      | st =>
        obtain ⟨v, h1, h2⟩ := z
        exact ⟨v, by rw [wipe_out n]; exact h1, h2.sameR sr⟩
      | ob C fs =>
        obtain ⟨v, h1, h2⟩ := z
        exact ⟨v, by rw [wipe_out n]; exact h1, h2.sameR sr⟩
  · obtain ⟨d, h1, h2, h3⟩ := E.own i a h
    have n : i ∉ vs := fun hm => hno i hm d h1
    exact ⟨d, by rw [wipeE_out n]; exact h1, by rw [wipe_out n]; exact h2, h3.sameR sr (lo i a h)⟩
end
def wSgGo (g : WGt) (t : WT) (f : WF) (ρ : EnvD) : List EV → List Str → (List Str → Prop) → Prop
  | [], acc, P => P acc
  | x :: r, acc, P => g x ρ fun ρ' => t ρ' fun b => if b = true then f ρ' fun e => match e with
    | .py (.str s) => acc.length + 1 < scanBound ∧ wSgGo g t f ρ r (acc ++ [s]) P
    | _ => False
    else wSgGo g t f ρ r acc P
def wSg2Go (g : WGt) (t : WT) (fi1 : WA) (g1 : WGt) (t1 : WT) (f : WF) (vs1 : List Nat) (ρ : EnvD) : List EV → List Str → (List Str → Prop) → Prop
  | [], acc, P => P acc
  | x :: r, acc, P => g x ρ fun ρ2 => t ρ2 fun b => if b = true then noOwn ρ2 vs1 ∧ fi1 ρ2 fun ys => wSgGo g1 t1 f (wipeE ρ2 vs1) ys acc fun acc' => wSg2Go g t fi1 g1 t1 f vs1 ρ r acc' P
    else wSg2Go g t fi1 g1 t1 f vs1 ρ r acc P
def wSg2 (fi : WA) (g : WGt) (t : WT) (fi1 : WA) (g1 : WGt) (t1 : WT) (f : WF) (vs vs1 : List Nat) : WF := fun ρ P => noOwn ρ vs ∧ fi ρ fun xs => wSg2Go g t fi1 g1 t1 f vs1 (wipeE ρ vs) xs [] fun acc => P (.py (.list ((Sl.sSet acc).map .str)))
theorem NT.set {P : Program} {w : World} {a : Addr} {L : List Key} : NT (Sl.SetLO P w a L) := fun _ => ⟨(fun e => nomatch e), (fun _ e => nomatch e)⟩
/-- a set of texts at D: those told so far -/
def SetS (P : Program) (w : World) (H : Hp) (D : Addr) (acc : List Str) : Prop := ∃ Lk, H D = some (Sl.SetLO P w D Lk) ∧ (∀ y, y ∈ Lk ↔ y ∈ acc.map (Sum.inr (α := Int))) ∧ Lk.length ≤ acc.length
theorem SetS.at {P : Program} {w : World} {H H' : Hp} {D : Addr} {acc : List Str} (h : SetS P w H D acc) (e : H' D = H D) : SetS P w H' D acc := by
  obtain ⟨Lk, h1, h2⟩ := h
  exact ⟨Lk, e.trans h1, h2⟩
section
variable {X : Cx} {m : Mode}
theorem sg2_read {K : PySem.W.Frag} {P0 : Program} {w0 : World} {fi fi1 : WA} {g g1 : WGt} {t t1 : WT} {f : WF} {vs vs1 : List Nat} {σ : L2.St} {H : Hp} {Q : VK} (q : tW K m (wSg2 fi g t fi1 g1 t1 f vs vs1) σ H Q) :
    Tp.tSg2 (fun D => Sl.SetLO P0 w0 D []) (Sl.rAddL P0 w0) (tI K .read fi) (tWG K vs g) (tWT K t) (tI K .read fi1) (tWG K vs1 g1) (tWT K t1) (tW K .data f) vs vs1 σ H (fun y H1 => Sl.rSortedL P0 w0 [y] H1 Q) := by
  obtain ⟨He, Lc, os, p, gs, ρ, P, E, ⟨hno, hf⟩, k⟩ := q
  refine ⟨He, Lc, os, p, gs, ρ, _, E, hf, fun xs gh J H1 hP s o hg hI => ?_⟩
  have E1 := E.step s o
  intro D hD
  have nLD : ¬ Ls Lc os D := fun l => o.ne D l hD
  have npD : p ≠ some D := fun e => nLD (o.str D e).1
  have toL : ∀ b, Ls (Ins Lc D) os b → Ls Lc os b ∨ b = D := fun b l => by
    rcases l with (l | l) | l
    · exact .inl (.inl l)
    · exact .inr l
    · exact .inl (.inr l)
  have ofL : ∀ b, Ls Lc os b → Ls (Ins Lc D) os b := fun b l => by
    rcases l with l | l
    · exact .inl (.inl l)
    · exact .inr l
  have LD : Ls (Ins Lc D) os D := .inl (.inr rfl)
  have nOD : ∀ i a, os i = some a → a ≠ D := fun i a h e => nLD (.inr ⟨i, by rw [← e]; exact h⟩)
  have nDg : ∀ {gh : Gh} {H2 : Hp}, GhR K p (Ls (Ins Lc D) os) H2 gh → (∃ Lk, H2 D = some (Sl.SetLO P0 w0 D Lk)) → (∀ z ∈ gh.ad, z.1 = D → ∃ x, z.2 = Sl.SetLO P0 w0 D x) := fun {gh H2} h hd z hz e => by
    obtain ⟨_, q1, _⟩ := h.1 z hz
    obtain ⟨Lk, hd⟩ := hd
    rw [e, hd] at q1
    exact ⟨Lk, (Option.some.inj q1).symm⟩
  have nDg0 : ∀ z ∈ gh.ad, z.1 ≠ D := fun z hz e => by
    obtain ⟨_, q1, _⟩ := (hg.r o).1 z hz
    rw [e, hD] at q1
    cases q1
  refine ⟨fun i n H2 => n = xs.length - i ∧ i ≤ xs.length ∧ LOk (Ls (Ins Lc D) os) p H2 ∧ Stp (Ls Lc os) p H1 H2 ∧ GhR K p (Ls (Ins Lc D) os) H2 gh ∧ ∃ acc, SetS P0 w0 H2 D acc ∧ wSg2Go g t fi1 g1 t1 f vs1 (wipeE ρ vs) (xs.drop i) acc fun acc => P (.py (.list ((Sl.sSet acc).map .str))), ⟨xs.length, rfl, Nat.zero_le _, ?_, Stp.new o.ne hD, ?_, [], ⟨[], upd_same, by simp, Nat.le_refl _⟩, hP⟩, ?_⟩
  · refine ⟨fun b l => ?_, fun q e => ⟨ofL q (o.str q e).1, (o.str q e).2.same (smu hD)⟩⟩
    rcases toL b l with l | rfl
    · obtain ⟨u, h1, h2⟩ := o.live b l
      exact ⟨u, smu hD b u h1, h2⟩
    · exact ⟨_, upd_same, NT.set⟩
  · refine (hg.r o).mono (fun b u h => ?_) fun z hz e => smu hD _ _ e
    obtain ⟨n, h1, tt⟩ := ctL_of h
    refine ⟨u, ctL_at (smu hD b u h1) (fun l => ?_) tt, .inl rfl⟩
    rcases toL b l with l | rfl
    · exact n l
    · rw [hD] at h1
      cases h1
  · rintro i n H2 ⟨rfl, hi, o2, s2, g2, acc, hS, hgo⟩
    by_cases hlt : i < xs.length
    · refine .inr ⟨hI.go _ _ i o2 g2 hlt, fun H' => ∃ n', n' < xs.length - i ∧ (n' = xs.length - (i + 1) ∧ i + 1 ≤ xs.length ∧ LOk (Ls (Ins Lc D) os) p H' ∧ Stp (Ls Lc os) p H1 H' ∧ GhR K p (Ls (Ins Lc D) os) H' gh ∧ ∃ acc, SetS P0 w0 H' D acc ∧ wSg2Go g t fi1 g1 t1 f vs1 (wipeE ρ vs) (xs.drop (i + 1)) acc fun acc => P (.py (.list ((Sl.sSet acc).map .str)))), fun H' h => h, fun x H3 hy => ?_⟩
      obtain ⟨sm, e, he, hv⟩ := hI.yld _ _ i x H3 o2 g2 hlt hy
      have s3 : Stp (Ls (Ins Lc D) os) p H2 H3 := Stp.same sm o2.ne
      have o3 := o2.same sm
      have hdrop : xs.drop i = e :: xs.drop (i + 1) := by
        obtain ⟨h1, rfl⟩ := List.getElem?_eq_some_iff.mp he
        exact List.drop_eq_getElem_cons h1
      rw [hdrop] at hgo
      have s13 : Stp (Ls Lc os) p H1 H3 := s2.trans (s3.sub ofL)
      obtain ⟨Lk0, hL0, _⟩ := id hS
      have Ei := E1.inner hno hD s13 o3 ⟨_, sm _ _ hL0⟩
      refine ⟨_, _, _, _, _, _, _, _, Ei, hv, hgo, fun ρ' σ' hP' E' hw => ⟨hw.trans wipe_wipe, ?_⟩⟩
      refine ⟨_, _, _, _, _, _, _, E', hP', fun b H4 hb s4 o4 => ?_⟩
      have s14 : Stp (Ls Lc os) p H1 H4 := s13.trans (s4.sub ofL)
      have s24 := s3.trans s4
      have hS4 := hS.at (s24.loose D LD npD)
      have E4 := E'.step s4 o4
      cases b with
      | false => exact ⟨xs.length - (i + 1), by omega, rfl, hlt, o4, s14, g2.step o2 s24, acc, hS4, hb⟩
      | true =>
        obtain ⟨hno1, hb⟩ := hb
        refine ⟨_, _, _, _, _, _, _, E4, hb, fun ys gh1 J1 H5 hP5 s5 o5 hg5 hI5 => ?_⟩
        have s25 := s24.trans s5
        have s15 : Stp (Ls Lc os) p H1 H5 := s14.trans (s5.sub ofL)
        have hS5 := hS4.at (s5.loose D LD npD)
        have E5 := E4.step s5 o5
        have g15 : GhR K p (Ls (Ins Lc D) os) H5 gh1 := hg5
        refine ⟨fun j n1 G => n1 = ys.length - j ∧ j ≤ ys.length ∧ LOk (Ls (Ins Lc D) os) p G ∧ Stp (Ls Lc os) p H1 G ∧ SameR (ctL (Ls (Ins Lc D) os) H5) (ctL (Ls (Ins Lc D) os) G) ∧ (∀ a, Ls Lc os a → p ≠ some a → G a = H5 a) ∧ GhR K p (Ls (Ins Lc D) os) G gh ∧ GhR K p (Ls (Ins Lc D) os) G gh1 ∧ ∃ acc, SetS P0 w0 G D acc ∧ wSgGo g1 t1 f (wipeE ρ' vs1) (ys.drop j) acc fun acc' => wSg2Go g t fi1 g1 t1 f vs1 (wipeE ρ vs) (xs.drop (i + 1)) acc' fun acc => P (.py (.list ((Sl.sSet acc).map .str))), ⟨ys.length, rfl, Nat.zero_le _, o5, s15, SameR.refl _, fun _ _ _ => rfl, g2.step o2 s25, g15, acc, hS5, hP5⟩, ?_⟩
        rintro j n1 G ⟨rfl, hj, oG, sG, srG, loG, ghG, gh1G, acc1, hSG, hgo1⟩
        by_cases hlt1 : j < ys.length
        · refine .inr ⟨hI5.go _ _ j oG gh1G hlt1, fun G' => ∃ k', k' < ys.length - j ∧ (k' = ys.length - (j + 1) ∧ j + 1 ≤ ys.length ∧ LOk (Ls (Ins Lc D) os) p G' ∧ Stp (Ls Lc os) p H1 G' ∧ SameR (ctL (Ls (Ins Lc D) os) H5) (ctL (Ls (Ins Lc D) os) G') ∧ (∀ a, Ls Lc os a → p ≠ some a → G' a = H5 a) ∧ GhR K p (Ls (Ins Lc D) os) G' gh ∧ GhR K p (Ls (Ins Lc D) os) G' gh1 ∧ ∃ acc, SetS P0 w0 G' D acc ∧ wSgGo g1 t1 f (wipeE ρ' vs1) (ys.drop (j + 1)) acc fun acc' => wSg2Go g t fi1 g1 t1 f vs1 (wipeE ρ vs) (xs.drop (i + 1)) acc' fun acc => P (.py (.list ((Sl.sSet acc).map .str)))), fun G' h => h, fun y G2 hy2 => ?_⟩
          obtain ⟨sm2, e2, he2, hv2⟩ := hI5.yld _ _ j y G2 oG gh1G hlt1 hy2
          have t2 : Stp (Ls (Ins Lc D) os) p G G2 := Stp.same sm2 oG.ne
          have p2 := oG.same sm2
          have hdrop2 : ys.drop j = e2 :: ys.drop (j + 1) := by
            obtain ⟨h1, rfl⟩ := List.getElem?_eq_some_iff.mp he2
            exact List.drop_eq_getElem_cons h1
          rw [hdrop2] at hgo1
          have loG2 : ∀ a, Ls Lc os a → p ≠ some a → G2 a = H5 a := fun a l n => (t2.loose a (ofL a l) n).trans (loG a l n)
          have EG := E5.move hno1 (srG.trans (t2.ct oG)) (fun i a h => loG2 a (.inr ⟨i, h⟩) fun e => (E5.fre i a h).1 (E5.lok.str a e).1) p2
          refine ⟨_, _, _, _, _, _, _, _, EG, hv2, hgo1, fun ρ2 σ2 hP2 E2 hw2 => ⟨hw2.trans wipe_wipe, ?_⟩⟩
          refine ⟨_, _, _, _, _, _, _, E2, hP2, fun c G3 hc t3 p3 => ?_⟩
          have t23 := t2.trans t3
          have sG3 : Stp (Ls Lc os) p H1 G3 := sG.trans (t23.sub ofL)
          have loG3 : ∀ a, Ls Lc os a → p ≠ some a → G3 a = H5 a := fun a l n => (t3.loose a (ofL a l) n).trans (loG2 a l n)
          cases c with
          | false => exact ⟨ys.length - (j + 1), by omega, rfl, hlt1, p3, sG3, srG.trans (t23.ct oG), loG3, ghG.step oG t23, gh1G.step oG t23, acc1, hSG.at (t23.loose D LD npD), hc⟩
          | true =>
            refine ⟨_, _, _, _, _, _, _, E2.step t3 p3, hc, fun ev G4 vv hev t4 p4 r4 => ?_⟩
            split at hev
            · rename_i z
              obtain ⟨hsz, hgo'⟩ := hev
              have t24 := t23.trans t4
              have sG4 : Stp (Ls Lc os) p H1 G4 := sG3.trans (t4.sub ofL)
              obtain ⟨Lk, hL, hmem, hlen⟩ := hSG.at (t24.loose D LD npD)
              have r4' : Dt K (ctL (Ls (Ins Lc D) os) G4) vv (.str z) := r4
              cases r4'
              refine ⟨D, Sum.inr z, Lk, rfl, rfl, hL, by omega, fun L2 nd2 mem2 len2 => ?_⟩
              have tn := turned (o := Sl.SetLO P0 w0 D L2) hD nLD LD npD NT.set p4 sG4
              have ndG : ∀ {gx : Gh}, GhR K p (Ls (Ins Lc D) os) G4 gx → (∀ z ∈ gx.ad, z.1 ≠ D) → GhR K p (Ls (Ins Lc D) os) (upd G4 D (Sl.SetLO P0 w0 D L2)) gx := fun h nd => gh_upd h tn.ct nd
              refine ⟨ys.length - (j + 1), by omega, rfl, hlt1, tn.lok, tn.stp, (srG.trans (t24.ct oG)).trans tn.ct, fun a l n => ?_, ndG (ghG.step oG t24) nDg0, ndG (gh1G.step oG t24) ?_, acc1 ++ [z], ⟨L2, upd_same, fun y => ?_, by rw [List.length_append, List.length_singleton]; omega⟩, hgo'⟩
              · rw [upd_ne (fun e => nLD (by rw [← e]; exact l))]
                exact (t4.loose a (ofL a l) n).trans (loG3 a l n)
              · intro z hz e
                obtain ⟨r1, r2, r3, r5⟩ := g15.1 z hz
                obtain ⟨q1, q2⟩ := hg5.1 z hz
                obtain ⟨Lq, hq1, _⟩ := hS5
                rw [e, hq1] at r2
                exact q1.2 _ (Option.some.inj r2).symm
              · rw [mem2 y, List.map_append, List.mem_append, hmem y]
                constructor
                · rintro (h | h)
                  · exact .inr (by rw [h]; simp)
                  · exact .inl h
                · rintro (h | h)
                  · exact .inr h
                  · exact .inl (by simpa using h)
            · exact hev.elim
        · have ej : j = ys.length := by omega
          subst ej
          rw [List.drop_length] at hgo1
          exact .inl ⟨hI5.stop _ _ oG gh1G, xs.length - (i + 1), by omega, rfl, hlt, oG, sG, ghG, acc1, hSG, hgo1⟩
    · have ei : i = xs.length := by omega
      subst ei
      rw [List.drop_length] at hgo
      obtain ⟨Lk, hL, hmem, hlen⟩ := hS
      refine .inl ⟨hI.stop _ _ o2 g2, D, Lk, rfl, hL, .inr fun y hy => ?_, fun nd L1 q pm nq => ?_⟩
      · obtain ⟨z, _, e⟩ := List.mem_map.mp ((hmem y).mp hy)
        exact ⟨z, e.symm⟩
      · rw [Sl.sorted_strs pm nd hmem]
        exact Go.lst (m := m) (K := K) (fun b H' v' hb s' o' r' => k b H' v' hb ((s.trans s2).trans s') o' (r'.base (s.trans s2))) (o2.sub ofL fun q e => (o.str q e).1) hgo (dts_strs' _) nq
/-- sorted({e for x in xs if .. for y in ys if ..}) -/
theorem dsortSg2 {elt tg iter tg1 iter1 : Expr} {ifs ifs1 : List Expr} {scope : Scope} {pos pos2 q : Pos} {fi fi1 : WA} {g g1 : WGt} {t t1 : WT} {f : WF} (own : List (Str × Nat)) (vs1 : List Nat) (hc : X.calm = true) (hN : X.N.Nodup) (hu : X.A.units + 64 < cLine) (hi : PI X tg iter (tI X.K .read fi)) (ok : BlkOk X.N X.env.scope scope own) (hv : ∀ i ∈ vs1, i ∈ own.map (·.2))
    (hg : ∀ (s : Shared) (H : Hp) (C : Addr) (cl : List (Str × Addr)) (fp : List Addr), PG (X.blk s H scope (compEnvC scope cl C X.env) fp) tg (tWG X.K (own.map (·.2)) g)) (ht : ∀ (s : Shared) (H : Hp) (C : Addr) (cl : List (Str × Addr)) (fp : List Addr), PTs (X.blk s H scope (compEnvC scope cl C X.env) fp) ifs (tWT X.K t))
    (hi1 : ∀ (s : Shared) (H : Hp) (C : Addr) (cl : List (Str × Addr)) (fp : List Addr), PI (X.blk s H scope (compEnvC scope cl C X.env) fp) tg1 iter1 (tI X.K .read fi1))
    (hg1 : ∀ (s : Shared) (H : Hp) (C : Addr) (cl : List (Str × Addr)) (fp : List Addr), PG (X.blk s H scope (compEnvC scope cl C X.env) fp) tg1 (tWG X.K vs1 g1)) (ht1 : ∀ (s : Shared) (H : Hp) (C : Addr) (cl : List (Str × Addr)) (fp : List Addr), PTs (X.blk s H scope (compEnvC scope cl C X.env) fp) ifs1 (tWT X.K t1))
    (he : ∀ (s : Shared) (H : Hp) (C : Addr) (cl : List (Str × Addr)) (fp : List Addr), PE (X.blk s H scope (compEnvC scope cl C X.env) fp) elt (tW X.K .data f)) (hgs : Gl X "sorted") (hts : X.mg "sorted" = none) (hvs : bootBuiltins "sorted" = some (.builtin "sorted") := by decide +kernel) (hs : ∀ x, foldedSetIterable iter X.env x = pure x := by intro _; rfl) (hs1 : ∀ env x, foldedSetIterable iter1 env x = pure x := by intro _ _; rfl)
    (hst : starEach [.SetComp elt [⟨tg, iter, ifs, 0⟩, ⟨tg1, iter1, ifs1, 0⟩] scope pos2] X.env = (false, eval (.SetComp elt [⟨tg, iter, ifs, 0⟩, ⟨tg1, iter1, ifs1, 0⟩] scope pos2) X.env) :: starEach [] X.env := by rfl) :
    PE X (.Call (.Name "sorted" q) [.SetComp elt [⟨tg, iter, ifs, 0⟩, ⟨tg1, iter1, ifs1, 0⟩] scope pos2] [] pos) (tW X.K m (wSg2 fi g t fi1 g1 t1 f (own.map (·.2)) vs1)) :=
  pe_mono (pe_callB (show CallR _ _ (Sl.rSortedL X.prog X.w) from Sl.cr_sortedL hc hu) hgs hts hvs (pa_cons (Sl.pe_sl2 (own := own) (ow1 := vs1) hc hN hi ok hv hg ht hi1 hg1 ht1 he hs hs1) pa_nil hst) (by decide) (by decide) hst (by rfl)) fun σ H Q q => sg2_read q
/-- sorted(d), d a dict by texts -/
def wSortedK : EV → (EV → Prop) → Prop
  | .py (.dict ds), P => ∃ ks : List Str, ds.map (·.1) = ks.map .str ∧ ks.Nodup ∧ ks.length < 64 ∧ P (.py (.list ((Sl.sSet ks).map .str)))
  | _, _ => False
theorem le_of_lt {a b : Str} (h : ltCps b.cps.toList a.cps.toList = false) : Sl.strLe a b = true := by
  rw [Sl.strLe_eq, decide_eq_true_eq]
  rw [PyProof.Rows.ltCps_eq] at h
  exact List.not_lt.mp (of_decide_eq_false h)
theorem rising_pair : ∀ (l : List Str) (p : Str), risingS p l = true → (p :: l).Pairwise fun a b => Sl.strLe a b = true
  | [], p, _ => by simp
  | x :: r, p, h => by
    have h' : (!ltCps x.cps.toList p.cps.toList && risingS x r) = true := h
    rw [Bool.and_eq_true] at h'
    have ih := rising_pair r x h'.2
    have h1 : Sl.strLe p x = true := le_of_lt (by simpa using h'.1)
    refine List.pairwise_cons.mpr ⟨fun y hy => ?_, ih⟩
    rcases List.mem_cons.mp hy with rfl | hy
    · exact h1
    · exact Sl.str_total.trans _ _ _ h1 ((List.pairwise_cons.mp ih).1 y hy)
theorem ltS_of_sorted : ∀ {l : List Str}, sortedS l = true → l.Pairwise fun a b => Sl.strLe a b = true
  | [], _ => .nil
  | x :: r, h => rising_pair r x h
theorem dkv_keys {K : PySem.W.Frag} {G : Hp} : ∀ {kvs : List (Key × V)} {ds : List (PyData × PyData)} {ks : List Str}, DtKv K G kvs ds → ds.map (·.1) = ks.map .str → kvs.map (·.1) = ks.map Sum.inr
  | _, _, [], .nil, _ => rfl
  | _, _, _ :: _, .nil, e => by cases e
  | _, _, [], .cons _ _, e => by cases e
  | _, _, k :: ks, .cons (k := key) a t, e => by
    rw [List.map_cons, List.map_cons] at e
    injection e with e1 e2
    rw [List.map_cons, List.map_cons, dkv_keys t e2]
    congr 1
    cases key with
    | inl i => cases e1
    | inr x =>
      cases e1
      rfl
theorem dsortK {a : Expr} {fa : WF} {q pos : Pos} (hc : X.calm = true) (ha : PE X a (tW X.K .read fa)) (hg : Gl X "sorted") (ht : X.mg "sorted" = none) (hv : bootBuiltins "sorted" = some (.builtin "sorted") := by decide +kernel) (hs : starEach [a] X.env = (false, eval a X.env) :: starEach [] X.env := by rfl) : PE X (.Call (.Name "sorted" q) [a] [] pos) (tW X.K m (w1 fa wSortedK)) :=
  k1 (ma := .read) (g := wSortedK) _ (by decide) (pe_callB (call_sortedD hc) hg ht hv (pa_cons ha pa_nil hs) (by decide) (by decide) hs (by rfl)) fun L p H0 H v a P Q o ra hg k => by
    unfold wSortedK at hg
    split at hg
    · rename_i ds
      obtain ⟨ks, h1, h2, h3, h4⟩ := hg
      obtain ⟨a, kvs, rfl, h5, h6⟩ := ra.dict
      have ek : kvs.map (·.1) = ks.map Sum.inr := dkv_keys h6 h1
      refine ⟨a, kvs, ks, rfl, h5, ek, h3, fun ys q pm srt nq => ?_⟩
      have e : ys = Sl.sSet ks := Sl.sSet_uniq (ltS_of_sorted srt) (pm.nodup_iff.mpr h2) fun x => pm.mem_iff
      rw [e]
      exact Go.lst k o h4 (dts_strs' _) nq
    · exact hg.elim
end
end Dw

/-! Data ways: objects made by an __init__ that sets fields. -/
namespace Dw
open PySem PySem.Spec PySem.W PySem.Calls PyProof.Rows L2 Dr Rp
open He (ga)
section
variable {K : PySem.W.Frag} {He : Hp} {Lc : Addr → Prop} {os : Nat → Option Addr} {p : Option Addr} {gs : Gh} {H H' : Hp} {σ : L2.St} {ρ : EnvD}
theorem putF_new {f : Str} {v : V} : ∀ {fs : List (Str × V)}, (∀ q ∈ fs, q.1 ≠ f) → putF f v fs = fs ++ [(f, v)]
  | [], _ => rfl
  | (g, x) :: r, h => by
    unfold putF
    rw [if_neg (h (g, x) List.mem_cons_self), putF_new fun q hq => h q (List.mem_cons_of_mem _ hq)]
    rfl
theorem ctL_upd {L : Addr → Prop} {x : Addr} {o : HO} (h : L x) : ctL L (upd H x o) = ctL L H := funext fun b => by
  unfold ctL
  by_cases l : L b
  · rw [if_pos l, if_pos l]
  · rw [if_neg l, if_neg l, upd_ne (fun e => l (by rw [e]; exact h))]
/-- an object of the caller's that is loose is changed, as it would have stood before -/
theorem EnvOk.self (E : EnvOk K He Lc os p gs H σ ρ) {x : Addr} {o : HO} (hx : Lc x) (np : p ≠ some x) (nt : NT o) : EnvOk K (upd He x o) Lc os p gs (upd H x o) σ ρ := by
  have ec : ctL (Ls Lc os) (upd H x o) = ctL (Ls Lc os) H := ctL_upd (.inl hx)
  have ne : ∀ {i a}, os i = some a → a ≠ x := fun h e => (E.fre _ _ h).1 (e ▸ hx)
  refine ⟨E.len, fun i e h => ?_, fun i a h => ?_, E.inj, fun i a h => ?_, ?_, ?_, ?_⟩
  · rw [ec]
    exact E.val i e h
  · obtain ⟨d, h1, h2, h3⟩ := E.own i a h
    rw [ec]
    exact ⟨d, h1, h2, h3.sameR (SameR.refl _) (upd_ne (ne h))⟩
  · rw [upd_ne (ne h)]
    exact E.fre i a h
  · unfold GhD
    rw [ec]
    exact E.gho
  · refine ⟨fun b l => ?_, fun q e => ⟨(E.lok.str q e).1, (E.lok.str q e).2.keep fun u hu => ?_⟩⟩
    · by_cases e : b = x
      · subst e
        exact ⟨o, upd_same, nt⟩
      · rw [upd_ne e]
        exact E.lok.live b l
    · rw [upd_ne (fun z => np (by rw [e, z]))]
      exact hu
  · refine ⟨fun b u n t h => ?_, fun b h => ?_, fun b l n => ?_⟩
    · by_cases e : b = x
      · subst e
        rw [upd_same] at h ⊢
        exact ⟨_, rfl, .inl (Option.some.inj h)⟩
      · rw [upd_ne e] at h ⊢
        exact E.stp.keep b u n t h
    · by_cases e : b = x
      · subst e
        rw [upd_same]
        simp
      · rw [upd_ne e] at h ⊢
        exact E.stp.live b h
    · by_cases e : b = x
      · subst e
        rw [upd_same, upd_same]
      · rw [upd_ne e, upd_ne e]
        exact E.stp.loose b l n
abbrev WFl := EnvD → List (Str × PyData) → (List (Str × PyData) → Prop) → Prop
def wFlN : WFl := fun _ fs P => P fs
def wFlC (n : Str) (f : WF) (l : WFl) : WFl := fun ρ fs P => f ρ fun e => match e with
  | .py d => (∀ q ∈ fs, q.1 ≠ n) ∧ fs.length < 900 ∧ l ρ (fs ++ [(n, d)]) P
  | _ => False
def tFlds (K : PySem.W.Frag) (C : Str) (f : WFl) : TS := fun D σ H => ∃ He Lc os p gs ρ P x dx vs fs, EnvOk K He Lc os p gs H σ ρ ∧ σ[0]? = some (some (.ref x)) ∧ Lc x ∧ p ≠ some x ∧ H x = some (.ins (ga K C) dx vs) ∧
  vs.map (·.1) = fs.map (·.1) ∧ DtAll K (ctL (Ls Lc os) H) (vs.map (·.2)) (fs.map (·.2)) ∧ f ρ fs P ∧
  ∀ fs' vs' He' H', P fs' → (∀ b, b ≠ x → He' b = He b) → EnvOk K He' Lc os p gs H' σ ρ → H' x = some (.ins (ga K C) dx vs') → vs'.map (·.1) = fs'.map (·.1) → DtAll K (ctL (Ls Lc os) H') (vs'.map (·.2)) (fs'.map (·.2)) → D.nx σ H'
theorem dtAll_snoc {G : Hp} {v : V} {d : PyData} (hv : Dt K G v d) : ∀ {vs : List V} {ds : List PyData}, DtAll K G vs ds → DtAll K G (vs ++ [v]) (ds ++ [d])
  | _, _, .nil => .cons hv .nil
  | _, _, .cons a b => .cons a (dtAll_snoc hv b)
end
section
variable {X : Cx} {C : Str}
theorem dfl_nil : PSs X [] (tFlds X.K C wFlN) := by
  refine pss_mono pss_nil fun D σ H q => ?_
  obtain ⟨He, Lc, os, p, gs, ρ, P, x, dx, vs, fs, E, h0, hx, np, hH, hn, hd, hf, k⟩ := q
  exact k fs vs He H hf (fun _ _ => rfl) E hH hn hd
theorem dfl_cons {n self : Str} {e : Expr} {rest : List Stmt} {f : WF} {l : WFl} {ps pos' pos : Pos} (c : Cls X.K (ga X.K C)) (na : NoAttr X.K (ga X.K C) n) (he : PE X e (tW X.K .data f)) (hr : PSs X rest (tFlds X.K C l))
    (hN : X.N[0]? = some self := by rfl) (hv : Vis X.env.scope self := by first | exact Or.inl rfl | exact Or.inr (Or.inl rfl) | exact Or.inr (Or.inr rfl)) (hdb : (self == ("__debug__" : Str)) = false := by decide) (hcd : (self == ("__classdict__" : Str)) = false := by decide)
    (hs : swapsWith e (some (.Attribute (.Name self ps) n pos')) pos.line X.env = pure false := by rfl) : PSs X (.Assign [.Attribute (.Name self ps) n pos'] e pos :: rest) (tFlds X.K C (wFlC n f l)) := by
  refine pss_mono (pss_cons (ps_fld (pe_var hN hv hdb hcd) he hs) hr) fun D σ H q => ?_
  obtain ⟨He, Lc, os, p, gs, ρ, P, x, dx, vs, fs, E, h0, hx, np, hH, hn, hd, hf, k⟩ := q
  refine ⟨He, Lc, os, p, gs, ρ, _, E, hf, fun e H1 v he s o r => ⟨.ref x, h0, ?_⟩⟩
  cases e with
  | py d =>
    obtain ⟨hne, hlt, hl⟩ := he
    have E1 := E.step s o
    have h1 : H1 x = some (.ins (ga X.K C) dx vs) := (s.loose x (.inl hx) np).trans hH
    have hm : ∀ q ∈ vs, q.1 ≠ n := fun q hq => by
      have z : q.1 ∈ vs.map (·.1) := List.mem_map_of_mem hq
      rw [hn] at z
      obtain ⟨u, hu, e⟩ := List.mem_map.mp z
      exact e ▸ hne u hu
    have hlen : vs.length = fs.length := by
      have := congrArg List.length hn
      rwa [List.length_map, List.length_map] at this
    refine ⟨x, _, dx, vs, rfl, h1, c, na, by omega, ?_⟩
    rw [putF_new hm]
    have r' : Dt X.K (ctL (Ls Lc os) H1) v d := r
    refine ⟨upd He x _, Lc, os, p, gs, ρ, P, x, dx, _, _, E1.self hx np (fun _ => ⟨(fun e => nomatch e), (fun _ e => nomatch e)⟩), h0, hx, np, upd_same, ?_, ?_, hl, fun fs' vs' He' H' hP hb => k fs' vs' He' H' hP fun b n => (hb b n).trans (upd_ne n)⟩
    · rw [List.map_append, List.map_append, hn]
      rfl
    · rw [ctL_upd (.inl hx), List.map_append, List.map_append]
      exact dtAll_snoc r' (Dt.sameRAll (s.ct E.lokL) _ _ hd)
  | st => exact he.elim
  | ob C fs => exact he.elim
  | own d => exact he.elim
  | no => exact he.elim
end
/-- what an __init__ promises over data: gi tells the fields that it leaves -/
abbrev WI := List EV → (List (Str × PyData) → Prop) → Prop
def spI (K : PySem.W.Frag) (C : Str) (gi : WI) : Sp := fun vs H Q _ => ∃ Lc p x dx rest es P, vs = .ref x :: rest ∧ H x = some (.ins (ga K C) dx []) ∧ Lc x ∧ p ≠ some x ∧ LOk Lc p H ∧ Paired (fun v e => e = .no ∨ Rv K p (ctL Lc H) v e) rest es ∧ gi es P ∧
  ∀ fs vs' H', P fs → H' x = some (.ins (ga K C) dx vs') → vs'.map (·.1) = fs.map (·.1) → DtAll K (ctL Lc H') (vs'.map (·.2)) (fs.map (·.2)) → Stp Lc p (upd H x (.ins (ga K C) dx vs')) H' → LOk Lc p H' → Q .non H'
section
variable {P : Program} {w : World} {K : PySem.W.Frag} {mg : Str → Option Value} {base : Heap} {CX : CXT}
theorem start_okN {N : List Str} {vs : List V} {es : List EV} {Lc : Addr → Prop} {p : Option Addr} {H : Hp} (o : LOk Lc p H) (r : Paired (fun v e => e = .no ∨ Rv K p (ctL Lc H) v e) vs es) (hn : es.length ≤ N.length) :
    EnvOk K H Lc (fun _ => none) p {} H (L2.start N vs) (startE N.length es) := by
  have hl := paired_len r
  have hs : ∀ b, Ls Lc (fun _ => none) b ↔ Lc b := fun b => ⟨(fun l => l.elim id fun ⟨i, h⟩ => (by cases h)), Or.inl⟩
  have eL : Ls Lc (fun _ => none) = Lc := funext fun b => propext (hs b)
  refine ⟨?_, fun i e h => ?_, fun i a h => (by cases h), fun i j a h => (by cases h), fun i a h => (by cases h), ⟨(fun _ h => nomatch h), (fun _ h => nomatch h)⟩, o, Stp.refl⟩
  · unfold L2.start startE
    rw [List.length_append, List.length_append, List.length_map, List.length_replicate, List.length_replicate, hl]
  · unfold startE at h
    by_cases hi : i < es.length
    · rw [List.getElem?_append_left hi] at h
      obtain ⟨v, h1, h2⟩ := paired_get r h
      have hσ : (L2.start N vs)[i]? = some (some v) := by
        unfold L2.start
        rw [List.getElem?_append_left (by rw [List.length_map]; omega), List.getElem?_map, h1]
        rfl
      rw [eL]
      cases e with
      | own d => exact h2.elim (fun z => nomatch z) False.elim
      | no => trivial
      | py d => exact ⟨v, hσ, h2.elim (fun z => nomatch z) id⟩
      | st => exact ⟨v, hσ, h2.elim (fun z => nomatch z) id⟩
      | ob C fs => exact ⟨v, hσ, h2.elim (fun z => nomatch z) id⟩
    · rw [List.getElem?_append_right (by omega)] at h
      rw [List.getElem?_replicate] at h
      split at h
      · cases h
        trivial
      · cases h
def wIni (n j : Nat) (f : WFl) : WI := fun es P => es.length + 1 = j ∧ f (startE n (.no :: es)) [] P
theorem fn_init {C x qual : Str} {params : Arguments} {body : List Stmt} {scope : Scope} {dvs : List V} {kws : List (Str × V)} {f : Addr} {fd : FuncData} {N ps : List Str} {k : Nat} {fw : WFl} (F : FunD K x qual params body scope dvs kws f fd) (S : FnScope N ps scope) (hn : ps.length ≤ N.length)
    (hb : ∀ (cdv : Value) (A : Around) (outer : List Env) (s : Shared) (H : Hp) (E : XK), Room k (A.deeper (envOfC qual scope s.heap.objs.size f cdv)) → PSs (cxOf CX P w K mg base N qual scope f cdv A outer s H E).nox body (tFlds K C fw)) :
    FnOk P w K mg base CX (k + 1) f fd ps (spI K C (wIni N.length ps.length fw)) := by
  refine F.ok S (fun vs H Q E h => ?_) (fun cdv A outer s H vs Q E hr h => ?_)
  · obtain ⟨Lc, p, x, dx, rest, es, P, rfl, _, _, _, _, r, ⟨hl, _⟩, _⟩ := h
    rw [List.length_cons, paired_len r, hl]
  · obtain ⟨Lc, p, x, dx, rest, es, P, rfl, hx, lx, np, o, r, ⟨hl, hg⟩, k⟩ := h
    refine ⟨_, (hb cdv A outer s H E hr).nox, ?_⟩
    have E0 := start_okN (N := N) o (.cons (.inl rfl) r : Paired _ (V.ref x :: rest) (EV.no :: es)) (by rw [List.length_cons]; omega)
    have eL : Ls Lc (fun _ => none) = Lc := funext fun b => propext ⟨(fun l => l.elim id fun ⟨i, h⟩ => (by cases h)), Or.inl⟩
    refine ⟨H, Lc, _, p, {}, _, P, x, dx, [], [], E0, ?_, lx, np, hx, rfl, .nil, hg, fun fs' vs' He' H' hP hb E' h1 h2 h3 => ?_⟩
    · rfl
    · rw [eL] at h3
      refine k fs' vs' H' hP h1 h2 h3 ?_ E'.lok
      have e : He' = upd H x (.ins (ga K C) dx vs') := funext fun b => by
        by_cases e : b = x
        · subst e
          rw [upd_same, ← E'.stp.loose b lx np]
          exact h1
        · rw [upd_ne e]
          exact hb b e
      rw [← e]
      exact E'.stp
end
section
variable {X : Cx} {m mr : Mode} {CX : CXT} {k : Nat} {f : Addr} {fd : FuncData} {ps : List Str} {gi : WI} {fa : WA} {C : Str} {q pos : Pos} {e : Expr} {es : List Expr}
def wMake (C : Str) (gi : WI) : List EV → (EV → Prop) → Prop := fun es P => gi es fun fs => P (.ob C fs)
/-- the new object at x, its heap at the call of __init__; what comes of it -/
theorem make_ini {K : PySem.W.Frag} {L : Addr → Prop} {p : Option Addr} {H : Hp} {vs : List V} {es : List EV} {P : EV → Prop} {Q : VK} {x dx : Addr} {E : XK} (o : LOk L p H) (r : Paired (fun v e => e = .no ∨ Rv K p (ctL L H) v e) vs es) (hg : gi es fun fs => P (.ob C fs)) (hx : H x = none) (hdx : H dx = none) (ne : dx ≠ x)
    (k : ∀ b H' v', P b → Stp L p H H' → LOk L p H' → Rv K p (ctL L H') v' b → Q v' H') : spI K C gi (.ref x :: vs) (upd (upd H dx (.own x)) x (.ins (ga K C) dx [])) (fun v H2 => v = .non ∧ Q (.ref x) H2) E := by
  have nx : ¬ L x := fun l => o.ne x l hx
  have nd : ¬ L dx := fun l => o.ne dx l hdx
  have hold : ∀ {b u}, H b = some u → b ≠ x ∧ b ≠ dx := fun h => ⟨fun e => (by rw [e, hx] at h; cases h), fun e => (by rw [e, hdx] at h; cases h)⟩
  have h2 : ∀ {b u w}, H b = some u → upd (upd H dx (.own x)) x w b = some u := fun h => by
    rw [upd_ne (hold h).1, upd_ne (hold h).2]
    exact h
  have o2 : LOk (Ins L x) p (upd (upd H dx (.own x)) x (.ins (ga K C) dx [])) := by
    refine ⟨fun b l => ?_, fun q e => ⟨.inl (o.str q e).1, (o.str q e).2.keep fun u hu => h2 hu⟩⟩
    rcases l with l | rfl
    · obtain ⟨u, hu, n⟩ := o.live b l
      exact ⟨u, h2 hu, n⟩
    · exact ⟨_, upd_same, fun _ => ⟨(fun e => nomatch e), (fun _ e => nomatch e)⟩⟩
  have sr : SameR (ctL L H) (ctL (Ins L x) (upd (upd H dx (.own x)) x (.ins (ga K C) dx []))) := fun b u h => by
    obtain ⟨n, hb, t⟩ := ctL_of h
    exact ⟨u, ctL_at (h2 hb) (fun l => l.elim n (hold hb).1) t, .inl rfl⟩
  refine ⟨Ins L x, p, x, dx, vs, es, _, rfl, upd_same, .inr rfl, fun e => nx (o.str x e).1, o2, Paired.mapP r fun v e h => h.imp id fun h => h.sameR sr, hg, fun fs vs' H' hP h1 hn hd s o' => ⟨rfl, ?_⟩⟩
  have st : Stp L p H H' := by
    refine ⟨fun b u n t h => s.keep b u n t (by rw [upd_ne (hold h).1]; exact h2 h), fun b h => ?_, fun b l n => ?_⟩
    · cases e : H b with
      | none => exact absurd e h
      | some u => exact s.live b (by rw [upd_ne (hold e).1, h2 e]; simp)
    · obtain ⟨u, hu, _⟩ := o.live b l
      rw [s.loose b (.inl l) n, upd_ne (hold hu).1, h2 hu, hu]
  refine k _ H' (.ref x) hP st (o'.sub (fun b l => .inl l) fun q e => (o.str q e).1) ⟨x, dx, vs', rfl, ctL_at h1 nx (fun ps e => nomatch e), hn, Dt.sameRAll (ctL_sub fun b l => .inl l) _ _ hd⟩
theorem dmake (M : Mk X.K (ga X.K C) f) (F : FnOk X.prog X.w X.K X.mg X.base CX k f fd ps (spI X.K C gi)) (hr : Room (k + 1) X.A) (hg : Gl X C) (hmg : X.mg C = some (.ref (ga X.K C))) (hb : Binds X.K fd ps []) (hx : Passes CX X E0) (ha : PA X (e :: es) (tWA X.K .data fa)) (hm : m ≠ .fresh := by decide) (hdb : (C == ("__debug__" : Str)) = false := by decide)
    (he : starEach (e :: es) X.env = (false, eval e X.env) :: starEach es X.env := by rfl) (hpl : (backTo pos (starEach es X.env)).any (·.1) = false := by rfl) : PE X (.Call (.Name C q) (e :: es) [] pos) (tW X.K m (wCallA (wMake C gi) fa)) :=
  ka (ma := .data) (g := wMake C gi) (fun vs H Q => ∀ x dx, H x = none → H dx = none → dx ≠ x → spI X.K C gi (.ref x :: (vs ++ [])) (upd (upd H dx (.own x)) x (.ins (ga X.K C) dx [])) (fun v H2 => v = .non ∧ Q (.ref x) H2) E0) (pe_make M F hr hg hmg hb .nil hx ha hdb he hpl)
    fun L p H0 H vs es P Q o ra hg k x dx h1 h2 h3 => by
      rw [List.append_nil]
      exact make_ini o (Paired.mapP ra fun v e h => .inr h) hg h1 h2 h3 fun b H' v' hb s o' r => k b H' v' hb s o' (Res.of_data hm r)
end
end Dw

/-! Data ways: conversions of promises by hand, keywords. -/
namespace Dw
open PySem PySem.Spec PySem.W PySem.Calls PyProof.Rows L2 Dr Rp
open He (ga)
section
variable {P : Program} {w : World} {K : PySem.W.Frag} {mg : Str → Option Value} {base : Heap} {CX : CXT} {k : Nat} {f : Addr} {fd : FuncData} {ps : List Str} {sp sp' : Sp}
/-- a weaker promise; what the head holds is not tracked -/
theorem imp0 (F : FnOk P w K mg base CX k f fd ps sp) (hl : ∀ vs H Q E, sp' vs H Q E → vs.length = ps.length) (h : ∀ vs H Q E, (∀ b o, K.lookup b = some o → H b = none) → sp' vs H Q E → sp vs H Q E) : FnOk P w K mg base CX k f fd ps sp' :=
  ⟨hl, fun A outer s H args us vs Q E hr he hb hv hs => F.run A outer s H args us vs Q E hr he hb hv (h _ _ _ _ (fun b o e => (he.bs b o (he.mod.kin b o e)).2) hs)⟩
theorem perm_dts {G : Hp} : ∀ {ys xs : List V}, ys.Perm xs → ∀ {ds : List PyData}, DtAll K G xs ds → ∃ ds', ds'.Perm ds ∧ DtAll K G ys ds' := by
  intro ys xs p
  induction p with
  | nil =>
    intro ds h
    exact ⟨ds, .refl _, h⟩
  | cons x _ ih =>
    intro ds h
    cases h with
    | cons a t =>
      obtain ⟨r, p, q⟩ := ih t
      exact ⟨_ :: r, p.cons _, .cons a q⟩
  | swap x y l =>
    intro ds h
    cases h with
    | cons a t =>
      cases t with
      | cons b t => exact ⟨_ :: _ :: _, List.Perm.swap _ _ _, .cons b (.cons a t)⟩
  | trans _ _ ih1 ih2 =>
    intro ds h
    obtain ⟨r, p, q⟩ := ih2 h
    obtain ⟨r', p', q'⟩ := ih1 q
    exact ⟨r', p'.trans p, q'⟩
theorem split_dts {G : Hp} : ∀ {ys zs : List V} {ds : List PyData}, DtAll K G (ys ++ zs) ds → ∃ d1 d2, ds = d1 ++ d2 ∧ DtAll K G ys d1 ∧ DtAll K G zs d2
  | [], _, ds, h => ⟨[], ds, rfl, .nil, h⟩
  | y :: ys, zs, _, h => by
    cases h with
    | cons a t =>
      obtain ⟨d1, d2, rfl, h1, h2⟩ := split_dts t
      exact ⟨_ :: d1, d2, rfl, .cons a h1, h2⟩
/-- a list or a tuple that is data: where it stands, not where the stream is -/
theorem sq_of {Lc : Addr → Prop} {q : Addr} {H : Hp} {v : V} {d : PyData} {ds : List PyData} (o : LOk Lc (some q) H) (hK : ∀ b o, K.lookup b = some o → H b = none) (r : Dt K (ctL Lc H) v d) (hd : seqD d = some ds) :
    ∃ a xs, v = .ref a ∧ q ≠ a ∧ (SqL K H a xs ∨ SqT K H a xs) ∧ DtAll K (ctL Lc H) xs ds := by
  have lq := (o.str q rfl).1
  have np : ∀ {a u}, Rd (ctL Lc H) a u → q ≠ a := fun h e => by
    rcases h with h | ⟨_, h⟩ <;> exact (ctL_of h).1 (e ▸ lq)
  unfold seqD at hd
  split at hd
  · cases hd
    cases r with
    | lstR h1 h2 => exact ⟨_, _, rfl, np h1, .inl (.inl (SameR.rd ctL_all h1)), h2⟩
  · cases hd
    cases r with
    | tup h1 h2 =>
      refine ⟨_, _, rfl, ?_, .inr (SameR.sqt ctL_all h1), h2⟩
      rcases h1 with h1 | ⟨ob, its, n, hk, _⟩
      · exact np h1
      · intro e
        obtain ⟨_, _, _, hq, _⟩ := (o.str q rfl).2
        rw [e, hK _ _ hk] at hq
        cases hq
  · cases hd
theorem fresh_list {Lc : Addr → Prop} {q r : Addr} {H H' : Hp} {ys : List V} {ds : List PyData} (o : LOk Lc (some q) H) (b : But q H H') (hr : H r = none) (hr' : H' r = some (.lst ys)) (h : DtAll K (ctL Lc H) ys ds) : Res K .fresh Lc (some q) H H' (.ref r) (.py (.list ds)) := by
  have sr : SameR (ctL Lc H) (ctL (Ins Lc r) H') := fun c u hc => by
    obtain ⟨n, hu, t⟩ := ctL_of hc
    have hq : c ≠ q := fun e => n (e ▸ (o.str q rfl).1)
    have hcr : c ≠ r := fun e => by
      rw [e, hr] at hu
      cases hu
    exact ⟨u, ctL_at (b c u hq hu) (fun l => l.elim n hcr) t, .inl rfl⟩
  exact ⟨r, _, rfl, rfl, hr, .inl ⟨ys, ds, rfl, hr', Dt.sameRAll sr _ _ h⟩⟩
theorem fresh_same {Lc : Addr → Prop} {p : Option Addr} {r : Addr} {H H' : Hp} {ys : List V} {ds : List PyData} (o : LOk Lc p H) (b : Same H H') (hr : H r = none) (hr' : H' r = some (.lst ys)) (h : DtAll K (ctL Lc H) ys ds) : Res K .fresh Lc p H H' (.ref r) (.py (.list ds)) := by
  have sr : SameR (ctL Lc H) (ctL (Ins Lc r) H') := fun c u hc => by
    obtain ⟨n, hu, t⟩ := ctL_of hc
    have hcr : c ≠ r := fun e => by
      rw [e, hr] at hu
      cases hu
    exact ⟨u, ctL_at (b c u hu) (fun l => l.elim n hcr) t, .inl rfl⟩
  exact ⟨r, _, rfl, rfl, hr, .inl ⟨ys, ds, rfl, hr', Dt.sameRAll sr _ _ h⟩⟩
theorem strs_all {G : Hp} : ∀ (xs : List Str), DtAll K G (xs.map V.str) (xs.map PyData.str)
  | [] => .nil
  | x :: r => .cons (.str x) (strs_all r)
end
section
variable {X : Cx} {m mr : Mode} {CX : CXT} {k n : Nat} {f : Addr} {fd : FuncData} {ps ks : List Str} {g : WD} {fa fk : WA} {x C : Str} {q pos apos : Pos} {o e : Expr} {es : List Expr} {kws : List Keyword} {fo : WF}
theorem dpk_nil : PK X [] (tWA X.K m wNil) := by
  refine ⟨fun pos pins s σ H Q I h => ?_⟩
  obtain ⟨He, Lc, os, p, gs, ρ, P, E, hf, k⟩ := h
  exact pk_nil.run pos pins s σ H Q I (k [] H [] hf Stp.refl E.lokL .nil)
theorem dpk_cons {nm : Option Str} {kpos : Pos} {fr : WA} (ha : PE X e (tW X.K m fo)) (hr : PK X kws (tWA X.K m fr)) (hm : m ≠ .fresh := by decide) : PK X (⟨nm, e, kpos⟩ :: kws) (tWA X.K m (wCons fo fr)) := by
  refine ⟨fun pos pins s σ H Q I h => (pk_cons ha hr).run pos pins s σ H Q I ?_⟩
  obtain ⟨He, Lc, os, p, gs, ρ, P, E, hf, k⟩ := h
  refine ⟨He, Lc, os, p, gs, ρ, _, E, hf, fun a H1 v ha s o ra => ?_⟩
  refine ⟨He, Lc, os, p, gs, ρ, _, E.step s o, ha, fun es H2 vs hb s2 o2 rb => ?_⟩
  exact k _ H2 _ hb (s.trans s2) o2 (.cons (ra.step hm o s2) (Paired.mapP rb fun v e r => r.base s))
theorem paired_app {α β : Type} {R : α → β → Prop} : ∀ {xs ys : List α} {us vs : List β}, Paired R xs us → Paired R ys vs → Paired R (xs ++ ys) (us ++ vs)
  | _, _, _, _, .nil, h => h
  | _, _, _, _, .cons a t, h => .cons a (paired_app t h)
/-- o.m(e, .., k = v): the keywords' values stand behind the others -/
def wMethK (C m : Str) (g : WD) (n j : Nat) (fo : WF) (fa fk : WA) : WF := fun ρ P => fo ρ fun o => match o with
  | .ob C' fs => C' = C ∧ fs.lookup m = none ∧ fa ρ fun es => fk ρ fun zs => es.length = n ∧ zs.length = j ∧ g (.ob C' fs :: (es ++ zs)) P
  | _ => False
theorem dmethK {j : Nat} {pl : Sem Bool} {nm : Str} {gg : List Value → List Value → List Value} (c : Cls X.K (ga X.K C)) (hme : Meth X.K (ga X.K C) nm f) (F : FnOk X.prog X.w X.K X.mg X.base CX k f fd ps (spW X.K mr g)) (hr : Room k X.A) (hb : KBn X.K fd ps (n + 1) ks gg (fun vs zs => vs ++ zs)) (hx : Passes CX X E0) (he : PE X o (tW X.K .data fo)) (ha : PA X (e :: es) (tWA X.K .data fa)) (hkw : PK X kws (tWA X.K .data fk)) (hj : ks.length = j := by rfl) (hm : mr = .fresh ∨ mr = .data ∧ m ≠ .fresh := by decide)
    (hall : (backToKw pos (keywordEach kws X.env)).all (·.1.isSome) = true := by rfl) (hks : (backToKw pos (keywordEach kws X.env)).filterMap (·.1) = ks := by rfl) (hst : starEach (e :: es) X.env = (false, eval e X.env) :: starEach es X.env := by rfl)
    (hpl : ((backTo pos (starEach (e :: es) X.env)).any (·.1) || (backToKw pos (keywordEach kws X.env)).any (·.1.isNone)) = false := by rfl)
    (ht : eval (.Call (.Attribute o nm apos) (e :: es) kws pos) X.env = (do
      let ov ← eval o X.env
      standAt apos.atName
      let (fn, fst) ← holding [ov] (getMethod ov nm pl)
      callWith pos fn fst (backTo pos (starEach (e :: es) X.env)) (backToKw pos (keywordEach kws X.env))) := by rfl) : PE X (.Call (.Attribute o nm apos) (e :: es) kws pos) (tW X.K m (wMethK C nm g n j fo fa fk)) := by
  subst hj
  refine pe_mono (Mx.pe_methK (pl := pl) he c hme F hr hb hx ha hkw hall hks hst hpl ht) fun σ H Q q => ?_
  obtain ⟨He, Lc, os, p, gs, ρ, P, E, hf, k⟩ := q
  refine ⟨He, Lc, os, p, gs, ρ, _, E, hf, fun e H1 v he s o r => ?_⟩
  split at he
  · obtain ⟨rfl, hl, hfa⟩ := he
    have rd : Rv X.K p (ctL (Ls Lc os) H1) v (.ob _ _) := r
    obtain ⟨a, dx, vs, rfl, h3, h4, h5⟩ := id rd
    refine ⟨a, dx, vs, rfl, (ctL_of h3).2.1, look_none h4 hl, He, Lc, os, p, gs, ρ, _, E.step s o, hfa, fun es2 H2 vs2 hes s2 o2 r2 => ?_⟩
    refine ⟨He, Lc, os, p, gs, ρ, _, (E.step s o).step s2 o2, hes, fun es3 H3 vs3 hes3 s3 o3 r3 => ?_⟩
    obtain ⟨l1, l2, hg⟩ := hes3
    refine ⟨(paired_len r2).trans l1, (paired_len r3).trans l2, Ls Lc os, p, _, P, o3, ?_, hg, fun e H' v hP s' o' r' => k e H' v hP (((s.trans s2).trans s3).trans s') o' ((r'.to hm o3).base ((s.trans s2).trans s3))⟩
    show Paired _ (V.ref a :: (vs2 ++ vs3)) _
    refine .cons ((Rv.step (Rv.step rd o s2) o2 s3)) (paired_app (Paired.mapP r2 fun v e r => ?_) r3)
    exact Rv.step (show Rv X.K p (ctL (Ls Lc os) H2) v e from r) o2 s3
  · exact he.elim
/-- what a classmethod promises: the class comes first -/
def spC (K : PySem.W.Frag) (C : Str) (mr : Mode) (g : WD) : Sp := fun vs H Q E => ∃ rest, vs = .ref (ga K C) :: rest ∧ spW K mr g rest H Q E
def wCMethK (g : WD) (n j : Nat) (fa fk : WA) : WF := fun ρ P => fa ρ fun es => fk ρ fun zs => es.length = n ∧ zs.length = j ∧ g (es ++ zs) P
/-- C.m(e, .., k = v) -/
theorem dcmethK {j : Nat} {p g1 : Addr} {mc : Value} {nm : Str} {pl : Sem Bool} {gg : List Value → List Value → List Value} (hg : Gl X C) (hmg : X.mg C = some (.ref (ga X.K C))) (hkC : PySem.W.keepIn X.K (.ref (ga X.K C)) = true) (r : ClX.CRead X.K (ga X.K C) mc) (c : ClX.CMet X.K (ga X.K C) mc nm p g1) (F : FnOk X.prog X.w X.K X.mg X.base CX k g1 fd ps (spC X.K C mr g)) (hr : Room k X.A) (hb : KBn X.K fd ps (n + 1) ks gg (fun vs zs => vs ++ zs)) (hx : Passes CX X E0) (ha : PA X (e :: es) (tWA X.K .data fa)) (hkw : PK X kws (tWA X.K .data fk)) (hj : ks.length = j := by rfl) (hm : mr = .fresh ∨ mr = .data ∧ m ≠ .fresh := by decide) (hdb : (C == ("__debug__" : Str)) = false := by decide)
    (hall : (backToKw pos (keywordEach kws X.env)).all (·.1.isSome) = true := by rfl) (hks : (backToKw pos (keywordEach kws X.env)).filterMap (·.1) = ks := by rfl) (hst : starEach (e :: es) X.env = (false, eval e X.env) :: starEach es X.env := by rfl)
    (hpl : ((backTo pos (starEach (e :: es) X.env)).any (·.1) || (backToKw pos (keywordEach kws X.env)).any (·.1.isNone)) = false := by rfl)
    (ht : eval (.Call (.Attribute (.Name C q) nm apos) (e :: es) kws pos) X.env = (do
      let ov ← eval (.Name C q) X.env
      standAt apos.atName
      let (fn, fst) ← holding [ov] (getMethod ov nm pl)
      callWith pos fn fst (backTo pos (starEach (e :: es) X.env)) (backToKw pos (keywordEach kws X.env))) := by rfl) : PE X (.Call (.Attribute (.Name C q) nm apos) (e :: es) kws pos) (tW X.K m (wCMethK g n j fa fk)) := by
  subst hj
  refine pe_mono (Mx.pe_cmethK (pl := pl) (pe_glob hg hmg (show RelV (.ref (ga X.K C)) (Value.ref (ga X.K C)) from rfl) hdb) r c F hr hb hx ha hkw hall hks hst hpl ht) fun σ H Q q => ?_
  obtain ⟨He, Lc, os, p, gs, ρ, P, E, hf, k⟩ := q
  refine ⟨rfl, He, Lc, os, p, gs, ρ, _, E, hf, fun es2 H2 vs2 hes s2 o2 r2 => ?_⟩
  refine ⟨He, Lc, os, p, gs, ρ, _, E.step s2 o2, hes, fun es3 H3 vs3 hes3 s3 o3 r3 => ?_⟩
  obtain ⟨l1, l2, hg⟩ := hes3
  refine ⟨(paired_len r2).trans l1, (paired_len r3).trans l2, vs2 ++ vs3, rfl, Ls Lc os, p, _, P, o3, ?_, hg, fun e H' v hP s' o' r' => k e H' v hP ((s2.trans s3).trans s') o' ((r'.to hm o3).base (s2.trans s3))⟩
  exact paired_app (Paired.mapP r2 fun v e r => Rv.step (show Rv X.K p (ctL (Ls Lc os) H2) v e from r) o2 s3) r3
end
end Dw

/-! HeadX with defs that make lambdas: their empty tables are left out of what is written. -/
namespace Hx
open PySem PySem.Spec PyProof.Rows L2
open He (ga ma)
def obsT (ts : PySem.W.Frag → Bool) (fn : List He.DefD) (tf : List He.Defn) (g : Addr → Option Obj) (K : PySem.W.Frag) : He.AlD := ((ts K && He.tabsB g tf K) && fn.all fun d => d.ok K, fn.map fun d => He.fnW K d.at_)
def obsTG (n : Nat) (ts : PySem.W.Frag → Bool) (fn : List He.DefD) (tf : List He.Defn) (g : Addr → Option Obj) : He.AlD := obsT ts fn tf g (He.frT g (asX g n))
/-- what is told of the written part K and the heap h -/
structure SaysT (ts : PySem.W.Frag → Bool) (fn : List He.DefD) (tf : List He.Defn) (h : Heap) (K : PySem.W.Frag) : Prop where
  c : SaysX ts fn K
  hd : ∀ p ∈ tf, PySem.W.codeHdIn K (He.cT K p).1 (He.cT K p).2 = true
  out : ∀ p ∈ tf, K.lookup (He.cT K p).2 = none
  empty : ∀ p ∈ tf, h.get? (He.cT K p).2 = some { cls := .none, data := .fields #[] }
theorem saysT_of {n : Nat} {ts : PySem.W.Frag → Bool} {fn : List He.DefD} {tf : List He.Defn} {h : Heap} (e : obsTG n ts fn tf h.get? = He.valD fn) : SaysT ts fn tf h (He.frT h.get? (asX h.get? n)) := by
  unfold obsTG obsT at e
  have e1 := congrArg (fun z : He.AlD => z.1) e
  have e2 := congrArg (fun z : He.AlD => z.2) e
  generalize hK : He.frT h.get? (asX h.get? n) = K at e1 e2 ⊢
  obtain ⟨a1, a2⟩ := He.ba (show ((ts K && He.tabsB h.get? tf K) && fn.all fun d => d.ok K) = true from e1)
  obtain ⟨a3, a4⟩ := He.ba a1
  have key : ∀ p ∈ tf, PySem.W.codeHdIn K (He.cT K p).1 (He.cT K p).2 = true ∧ ∃ o, h.get? (He.cT K p).2 = some o ∧ He.emptyTab o = true := fun p hp => by
    obtain ⟨b1, b2⟩ := He.ba (List.all_eq_true.mp a4 p hp)
    refine ⟨b1, ?_⟩
    cases q : h.get? (He.cT K p).2 with
    | none =>
      rw [q] at b2
      cases b2
    | some o =>
      rw [q] at b2
      exact ⟨o, rfl, b2⟩
  refine ⟨Prod.ext ?_ e2, fun p hp => (key p hp).1, fun p hp => ?_, fun p hp => ?_⟩
  · show (ts K && fn.all fun d => d.ok K) = true
    rw [a3, a2] <;> rfl
  · obtain ⟨_, o, q, z⟩ := key p hp
    rw [← hK] at q ⊢
    exact He.frT_none q z
  · obtain ⟨_, o, q, z⟩ := key p hp
    rw [q, He.emptyTab_eq z]
def hookT (n : Nat) (ts : PySem.W.Frag → Bool) (fn : List He.DefD) (tf : List He.Defn) : PySem.W.Hook where
  α := He.AlD
  obs := fun s => obsTG n ts fn tf s.heap.get?
  val := fun _ => He.valD fn
  says := fun _ h => ∃ K : PySem.W.Frag, K.In h ∧ SaysT ts fn tf h K
  of := fun _ _ e => ⟨_, He.frT_in, saysT_of e⟩
  keeps := fun _ _ _ ⟨K, hK, c⟩ k => ⟨K, PySem.W.Frag.In.keeps hK k, ⟨c.c, c.hd, c.out, fun p hp => k _ _ (c.empty p hp)⟩⟩
theorem obsTG_eq {n : Nat} {ts : PySem.W.Frag → Bool} {fn : List He.DefD} {tf : List He.Defn} {g : Addr → Option Obj} {s : Shared} (h : ∀ a, g a = s.heap.get? a) : obsTG n ts fn tf g = (hookT n ts fn tf).obs s := by
  have e : g = s.heap.get? := funext h
  rw [e] <;> rfl
/-- the keyword-only default y of the def named x, an object -/
def kwA (x y : Str) (K : PySem.W.Frag) : Addr := match K.lookup (ga K x) with
  | some ⟨_, _, .func fd, _⟩ => (match fd.kwdefaults with
    | .ref D => (match PySem.W.nsIn K D y with
      | some (some (.ref a)) => a
      | _ => 0)
    | _ => 0)
  | _ => 0
/-- an empty tuple stands at a -/
def emB (K : PySem.W.Frag) (a : Addr) : Bool := match K.lookup a with
  | some ⟨.type c, _, .seq its _, _⟩ => decide (c = "tuple") && its.isEmpty
  | _ => false
theorem emB_ok {K : PySem.W.Frag} {a : Addr} (h : emB K a = true) (H : Hp) : SqT K H a [] := by
  unfold emB at h
  split at h
  · rename_i c dd its n sl q
    obtain ⟨h1, h2⟩ := He.ba h
    have e := Array.isEmpty_iff.mp h2
    subst e
    exact .inr ⟨_, #[], n, q, congrArg Value.type (of_decide_eq_true h1), rfl, Nat.zero_le _, .nil⟩
  · cases h
def exB (K : PySem.W.Frag) (x y : Str) (b : Bool) : Bool := decide (PySem.W.exmOne K (.ref (ga K x)) (.ref (ga K y)) = some b)
def iniB (K : PySem.W.Frag) (b i : String) : Bool := match PySem.W.findCls K (.type b) (.type "type") "__init__" with
  | some (.val (.builtin j)) => j == i
  | _ => false
/-- the class named x: derived without an own __init__ from ValueError -/
def msgB (K : PySem.W.Frag) (x : Str) : Bool := PySem.W.excIn K (ga K x) He.veBase "ValueError.__new__" && (PySem.W.keepIn K (.ref (ga K x)) && decide (PySem.W.typeIn K (.ref (ga K x)) = some (.type "type")))
end Hx

/-! A head with tests of one's own and defs at any address: classes, properties, classmethods. -/
namespace Hy
open PySem PySem.Spec PyProof.Rows L2
open He (ga ma)
open He5 (DefA fnA wf)
def asP (g : Addr → Option Obj) (n : Nat) : List Addr := Hx.asX g n ++ [cStatics]
def obsP (ts : PySem.W.Frag → Bool) (fn : List DefA) (K : PySem.W.Frag) : He.AlD := (ts K && fn.all fun d => d.ok K, fn.map fun d => fnA K (d.at_ K))
def SaysP (ts : PySem.W.Frag → Bool) (fn : List DefA) (K : PySem.W.Frag) : Prop := obsP ts fn K = He5.valA fn
def obsPG (n : Nat) (ts : PySem.W.Frag → Bool) (fn : List DefA) (g : Addr → Option Obj) : He.AlD := obsP ts fn (He.frG g (asP g n))
def hookP (n : Nat) (ts : PySem.W.Frag → Bool) (fn : List DefA) : PySem.W.Hook where
  α := He.AlD
  obs := fun s => obsPG n ts fn s.heap.get?
  val := fun _ => He5.valA fn
  says := fun _ h => ∃ K : PySem.W.Frag, K.In h ∧ SaysP ts fn K
  of := fun _ _ e => ⟨_, He.frG_in, e⟩
  keeps := fun _ _ _ ⟨K, hK, c⟩ k => ⟨K, PySem.W.Frag.In.keeps hK k, c⟩
theorem obsPG_eq {n : Nat} {ts : PySem.W.Frag → Bool} {fn : List DefA} {g : Addr → Option Obj} {s : Shared} (h : ∀ a, g a = s.heap.get? a) : obsPG n ts fn g = (hookP n ts fn).obs s := by
  have e : g = s.heap.get? := funext h
  rw [e] <;> rfl
section
variable {ts : PySem.W.Frag → Bool} {fn : List DefA} {K : PySem.W.Frag}
theorem SaysP.test (c : SaysP ts fn K) : ts K = true :=
  (He.ba (show (ts K && fn.all fun d => d.ok K) = true from congrArg (fun z : He.AlD => z.1) c)).1
theorem SaysP.def_ (c : SaysP ts fn K) (i : Nat) {d : DefA} (h : fn[i]? = some d := by rfl) : ∃ fd, FunD K d.name d.qual d.params d.body d.scope (d.dvs K) (d.kws K) (d.at_ K) fd := by
  have c2 := (He.ba (show (ts K && fn.all fun d => d.ok K) = true from congrArg (fun z : He.AlD => z.1) c)).2
  have e : fn.map (fun d => fnA K (d.at_ K)) = fn.map DefA.val := congrArg (fun z : He.AlD => z.2) c
  have e2 : (fn.map fun d => fnA K (d.at_ K))[i]? = (fn.map DefA.val)[i]? := by rw [e]
  rw [List.getElem?_map, List.getElem?_map, h] at e2
  exact DefA.funD (Option.some.inj e2) (List.all_eq_true.mp c2 d (List.mem_of_getElem? h))
end
/-! ### tests -/
def clB (K : PySem.W.Frag) (x : Str) : Bool := (He.Fa.cls x).ok K
theorem clB_ok {K : PySem.W.Frag} {x : Str} (h : clB K x = true) : Cls K (ga K x) := by
  obtain ⟨h1, h⟩ := He.ba (show (PySem.W.plainGet K (ga K x) Str.empty && (PySem.W.hasDictIn K (ga K x) && (PySem.W.plainOver K (ga K x) && He.eqO (PySem.W.findIn K (.ref (ga K x)) "__setattr__") (some (some (.builtin "object.__setattr__")))))) = true from h)
  obtain ⟨h2, h⟩ := He.ba h
  obtain ⟨h3, h4⟩ := He.ba h
  exact ⟨h1, h2, h3, He.eqO_ok h4⟩
def mkB (K : PySem.W.Frag) (x : Str) : Bool := (He.Fa.mkr x).ok K
theorem mkB_ok {K : PySem.W.Frag} {x : Str} (h : mkB K x = true) : Mk K (ga K x) (ma K (ga K x) "__init__") := by
  obtain ⟨h1, h⟩ := He.ba (show (PySem.W.makesIn K (ga K x) && (He.eqO (PySem.W.findIn K (.ref (ga K x)) "__init__") (some (some (.ref (ma K (ga K x) "__init__")))) && (PySem.W.isFn K (.ref (ma K (ga K x) "__init__")) && PySem.W.keepIn K (.ref (ga K x))))) = true from h)
  obtain ⟨h2, h⟩ := He.ba h
  obtain ⟨h3, h4⟩ := He.ba h
  exact ⟨h1, He.eqO_ok h2, h3, h4⟩
def inB (K : PySem.W.Frag) (x : Str) : Bool :=
  clB K x && (Hx.eqF K (ga K x) "__class__" (some (.builtin "object.__class__")) && (decide (PySem.W.specialIn K (.builtin "object.__class__") "__get__" = some (some (.builtin "getset_descriptor.__get__"))) &&
    (decide (PySem.W.takesIn K (.builtin "object.__class__") = some true) && (decide (PySem.W.mroIn K (ga K x) (.type "object") = some true) && decide (PySem.W.kitOne K (.ref (ga K x)) (.ref (ga K x)) = some true)))))
theorem inB_ok {K : PySem.W.Frag} {x : Str} (h : inB K x = true) : C8.InsC K (ga K x) := by
  obtain ⟨h1, h⟩ := He.ba h
  obtain ⟨h2, h⟩ := He.ba h
  obtain ⟨h3, h⟩ := He.ba h
  obtain ⟨h4, h⟩ := He.ba h
  obtain ⟨h5, h6⟩ := He.ba h
  exact ⟨clB_ok h1, of_decide_eq_true h2, of_decide_eq_true h3, of_decide_eq_true h4, of_decide_eq_true h5, of_decide_eq_true h6⟩
/-- no class of it has these names -/
def naB (K : PySem.W.Frag) (x : Str) (fs : List Str) : Bool := fs.all fun f => Hx.eqF K (ga K x) f none
theorem naB_ok {K : PySem.W.Frag} {x : Str} {fs : List Str} (h : naB K x fs = true) {f : Str} (hf : f ∈ fs) : NoAttr K (ga K x) f := by
  show PySem.W.findIn K (.ref (ga K x)) f = some none
  exact of_decide_eq_true (show decide (PySem.W.findIn K (.ref (ga K x)) f = some none) = true from List.all_eq_true.mp h f hf)
/-- plain methods -/
def meB (K : PySem.W.Frag) (x : Str) (fs : List Str) : Bool := fs.all fun f => (He.Fa.meth x f).ok K
theorem meB_ok {K : PySem.W.Frag} {x : Str} {fs : List Str} (h : meB K x fs = true) {f : Str} (hf : f ∈ fs) : Meth K (ga K x) f (ma K (ga K x) f) := by
  have h0 := List.all_eq_true.mp h f hf
  obtain ⟨h1, h⟩ := He.ba (show (He.eqO (PySem.W.findIn K (.ref (ga K x)) f) (some (some (.ref (ma K (ga K x) f)))) && (PySem.W.isFn K (.ref (ma K (ga K x) f)) && PySem.W.keepIn K (.ref (ma K (ga K x) f)))) = true from h0)
  obtain ⟨h2, h3⟩ := He.ba h
  exact ⟨He.eqO_ok h1, h2, h3⟩
/-- a constant of the class, an int -/
def coB (K : PySem.W.Frag) (x f : Str) (i : Int) : Bool := match PySem.W.findIn K (.ref (ga K x)) f with
  | some (some (.int j t)) => decide (j = i) && (decide (PySem.W.specialIn K (.int j t) "__get__" = some none) && !(PySem.W.copiedNames.contains f))
  | _ => false
theorem coB_ok {K : PySem.W.Frag} {x f : Str} {i : Int} (h : coB K x f i = true) : ∃ t, Con K (ga K x) f (.int i) (.int i t) := by
  unfold coB at h
  split at h
  · rename_i j t e
    obtain ⟨h1, h⟩ := He.ba h
    obtain ⟨h2, h3⟩ := He.ba h
    have hj := of_decide_eq_true h1
    subst hj
    exact ⟨t, e, ⟨t, rfl⟩, of_decide_eq_true h2, by simpa using h3⟩
  · cases h
/-- properties -/
def prB (K : PySem.W.Frag) (x : Str) (fs : List Str) : Bool := fs.all fun f => Hx.eqF K (ga K x) f (some (.ref (ma K (ga K x) f))) && (decide (PySem.W.specialIn K (.ref (ma K (ga K x) f)) "__get__" = some (some (.builtin "property.__get__"))) &&
  (decide (PySem.W.takesIn K (.ref (ma K (ga K x) f)) = some true) && (match PySem.W.recIn K (ma K (ga K x) f) "property" with
    | some (.ref _ :: _) => true
    | _ => false)))
theorem prB_ok {K : PySem.W.Frag} {x : Str} {fs : List Str} (h : prB K x fs = true) {f : Str} (hf : f ∈ fs) : PropOf K (ga K x) f (ma K (ga K x) f) (wf K (ga K x) "property" f) := by
  obtain ⟨h1, h⟩ := He.ba (List.all_eq_true.mp h f hf)
  obtain ⟨h2, h⟩ := He.ba h
  obtain ⟨h3, h4⟩ := He.ba h
  refine ⟨of_decide_eq_true h1, of_decide_eq_true h2, of_decide_eq_true h3, ?_⟩
  unfold wf
  split at h4
  · rename_i g r e
    exact ⟨r, by rw [e]⟩
  · cases h4
/-- a classmethod of the class -/
def cmB (K : PySem.W.Frag) (x m : Str) : Bool := He5.wrapB K (ga K x) "classmethod" "classmethod.__get__" m && (PySem.W.fnIn K (wf K (ga K x) "classmethod" m) && (PySem.W.readsIn K (ga K x) (.type "type") && decide (PySem.W.specialIn K (.ref (ga K x)) "__getattribute__" = some (some (.builtin "type.__getattribute__")))))
theorem cmB_ok {K : PySem.W.Frag} {x m : Str} (h : cmB K x m = true) : ClX.CRead K (ga K x) (.type "type") ∧ ClX.CMet K (ga K x) (.type "type") m (ma K (ga K x) m) (wf K (ga K x) "classmethod" m) := by
  obtain ⟨h1, h⟩ := He.ba h
  obtain ⟨h2, h⟩ := He.ba h
  obtain ⟨h3, h4⟩ := He.ba h
  exact ⟨⟨h3, of_decide_eq_true h4⟩, He5.cmet_of h1 h2⟩
end Hy

namespace K14
open PySem PySem.Spec PyProof.Rows L2
open He (ga ma)
open He5 (DefA wf)
def top (i : Nat) : Stmt := PySem.Challenge.pw_pagewise_k14_neighbours_and_homes.main.body.getD i (.Pass ⟨0, 0, 0, 0⟩)
abbrev iForm : Stmt := inClass (top 11) 0
abbrev iQuery : Stmt := inClass (top 18) 2
abbrev iOf : Stmt := inClass (top 18) 3
abbrev iAtoms : Stmt := inClass (top 18) 6
abbrev iColumns : Stmt := inClass (top 18) 7
abbrev iWith : Stmt := inClass (top 18) 15
abbrev iHas : Stmt := inClass (top 18) 22
abbrev sIsName : Stmt := top 9
abbrev sForm : Stmt := top 12
abbrev sColsOf : Stmt := top 13
abbrev sAtoms : Stmt := top 14
abbrev sNames : Stmt := top 15
abbrev sSomeOf : Stmt := top 16
abbrev sChkQ : Stmt := top 19
abbrev sChkC : Stmt := top 20
abbrev sNear : Stmt := top 22
abbrev sHome : Stmt := top 23
abbrev sHomeOf : Stmt := top 24
abbrev sBeside : Stmt := top 25
abbrev sStream : Stmt := top 27
abbrev sDraw : Stmt := top 28
abbrev sPick : Stmt := top 29
abbrev sMixed : Stmt := top 30
abbrev sSome : Stmt := top 31
abbrev sNamesL : Stmt := top 32
abbrev sTree : Stmt := top 33
abbrev sAny : Stmt := top 34
abbrev sRound : Stmt := top 35
abbrev sQuery : Stmt := top 36
abbrev sBuilt : Stmt := top 37
abbrev sCols : Stmt := top 38
abbrev sIsNear : Stmt := top 39
abbrev sHave : Stmt := top 40
abbrev sRight : Stmt := top 41
abbrev sLaw : Stmt := top 42
def aM (C m : Str) (K : PySem.W.Frag) : Addr := ma K (ga K C) m
def aC (C m : Str) (K : PySem.W.Frag) : Addr := wf K (ga K C) "classmethod" m
def aP (C m : Str) (K : PySem.W.Frag) : Addr := wf K (ga K C) "property" m
/-- the i-th default, the keyword-only default x of the def at a, objects -/
def dfA (a : PySem.W.Frag → Addr) (i : Nat) (K : PySem.W.Frag) : Addr := match K.lookup (a K) with
  | some ⟨_, _, .func fd, _⟩ => (match fd.defaults with
    | .ref T => (match K.lookup T with
      | some ⟨_, _, .seq its _, _⟩ => (match its.toList[i]? with
        | some (.ref a) => a
        | _ => 0)
      | _ => 0)
    | _ => 0)
  | _ => 0
def kwO (a : PySem.W.Frag → Addr) (x : Str) (K : PySem.W.Frag) : Addr := match K.lookup (a K) with
  | some ⟨_, _, .func fd, _⟩ => (match fd.kwdefaults with
    | .ref D => (match PySem.W.nsIn K D x with
      | some (some (.ref b)) => b
      | _ => 0)
    | _ => 0)
  | _ => 0
def dA (a : PySem.W.Frag → Addr) (x q : Str) (st : Stmt) (dfl : List He.Dv := []) (kwd : List (Str × He.Dv) := []) : DefA := ⟨a, x, q, defArgs st, defBody st, defScope st, dfl, kwd⟩
def dF (x : Str) (st : Stmt) : DefA := dA (fun K => ga K x) x x st
def fn : List DefA := [dA (aM "Form" "__init__") "__init__" "Form.__init__" iForm, dA (aM "Query" "__init__") "__init__" "Query.__init__" iQuery [.adr (dfA (aM "Query" "__init__") 0)] [("down", .adr (kwO (aM "Query" "__init__") "down"))], dA (aC "Query" "of") "of" "Query.of" iOf [] [("down", .adr (kwO (aC "Query" "of") "down"))], dA (aP "Query" "atoms") "atoms" "Query.atoms" iAtoms, dA (aP "Query" "columns") "columns" "Query.columns" iColumns, dA (aM "Query" "with_shown_of") "with_shown_of" "Query.with_shown_of" iWith [] [("down", .adr (kwO (aM "Query" "with_shown_of") "down"))], dA (aM "Query" "__contains__") "__contains__" "Query.__contains__" iHas, dF "is_name" sIsName, dF "checked_form" sForm, dF "columns_of" sColsOf, dF "are_atoms" sAtoms, dF "are_names" sNames, dF "are_some_of" sSomeOf, dF "check_query" sChkQ, dF "check_column" sChkC, dF "neighbours" sNear, dF "home" sHome, dF "home_of" sHomeOf, dF "beside" sBeside, dF "_law_stream" sStream, dF "_law_draw" sDraw, dF "_law_pick" sPick, dF "_law_mixed" sMixed, dF "_law_some" sSome, dF "_law_names" sNamesL, dF "_law_tree_atoms" sTree, dF "_law_any_atoms" sAny, dF "_law_round_atoms" sRound, dF "_law_query" sQuery, dF "_law_built" sBuilt, dF "_law_columns" sCols, dF "_law_is_near" sIsNear, dF "_law_have" sHave, dF "_law_right" sRight, dF "law" sLaw]
def cn : List Str := ["Form", "Query"]
def pn : List Str := ["is_name", "checked_form", "columns_of", "are_atoms", "are_names", "are_some_of", "check_query", "check_column", "neighbours", "home", "home_of", "beside"]
def ln : List Str := ["_law_stream", "_law_draw", "_law_pick", "_law_mixed", "_law_some", "_law_names", "_law_tree_atoms", "_law_any_atoms", "_law_round_atoms", "_law_query", "_law_built", "_law_columns", "_law_is_near", "_law_have", "_law_right"]
def bn : List Str := ["isinstance", "str", "len", "all", "tuple", "sorted", "dict", "set", "list", "int", "abs", "max", "min", "range", "zip", "repr"]
def gn : List Str := cn ++ (pn ++ ln)
def t1 (K : PySem.W.Frag) : Bool := Hx.gloB K ("law" :: gn) && (Hx.freeB K bn && (He.Fa.int "MAX_LETTERS" 8).ok K)
def fsF : List Str := ["shown_columns", "down_columns", "atom_columns", "all_columns"]
def fsQ : List Str := ["_shown", "_down", "_atoms", "_columns"]
def t2 (K : PySem.W.Frag) : Bool := Hy.inB K "Form" && (Hy.mkB K "Form" && Hy.naB K "Form" fsF)
def t3 (K : PySem.W.Frag) : Bool := Hy.inB K "Query" && (Hy.mkB K "Query" && Hy.naB K "Query" fsQ)
def t4 (K : PySem.W.Frag) : Bool := Hy.coB K "Query" "MAX_ATOMS" 10 && (Hy.coB K "Query" "MAX_COLUMNS" 10 && (Hy.meB K "Query" ["with_shown_of", "__contains__"] && (Hy.prB K "Query" ["atoms", "columns"] && Hy.cmB K "Query" "of")))
def t5 (K : PySem.W.Frag) : Bool := Hx.emB K (dfA (aM "Query" "__init__") 0 K) && (Hx.emB K (kwO (aM "Query" "__init__") "down" K) && (Hx.emB K (kwO (aC "Query" "of") "down" K) && Hx.emB K (kwO (aM "Query" "with_shown_of") "down" K)))
def ts (K : PySem.W.Frag) : Bool := t1 K && (t2 K && (t3 K && (t4 K && (t5 K && Hx.sysB K))))
abbrev R : PySem.W.OpenRow := PySem.W.OpenLaw.row PySem.Challenge.rw_pagewise_k14_neighbours_and_homes
abbrev hk : PySem.W.Hook := Hy.hookP 6 ts fn
def ob (s : PySem.W.SharedT) : He.AlD := Hy.obsPG 6 ts fn (HandSHeadRun.getT s)
theorem ob_eq (s : PySem.W.SharedT) : ob s = hk.obs s.abs := Hy.obsPG_eq (HandSHeadRun.getT_eq s)
def loose : List Str := "MAX_LETTERS" :: ((["PageError", "InvalidQuery", "InvalidOperation", "UnknownName", "TooMany", "_wall"] : List Str) ++ gn)
theorem run (w : World) : HandSHeadRun.RunEq R (PySem.W.view R.prog [42]) hk ob 4000 loose w := by
  intro os
  kernel_rfl
end K14

/-! tuple * int, once or not at all. -/
namespace Tp
open PySem PySem.Spec PyProof.Rows L2
open AutoSeq1 (wpAny_loadPart')
theorem noFillT : fillsNumberSlot (.type "tuple") "mul" = pure false :=
  PySem.fillsNumberSlot_seq (id := "tuple.__mul__") (r := some (.builtin "tuple.__rmul__")) PySem.F.slot_tuple_mul.lookup (by decide +kernel) PySem.F.slot_tuple_rmul.lookup (by decide +kernel)
theorem repT : seqRepeat? (.type "tuple") = pure (some (.builtin "tuple.__mul__")) := by
  unfold seqRepeat?
  rw [PySem.seqSlot_of (T := "tuple") (name := "__mul__") (id := "tuple.__mul__") PySem.F.slot_tuple_mul.lookup (by decide +kernel)]
  rw [PySem.seqSlot_of (T := "tuple") (name := "__rmul__") (id := "tuple.__rmul__") PySem.F.slot_tuple_rmul.lookup (by decide +kernel)]
  rfl
theorem rmulT (k : Int) (u : Tok) (t : Addr) (items : Array Value) (n : Nat) (dd : Option Addr) (sl : Array (Option Value)) :
    Meets (Builtin.«int.__rmul__» ⟨[.int k u, .ref t], []⟩) (fun _ R s => s.heap.get? t = some { cls := .type "tuple", dict := dd, data := .seq items n, slots := sl } ∧ R (.ok (.ret Value.notImplemented)) s) :=
  .of_wp fun prog w A R s h => by
    obtain ⟨hp, g, d, tk, os⟩ := s
    obtain ⟨ht, q⟩ := h
    wp_walk using wpAny_loadPart' ht
    exact ⟨_, rfl, q⟩
/-- once: the tuple itself -/
theorem mulT1 (t : Addr) (items : Array Value) (n : Nat) (dd : Option Addr) (sl : Array (Option Value)) (u : Tok) :
    Meets (Builtin.«tuple.__mul__» ⟨[.ref t, .int 1 u], []⟩) (fun _ R s => s.heap.get? t = some { cls := .type "tuple", dict := dd, data := .seq items n, slots := sl } ∧ R (.ok (.ret (.ref t))) s) :=
  .of_wp fun prog w A R s h => by
    obtain ⟨hp, g, d, tk, os⟩ := s
    obtain ⟨ht, q⟩ := h
    have f1 := AutoSeq1.idx_int
    have c1 : (items.isEmpty || (1 : Int) == 1) = true := by simp
    wp_walk using wpAny_loadPart' ht
    repeat (first
      | (refine wpAny_ite_true (decide_eq_true c1) ?_; wp_walk using wpAny_loadPart' ht)
      | (refine wpAny_ite_true (by simp) ?_; wp_walk using wpAny_loadPart' ht))
    exact ⟨_, rfl, q⟩
/-- not at all: a new empty tuple -/
theorem mulT0 (t : Addr) (items : Array Value) (n : Nat) (dd : Option Addr) (sl : Array (Option Value)) (k : Int) (u : Tok) (hk : k ≤ 0) (hk2 : -(2 ^ 63) ≤ k) (hi : items.isEmpty = false) :
    Meets (Builtin.«tuple.__mul__» ⟨[.ref t, .int k u], []⟩) (fun _ R s => s.heap.get? t = some { cls := .type "tuple", dict := dd, data := .seq items n, slots := sl } ∧
      R (.ok (.ret (.ref s.heap.objs.size))) { s with heap := s.heap.push { cls := .type "tuple", data := .seq #[] } }) :=
  .of_wp fun prog w A R s h => by
    obtain ⟨hp, g, d, tk, os⟩ := s
    obtain ⟨ht, q⟩ := h
    have f1 := AutoSeq1.idx_int
    have c0 : (decide (k < -(2 ^ 63)) || decide (k ≥ 2 ^ 63)) = false := by
      rw [decide_eq_false (by omega), decide_eq_false (by omega)] <;> rfl
    have c1 : (items.isEmpty || k == 1) = false := by
      rw [hi, Bool.false_or]
      exact beq_eq_false_iff_ne.mpr (by omega)
    have c2 : (decide (k ≤ 0) || items.isEmpty) = true := by
      rw [decide_eq_true hk] <;> rfl
    wp_walk using wpAny_loadPart' ht
    repeat (first
      | (refine wpAny_ite_false (decide_eq_false (by rw [c0]; exact Bool.false_ne_true)) ?_; wp_walk using wpAny_loadPart' ht)
      | (refine wpAny_ite_false (decide_eq_false (by rw [c1]; exact Bool.false_ne_true)) ?_; wp_walk using wpAny_loadPart' ht)
      | (refine wpAny_ite_true (decide_eq_true c2) ?_; wp_walk using wpAny_loadPart' ht))
    exact ⟨_, rfl, q⟩
/-- t * k, t of at least one item, k at most 1 -/
def rRep1 (K : PySem.W.Frag) : R2 := fun x y H Q => ∃ t k xs, x = .ref t ∧ y = .int k ∧ SqT K H t xs ∧ xs ≠ [] ∧ -(2 ^ 63) ≤ k ∧ k ≤ 1 ∧ (k = 1 → Q (.ref t) H) ∧ (k ≤ 0 → ∀ p, H p = none → Q (.ref p) (upd H p (.tup [])))
theorem op_rep1 {X : Cx} : OpR X (binaryOp .Mult) (rRep1 X.K) := by
  intro pins s σ H x y v u Q I rx ry h
  obtain ⟨t, k, xs, rfl, rfl, hT, hne, hb, h1, q1, q0⟩ := h
  cases rx
  obtain ⟨tk, rfl⟩ := ry
  obtain ⟨its, r, ⟨⟨cls, dd, data, sl⟩, ho, hc, n, hd⟩, hs⟩ := I.tuple hT
  dsimp only at hc hd
  subst hc hd
  have hi : its.toArray.isEmpty = false := by
    cases its with
    | nil =>
      cases r
      exact absurd rfl hne
    | cons a b => rfl
  have go : ∀ {R : Value → Shared → Prop}, wpAny (model X.prog X.w) X.A (call (.builtin "tuple.__mul__") [.ref t, .int k tk]) R X.xe s → wpAny (model X.prog X.w) X.A (binaryOp .Mult (.ref t) (.int k tk)) R X.xe s := fun z =>
    wpAny_binaryOp_repeat_ref (T := "tuple") (U := "int") (by decide) ⟨_, ho, rfl⟩ (fun s' => typeIs_int s' k tk) noFillT F.fills_int_mul F.slot_int_rmul repT F.slot_int_index.lookup
      (call_meets F.slot_int_rmul (typeIs_int s k tk) F.entry_int_rmul (F.args_int_rmul_2 _ _) (rmulT k tk t its.toArray n dd sl) ⟨ho, rfl, ⟨_, ho, rfl⟩, z⟩)
  by_cases e : k = 1
  · subst e
    exact go (call_meets F.slot_tuple_mul ⟨_, ho, rfl⟩ F.entry_tuple_mul (F.args_tuple_mul_2 _ _) (mulT1 t its.toArray n dd sl tk) ⟨ho, ⟨.ref t, H, I, rfl, q1 rfl⟩⟩)
  · refine go (call_meets F.slot_tuple_mul ⟨_, ho, rfl⟩ F.entry_tuple_mul (F.args_tuple_mul_2 _ _) (mulT0 t its.toArray n dd sl k tk (by omega) hb hi) ⟨ho, ?_⟩)
    have new : ObjOk X.prog X.w (upd H s.heap.objs.size (.tup [])) (s.heap.push { cls := .type "tuple", data := .seq #[] }) s.heap.objs.size (.tup []) :=
      ⟨by show 0 ≤ sizeLine; decide, [], .nil, ⟨_, Heap.get?_push_size _ rfl, rfl, _, rfl⟩⟩
    have I1 := I.laid (t' := s.toks) (fun b o e => Heap.get?_push_of_some _ e) (Nat.le_refl _) new
    exact ⟨.ref s.heap.objs.size, _, I1, rfl, q0 (by omega) _ (I.hok.fresh (Nat.le_refl _))⟩
end Tp

/-! a dict != a tuple; data != data, a dict on the left against a tuple; tuple * int of any number. -/
namespace Tp
open PySem PySem.Spec PyProof.Rows L2 Rp
open AutoSeq1 (wpAny_loadPart')
theorem neDT (d t : Addr) (es : Array DictEntry) (ep : Nat) (items : Array Value) (n : Nat) (dd dd2 : Option Addr) (sl sl2 : Array (Option Value)) :
    Meets (Builtin.«dict.__ne__» ⟨[.ref d, .ref t], []⟩) (fun _ R s => s.heap.get? d = some { cls := .type "dict", dict := dd, data := .dict es ep, slots := sl } ∧ s.heap.get? t = some { cls := .type "tuple", dict := dd2, data := .seq items n, slots := sl2 } ∧ R (.ok (.ret .notImplemented)) s) :=
  .of_wp fun prog w A R s h => by
    obtain ⟨hp, g, dr, tk, os⟩ := s
    obtain ⟨hd, ht, q⟩ := h
    have f1 := F.sub_tuple_dict
    wp_walk using wpAny_loadPart' hd, wpAny_loadPart' ht
    exact ⟨_, rfl, q⟩
theorem neTD (d t : Addr) (es : Array DictEntry) (ep : Nat) (items : Array Value) (n : Nat) (dd dd2 : Option Addr) (sl sl2 : Array (Option Value)) :
    Meets (Builtin.«tuple.__ne__» ⟨[.ref t, .ref d], []⟩) (fun _ R s => s.heap.get? d = some { cls := .type "dict", dict := dd, data := .dict es ep, slots := sl } ∧ s.heap.get? t = some { cls := .type "tuple", dict := dd2, data := .seq items n, slots := sl2 } ∧ R (.ok (.ret .notImplemented)) s) :=
  .of_wp fun prog w A R s h => by
    obtain ⟨hp, g, dr, tk, os⟩ := s
    obtain ⟨hd, ht, q⟩ := h
    have f1 := F.sub_dict_tuple
    wp_walk using wpAny_loadPart' hd, wpAny_loadPart' ht
    exact ⟨_, rfl, q⟩
/-- a tracked dict != a tuple -/
def rNeDT (K : PySem.W.Frag) : R2 := fun x y H Q => ∃ a b kvs ys, x = .ref a ∧ y = .ref b ∧ Rd H a (.dK kvs) ∧ SqT K H b ys ∧ Q (.bl true) H
theorem op_neDT {X : Cx} (hu : X.A.units < cLine) : OpR X (compareOp .NotEq) (rNeDT X.K) := by
  intro pins s σ H x y v u Q I rx ry h
  obtain ⟨a, b, kvs, ys, rfl, rfl, ha, hb, q⟩ := h
  cases rx
  cases ry
  obtain ⟨_, hsy, vs, rk, o, es, ep, ho, hx, hd, _⟩ := dk_rd I.hok ha
  obtain ⟨its, r, ⟨⟨cls2, dd2, data2, sl2⟩, ho2, hc2, n2, hd2⟩, hz⟩ := I.tuple hb
  obtain ⟨cls, dd, data, sl⟩ := o
  have hc : cls = .type "dict" := hx.1
  dsimp only at hd hc2 hd2
  subst hc hd hc2 hd2
  have ne : a ≠ b := fun e => by
    subst e
    rw [ho] at ho2
    have z : Value.type "dict" = Value.type "tuple" := congrArg Obj.cls (Option.some.inj ho2)
    exact absurd (Value.type.inj z) (by decide)
  exact (SeqAt.rc_ne_decline_or (k := false) ⟨_, ho, rfl⟩ ⟨_, ho2, rfl⟩ (by decide) F.sub_tuple_dict F.slot_dict_ne F.slot_tuple_ne_refl
    (fun _ hq => call_meets F.slot_dict_ne ⟨_, ho, rfl⟩ F.entry_dict_ne (F.args_dict_ne_2 _ _) (neDT a b es ep its.toArray n2 dd dd2 sl sl2) ⟨ho, ho2, hq⟩)
    (fun _ hq => call_meets F.slot_tuple_ne_refl ⟨_, ho2, rfl⟩ F.entry_tuple_ne (F.args_tuple_ne_2 _ _) (neTD a b es ep its.toArray n2 dd dd2 sl sl2) ⟨ho, ho2, hq⟩)
    (fun _ hq => wpAny_isSame_ref_other ne ho ho2 (by simp) hq) (.inr hu) ⟨.bl true, H, I, rfl, q⟩)
/-- data != data where either both can be laid, or a dict stands against a tuple -/
def rNeA (K : PySem.W.Frag) : R2 := fun x y H Q => rNeD K x y H Q ∨ rNeDT K x y H Q
theorem op_neA {X : Cx} (hu : X.A.units + 64 < cLine) : OpR X (compareOp .NotEq) (rNeA X.K) := by
  intro pins s σ H x y v u Q I rx ry h
  rcases h with h | h
  · exact op_neD hu pins s σ H x y v u Q I rx ry h
  · exact op_neDT (by omega) pins s σ H x y v u Q I rx ry h
/-- data != (), where it is not () -/
def rNeE (K : PySem.W.Frag) : R2 := fun x y H Q => ∃ (d : PyData) (b : Addr), y = .ref b ∧ Dt K H x d ∧ SqT K H b [] ∧ d ≠ .tuple [] ∧ Q (.bl true) H
theorem op_neE {X : Cx} (hu : X.A.units < cLine) : OpR X (compareOp .NotEq) (rNeE X.K) := by
  intro pins s σ H x y v u Q I rx ry h
  obtain ⟨d, b, rfl, hd, hb, hne, q⟩ := h
  have ry' := ry
  obtain rfl : u = Value.ref b := ry'
  obtain ⟨its, r, pt, hz⟩ := I.tuple hb
  cases r
  have ht : s.heap.IsTuple b #[] := pt
  have fin : EP X pins σ Q (.bool true) s := ⟨.bl true, H, I, rfl, q⟩
  cases d with
  | none =>
    cases hd
    obtain rfl : v = Value.none := rx
    exact SeqAt.RcNeAt.none_tuple ht hu _ _ _ _ fin
  | bool c =>
    cases hd
    obtain rfl : v = Value.bool c := rx
    exact SeqAt.RcNeAt.bool_tuple c ht hu _ _ _ _ fin
  | int i =>
    cases hd
    obtain ⟨t, rfl⟩ := rx
    exact SeqAt.RcNeAt.int_tuple i t ht hu _ _ _ _ fin
  | str z =>
    cases hd
    obtain ⟨t, rfl⟩ := rx
    exact SeqAt.RcNeAt.str_tuple z t ht hu _ _ _ _ fin
  | list ds =>
    cases hd with
    | lstR h1 h2 =>
      rename_i a xs
      obtain rfl : v = Value.ref a := rx
      obtain ⟨js, _, ⟨o, n, ho, hc, _, hd⟩, _⟩ := I.list (.inl h1)
      exact SeqAt.RcNeAt.list_tuple (items := js.toArray) ⟨o, ho, hc, n, hd⟩ ht hu _ _ _ _ fin
  | dict ds =>
    cases hd with
    | dicR h1 h2 => exact op_neDT hu pins s σ H _ _ v _ Q I rx ry ⟨_, b, _, [], rfl, rfl, h1, hb, q⟩
  | tuple ds =>
    cases hd with
    | tup h1 h2 =>
      rename_i a xs
      obtain rfl : v = Value.ref a := rx
      obtain ⟨js, rj, pj, _⟩ := I.tuple h1
      have hj : s.heap.IsTuple a js.toArray := pj
      have hl : js.toArray.size ≠ 0 := fun z => by
        rw [List.size_toArray, ← rj.length] at z
        have z2 := List.eq_nil_of_length_eq_zero z
        subst z2
        cases h2
        exact hne rfl
      refine SeqAt.RcNeAt.tuples (e := fun _ => true) hj ht hu (fun j _ h2 => absurd h2 (by simp)) _ _ _ _ ?_
      have e : (!((List.range (min js.toArray.size (#[] : Array Value).size)).all (fun _ => true) && js.toArray.size == (#[] : Array Value).size)) = true := by
        rw [Bool.not_eq_true', Bool.and_eq_false_iff]
        exact .inr (beq_eq_false_iff_ne.mpr hl)
      rw [e]
      exact fin
/-- t * k, t of at least one item -/
def rRepA (K : PySem.W.Frag) : R2 := fun x y H Q => ∃ t k xs, x = .ref t ∧ y = .int k ∧ SqT K H t xs ∧ xs ≠ [] ∧ -(2 ^ 63) ≤ k ∧ k ≤ 1000 ∧ xs.length ≤ 1000 ∧
  ∀ H' p, Same H H' → SqT K H' p (List.replicate k.toNat xs).flatten → Q (.ref p) H'
theorem op_repA {X : Cx} : OpR X (binaryOp .Mult) (rRepA X.K) := by
  intro pins s σ H x y v u Q I rx ry h
  obtain ⟨t, k, xs, rfl, rfl, hT, hne, hb, h1, hl, q⟩ := h
  by_cases h2 : 2 ≤ k
  · exact op_repT pins s σ H _ _ v u Q I rx ry ⟨t, k, xs, rfl, rfl, hT, hne, h2, h1, hl, fun p np => q _ p (smu np) (SqT.of upd_same)⟩
  · refine op_rep1 pins s σ H _ _ v u Q I rx ry ⟨t, k, xs, rfl, rfl, hT, hne, hb, by omega, fun e => ?_, fun e p np => ?_⟩
    · subst e
      refine q H t (Same.refl H) ?_
      have z : (List.replicate (Int.toNat 1) xs).flatten = xs := by simp
      rw [z]
      exact hT
    · refine q _ p (smu np) ?_
      have z : k.toNat = 0 := by omega
      rw [z]
      exact SqT.of upd_same
theorem rep_flat {α : Type} (n : Nat) (v : α) : (List.replicate n [v]).flatten = List.replicate n v := by
  induction n with
  | zero => rfl
  | succ n ih => rw [List.replicate_succ, List.flatten_cons, ih, List.replicate_succ] <;> rfl
end Tp
namespace Rp
open PySem PySem.Spec PyProof.Rows L2
/-- a tuple that stands in the heap is part of its data, where p is a list -/
theorem sqt_ct {K : PySem.W.Frag} {H : Hp} {p a : Addr} {ys xs : List V} (hp : H p = some (.lst ys)) (h : SqT K H a xs) : SqT K (ct p H) a xs := by
  have ne : ∀ {o : HO}, H a = some o → o ≠ .lst ys → a ≠ p := fun {o} e n z => by
    subst z
    rw [hp] at e
    exact n (Option.some.inj e).symm
  rcases h with (h | ⟨ob, h⟩) | h
  · exact .inl (.inl (ct_at h (ne h (fun z => by cases z)) (fun ps z => by cases z)))
  · exact .inl (.inr ⟨ob, ct_at h (ne h (fun z => by cases z)) (fun ps z => by cases z)⟩)
  · exact .inr h
theorem dt_rep {K : PySem.W.Frag} {H : Hp} {v : V} {d : PyData} (h : Dt K H v d) : ∀ n, DtAll K H (List.replicate n v) (List.replicate n d)
  | 0 => .nil
  | n + 1 => .cons h (dt_rep h n)
/-- data of so many signs, so deep -/
def Sz (e b : Nat) (d : PyData) : Prop := d.showable = true ∧ d.depth ≤ e ∧ d.shown.length ≤ b
theorem Sz.mono {e b e' b' : Nat} {d : PyData} (h : Sz e b d) (he : e ≤ e') (hb : b ≤ b') : Sz e' b' d := ⟨h.1, Nat.le_trans h.2.1 he, Nat.le_trans h.2.2 hb⟩
theorem sz_all {e b : Nat} : ∀ ds : List PyData, (∀ d, d ∈ ds → Sz e b d) → PyData.showableAll ds = true ∧ PyData.depthAll ds ≤ e ∧ ((PyData.shownAll ds).map (·.length)).sum ≤ b * ds.length ∧ (PyData.shownAll ds).length = ds.length
  | [], _ => ⟨rfl, Nat.zero_le _, Nat.zero_le _, rfl⟩
  | d :: r, h => by
    obtain ⟨h1, h2, h3⟩ := h d List.mem_cons_self
    obtain ⟨r1, r2, r3, r4⟩ := sz_all r fun x hx => h x (List.mem_cons_of_mem _ hx)
    refine ⟨?_, ?_, ?_, ?_⟩
    · simp only [PyData.showableAll, h1, r1, Bool.and_self]
    · simp only [PyData.depthAll]
      omega
    · simp only [PyData.shownAll, List.map_cons, List.sum_cons, List.length_cons, Nat.mul_add, Nat.mul_one]
      omega
    · simp only [PyData.shownAll, List.length_cons, r4]
theorem sz_tuple {e b c : Nat} {ds : List PyData} (h : ∀ d, d ∈ ds → Sz e b d) (hc : ds.length ≤ c) : Sz (e + 1) ((b + 2) * c + 3) (.tuple ds) := by
  obtain ⟨r1, r2, r3, r4⟩ := sz_all ds h
  have z := tupleText_len_le (PyData.shownAll ds)
  have m : (b + 2) * ds.length ≤ (b + 2) * c := Nat.mul_le_mul_left _ hc
  rw [Nat.add_mul] at m
  refine ⟨?_, ?_, ?_⟩
  · simp only [PyData.showable, r1]
  · simp only [PyData.depth]
    omega
  · simp only [PyData.shown]
    omega
theorem sz_list {e b c : Nat} {ds : List PyData} (h : ∀ d, d ∈ ds → Sz e b d) (hc : ds.length ≤ c) : Sz (e + 1) ((b + 2) * c + 3) (.list ds) := by
  obtain ⟨r1, r2, r3, r4⟩ := sz_all ds h
  have z := listText_len_le (PyData.shownAll ds)
  have m : (b + 2) * ds.length ≤ (b + 2) * c := Nat.mul_le_mul_left _ hc
  rw [Nat.add_mul] at m
  refine ⟨?_, ?_, ?_⟩
  · simp only [PyData.showable, r1]
  · simp only [PyData.depth]
    omega
  · simp only [PyData.shown]
    omega
end Rp

/-! Written data: an expression that gives data d, in one step. -/
namespace Rp
open PySem PySem.Spec PyProof.Rows L2 Ex Dr
/-- data made since H -/
def LDt (K : PySem.W.Frag) (H H' : Hp) (v : V) (d : PyData) : Prop := Dt K H' v d ∧ ∀ p, H p ≠ none → v ≠ .ref p ∧ Dt K (ct p H') v d
def LDts (K : PySem.W.Frag) (H H' : Hp) (vs : List V) (ds : List PyData) : Prop := DtAll K H' vs ds ∧ ∀ p, H p ≠ none → DtAll K (ct p H') vs ds
def tDat (K : PySem.W.Frag) (d : PyData) : TE := fun _ H Q => ∀ H' v, Same H H' → LDt K H H' v d → Q v H'
def aDat (K : PySem.W.Frag) (ds : List PyData) : TA := fun _ H Q => ∀ H' vs, Same H H' → LDts K H H' vs ds → Q vs H'
theorem dts_len {K : PySem.W.Frag} {H : Hp} : ∀ {vs : List V} {ds : List PyData}, DtAll K H vs ds → vs.length = ds.length
  | _, _, .nil => rfl
  | _, _, .cons _ t => by rw [List.length_cons, List.length_cons, dts_len t]
theorem ne_of_none' {H : Hp} {a b : Addr} (h : H a ≠ none) (h' : H b = none) : a ≠ b := fun e => h (e ▸ h')
theorem ne_same {H H' : Hp} {p : Addr} (s : Same H H') (h : H p ≠ none) : H' p ≠ none := fun e => by
  cases q : H p with
  | none => exact h q
  | some o => rw [s _ _ q] at e; cases e
theorem pe_weak {X : Cx} {e : Expr} {t t' : TE} (h : PE X e t) (k : ∀ σ H Q, t' σ H Q → t σ H Q) : PE X e t' := ⟨fun pins s σ H Q I q => h.run pins s σ H Q I (k σ H Q q)⟩
theorem pa_weak {X : Cx} {e : List Expr} {t t' : TA} (h : PA X e t) (k : ∀ σ H Q, t' σ H Q → t σ H Q) : PA X e t' := ⟨fun pos pins s σ H Q I q => h.run pos pins s σ H Q I (k σ H Q q)⟩
/-- a promise said weaker -/
theorem fn_weak {P : Program} {w : World} {K : PySem.W.Frag} {mg : Str → Option Value} {base : Heap} {CX : CXT} {k : Nat} {f : Addr} {fd : FuncData} {ps : List Str} {sp sp' : Sp} (F : FnOk P w K mg base CX k f fd ps sp) (h : ∀ vs H Q E, sp' vs H Q E → sp vs H Q E) : FnOk P w K mg base CX k f fd ps sp' :=
  ⟨fun vs H Q E q => F.len vs H Q E (h vs H Q E q), fun A outer s H args us vs Q E hr e0 b v q => F.run A outer s H args us vs Q E hr e0 b v (h vs H Q E q)⟩
section
variable {X : Cx} {e : Expr} {es : List Expr} {d : PyData} {ds : List PyData} {pos : Pos}
/-- what is no object -/
theorem pd_c {v : V} {t : TE} (h : PE X e t) (hv : ∀ H, Dt X.K H v d) (hr : ∀ p, v ≠ .ref p) (k : ∀ σ H (Q : VK), Q v H → t σ H Q) : PE X e (tDat X.K d) :=
  pe_weak h fun σ H Q q => k σ H Q (q H v (Same.refl H) ⟨hv _, fun p _ => ⟨hr p, hv _⟩⟩)
theorem pd_int {n : Int} (h : PE X e (tC (.int n))) : PE X e (tDat X.K (.int n)) := pd_c h (fun _ => .int n) (fun _ z => by cases z) fun _ _ _ q => q
theorem pd_str {x : Str} (h : PE X e (tC (.str x))) : PE X e (tDat X.K (.str x)) := pd_c h (fun _ => .str x) (fun _ z => by cases z) fun _ _ _ q => q
theorem pd_bl {b : Bool} (h : PE X e (tC (.bl b))) : PE X e (tDat X.K (.bool b)) := pd_c h (fun _ => .bl b) (fun _ z => by cases z) fun _ _ _ q => q
theorem pd_non (h : PE X e (tC .non)) : PE X e (tDat X.K .none) := pd_c h (fun _ => .non) (fun _ z => by cases z) fun _ _ _ q => q
theorem pd_nil : PA X [] (aDat X.K []) := pa_weak pa_nil fun σ H Q q => q H [] (Same.refl H) ⟨.nil, fun _ _ => .nil⟩
theorem pd_cons (h : PE X e (tDat X.K d)) (t : PA X es (aDat X.K ds)) (hs : starEach (e :: es) X.env = (false, eval e X.env) :: starEach es X.env := by rfl) : PA X (e :: es) (aDat X.K (d :: ds)) :=
  pa_weak (pa_cons h t hs) fun σ H Q q H1 x s1 hx H2 xs s2 hxs => q H2 (x :: xs) (s1.trans s2) ⟨.cons (Dt.same s2 _ _ hx.1) hxs.1, fun p hp => .cons (Dt.same (ct_sm s2) _ _ (hx.2 p hp).2) (hxs.2 p (ne_same s1 hp))⟩
theorem pd_lst (t : PA X es (aDat X.K ds)) (hl : ds.length ≤ 1000 := by decide) : PE X (.List es pos) (tDat X.K (.list ds)) :=
  pe_weak (pe_lst t) fun σ H Q q H1 vs s1 hv => ⟨by
    rw [dts_len hv.1, sizeLine_eq]; omega, fun l nl => q _ _ (s1.trans (smu nl)) ⟨.lst (upd_same) (Dt.sameAll (smu nl) _ _ hv.1), fun p hp => by
      obtain ⟨c, m⟩ := ct_new (p := p) (o := .lst vs) (ne_same s1 hp) nl (fun ps z => by cases z)
      exact ⟨fun z => absurd (V.ref.inj z) (ne_of_none' (ne_same s1 hp) nl).symm, .lst m (Dt.sameAll c _ _ (hv.2 p hp))⟩⟩⟩
theorem pd_tup {k : Nat} (t : PA X es (aDat X.K ds)) (hl : ds.length ≤ 1000 := by decide) : PE X (.Tuple es k pos) (tDat X.K (.tuple ds)) :=
  pe_weak (pe_tup t) fun σ H Q q H1 vs s1 hv => ⟨by
    rw [dts_len hv.1, sizeLine_eq]; omega, fun l nl => q _ _ (s1.trans (smu nl)) ⟨.tup (SqT.of upd_same) (Dt.sameAll (smu nl) _ _ hv.1), fun p hp => by
      obtain ⟨c, m⟩ := ct_new (p := p) (o := .tup vs) (ne_same s1 hp) nl (fun ps z => by cases z)
      exact ⟨fun z => absurd (V.ref.inj z) (ne_of_none' (ne_same s1 hp) nl).symm, .tup (SqT.of m) (Dt.sameAll c _ _ (hv.2 p hp))⟩⟩⟩
theorem pd_dict0 : PE X (.Dict [] [] pos) (tDat X.K (.dict [])) :=
  pe_weak pe_dnewK fun σ H Q q l nl => q _ _ (smu nl) ⟨.dic upd_same .nil, fun p hp => ⟨fun z => absurd (V.ref.inj z) (ne_of_none' hp nl).symm, .dic (ct_new hp nl (fun ps z => by cases z)).2 .nil⟩⟩
/-- {'a': 1} -/
theorem pd_dict1 {ke ve : Expr} {x : Str} {n : Int} (hk : PE X ke (tC (.str x))) (hv : PE X ve (tC (.int n))) : PE X (.Dict [some ke] [ve] pos) (tDat X.K (.dict [(.str x, .int n)])) :=
  pe_weak (pe_disp (pps_cons hk hv pps_nil) (by rfl) (by rfl) (fun z => by cases z) (Nat.le_add_left 1 14)) fun σ H Q q l nl => by
    refine ⟨upd_same, [(.inr x, .int n)], rfl, Nat.le_add_left 1 14, ?_⟩
    rw [upd_upd]
    exact q _ _ (smu nl) ⟨.dic upd_same (.cons (k := .inr x) (.int n) .nil), fun p hp => ⟨fun z => absurd (V.ref.inj z) (ne_of_none' hp nl).symm, .dic (ct_new hp nl (fun ps z => by cases z)).2 (.cons (k := .inr x) (.int n) .nil)⟩⟩
end
/-- data by its place -/
theorem dts_get {K : PySem.W.Frag} {H : Hp} : ∀ {vs : List V} {ds : List PyData} {i : Nat} {x : V}, DtAll K H vs ds → vs[i]? = some x → ∃ d, ds[i]? = some d ∧ Dt K H x d
  | _, _, _, _, .nil, h => by cases h
  | _, _, 0, _, .cons a _, h => by
    cases h
    exact ⟨_, rfl, a⟩
  | _, _, i + 1, _, .cons _ t, h => dts_get (i := i) t h
/-- pick from a list of data -/
def spPickD (K : PySem.W.Frag) : Sp := fun vs H Q _ => ∃ (p : Addr) (v : V) (ds : List PyData) (m : Nat), vs = [.ref p, v] ∧ StrAt H p m ∧ m ≤ 100000 ∧ v ≠ .ref p ∧ Dt K (ct p H) v (.list ds) ∧ 0 < ds.length ∧ ds.length < 1000000 ∧
  ∀ H' (i : Nat) x d, ds[i]? = some d → Dt K (ct p H') x d → But p H H' → StrAt H' p (m + 1) → Q x H'
theorem pickD {K : PySem.W.Frag} {vs : List V} {H : Hp} {Q : VK} {E : XK} (h : spPickD K vs H Q E) : spPick K vs H Q E := by
  obtain ⟨p, v, ds, m, rfl, hS, hm, nv, hd, l0, l1, k⟩ := h
  cases hd with
  | lstR hq ha =>
    rename_i a xs
    refine ⟨p, a, xs, m, rfl, hS, hm, fun e => nv (by rw [e]), Same.seq ct_all (.inl hq), by rw [dts_len ha]; exact l0, by rw [dts_len ha]; exact l1, fun H' i x hx hb hs => ?_⟩
    obtain ⟨d, h1, h2⟩ := dts_get ha hx
    exact k H' i x d h1 (Dt.same (ct_but hb) _ _ h2) hb hs
end Rp

/-! a lambda of one parameter, and sorted(.., key=lambda). -/
namespace LamK
open PySem PySem.Spec PyProof.Rows L2 LamX
/-- one parameter x, no other name of its own -/
structure LamP (sc scope : Scope) (x : Str) : Prop where
  kind : scope.kind = .function
  co : scope.isCoroutine = false
  gen : scope.isGenerator = false
  par : scope.names.lookup x = some .local
  cell : ∀ y ∈ scope.names, y.2 ≠ .cell
  loc : ∀ y ∈ scope.names, y.2 = .local → y.1 = x
  free : ∀ y ∈ scope.names, y.2 = .free → sc.names.lookup y.1 = some .cell ∨ sc.names.lookup y.1 = some .free
def lamPB (sc scope : Scope) (x : Str) : Bool :=
  decide (scope.kind = .function) && (!scope.isCoroutine && (!scope.isGenerator && (decide (scope.names.lookup x = some .local) && scope.names.all fun y => !decide (y.2 = .cell) && ((!decide (y.2 = .local) || decide (y.1 = x)) && (!decide (y.2 = .free) || (decide (sc.names.lookup y.1 = some .cell) || decide (sc.names.lookup y.1 = some .free)))))))
theorem lamP_by {sc scope : Scope} {x : Str} (h : lamPB sc scope x = true) : LamP sc scope x := by
  unfold lamPB at h
  simp only [Bool.and_eq_true, Bool.or_eq_true, Bool.not_eq_true', decide_eq_true_eq, decide_eq_false_iff_not, List.all_eq_true] at h
  obtain ⟨h1, h2, h3, h4, h5⟩ := h
  refine ⟨h1, h2, h3, h4, fun y hy => (h5 y hy).1, fun y hy e => ?_, fun y hy e => ?_⟩
  · exact (h5 y hy).2.1.resolve_left fun z => z e
  · exact (h5 y hy).2.2.resolve_left fun z => z e
theorem LamP.has {X : Cx} {scope : Scope} {x : Str} (L : LamP X.env.scope scope x) (ok : X.Ok) : ∀ y ∈ scope.names, y.2 = .free → ∃ c, X.env.cells.lookup y.1 = some c := fun y hy e =>
  (L.free y hy e).elim (fun z => ok.has _ (.inl z)) fun z => ok.has _ (.inr z)
/-- the names of the lambda's body: x, then those of the maker, but for what the body does not see -/
def seenB (scope : Scope) (x : Str) (M N : List Str) : Bool := decide (M.length = N.length) && (M.zip N).all fun p => decide (scope.names.lookup p.1 = none) || (!decide (p.1 = x) && decide (p.1 = p.2))
theorem seen_at {scope : Scope} {x : Str} : ∀ {M N : List Str} {i : Nat} {y : Str}, seenB scope x M N = true → M[i]? = some y → scope.names.lookup y = none ∨ (y ≠ x ∧ N[i]? = some y) := by
  intro M N i y h hy
  unfold seenB at h
  obtain ⟨h1, h2⟩ := Bool.and_eq_true_iff.mp h
  have hl : M.length = N.length := of_decide_eq_true h1
  have hi : i < N.length := by
    have := (List.getElem?_eq_some_iff.mp hy).1
    omega
  have hz : (y, N[i]) ∈ M.zip N := List.mem_of_getElem? (i := i) (by rw [List.getElem?_zip_eq_some]; exact ⟨hy, List.getElem?_eq_getElem hi⟩)
  have q := List.all_eq_true.mp h2 _ hz
  simp only [Bool.or_eq_true, Bool.and_eq_true, Bool.not_eq_true', decide_eq_true_eq, decide_eq_false_iff_not] at q
  rcases q with q | ⟨q1, q2⟩
  · exact .inl q
  · exact .inr ⟨q1, by rw [List.getElem?_eq_getElem hi, ← q2]⟩
def lamCxP (X : Cx) (A : Around) (outer : List Env) (s : Shared) (H : Hp) (E : XK) (scope : Scope) (f c' : Addr) (N' : List Str) : Cx := { lamCx X A outer s H E scope f c' with N := N' }
section
variable {X : Cx} {pins : List (Addr × Obj)} {σ : L2.St} {H : Hp} {s : Shared} {x : Str} {M : List Str} {v : V} {u : Value}
theorem lam_startP {A : Around} {outer : List Env} {E : XK} {scope : Scope} {f c' : Addr} {h₁ : Heap} {tk : Nat} (I : Inv X pins σ H s) (L : LamP X.env.scope scope x) (e0 : Env0 X.prog X.w X.K X.mg X.base A outer s H) (hd : A.handled = none) (hM : seenB scope x M X.N = true) (rv : RelV v u)
    (hns : h₁.Ns s.heap.objs.size fun y => ([(x, u)] : List (Str × Value)).reverse.lookup y) (kp : ∀ b o, s.heap.get? b = some o → h₁.get? b = some o) :
    Inv (lamCxP X A outer s H E scope f c' (x :: M)) [] (some v :: σ) H { s with heap := h₁, toks := tk } := by
  have back : ∀ {y c}, (cloFrom X.env.cells scope.names []).lookup y = some c → X.env.cells.lookup y = some c := fun {y c} e => by
    rcases cloFrom_mem (PySem.mem_of_lookup e) with hm | ⟨h1, h2⟩
    · cases hm
    · obtain ⟨c1, hc⟩ := L.has I.ok _ h1 rfl
      have hc1 : X.env.cells.lookup y = some c1 := hc
      rw [h2, hc1]
      rfl
  have look : ∀ {y}, scope.names.lookup y = some .free → ∃ c, (cloFrom X.env.cells scope.names []).lookup y = some c := fun {y} hl => mem_lookup (cloFrom_has (cells := X.env.cells) (acc := []) (show (y, NameKind.free) ∈ scope.names from PySem.mem_of_lookup hl))
  have isC : ∀ {c : Addr} {z : Option Value}, s.heap.IsCell c z → h₁.IsCell c z := fun {c z} ⟨o, ho, hdt⟩ => ⟨o, kp _ _ ho, hdt⟩
  have noA : ∀ b : Addr, b ∉ (lamCxP X A outer s H E scope f c' (x :: M)).ex := fun b z => nomatch (show b ∈ ([] : List Addr) from z)
  refine ⟨⟨e0.mod, L.kind, rfl, rfl, Nat.le_refl _, fun y z c e1 e2 => I.ok.inj y z c (back e1) (back e2), fun y hy => ?_, fun y c z _ => (nomatch (show false = true from z)), fun _ => hd, Around.frames_deeper e0.frames, .inr ⟨rfl, rfl⟩, fun b z => absurd z (noA b), e0.bs, e0.bsz,
      fun b _ _ => noA b, fun b z => absurd z (noA b), e0.funs, e0.frf⟩,
    rfl, e0.bare, Un.kept kp, ⟨_, hns, fun i y v' e1 e2 e3 => ?_⟩, fun y c e => ?_, e0.hok.fresh (Nat.le_refl _), fun y c e => ?_, fun q hq => (nomatch (show q ∈ ([] : List (Addr × Obj)) ++ [] from hq)), e0.hok.kept kp, ?_⟩
  · rcases (show scope.names.lookup y = some .cell ∨ scope.names.lookup y = some .free from hy) with k | k
    · exact absurd rfl (L.cell _ (PySem.mem_of_lookup k))
    · exact look k
  · have e3 : Vis scope y := e3
    cases i with
    | zero =>
      have ex : x = y := Option.some.inj e1
      have ev : v = v' := Option.some.inj (Option.some.inj e2)
      subst ex
      subst ev
      exact ⟨u, rv, .inl ⟨L.par, by simp⟩⟩
    | succ i =>
      have e1 : M[i]? = some y := e1
      have e2 : σ[i]? = some (some v') := e2
      rcases seen_at hM e1 with z | ⟨z1, z2⟩
      · rcases e3 with k | k | k <;> rw [z] at k <;> cases k
      · rcases e3 with k | k | k
        · exact absurd (L.loc _ (PySem.mem_of_lookup k) rfl) z1
        · exact absurd rfl (L.cell _ (PySem.mem_of_lookup k))
        · obtain ⟨m, hn, hl⟩ := I.loc
          have hf := L.free _ (PySem.mem_of_lookup k) rfl
          obtain ⟨w', r, q⟩ := hl i y v' z2 e2 (hf.elim (fun t => .inr (.inl t)) fun t => .inr (.inr t))
          obtain ⟨c2, h2⟩ := look k
          have c1 := back h2
          refine ⟨w', r, .inr ⟨.inr k, c2, h2, ?_⟩⟩
          rcases q with ⟨k', _⟩ | ⟨_, c3, e', z⟩
          · have k' : X.env.scope.names.lookup y = some .local := k'
            rcases hf with t | t <;> rw [show X.env.scope.names.lookup y = _ from t] at k' <;> cases k'
          · rw [c1] at e'
            cases e'
            exact isC z
  · obtain ⟨w', z⟩ := I.cell y c (back e)
    exact ⟨w', isC z⟩
  · exact I.freeC y c (back e)
  · show σ.length + 1 = M.length + 1
    have q := of_decide_eq_true (Bool.and_eq_true_iff.mp hM).1
    rw [I.len, q]
/-- f(u), f the lambda -/
theorem lam_callP {A : Around} {scope : Scope} {f c' : Addr} {params : Arguments} {body : Expr} {pm ctv : Value} {k : Nat} {tb : TE} {Q : VK} {E : XK} (I : Inv X pins σ H s) (L : LamP X.env.scope scope x) (hM : seenB scope x M X.N = true)
    (hf : s.heap.get? f = some (PySem.W.kla_obj "<lambda>" (X.env.qual ++ "<lambda>") params body scope (cloFrom X.env.cells scope.names []) pm c' ctv)) (hc : H c' = some (CodeO c' (X.env.qual ++ "<lambda>")))
    (hbind : ∀ t : Value, bindArgs (PySem.W.kla_fn "<lambda>" (X.env.qual ++ "<lambda>") params body scope (cloFrom X.env.cells scope.names []) pm (.ref c') ctv) ⟨[t], []⟩ = pure [(x, t)])
    (e0 : Env0 X.prog X.w X.K X.mg X.base A X.stack s H) (hr : Room (k + 1) A) (hbody : Room k (A.deeper (lamEnv X scope s.heap.objs.size f c')) → PE (lamCxP X A X.stack s H E scope f c' (x :: M)) body tb) (rv : RelV v u) (h : tb (some v :: σ) H Q) :
    codeAny (model X.prog X.w) A (.call (.ref f) ⟨[u], []⟩) (CR (L2.CX X.prog X.w) X.stack X.prog X.w H s Q E) s := by
  obtain ⟨⟨oc, vs, t, hoc, hdc, hvc⟩, _, _⟩ := I.hok c' _ hc
  refine PySem.W.kla_callFunE hr.depth hf rfl L.co L.gen rfl ⟨c', oc, vs, t, rfl, hoc, hdc, hvc⟩ ?_
  rw [hbind u]
  refine wpAny_pure (wpAny_newFunctionEnv L.cell (fun y hy => ?_) (fun h₁ hns hsb => ⟨I.nolimit.fresh _ hsb, ?_⟩) L.kind)
  · rw [List.mem_singleton.mp hy]
    exact L.par
  · have kp : ∀ b o, s.heap.get? b = some o → h₁.get? b = some o := fun b o z => hsb.extBut b o (Nat.ne_of_lt (Heap.lt_size z)) (Heap.get?_push_of_some _ z)
    have J := lam_startP (tk := s.toks + ([(x, u)] : List (Str × Value)).length) (f := f) (c' := c') (E := E) I L e0 hr.hd hM rv hns kp
    refine PySem.W.kla_codeExpr (wpAny_mono ((hbody (hr.deeper _)).run [] _ _ H Q J h) (fun r s' hq => ?_) fun e s' hq => hq)
    obtain ⟨w', H', J', rv', hq'⟩ := hq
    exact ⟨w', H', J'.os, J'.bare, J'.base, J'.hok, rv', hq'⟩
end
end LamK

/-! sorted(e, key=lambda x: body): the keys are tuples of integers. -/
namespace LamK
open PySem PySem.Spec PyProof.Rows L2 LamX Rp
def keyD (ns : List Int) : PyData := .tuple (ns.map PyData.int)
def sortV (xs : List V) (nss : List (List Int)) : List V := ((xs.zip nss).mergeSort (PySem.W.dataLe false fun p => keyD p.2)).map (·.1)
/-- tuples of these integers -/
inductive KeysAt (K : PySem.W.Frag) (H : Hp) : List V → List (List Int) → Prop
  | nil : KeysAt K H [] []
  | snoc {ks : List V} {nss : List (List Int)} {b : Addr} {ns : List Int} : KeysAt K H ks nss → SqT K H b (ns.map V.int) → KeysAt K H (ks ++ [.ref b]) (nss ++ [ns])
theorem KeysAt.map {K : PySem.W.Frag} {H H' : Hp} (m : ∀ b xs, SqT K H b xs → SqT K H' b xs) : ∀ {ks : List V} {nss : List (List Int)}, KeysAt K H ks nss → KeysAt K H' ks nss := fun h => by
  induction h with
  | nil => exact .nil
  | snoc _ q ih => exact .snoc ih (m _ _ q)
theorem KeysAt.len {K : PySem.W.Frag} {H : Hp} {ks : List V} {nss : List (List Int)} (h : KeysAt K H ks nss) : ks.length = nss.length := by
  induction h with
  | nil => rfl
  | snoc _ _ ih => rw [List.length_append, List.length_append, ih]; rfl
theorem dt_ints {K : PySem.W.Frag} {H : Hp} : ∀ ns : List Int, DtAll K H (ns.map V.int) (ns.map PyData.int)
  | [] => .nil
  | n :: r => .cons (.int n) (dt_ints r)
theorem dt_snoc {K : PySem.W.Frag} {H : Hp} : ∀ {xs : List V} {ds : List PyData} {x : V} {d : PyData}, DtAll K H xs ds → Dt K H x d → DtAll K H (xs ++ [x]) (ds ++ [d])
  | _, _, _, _, .nil, h => .cons h .nil
  | _, _, _, _, .cons a r, h => .cons a (dt_snoc r h)
theorem KeysAt.data {K : PySem.W.Frag} {H : Hp} {ks : List V} {nss : List (List Int)} (h : KeysAt K H ks nss) : DtAll K H ks (nss.map keyD) := by
  induction h with
  | nil => exact .nil
  | snoc _ q ih =>
    rw [List.map_append]
    exact dt_snoc ih (.tup q (dt_ints _))
theorem alike_ints : ∀ ns ms : List Int, PySem.W.alikeAll (ns.map PyData.int) (ms.map PyData.int) = true
  | [], _ => by cases ‹List Int› <;> rfl
  | _ :: _, [] => rfl
  | n :: r, m :: q => by
    show (true && PySem.W.alikeAll (r.map PyData.int) (q.map PyData.int)) = true
    rw [alike_ints r q]
    rfl
theorem depth_ints : ∀ ns : List Int, PyData.depthAll (ns.map PyData.int) ≤ 1
  | [] => Nat.zero_le _
  | n :: r => by
    show PyData.depthAll (PyData.int n :: r.map PyData.int) ≤ 1
    simp only [PyData.depthAll, PyData.depth]
    have := depth_ints r
    omega
theorem read_all {h : Heap} : ∀ {us : List Value} {ds : List PyData} {as : List Addr}, ReadsAll h us ds as → PySem.W.EachIs (fun v d => ∃ as, Reads h v d as) us ds
  | _, _, _, .nil => .nil
  | _, _, _, .cons a r => .cons ⟨_, a⟩ (read_all r)
/-- what is asked of the list, of the lambda at each item, and of what follows -/
def sortIn (K : PySem.W.Frag) (T : List (Addr × Str)) (tb : TE) (σ : L2.St) (Q : VK) (v : V) (H1 : Hp) : Prop := ∃ (a : Addr) (xs : List V) (nss : List (List Int)), v = .ref a ∧ SqL K H1 a xs ∧ xs.length = nss.length ∧ xs.length ≤ 1000 ∧ ((∀ ns ∈ nss, ns ≠ []) ∨ nss.length ≤ 1) ∧ Tabs T H1 ∧
  (∀ (i : Nat) (x : V) (ns : List Int) (G : Hp), xs[i]? = some x → nss[i]? = some ns → ExtN H1 G → Tabs T G → tb (some x :: σ) G fun y G' => Same G G' ∧ ∃ b, y = .ref b ∧ SqT K G' b (ns.map V.int)) ∧
  ∀ (G : Hp) (p : Addr), ExtN H1 G → Tabs T G → G p = none → Q (.ref p) (upd G p (.lst (sortV xs nss)))
def tSortK (K : PySem.W.Frag) (T : List (Addr × Str)) (te tb : TE) : TE := fun σ H Q => te σ H (sortIn K T tb σ Q)
theorem zip_keys : ∀ {xs : List V} {nss : List (List Int)}, xs.length = nss.length → (xs.zip nss).map (fun p : V × List Int => keyD p.2) = nss.map keyD
  | [], [], _ => rfl
  | _ :: _, _ :: _, h => congrArg (List.cons _) (zip_keys (by simpa using h))
theorem each_vals : ∀ {xs : List V} {us : List Value} (nss : List (List Int)), Vals xs us → xs.length = nss.length → PySem.W.EachIs (fun u (p : V × List Int) => RelV p.1 u) us (xs.zip nss)
  | _, _, [], .nil, _ => .nil
  | _, _, ns :: r, .cons a q, h => .cons a (each_vals r q (by simpa using h))
theorem vals_each : ∀ {us : List Value} {bs : List (V × List Int)}, PySem.W.EachIs (fun u (p : V × List Int) => RelV p.1 u) us bs → Vals (bs.map (·.1)) us
  | _, _, .nil => .nil
  | _, _, .cons a r => .cons a (vals_each r)
section
variable {X : Cx} {T : List (Addr × Str)} {c P : Addr} {x : Str} {params : Arguments} {body e : Expr} {scope : Scope} {M : List Str} {lpos kpos p pos : Pos} {te tb : TE} {k : Nat}
theorem pe_sortK (hcalm : X.calm = true) (hg : Gl X "sorted") (hm : X.mg "sorted" = none) (hsys : SysD X.K) (TB : TabB X.base X.mg c P) (hcode : X.env.code = .ref c) (hmT : (P, X.env.qual ++ "<lambda>") ∈ T) (huT : ∀ z ∈ T, z.1 = P → z.2 = X.env.qual ++ "<lambda>")
    (hr : Room (k + 3) X.A) (L : LamP X.env.scope scope x) (hM : seenB scope x M X.N = true) (hdef : defaultsOf params X.env = ([], []))
    (hbind : ∀ (q : Str) (cl : List (Str × Addr)) (pm cv ctv t : Value), bindArgs (PySem.W.kla_fn "<lambda>" q params body scope cl pm cv ctv) ⟨[t], []⟩ = pure [(x, t)]) (ha : PE X e te)
    (hbody : ∀ (A : Around) (outer : List Env) (s : Shared) (H : Hp) (E : XK) (f c' : Addr), Room k (A.deeper (lamEnv X scope s.heap.objs.size f c')) → PE (lamCxP X A outer s H E scope f c' (x :: M)) body tb)
    (he : backTo pos (starEach [e] X.env) = (false, eval e X.env) :: backTo pos (starEach [] X.env) := by rfl) (hpl : (backTo pos (starEach [e] X.env)).any (·.1) = false := by rfl) (hst : starEach [e] X.env = (false, eval e X.env) :: starEach [] X.env := by rfl) :
    PE X (.Call (.Name "sorted" p) [e] [⟨some "key", .Lambda params body scope lpos, kpos⟩] pos) (tSortK X.K T te tb) := by
  refine ⟨fun pins s σ H Q I h => ?_⟩
  refine wpAny_Call_Name_kw (ld_blt I hg hm (show bootBuiltins "sorted" = some (.builtin "sorted") by decide +kernel) ?_ (by decide) (by decide))
  refine PyProof.Rows.callWith_kw (thn ((pa_cons ha pa_nil hst).run pos pins s σ H (fun vs H1 => match vs with
    | [v] => sortIn X.K T tb σ Q v H1
    | _ => False) I h) fun us s1 ⟨vs, H1, I1, r1, q1⟩ => ?_) he hpl rfl rfl
  match vs, q1 with
  | [v], q1 =>
  obtain ⟨a, xs, nss, rfl, hS, hlen, hz, hne, hT, hb, fin⟩ := q1
  obtain ⟨u, rfl, ru⟩ := vals1 r1
  obtain rfl : u = Value.ref a := ru
  show wpAny _ _ (evalAll ((do let v ← eval (.Lambda params body scope lpos) X.env; standAt pos; pure v) :: [])) (fun kvs s2 => wpAny _ _ (call (.builtin "sorted") [.ref a] (([("key" : Str)]).zip kvs)) _ _ s2) _ s1
  refine wpAny_evalAll_cons (wpAny_bind (lam_make2 I1 TB hcode hmT huT hT hdef (L.has I1.ok) fun f c' pm ctv H2 s2 I2 eN T2 hf hfn hfr hco => wpAny_bind (wpAny_standAt (wpAny_pure (wpAny_evalAll_nil ?_)))))
  show wpAny _ _ (call (.builtin "sorted") [.ref a] [("key", .ref f)]) _ _ s2
  have hS2 : SqL X.K H2 a xs := by
    rcases hS with (z | ⟨o, z⟩) | z
    · exact .inl (.inl (eN _ _ z (fun ps y => by cases y)))
    · exact .inl (.inr ⟨o, eN _ _ z (fun ps y => by cases y)⟩)
    · exact .inr z
  obtain ⟨its, rv, pl, _⟩ := I2.list hS2
  have il : its.length = xs.length := rv.length.symm
  have hZ : its.length < sizeLine := by rw [sizeLine_eq]; omega
  have frz : ∀ {b : Addr}, s2.heap.objs.size ≤ b → H2 b = none := fun {b} z => I2.hok.fresh z
  have old : ∀ {b : Addr} {o : Obj}, s2.heap.get? b = some o → b ≠ s2.heap.objs.size + 1 ∧ b ≠ s2.heap.objs.size + 3 := fun {b o} z => by
    have hlt := Heap.lt_size z
    exact ⟨Nat.ne_of_lt (Nat.lt_succ_of_lt hlt), Nat.ne_of_lt (Nat.lt_of_lt_of_le hlt (Nat.le_add_right _ 3))⟩
  have uN : X.A.units + 66 < cLine := by
    have z : X.A.units + 1 + 1 + 64 < cLine := hr.in1.in1.units
    omega
  have n13 : s2.heap.objs.size + 1 ≠ s2.heap.objs.size + 3 := by omega
  have low : ∀ {b : Addr} {u : HO}, H2 b = some u → b ≠ s2.heap.objs.size + 1 ∧ b ≠ s2.heap.objs.size + 3 := fun {b u} q => by
    have hb : b < s2.heap.objs.size := by
      refine Nat.lt_of_not_le fun z => ?_
      rw [frz z] at q
      cases q
    exact ⟨Nat.ne_of_lt (Nat.lt_succ_of_lt hb), Nat.ne_of_lt (Nat.lt_of_lt_of_le hb (Nat.le_add_right _ 3))⟩
  refine SoK.sortedM (kz := nss.map keyD) (J := fun e1 j s' => ∃ Hj ks, Inv X pins σ Hj s' ∧ s'.os = s2.os ∧ Same H2 Hj ∧ Un (frs X.stack) [] H2 Hj s2.heap s'.heap ∧ Hj (s2.heap.objs.size + 1) = some (.frz (PyProof.Rows.seqObj "list" #[] e1) (.lst [])) ∧
      Hj (s2.heap.objs.size + 3) = some (.lst ks) ∧ KeysAt X.K Hj ks (nss.take j)) pl.isList hZ (fun d hd d' hd' => ?_) (fun d hd => ?_) ?_ (fun d hd => ?_) (fun e1 h1 kp hL hk => ?_) (fun e1 j v s' hv hJ => ?_) (fun e1 s' hJ => ?_) (fun e1 s' out c0 h' tk hJ kp hD ko => ?_)
  · obtain ⟨ns, _, rfl⟩ := List.mem_map.mp hd
    obtain ⟨ms, _, rfl⟩ := List.mem_map.mp hd'
    exact alike_ints ns ms
  · obtain ⟨ns, _, rfl⟩ := List.mem_map.mp hd
    exact fun z => by cases z
  · rcases hne with z | z
    · refine .inl (.inl fun d hd => ?_)
      obtain ⟨ns, h1, rfl⟩ := List.mem_map.mp hd
      cases ns with
      | nil => exact absurd rfl (z _ h1)
      | cons n r => exact ⟨_, _, rfl⟩
    · exact .inr (by rw [List.length_map]; exact z)
  · obtain ⟨ns, _, rfl⟩ := List.mem_map.mp hd
    have : (keyD ns).depth ≤ 2 := by
      show PyData.depth (.tuple (ns.map PyData.int)) ≤ 2
      simp only [PyData.depth]
      have := depth_ints ns
      omega
    omega
  · -- the start: the copy and the keys' list are tracked
    obtain ⟨g, g1, g2⟩ := L2.restrict h1 fun b => decide (b ≠ s2.heap.objs.size + 3)
    have gk : ∀ b o, b ≠ s2.heap.objs.size + 3 → h1.get? b = some o → g.get? b = some o := fun b o z q => by
      rw [g1 b (decide_eq_true z)]
      exact q
    have gb : ∀ b o, g.get? b = some o → h1.get? b = some o := fun b o q => by
      by_cases z : b = s2.heap.objs.size + 3
      · rw [z, g2 _ (by simp)] at q
        cases q
      · rw [g1 b (decide_eq_true z)] at q
        exact q
    have g0 : g.get? (s2.heap.objs.size + 3) = none := g2 _ (by simp)
    have I3 := I2.laid (h' := g) (a := s2.heap.objs.size + 1) (o := .frz (PyProof.Rows.seqObj "list" #[] e1) (.lst [])) (t' := s2.toks) (fun b o q => gk b o (old q).2 (kp b o q)) (Nat.le_succ _) ⟨gk _ _ n13 hL, Nat.zero_le _, [], e1, .nil, gk _ _ n13 hL⟩
    have n3 : upd H2 (s2.heap.objs.size + 1) (.frz (PyProof.Rows.seqObj "list" #[] e1) (.lst [])) (s2.heap.objs.size + 3) = none := by
      rw [upd_ne n13.symm]
      exact frz (Nat.le_add_right _ 3)
    have I4 := I3.laidN (h' := h1) (a := s2.heap.objs.size + 3) (o := .lst []) (t' := s2.toks) gb g0 n3 ⟨Nat.zero_le _, [], 0, .nil, hk⟩
    refine ⟨_, [], I4, rfl, fun b o q => ?_, ?_, ?_, upd_same, ?_⟩
    · rw [upd_ne (low q).2, upd_ne (low q).1]
      exact q
    · exact (Un.laid (fun b o q => gk b o (old q).2 (kp b o q)) (Nat.le_succ _) (frz (Nat.le_succ _))).trans (Un.laidN gb g0 n3)
    · rw [upd_ne n13, upd_same]
    · rw [List.take_zero]
      exact .nil
  · -- a turn
    obtain ⟨Hj, ks, Ij, oj, sj, uj, lj, kj, aj⟩ := hJ
    have hj : j < its.length := (List.getElem?_eq_some_iff.mp hv).1
    obtain ⟨xj, hxj⟩ : ∃ z, xs[j]? = some z := ⟨_, List.getElem?_eq_getElem (by omega)⟩
    obtain ⟨nj, hnj⟩ : ∃ z, nss[j]? = some z := ⟨_, List.getElem?_eq_getElem (by omega)⟩
    have rj : RelV xj v := by
      obtain ⟨u0, h0, h1⟩ := rv.get hxj
      rw [hv] at h0
      cases h0
      exact h1
    have EN : ExtN H1 Hj := fun b o z n => sj _ _ (eN b o z n)
    have Tj : Tabs T Hj := T2.ext sj
    have hq := hb j xj nj Hj hxj hnj EN Tj
    have hfj : s'.heap.get? f = some (PySem.W.kla_obj "<lambda>" (X.env.qual ++ "<lambda>") params body scope (cloFrom X.env.cells scope.names []) pm c' ctv) := uj.keep f _ hf hfn hfr (fun z => nomatch (show f ∈ ([] : List Addr) from z))
    have call := lam_callP (A := X.A.in1.in1) (k := k) (M := M) (E := fun _ _ _ => False) Ij L hM hfj (sj _ _ hco) (fun t => hbind _ _ _ _ _ t) Ij.env0.in1.in1 hr.in1.in1 (fun hr' => hbody _ _ _ _ _ _ _ hr') rj hq
    refine wpAny_call (codeAny_mono call fun r s3 hq3 => ?_)
    cases r with
    | error er =>
      obtain ⟨_, _, _, _, _, _, _, _, _, _, _, _, _, _, _, _, z⟩ := (show L2.CX X.prog X.w X.stack Hj s' (fun _ _ _ => False) er s3 from hq3)
    | ok fl =>
      cases fl with
      | next => exact False.elim hq3
      | brk => exact False.elim hq3
      | cont => exact False.elim hq3
      | ret w =>
        obtain ⟨y, H', os, bare, un, hok, ry, sS, b, rfl, hbT⟩ := hq3
        obtain rfl : w = Value.ref b := ry
        have I' : Inv X pins σ H' s3 := Ij.call' (ch := []) os un hok bare (fun b z => nomatch (show b ∈ ([] : List Addr) from z))
        have k' := sS _ _ kj
        obtain ⟨zz, its3, n3, r3, g3⟩ := (show ObjOk X.prog X.w H' s3.heap (s2.heap.objs.size + 3) (.lst ks) from hok _ _ k')
        have lk : ks.length = j := by
          rw [aj.len, List.length_take]
          omega
        have l3 := r3.length
        have sb := Heap.SameBut.update s3.heap (s2.heap.objs.size + 3) (Obj.mapSeq (·.push (Value.ref b)))
        have at3 := PyProof.Rows.get?_update_seq (show s3.heap.get? (s2.heap.objs.size + 3) = some (PyProof.Rows.seqObj "list" its3.toArray n3) from g3) (·.push (Value.ref b))
        have I5 := I'.write (x := s2.heap.objs.size + 3) (e := s2.heap.objs.size + 3) (o := .lst (ks ++ [.ref b])) (t' := s3.toks) (h' := s3.heap.update (s2.heap.objs.size + 3) (Obj.mapSeq (·.push (Value.ref b)))) (by rw [k']; trivial) (.inl rfl)
          (fun d z hd q => (sb.2 d hd).trans q) ⟨_, at3⟩ ⟨by rw [List.length_append, lk, sizeLine_eq]; show j + 1 ≤ _; omega, its3 ++ [.ref b], n3 + 1, r3.append (.cons (show RelV (V.ref b) (Value.ref b) from rfl) .nil), by rw [at3]; simp [PyProof.Rows.seqObj]⟩
        have nk : ∀ d o, s2.heap.get? d = some o → d ≠ s2.heap.objs.size + 3 := fun d o z => (old z).2
        have tupK : ∀ d ys, SqT X.K H' d ys → SqT X.K (upd H' (s2.heap.objs.size + 3) (.lst (ks ++ [.ref b]))) d ys := fun d ys q => by
          rcases q with (q | ⟨o, q⟩) | q
          · exact .inl (.inl (by rw [upd_ne (fun z => by rw [z, k'] at q; cases q)]; exact q))
          · exact .inl (.inr ⟨o, by rw [upd_ne (fun z => by rw [z, k'] at q; cases q)]; exact q⟩)
          · exact .inr q
        refine ⟨its3.toArray, n3, g3, by rw [List.size_toArray, ← l3, lk, sizeLine_eq]; omega, _, ks ++ [.ref b], I5, os.trans oj, fun d o q => ?_, ?_, ?_, upd_same, ?_⟩
        · rw [upd_ne (low q).2]
          exact sS _ _ (sj _ _ q)
        · exact (uj.trans un).trans (Un.write (by rw [k']; trivial) (.inl rfl) (fun d z hd q => (sb.2 d hd).trans q) ⟨_, at3⟩)
        · rw [upd_ne n13]
          exact sS _ _ lj
        · rw [List.take_add_one, hnj]
          exact .snoc ((aj.map fun d ys q => sqt_same sS q).map tupK) (tupK _ _ hbT)
  · -- the keys, read
    obtain ⟨Hj, ks, Ij, oj, sj, uj, lj, kj, aj⟩ := hJ
    have hl : s'.heap.get? (s2.heap.objs.size + 1) = _ := (Ij.hok _ _ lj).1
    obtain ⟨zz, its3, n3, r3, g3⟩ := (show ObjOk X.prog X.w Hj s'.heap (s2.heap.objs.size + 3) (.lst ks) from Ij.hok _ _ kj)
    have e3 : nss.take its.length = nss := List.take_of_length_le (by omega)
    rw [e3] at aj
    obtain ⟨as, ra, _⟩ := Dt.readsAll hsys Ij _ _ _ aj.data r3
    refine ⟨hl, its3.toArray, n3, g3, by rw [List.size_toArray, ← r3.length, aj.len]; omega, ?_⟩
    rw [List.toList_toArray]
    exact read_all ra
  · -- the sorted list
    obtain ⟨Hj, ks, Ij, oj, sj, uj, lj, kj, aj⟩ := hJ
    have eo := PySem.W.keyedOut_each (k := fun p : V × List Int => keyD p.2) (vs := its) (bs := xs.zip nss) (R := fun u p => RelV p.1 u) (by
      rw [zip_keys hlen]
      exact ko) (each_vals nss rv hlen)
    have vo : Vals (sortV xs nss) out := vals_each eo
    -- what is known behind it
    obtain ⟨G, hG⟩ : ∃ G : Hp, G = fun b => if b = s2.heap.objs.size + 1 then none else if b = s2.heap.objs.size + 3 then none else Hj b := ⟨_, rfl⟩
    have GL : G (s2.heap.objs.size + 1) = none := by rw [hG]; exact if_pos rfl
    have Ga : ∀ b, b ≠ s2.heap.objs.size + 1 → b ≠ s2.heap.objs.size + 3 → G b = Hj b := fun b n1 n2 => by rw [hG]; exact (if_neg n1).trans (if_neg n2)
    have Gs : Same H2 G := fun b o q => by
      rw [Ga b (low q).1 (low q).2]
      exact sj _ _ q
    have ug : ∀ b u, G b = some u → b ≠ s2.heap.objs.size + 1 ∧ b ≠ s2.heap.objs.size + 3 ∧ Hj b = some u := fun b u q => by
      by_cases n1 : b = s2.heap.objs.size + 1
      · rw [n1, GL] at q
        cases q
      · by_cases n2 : b = s2.heap.objs.size + 3
        · have g3 : G (s2.heap.objs.size + 3) = none := by
            rw [hG]
            exact (if_neg n13.symm).trans (if_pos rfl)
          rw [n2, g3] at q
          cases q
        · rw [Ga b n1 n2] at q
          exact ⟨n1, n2, q⟩
    refine ⟨.ref (s2.heap.objs.size + 1), upd G (s2.heap.objs.size + 1) (.lst (sortV xs nss)), ?_, rfl, fin G _ (fun b o z n => Gs _ _ (eN b o z n)) (T2.ext Gs) GL⟩
    have at1 : ∀ b, b ≠ s2.heap.objs.size + 1 → upd G (s2.heap.objs.size + 1) (.lst (sortV xs nss)) b = G b := fun b n => upd_ne n
    refine I2.call' (s' := { s' with heap := h', toks := tk }) (ch := []) oj ⟨fun b o q n n1 n2 => ?_, fun b o q n n1 n2 => ?_, fun b o q n n2 => ?_, fun b o q n2 => ?_, fun b ys q => ?_, fun b o u q => ?_, fun b ps q => ?_⟩ (fun b u q => ?_) Ij.bare (fun b z => nomatch (show b ∈ ([] : List Addr) from z))
    · exact kp b o (old q).1 (old q).2 (uj.keep b o q n n1 n2)
    · obtain ⟨sl, q2⟩ := uj.slot b o q n n1 n2
      exact ⟨sl, kp b _ (old q).1 (old q).2 q2⟩
    · rw [at1 b (old q).1, Ga b (old q).1 (old q).2]
      exact uj.free b o q n n2
    · obtain ⟨o', q2⟩ := uj.there b o q n2
      exact ⟨o', kp b o' (old q).1 (old q).2 q2⟩
    · have z := Gs _ _ q
      rw [at1 b (ug b _ z).1]
      exact z
    · have z := Gs _ _ q
      rw [at1 b (ug b _ z).1]
      exact z
    · have z := Gs _ _ q
      refine ⟨#[], ?_⟩
      rw [at1 b (ug b _ z).1, z]
      simp
    · by_cases n1 : b = s2.heap.objs.size + 1
      · rw [n1, upd_same] at q
        cases q
        rw [n1]
        exact ⟨by rw [vo.length, PySem.W.EachIs.length eo, List.length_mergeSort, List.length_zip, sizeLine_eq]; omega, out, c0, vo, hD⟩
      · rw [at1 b n1] at q
        obtain ⟨_, n3, q⟩ := ug b u q
        refine (Ij.hok b u q).stay (fun d z hd r => ?_) (fun d r => ?_) fun d ys r => ?_
        · refine kp d z ?_ ?_ r
          · rcases hd with hd | hd
            · rw [hd]; exact n1
            · exact fun t => by rw [t, lj] at hd; cases hd
          · rcases hd with hd | hd
            · rw [hd]; exact n3
            · exact fun t => by rw [t, kj] at hd; cases hd
        · rw [at1 d (fun t => by rw [t, lj] at r; cases r), Ga d (fun t => by rw [t, lj] at r; cases r) (fun t => by rw [t, kj] at r; cases r)]
          exact r
        · rw [at1 d (fun t => by rw [t, lj] at r; cases r), Ga d (fun t => by rw [t, lj] at r; cases r) (fun t => by rw [t, kj] at r; cases r)]
          exact r
end
end LamK

/-! {tuple: value for target in iter if ..}: a dict whose keys are tuples of ints and texts. -/
namespace Tp
open PySem PySem.Spec PyProof.Rows L2
abbrev oDct : Obj := { cls := .type "dict", data := .dict #[] }
/-- D[y] = z, y a tuple: what follows -/
def putT (D : Addr) (y z : V) (G : Hp) (N : Hp → Prop) : Prop := ∃ (kvs : List (List Key × V)) (k : List Key) (b : Addr), y = .ref b ∧ G D = some (.dT kvs) ∧ G b = some (.tup (k.map kV)) ∧ kvs.length < sizeLine ∧ N (upd G D (.dT (putK kvs k z)))
theorem dT_put {X : Cx} {pins : List (Addr × Obj)} {σ : L2.St} {H : Hp} {s : Shared} {E : Value → Shared → Prop} {D : Addr} {y z : V} {u r : Value} {N : Hp → Prop} {Q : Unit → Shared → Prop} (hu : X.A.units < cLine) (I : Inv X pins σ H s) (ry : RelV y u) (rz : RelV z r) (h : putT D y z H N)
    (q : ∀ (s' : Shared) (G : Hp), Inv X pins σ G s' → N G → Q () s') : wpAny (model X.prog X.w) X.A (dictSet D u r) Q E s := by
  obtain ⟨kvs, k, b, rfl, hD, hb, hz, n⟩ := h
  obtain rfl : u = Value.ref b := ry
  obtain ⟨l1, hd, xs, rel, dd⟩ := dt_of I.hok hD
  have l2 : xs.length ≤ sizeLine := by
    rw [← Paired.length rel]
    exact l1
  have l3 : (putK kvs k z).length ≤ sizeLine := Nat.le_trans (length_putK kvs k z) hz
  refine wpAny_dictSet_heap (hsz := l2) (knd := tupleKind (mixKind X.prog X.w)) hu (key_of I.hok hb) dd fun h' dn hs => q _ _ ?_ n
  obtain ⟨o, es, ep, h1, h2, h3, h4, _, h5⟩ := dn
  refine d_write I (by rw [hD]; exact True.intro) hs ⟨o, h1⟩ ⟨l3, hd, _, (rel.put k hb rz).keeps fun c ys ec => ?_, o, es, ep, h1, h2, h3, h4, h5⟩
  rw [upd_ne (fun t => by rw [t, hD] at ec; cases ec)]
  exact ec
def tDcT (wi : TI) (g : TG) (tt : TT) (tk tv : TE) (ow : List Nat) : TE := fun σ H Q => wi σ H fun J H1 => ∀ D, H1 D = none →
  ∃ W : Nat → Nat → Hp → Prop, (∃ m, W 0 m (upd H1 D (.dT []))) ∧ ∀ i m G, W i m G → (J.stop i G ∧ Q (.ref D) G) ∨
    (J.go i G ∧ ∃ Nx : Hp → Prop, (∀ G', Nx G' → ∃ m', m' < m ∧ W (i + 1) m' G') ∧ ∀ x G', J.yld i G x G' → g x (wipe σ ow) G' fun τ G2 => wipe τ ow = wipe σ ow ∧ tt τ G2 fun b G3 => if b = true then tk τ G3 fun y G4 => tv τ G4 fun z G5 => putT D y z G5 Nx else Nx G3)
section
variable {X : Cx}
theorem dcT_core {pins : List (Addr × Obj)} {s : Shared} {σ : L2.St} {H : Hp} {Q : VK} {pos2 : Pos} {use : Option (Value → Sem Unit)} {Qf : Value → Shared → Prop} {kx vx tg iter : Expr} {ifs : List Expr} {scope : Scope} {own : List (PySem.Str × Nat)} {pos : Pos} {wi : TI} {g : TG} {tt : TT} {tk tv : TE} (hc : X.calm = true) (hN : X.N.Nodup)
    (hu : X.A.units < cLine) (hi : PI X tg iter wi) (ok : BlkOk X.N X.env.scope scope own)
    (hg : ∀ (s : Shared) (H : Hp) (C : Addr) (cl : List (PySem.Str × Addr)) (fp : List Addr), PG (X.blk s H scope (compEnvC scope cl C X.env) fp) tg g)
    (ht : ∀ (s : Shared) (H : Hp) (C : Addr) (cl : List (PySem.Str × Addr)) (fp : List Addr), PTs (X.blk s H scope (compEnvC scope cl C X.env) fp) ifs tt)
    (hk : ∀ (s : Shared) (H : Hp) (C : Addr) (cl : List (PySem.Str × Addr)) (fp : List Addr), PE (X.blk s H scope (compEnvC scope cl C X.env) fp) kx tk)
    (he : ∀ (s : Shared) (H : Hp) (C : Addr) (cl : List (PySem.Str × Addr)) (fp : List Addr), PE (X.blk s H scope (compEnvC scope cl C X.env) fp) vx tv)
    (hs : ∀ x, foldedSetIterable iter X.env x = pure x) (I : Inv X pins σ H s) (h : tDcT wi g tt tk tv (own.map (·.2)) σ H Q)
    (hq : ∀ D C s' m H', Inv X pins σ H' s' → Q (.ref D) H' → s'.heap.Ns C m → FpOk X pins H' C → compPost (model X.prog X.w) X.A X.xe use Qf (.ref D) C (.ok .next) s') :
    wpAny (model X.prog X.w) X.A (comprehension (.DictComp kx vx [⟨tg, iter, ifs, 0⟩] scope pos) scope X.env pos2 newDict false (eval iter X.env) use) Qf X.xe s := by
  have fr : ∀ y ∈ scope.names, y.2 = .free → ∃ c, X.env.cells.lookup y.1 = some c := fun y hy e => (ok.free y hy e).elim (fun k => I.ok.has _ (.inl k)) fun k => I.ok.has _ (.inr k)
  refine wpAny_comprehension_free (use := use) rfl hs (closure_ok fr) ok.kind (fun y hy e => by rw [ok.uniq y hy, e]) (thn (hi.run pins s σ H _ I h) fun xv s1 hx => thn hx fun itv s2 h2 => ?_)
  obtain ⟨it, fp, tn, J, H2, e, I2, T, st2, f2, q⟩ := h2
  subst e
  refine wpAny_newObj_type (newEnv_comp ?_)
  generalize hD : s2.heap.objs.size = D
  have nD : H2 D = none := I2.hok.fresh (Nat.le_of_eq hD)
  obtain ⟨W, ⟨m0, w0⟩, turn⟩ := q D nD
  generalize hs3 : ({ s2 with heap := s2.heap.push (oDct) } : Shared) = s3
  have h3 : s3.heap = s2.heap.push (oDct) := by rw [← hs3]
  have I3 : Inv X pins σ (upd H2 D (.dT [])) s3 := by
    rw [← hs3]
    refine I2.laid (t' := s2.toks) (fun b o e => Heap.get?_push_of_some _ e) (Nat.le_of_eq hD) ?_
    rw [← hD]
    exact dt_empty s2.heap I2.big
  have old : ∀ b ∈ fp, b < s2.heap.objs.size := fun b hb => by
    obtain ⟨o, e, _⟩ := T.obj _ _ st2 b hb
    exact Heap.lt_size e
  have f3 : ∀ b ∈ fp, FpOk X pins (upd H2 D (.dT [])) b ∧ b < s3.heap.objs.size := fun b hb => by
    have lt := old b hb
    refine ⟨⟨?_, (f2 b hb).2⟩, by rw [h3, Heap.size_push]; exact Nat.lt_succ_of_lt lt⟩
    rw [upd_ne (by rw [← hD]; exact Nat.ne_of_lt lt)]
    exact (f2 b hb).1
  have st3 : tn 0 s3.heap := T.keep _ _ _ st2 fun b _ o e => by
    rw [h3]
    exact Heap.get?_push_of_some _ e
  have I4 := block_start I3 ok hN f3
  have pg := hg s3 (upd H2 D (.dT [])) s3.heap.objs.size (cellsFrom (s3.heap.objs.size + 1) scope.names (cloFrom X.env.cells scope.names [])) fp
  have pt := ht s3 (upd H2 D (.dT [])) s3.heap.objs.size (cellsFrom (s3.heap.objs.size + 1) scope.names (cloFrom X.env.cells scope.names [])) fp
  have pk := hk s3 (upd H2 D (.dT [])) s3.heap.objs.size (cellsFrom (s3.heap.objs.size + 1) scope.names (cloFrom X.env.cells scope.names [])) fp
  have pe := he s3 (upd H2 D (.dT [])) s3.heap.objs.size (cellsFrom (s3.heap.objs.size + 1) scope.names (cloFrom X.env.cells scope.names [])) fp
  show codeAny _ _ (.compStart (.DictComp kx vx [⟨tg, iter, ifs, 0⟩] scope pos) 0 (.ref it) (.ref D) (compEnvC scope (cellsFrom (s3.heap.objs.size + 1) scope.names (cloFrom X.env.cells scope.names [])) s3.heap.objs.size X.env)) (compPost (model X.prog X.w) X.A X.xe use Qf (.ref D) s3.heap.objs.size) { s3 with heap := pushCells (s3.heap.push { cls := .type "dict", data := .dict #[] }) scope.names }
  have nfp : ∀ b ∈ fp, (upd H2 D (.dT [])) b = none := fun b hb => (f3 b hb).1.1
  generalize hce : compEnvC scope (cellsFrom (s3.heap.objs.size + 1) scope.names (cloFrom X.env.cells scope.names [])) s3.heap.objs.size X.env = ce at I4 pg pt pk pe ⊢
  have cL : ce.locals = s3.heap.objs.size := by
    subst hce
    rfl
  generalize hH3 : upd H2 D (.dT []) = H3 at I3 I4 pg pt pk pe w0 nfp f3
  generalize hs4 : ({ s3 with heap := pushCells (s3.heap.push { cls := .type "dict", data := .dict #[] }) scope.names } : Shared) = s4 at I4 ⊢
  have st4 : tn 0 s4.heap := T.keep _ _ _ st3 fun b _ o e => by
    rw [← hs4]
    exact pushCells_keeps _ _ _ _ (Heap.get?_push_of_some _ e)
  have stat : ∀ {τ : L2.St} {G : Hp} {t : Shared}, Inv (X.blk s3 H3 scope ce fp) [] τ G t → (∀ b ∈ fp, G b = none) → ∀ b ∈ fp, FpOk (X.blk s3 H3 scope ce fp) [] G b := fun {τ G t} K hn b hb =>
    ⟨hn b hb, (K.ok.exf b hb).1, K.ok.exfs b hb, .inl hb, fun x c e => (K.ok.exf b hb).2 x c e, fun p hp => absurd (show p ∈ ([] : List (Addr × Obj)) ++ [] from hp) (by simp)⟩
  have loop : codeAny (model X.prog X.w) X.A (.compLoop (.DictComp kx vx [⟨tg, iter, ifs, 0⟩] scope pos) 0 (.ref it) (.ref D) ce) (compPost (model X.prog X.w) X.A X.xe use Qf (.ref D) s3.heap.objs.size) s4 := by
    refine compLoop_anyD (fun n t => ∃ i G, Inv (X.blk s3 H3 scope ce fp) [] (wipe σ (own.map (·.2))) G t ∧ tn i t.heap ∧ (∀ b ∈ fp, G b = none) ∧ W i n G) ?_ m0 ⟨0, H3, I4, st4, nfp, w0⟩
    rintro n s5 ⟨i, H5, I5, st5, n5, w5⟩
    rcases turn i n H5 w5 with ⟨stop, qq⟩ | ⟨go, Nx, hNx, step⟩
    · refine thnF (T.done (X.blk s3 H3 scope ce fp) rfl rfl rfl hc i [] s5 _ H5 (fun _ _ => False) I5 (stat I5 n5) st5 stop) fun z s6 ⟨hz, I6⟩ => ?_
      subst hz
      have I7 : Inv X pins σ H5 s6 := I3.call' (ch := fp) I6.os I6.base I6.hok I6.bare fun b hb => ⟨(f3 b hb).1.2.2.2.1, (f3 b hb).1.2.1, (f3 b hb).1.2.2.2.2.1, (f3 b hb).1.2.2.2.2.2⟩
      have nC : H5 s3.heap.objs.size = none := by
        rw [← cL]
        exact I6.free
      obtain ⟨m, hn, _⟩ := I6.loc
      have hn2 : s6.heap.Ns s3.heap.objs.size m := by
        rw [← cL]
        exact hn
      exact hq D s3.heap.objs.size s6 m H5 I7 qq hn2 (I3.fpOk (Nat.le_refl _) nC)
    · refine thnF (T.item (X.blk s3 H3 scope ce fp) rfl rfl rfl hc i [] s5 _ H5 (fun _ _ => False) I5 (stat I5 n5) st5 go) fun z s6 ⟨u, hz, h6⟩ => ?_
      subst hz
      refine thnF h6 fun _ s7 ⟨x, H7, I7, r7, y7, st7, n7⟩ => ?_
      have P7 := I7.pinned (stat I7 n7) (T.obj _ _ st7)
      refine thnF (pg.run _ s7 _ H7 x u _ P7 r7 (step x H7 y7)) fun _ s8 ⟨σ8, H8, I8, hw8, q8⟩ => ?_
      refine thnF (pt.run _ s8 σ8 H8 _ I8 q8) fun b s9 ⟨H9, I9, q9⟩ => ?_
      have fin : ∀ {t : Shared} {G : Hp}, Inv (X.blk s3 H3 scope ce fp) ([] ++ pinsAt fp s7.heap) σ8 G t → Nx G → ∃ m, m < n ∧ ∃ i G, Inv (X.blk s3 H3 scope ce fp) [] (wipe σ (own.map (·.2))) G t ∧ tn i t.heap ∧ (∀ b ∈ fp, G b = none) ∧ W i m G := fun {t G} K nx => by
        obtain ⟨m', hm, w'⟩ := hNx G nx
        have pin2 : ∀ b ∈ fp, ∀ o, s7.heap.get? b = some o → t.heap.get? b = some o ∧ G b = none := fun b hb o e => by
          have z := K.pin (b, o) (List.mem_append_right _ (List.mem_append_right _ (mem_pinsAt hb e)))
          exact ⟨z.1, z.2.1⟩
        have hl : (wipe σ (own.map (·.2))).length = σ8.length := by rw [← hw8, wipe_length]
        refine ⟨m', hm, i + 1, G, (K.unpinned (pins := [])).weak hl (fun j v e => ?_), T.keep _ _ _ st7 fun b hb o e => (pin2 b hb o e).1, fun b hb => ?_, w'⟩
        · rw [← hw8] at e
          exact (wipe_some e).1
        · obtain ⟨o, e, _⟩ := T.obj _ _ st7 b hb
          exact (pin2 b hb o e).2
      cases b with
      | false =>
        rw [if_neg (by simp)] at q9 ⊢
        exact fin I9 q9
      | true =>
        rw [if_pos rfl] at q9 ⊢
        refine thnF (pk.run _ s9 σ8 H9 _ I9 q9) fun z s10 ⟨yk, H10, I10, r10, qa⟩ => ?_
        refine thnF (pe.run _ s10 σ8 H10 _ I10 qa) fun z2 s11 ⟨yv, H11, I11, r11, qb⟩ => ?_
        exact dT_put (X := X.blk s3 H3 scope ce fp) hu I11 r10 r11 qb fun s12 G I12 nx => fin I12 nx
  exact codeAny_compStart_dict loop (T.self X.A 0 _ _ _ st4 loop)
theorem pe_dcT {kx vx tg iter : Expr} {ifs : List Expr} {scope : Scope} {own : List (PySem.Str × Nat)} {pos : Pos} {wi : TI} {g : TG} {tt : TT} {tk tv : TE} (hc : X.calm = true) (hN : X.N.Nodup)
    (hu : X.A.units < cLine) (hi : PI X tg iter wi) (ok : BlkOk X.N X.env.scope scope own)
    (hg : ∀ (s : Shared) (H : Hp) (C : Addr) (cl : List (PySem.Str × Addr)) (fp : List Addr), PG (X.blk s H scope (compEnvC scope cl C X.env) fp) tg g)
    (ht : ∀ (s : Shared) (H : Hp) (C : Addr) (cl : List (PySem.Str × Addr)) (fp : List Addr), PTs (X.blk s H scope (compEnvC scope cl C X.env) fp) ifs tt)
    (hk : ∀ (s : Shared) (H : Hp) (C : Addr) (cl : List (PySem.Str × Addr)) (fp : List Addr), PE (X.blk s H scope (compEnvC scope cl C X.env) fp) kx tk)
    (he : ∀ (s : Shared) (H : Hp) (C : Addr) (cl : List (PySem.Str × Addr)) (fp : List Addr), PE (X.blk s H scope (compEnvC scope cl C X.env) fp) vx tv)
    (hs : ∀ x, foldedSetIterable iter X.env x = pure x := by intro _; rfl) : PE X (.DictComp kx vx [⟨tg, iter, ifs, 0⟩] scope pos) (tDcT wi g tt tk tv (own.map (·.2))) := by
  refine ⟨fun pins s σ H Q I h => ?_⟩
  rw [arm_eval_DictComp]
  refine dcT_core hc hN hu hi ok hg ht hk he hs I h fun D C s' m H' J q hn f => ⟨m, hn, fun h2 sb => ?_⟩
  obtain ⟨g0, g1, g2, g3, g4, g5⟩ := f
  exact ⟨.ref D, H', J.turned (t' := s'.toks) (fun b o hb e => (sb.2 b hb).trans e) g0 g1 g3 g4 g5, rfl, q⟩
/-- y = {..}, y a name of the def -/
theorem ps_setDcT {i : Nat} {y : PySem.Str} {py spos : Pos} {kx vx tg iter : Expr} {ifs : List Expr} {scope : Scope} {own : List (PySem.Str × Nat)} {pos : Pos} {wi : TI} {g : TG} {tt : TT} {tk tv : TE} (hc : X.calm = true) (hN : X.N.Nodup)
    (hu : X.A.units < cLine) (hi : PI X tg iter wi) (ok : BlkOk X.N X.env.scope scope own)
    (hg : ∀ (s : Shared) (H : Hp) (C : Addr) (cl : List (PySem.Str × Addr)) (fp : List Addr), PG (X.blk s H scope (compEnvC scope cl C X.env) fp) tg g)
    (ht : ∀ (s : Shared) (H : Hp) (C : Addr) (cl : List (PySem.Str × Addr)) (fp : List Addr), PTs (X.blk s H scope (compEnvC scope cl C X.env) fp) ifs tt)
    (hk : ∀ (s : Shared) (H : Hp) (C : Addr) (cl : List (PySem.Str × Addr)) (fp : List Addr), PE (X.blk s H scope (compEnvC scope cl C X.env) fp) kx tk)
    (he : ∀ (s : Shared) (H : Hp) (C : Addr) (cl : List (PySem.Str × Addr)) (fp : List Addr), PE (X.blk s H scope (compEnvC scope cl C X.env) fp) vx tv)
    (hy : X.N[i]? = some y) (hyl : X.env.scope.names.lookup y = some .local) (hsw : swapsWith (.DictComp kx vx [⟨tg, iter, ifs, 0⟩] scope pos) (some (.Name y py)) spos.line X.env = pure true)
    (hs : ∀ x, foldedSetIterable iter X.env x = pure x := by intro _; rfl) : PS X (.Assign [.Name y py] (.DictComp kx vx [⟨tg, iter, ifs, 0⟩] scope pos) spos) (tAsg (tDcT wi g tt tk tv (own.map (·.2))) (gName i)) := by
  refine ⟨fun pins s σ H D I h => ?_⟩
  rw [exec_Assign_Name_used _ _ _ _ hsw]
  refine wpAny_bind (wpAny_standAt (wpAny_bind ?_))
  show wpAny _ X.A (do let _ ← comprehension (.DictComp kx vx [⟨tg, iter, ifs, 0⟩] scope pos) scope X.env (firstIterPos [⟨tg, iter, ifs, 0⟩] pos) newDict false (eval iter X.env) (some (assign (.Name y py) X.env))) _ _ s
  refine wpAny_bind (thn (dcT_core (Qf := fun _ t => SP X pins D .next t) hc hN hu hi ok hg ht hk he hs I (show tDcT wi g tt tk tv (own.map (·.2)) σ H (fun x H1 => gName i x σ H1 D.nx) from h) fun L C t m G J q hn f => ?_) fun _ _ hz => wpAny_pure (wpAny_pure hz))
  show wpAny _ _ (assign (.Name y py) X.env (.ref L)) _ _ _
  refine wpAny_assign_Name (store_ok2 (v := V.ref L) J hN hy (.inl hyl) rfl (fun s2 I2 ⟨a, sb, ha⟩ => ?_) (.inr hyl))
  obtain ⟨g0, g1, g2, g3, g4, g5⟩ := f
  have nCa : C ≠ a := by
    rcases ha with z | z
    · rw [z]
      exact g1
    · exact fun e => g4 y a z e.symm
  exact ⟨m, hn.sameBut sb nCa, fun h3 sb3 => ⟨_, G, I2.turned (t' := s2.toks) (fun b o hb e => (sb3.2 b hb).trans e) g0 g1 g3 g4 g5, q⟩⟩
theorem sw_dict {kx vx : Expr} {gs : List Comprehension} {scope : Scope} {pos py : Pos} {y : PySem.Str} {l : Nat} {env : Env} (hk : env.scope.kind = .function) (hy : env.scope.names.lookup y = some .local) (hl : (py.line == pos.line) = true)
    (ha : (scope.names.any fun (n, k) => n == y && (k == .local || k == .cell)) = false) : swapsWith (.DictComp kx vx gs scope pos) (some (.Name y py)) l env = pure true := by
  have ky : env.kindOf y = some .local := hy
  have bk : env.blockKind = .function := by
    unfold Env.blockKind
    rw [hk] <;> rfl
  unfold swapsWith
  simp only [bk, ky, ha, Expr.pos, hl] <;> rfl
/-- a walk over what stays -/
theorem dcT_it {J : It} {n : Nat} {G : Hp → Prop} {Y : Nat → Hp → V → Hp → Prop} (wk : Walk J n G Y) {g : L2.TG} {tt : TT} {tk tv : TE} {ow : List Nat} {σ : L2.St} {H1 : Hp} {D : Addr} {Qd : Hp → Prop} (Pv : Nat → Hp → Prop) (h0 : Pv 0 (upd H1 D (.dT []))) (hG : ∀ i H, i ≤ n → Pv i H → G H)
    (hs : ∀ i x H H', i < n → Pv i H → Y i H x H' → g x (wipe σ ow) H' fun τ H2 => wipe τ ow = wipe σ ow ∧ tt τ H2 fun b H3 => if b = true then tk τ H3 fun y H4 => tv τ H4 fun z H5 => putT D y z H5 (Pv (i + 1)) else Pv (i + 1) H3) (hd : ∀ H, Pv n H → Qd H) :
    ∃ W : Nat → Nat → Hp → Prop, (∃ m, W 0 m (upd H1 D (.dT []))) ∧ ∀ i m H, W i m H → (J.stop i H ∧ Qd H) ∨
      (J.go i H ∧ ∃ Nx : Hp → Prop, (∀ H', Nx H' → ∃ m', m' < m ∧ W (i + 1) m' H') ∧ ∀ x H', J.yld i H x H' → g x (wipe σ ow) H' fun τ H2 => wipe τ ow = wipe σ ow ∧ tt τ H2 fun b H3 => if b = true then tk τ H3 fun y H4 => tv τ H4 fun z H5 => putT D y z H5 Nx else Nx H3) := by
  refine ⟨fun i m H => m = n - i ∧ i ≤ n ∧ Pv i H, ⟨n, by simp, Nat.zero_le _, h0⟩, ?_⟩
  rintro i m H ⟨rfl, hi, p⟩
  by_cases hlt : i < n
  · exact .inr ⟨wk.goes i H hlt (hG i H hi p), Pv (i + 1), fun H' p' => ⟨n - (i + 1), by omega, rfl, hlt, p'⟩, fun x H' y => hs i x H H' hlt p (wk.yields i H x H' hlt (hG i H hi p) y)⟩
  · have e : i = n := by omega
    subst e
    exact .inl ⟨wk.stops H (hG _ H hi p), hd H p⟩
end
end Tp

namespace K14
open PySem PySem.Spec PyProof.Rows L2 Dr Ex Rp
open He (ga ma)
abbrev FnP (K : PySem.W.Frag) (x : Str) (st : Stmt) (f : Addr) (fd : FuncData) : Prop := FunD K x x (defArgs st) (defBody st) (defScope st) [] [] f fd
abbrev FnM (K : PySem.W.Frag) (x q : Str) (st : Stmt) (f : Addr) (fd : FuncData) : Prop := FunD K x q (defArgs st) (defBody st) (defScope st) [] [] f fd
/-- what the module's names hold -/
structure TG (K : PySem.W.Frag) (mg : Str → Option Value) : Prop where
  f : ∀ x, x ∈ bn → mg x = none
  g : ∀ x, x ∈ gn → mg x = some (.ref (ga K x))
  m : ∃ t, mg "MAX_LETTERS" = some (.int 8 t)
def rLenS (K : PySem.W.Frag) : List V → Hp → VK → Prop := fun xs H Q => ∃ p ys, xs = [V.ref p] ∧ (SqL K H p ys ∨ SqT K H p ys) ∧ Q (V.int (ys.length : Nat)) H
theorem yes_in {σ : L2.St} {H : Hp} {A B : Hp → Prop} (h : A H) : tYes σ H (fun b H3 => if b = true then A H3 else B H3) := iteT (B := B H) h
end K14

/-! streams, draws, picks. -/
namespace K14
open PySem PySem.Spec PyProof.Rows L2 Dr Ex Rp
open He (ga ma)
abbrev nStream : List Str := ["_law_script", "_law_at", "_law_cell", "_law_great", "_law_mixed_here"]
theorem scStream : FnScope nStream ["_law_script", "_law_at"] (defScope sStream) := ⟨rfl, rfl, rfl, by decide +kernel, rfl, by decide +kernel, by decide +kernel⟩
section
variable {P : Program} {w : World} {K : PySem.W.Frag} {mg : Str → Option Value} {base : Heap}
theorem ok_stream {f : Addr} {fd : FuncData} (F : FnP K "_law_stream" sStream f fd) (T : TG K mg) : FnOk P w K mg base CX0 1 f fd ["_law_script", "_law_at"] (spStream K) := by
  have tl := T.f "len" (by decide +kernel)
  have ti := T.f "int" (by decide +kernel)
  have ta := T.f "abs" (by decide +kernel)
  have tm := T.f "max" (by decide +kernel)
  refine F.ok scStream (fun vs H Q E h => ?_) (fun cdv A outer s H vs Q E hr h => ?_)
  · obtain ⟨a, ns, i, rfl, _⟩ := h
    rfl
  · obtain ⟨a, ns, i, rfl, hS, hlen, hi1, k⟩ := h
    refine ⟨_, PSs.nox (pss_cons (ps_set (i := 2) scStream.nd rfl (Or.inl rfl) (pe_op op_add (pe_op op_mul pe_int (pv 1)) pe_int))
      (pss_cons (ps_if (pt_cmpR op_lt (pv 1) (pe_callB call_len_seq (by rfl) tl PySem.boot_len (pa_cons (pv 0) pa_nil)) (nomark _)) (pss_one (ps_set (i := 2) scStream.nd rfl (Or.inl rfl) (pe_ix ix_list (pv 0) (pv 1) (fun _ _ => rfl)))) pss_nil)
      (pss_cons (ps_set (i := 3) scStream.nd rfl (Or.inl rfl) (pe_op op_modN (pe_callTy call_int1 (by rfl) ti (by decide +kernel) (pa_cons (pe_callB call_abs (by rfl) ta (by decide +kernel) (pa_cons (pv 2) pa_nil)) pa_nil)) (pe_op op_powW (pe_op op_pow pe_int pe_int) pe_int)))
      (pss_cons (ps_set (i := 4) scStream.nd rfl (Or.inl rfl) (pe_op op_add (pe_op op_add (pe_op op_add (pe_op op_mul (pe_op op_mod (pe_callTy call_int1 (by rfl) ti (by decide +kernel) (pa_cons (pv 3) pa_nil)) pe_int) pe_int) (pe_op op_mul pe_int (pv 1)))
        (pe_op op_mul pe_int (pe_callTy call_int1 (by rfl) ti (by decide +kernel) (pa_cons (pe_cmpR op_lt (pv 2) pe_int (nomark _)) pa_nil)))) pe_int))
      (pss_one (ps_ret (pe_lst (pa_cons (pe_callB (call_max2 rfl) (by rfl) tm (by decide +kernel) (pa_cons pe_int (pa_cons (pe_op op_sub (pv 3) (pe_op op_pow pe_int pe_int)) pa_nil)))
        (pa_cons (pe_op op_mod (pe_callTy call_int1 (by rfl) ti (by decide +kernel) (pa_cons (pv 4) pa_nil)) pe_int) (pa_cons pe_int pa_nil)))))))))), ?_⟩
    refine ⟨_, rfl, _, _, rfl, rfl, .inl ⟨by decide, by decide⟩, _, _, rfl, rfl, ?_⟩
    refine ⟨_, rfl, _, rfl, a, _, rfl, .inl hS, _, _, rfl, rfl, _, rfl, ?_⟩
    have g0 : (0 : Int) < (10 ^ Int.toNat 60) ^ Int.toNat 10 := by decide +kernel
    have g1 : ((10 ^ Int.toNat 60 : Int) ^ Int.toNat 10).natAbs < 2 ^ 2000 := by decide +kernel
    have g2 : (0 : Int) ≤ 10 ∧ (Builtin.Int.intBits (10 ^ Int.toNat 60) : Int) * 10 ≤ 2 ^ 27 := by decide +kernel
    have g3 : (0 : Int) < 10 ^ Int.toNat 18 := by decide +kernel
    have hgr : ∀ c : Int, 0 ≤ c.fmod ((10 ^ Int.toNat 60) ^ Int.toNat 10) ∧ c.fmod ((10 ^ Int.toNat 60) ^ Int.toNat 10) < (10 ^ Int.toNat 60) ^ Int.toNat 10 := by
      intro c
      rw [Int.fmod_eq_emod_of_nonneg _ (Int.le_of_lt g0)]
      exact ⟨Int.emod_nonneg _ (by omega), Int.emod_lt_of_pos _ g0⟩
    refine ite2 (fun hc => ?b1) (fun _ => ?b2)
    case' b2 =>
      refine ⟨_, rfl, _, rfl, .inl ⟨_, rfl, _, _, rfl, rfl, ⟨by decide, by decide, by decide⟩, ?_⟩⟩
    case' b1 =>
      have hlt : i < ns.length := by
        have := of_decide_eq_true hc
        rw [List.length_map] at this
        omega
      refine ⟨_, rfl, _, rfl, a, _, _, V.int ns[i], rfl, rfl, hS, atI_nat (j := i) (by rw [List.getElem?_map, List.getElem?_eq_getElem hlt]; rfl), ?_⟩
      refine ⟨_, rfl, _, rfl, .inl ⟨_, rfl, _, _, rfl, rfl, ⟨by decide, by decide, by decide⟩, ?_⟩⟩
    all_goals
      refine ⟨_, _, rfl, rfl, g2, _, _, rfl, rfl, by (intro z; rw [z] at g0; exact absurd g0 (by decide)), ?_⟩
      refine ⟨_, rfl, .inl ⟨_, rfl, ?_⟩⟩
      refine ⟨_, _, rfl, rfl, (by show (0 : Int) < 2147483543; decide), ?_⟩
      refine ⟨_, _, rfl, rfl, .inr ⟨by decide, by decide⟩, ?_⟩
      refine ⟨_, rfl, _, _, rfl, rfl, .inl ⟨by decide, by decide⟩, ?_⟩
      refine ⟨_, _, rfl, rfl, ?_⟩
      refine ⟨_, rfl, _, _, rfl, rfl, .inr ⟨_, rfl, ?_⟩⟩
      refine ⟨_, _, rfl, rfl, .inl ⟨by decide, by decide⟩, ?_⟩
      refine ⟨_, _, rfl, rfl, ?_⟩
      refine ⟨_, _, rfl, rfl, ?_⟩
      refine ⟨_, rfl, _, _, rfl, rfl, ⟨by decide, by decide, by decide⟩, _, _, rfl, rfl, _, _, rfl, ?_⟩
      refine ⟨_, rfl, .inl ⟨_, rfl, _, _, rfl, rfl, (by show (0 : Int) < 2147483399; decide), ?_⟩⟩
      refine ⟨(by show 3 ≤ sizeLine; decide), fun p hp => ?_⟩
      refine k _ p (fun b o e => by rw [upd_ne (ne_of_none e hp)]; exact e) hp ⟨_, _, 0, upd_same, ?_, ?_, Int.emod_nonneg _ (by decide), ?_, Int.le_refl _⟩
      rotate_right
      · exact Int.lt_trans (Int.emod_lt_of_pos _ (by decide)) (by decide)
      all_goals
        have q := hgr
        generalize (10 ^ Int.toNat 60 : Int) ^ Int.toNat 10 = G at q g0 g1
        generalize (10 : Int) ^ Int.toNat 18 = D at g3
        first
          | (have q1 := q (if (ns[i] : Int) < 0 then -ns[i] else ns[i])
             generalize Int.fmod _ G = z at q1
             split <;> omega)
          | (have q1 := q (if (19 * (i : Int) + 5) < 0 then -(19 * (i : Int) + 5) else 19 * (i : Int) + 5)
             generalize Int.fmod _ G = z at q1
             split <;> omega)
end
abbrev nDraw : List Str := ["_law_stream_here", "_law_high", "_law_found", "_law_one", "_law_two"]
theorem scDraw : FnScope nDraw ["_law_stream_here", "_law_high"] (defScope sDraw) := ⟨rfl, rfl, rfl, by decide +kernel, rfl, by decide +kernel, by decide +kernel⟩
section
variable {P : Program} {w : World} {K : PySem.W.Frag} {mg : Str → Option Value} {base : Heap}
theorem ok_draw {f : Addr} {fd : FuncData} (F : FnP K "_law_draw" sDraw f fd) (T : TG K mg) : FnOk P w K mg base CX0 1 f fd ["_law_stream_here", "_law_high"] spDraw := by
  have ti := T.f "int" (by decide +kernel)
  refine F.ok scDraw (fun vs H Q E h => ?_) (fun cdv A outer s H vs Q E hr h => ?_)
  · obtain ⟨p, n, m, rfl, _⟩ := h
    rfl
  · obtain ⟨p, n, m, rfl, ⟨a, b, c, hp, a0, a1, b0, b1, c0⟩, hm, n0, n1, k⟩ := h
    refine ⟨_, PSs.nox (pss_cons (ps_if (pt_cmpR op_gt (pe_ix ix_list (pv 0) pe_int (fun _ _ => rfl)) pe_int (nomark _))
        (pss_cons (ps_set (i := 2) scDraw.nd rfl (Or.inl rfl) (pe_op op_modN (pe_callTy call_int1 (by rfl) ti (by decide +kernel) (pa_cons (pe_ix ix_list (pv 0) pe_int (fun _ _ => rfl)) pa_nil)) (pv 1)))
          (pss_cons (ps_asg (pe_op op_fdivW (pe_ix ix_list (pv 0) pe_int (fun _ _ => rfl)) (pv 1)) (pg_sub (pv 0) pe_int set_list)) (pss_one (ps_ret (pv 2))))) pss_nil)
      (pss_cons (ps_asg (pe_op op_add (pe_ix ix_list (pv 0) pe_int (fun _ _ => rfl)) pe_int) (pg_sub (pv 0) pe_int set_list))
      (pss_cons (ps_set (i := 3) scDraw.nd rfl (Or.inl rfl) (pe_op op_mod (pe_callTy call_int1 (by rfl) ti (by decide +kernel) (pa_cons (pe_op op_add (pe_ix ix_list (pv 0) pe_int (fun _ _ => rfl)) (pe_op op_mul pe_int (pe_ix ix_list (pv 0) pe_int (fun _ _ => rfl)))) pa_nil)) pe_int))
      (pss_cons (ps_set (i := 4) scDraw.nd rfl (Or.inl rfl) (pe_op op_add (pe_op op_mul (pe_op op_mod (pe_callTy call_int1 (by rfl) ti (by decide +kernel) (pa_cons (pe_op op_mul (pv 3) (pv 3)) pa_nil)) pe_int) (pv 3)) (pe_op op_mul pe_int (pe_ix ix_list (pv 0) pe_int (fun _ _ => rfl)))))
      (pss_cons (ps_set (i := 4) scDraw.nd rfl (Or.inl rfl) (pe_op op_mod (pe_callTy call_int1 (by rfl) ti (by decide +kernel) (pa_cons (pv 4) pa_nil)) pe_int))
      (pss_one (ps_ret (pe_op op_modN (pe_callTy call_int1 (by rfl) ti (by decide +kernel) (pa_cons (pe_op op_fdiv (pv 4) pe_int) pa_nil)) (pv 1))))))))), ?_⟩
    have hS := SqL.of (K := K) hp
    refine ⟨_, rfl, p, _, _, V.int a, rfl, rfl, hS, atI_nat (j := 0) rfl, _, _, rfl, rfl, _, rfl, ?_⟩
    refine ite2 (fun hc => ?_) (fun _ => ?_)
    · refine ⟨_, rfl, p, _, _, V.int a, rfl, rfl, hS, atI_nat (j := 0) rfl, .inl ⟨_, rfl, _, rfl, _, _, rfl, rfl, (by omega), ?_⟩⟩
      refine ⟨_, rfl, p, _, _, V.int a, rfl, rfl, hS, atI_nat (j := 0) rfl, _, rfl, _, _, rfl, rfl, wide_div n0 (b := 20) (by omega) (by decide) (by decide), ?_⟩
      refine ⟨_, rfl, p, _, _, 0, rfl, rfl, hp, rfl, _, rfl, ?_⟩
      have q : a.fmod n = a % n := Int.fmod_eq_emod_of_nonneg _ (by omega)
      refine k _ _ ?_ ?_ (But.upd _ _ _) ⟨_, b, c, upd_same, ?_, ?_, b0, b1, c0⟩
      · show 0 ≤ a.fmod n
        rw [q]
        exact Int.emod_nonneg _ (by omega)
      · show a.fmod n < n
        rw [q]
        exact Int.emod_lt_of_pos _ n0
      · exact Int.ediv_nonneg a0 (by omega)
      · have h1 : a / n ≤ a := Int.ediv_le_self _ a0
        have h2 : 0 ≤ a / n := Int.ediv_nonneg a0 (by omega)
        exact wide_le h2 h1 a1
    · refine ⟨_, rfl, p, _, _, V.int c, rfl, rfl, hS, atI_nat (j := 2) rfl, _, _, rfl, rfl, ?_⟩
      refine ⟨_, rfl, p, _, _, 2, rfl, rfl, hp, rfl, ?_⟩
      have hp2 : SqL K (upd H p (.lst [.int a, .int b, .int (c + 1)])) p [.int a, .int b, .int (c + 1)] := SqL.of upd_same
      refine ⟨_, rfl, p, _, _, V.int b, rfl, rfl, hp2, atI_nat (j := 1) rfl, _, rfl, p, _, _, V.int (c + 1), rfl, rfl, hp2, atI_nat (j := 2) rfl, _, _, rfl, rfl, .inl ⟨by decide, by decide⟩, _, _, rfl, rfl, .inl ⟨_, rfl, ?_⟩⟩
      refine ⟨_, _, rfl, rfl, (by show (0 : Int) < 2305843009213693951; decide), ?_⟩
      have x0 : 0 ≤ (b + 1000117 * (c + 1)) % 2305843009213693951 := Int.emod_nonneg _ (by decide)
      have x1 : (b + 1000117 * (c + 1)) % 2305843009213693951 < 2305843009213693951 := Int.emod_lt_of_pos _ (by decide)
      have y0 : ∀ z : Int, 0 ≤ z % 2305843009213693921 := fun z => Int.emod_nonneg _ (by decide)
      have y1 : ∀ z : Int, z % 2305843009213693921 < 2305843009213693921 := fun z => Int.emod_lt_of_pos _ (by decide)
      refine ⟨_, rfl, _, rfl, _, _, rfl, rfl, .inl ⟨?u1, ?u2⟩, .inl ⟨_, rfl, _, _, rfl, rfl, (by show (0 : Int) < 2305843009213693921; decide), _, rfl, _, _, rfl, rfl, .inl ⟨?u3, ?u4⟩, ?rest⟩⟩
      case u1 => exact Int.lt_of_lt_of_le (by decide) x0
      case u2 => exact Int.lt_trans x1 (by decide)
      case u3 => exact Int.lt_of_lt_of_le (by decide) (y0 _)
      case u4 => exact Int.lt_trans (y1 _) (by decide)
      refine ⟨_, rfl, p, _, _, V.int (c + 1), rfl, rfl, hp2, atI_nat (j := 2) rfl, _, _, rfl, rfl, .inl ⟨by decide, by decide⟩, _, _, rfl, rfl, ?_⟩
      refine ⟨_, rfl, .inl ⟨_, rfl, _, _, rfl, rfl, (by show (0 : Int) < 2305843009213693907; decide), ?_⟩⟩
      refine ⟨_, rfl, _, _, rfl, rfl, ⟨by decide, by decide⟩, .inl ⟨_, rfl, _, rfl, _, _, rfl, rfl, (by omega), ?_⟩⟩
      refine k _ _ ?_ ?_ (But.upd _ _ _) ⟨a, b, c + 1, upd_same, a0, a1, b0, b1, by omega⟩
      · rw [Int.fmod_eq_emod_of_nonneg _ (by omega)]
        exact Int.emod_nonneg _ (by omega)
      · rw [Int.fmod_eq_emod_of_nonneg _ (by omega)]
        exact Int.emod_lt_of_pos _ n0
abbrev nPick : List Str := ["_law_stream_here", "_law_items"]
theorem scPick : FnScope nPick ["_law_stream_here", "_law_items"] (defScope sPick) := ⟨rfl, rfl, rfl, by decide +kernel, rfl, by decide +kernel, by decide +kernel⟩
theorem ok_pick {f fD : Addr} {fd fdD : FuncData} (F : FnP K "_law_pick" sPick f fd) (FD : FnP K "_law_draw" sDraw fD fdD) (T : TG K mg) (gD : mg "_law_draw" = some (.ref fD)) : FnOk P w K mg base CX0 2 f fd ["_law_stream_here", "_law_items"] (spPick K) := by
  have tl := T.f "len" (by decide +kernel)
  have G : FnOk P w K mg base CX0 1 fD fdD ["_law_stream_here", "_law_high"] spDraw := ok_draw FD T
  have bD : Binds K fdD ["_law_stream_here", "_law_high"] [] := FD.bindsN fun _ _ _ _ _ _ us hl => match us, hl with | [_, _], _ => rfl
  refine F.ok scPick (fun vs H Q E h => ?_) (fun cdv A outer s H vs Q E hr h => ?_)
  · obtain ⟨p, q, xs, m, rfl, _⟩ := h
    rfl
  · obtain ⟨p, q, xs, m, rfl, hS, hm, npq, hq, l0, l1, k⟩ := h
    refine ⟨_, PSs.nox (pss_one (ps_ret (pe_ix ix_list (pv 1) (pe_call G hr rfl gD FD.kp bD .nil pass0 (pa_cons (pv 0) (pa_cons (pe_callB call_len_seq (by rfl) tl PySem.boot_len (pa_cons (pv 1) pa_nil)) pa_nil))) (fun _ _ => rfl)))), ?_⟩
    refine ⟨_, rfl, _, rfl, _, rfl, q, _, rfl, .inl hq, p, _, m, rfl, hS, hm, (by omega), (by omega), fun H' v v0 v1 hb hs => ?_⟩
    have hq' : SqL K H' q xs := by
      rcases hq with (h | ⟨o, h⟩) | h
      · exact .inl (.inl (hb _ _ (Ne.symm npq) h))
      · exact .inl (.inr ⟨o, hb _ _ (Ne.symm npq) h⟩)
      · exact .inr h
    have hv : v.toNat < xs.length := by omega
    have ev : ((v.toNat : Nat) : Int) = v := by omega
    refine ⟨q, _, _, xs[v.toNat], rfl, rfl, hq', ?_, ?_⟩
    · have z := atI_nat (xs := xs) (j := v.toNat) (List.getElem?_eq_getElem hv)
      rw [ev] at z
      exact z
    · exact k H' v.toNat _ (List.getElem?_eq_getElem hv) hb hs
end
end K14

/-! _law_mixed. -/
namespace K14
open PySem PySem.Spec PyProof.Rows L2 Dr Ex Rp LamX
open He (ga ma)
def spMixed (K : PySem.W.Frag) : Sp := fun vs H Q _ => ∃ (p q : Addr) (xs : List V) (k : Nat), vs = [.ref p, .ref q] ∧ StrAt H p k ∧ k ≤ 90000 ∧ p ≠ q ∧ (SqL K H q xs ∨ SqT K H q xs) ∧ xs.length ≤ 1000 ∧
  ∀ (H' : Hp) (r : Addr) (ys : List V), But p H H' → StrAt H' p (k + xs.length) → H r = none → H' r = some (.lst ys) → ys.Perm xs → Q (.ref r) H'
abbrev nMixed : List Str := ["_law_stream_here", "_law_items", "_law_left", "_law_turn"]
theorem scMixed : FnScope nMixed ["_law_stream_here", "_law_items"] (defScope sMixed) := ⟨rfl, rfl, rfl, by decide +kernel, rfl, by decide +kernel, by decide +kernel⟩
section
variable {P : Program} {w : World} {K : PySem.W.Frag} {mg : Str → Option Value} {base : Heap}
theorem ok_mixed {f fD : Addr} {fd fdD : FuncData} (F : FnP K "_law_mixed" sMixed f fd) (FD : FnP K "_law_draw" sDraw fD fdD) (T : TG K mg) (gD : mg "_law_draw" = some (.ref fD)) : FnOk P w K mg base CX0 2 f fd ["_law_stream_here", "_law_items"] (spMixed K) := by
  have tl := T.f "len" (by decide +kernel)
  have ti := T.f "list" (by decide +kernel)
  have tr := T.f "range" (by decide +kernel)
  have GD : FnOk P w K mg base CX0 1 fD fdD ["_law_stream_here", "_law_high"] spDraw := ok_draw FD T
  have bD : Binds K fdD ["_law_stream_here", "_law_high"] [] := FD.bindsN fun _ _ _ _ _ _ us hl => match us, hl with | [_, _], _ => rfl
  refine F.ok scMixed (fun vs H Q E h => ?_) (fun cdv A outer s H vs Q E hr h => ?_)
  · obtain ⟨p, q, xs, k, rfl, _⟩ := h
    rfl
  · obtain ⟨p, q, xs, k, rfl, hS, hk, npq, hq, hlen, fin⟩ := h
    refine ⟨_, PSs.nox (pss_cons (ps_set (i := 2) scMixed.nd rfl (Or.inr rfl) (pe_callTy call_list_of (by rfl) ti (by decide +kernel) (pa_cons (pv 1) pa_nil)))
      (pss_one (ps_ret (pe_lc (own := [("_law_turn", 3)]) (g := gName 3) (tt := tYes) rfl scMixed.nd (pi_range1 rfl tr (pa_cons (pe_callB call_len_seq (by rfl) tl PySem.boot_len (pa_cons (pv 1) pa_nil)) pa_nil)) (blkOk_by (own := [("_law_turn", 3)]) (N := nMixed) (sc := defScope sMixed) (by decide +kernel))
        (fun _ _ _ _ _ => pg_name (i := 3) scMixed.nd rfl (Or.inl rfl)) (fun _ _ _ _ _ => pts_nil)
        (fun _ _ _ _ _ => (show PE _ _ (tBM K "list" rPopAt (tVar 2) (tCons (tCall spDraw [] E0 (tCons (tVar 0) (tCons (tCB (rLenS K) (tCons (tVar 2) tNil)) tNil))) tNil)) from pe_bm PySem.F.plainAttrs_list PySem.F.slot_list_pop PySem.F.type_list_pop mt_popAt (pv 2) (pa_cons (pe_call GD hr rfl gD FD.kp bD .nil pass0 (pa_cons (pv 0) (pa_cons (pe_callB (id := "len") (show CallR _ _ (rLenS K) from call_len_seq) (by rfl) tl PySem.boot_len (pa_cons (pv 2) pa_nil)) pa_nil))) pa_nil))))))), ?_⟩
    obtain ⟨st0, hp0⟩ := hS.some
    refine ⟨_, rfl, q, xs, rfl, hq, fun l nl => ?_⟩
    have nlp : l ≠ p := (ne_of_none hp0 nl).symm
    have sl := smu (o := .lst xs) nl
    have ml := upd_same (H := H) (a := l) (o := .lst xs)
    have hq1 : SqL K (upd H l (.lst xs)) q xs ∨ SqT K (upd H l (.lst xs)) q xs := hq.imp (fun z => Same.seq sl z) fun z => sqt_same sl z
    have hS1 := hS.same sl
    generalize upd H l (.lst xs) = H1 at sl ml hq1 hS1 ⊢
    obtain ⟨st1, hp1⟩ := hS1.some
    refine ⟨_, rfl, q, xs, rfl, hq1, _, rfl, by omega, by omega, fun D nD => ?_⟩
    have nDp : D ≠ p := (ne_of_none hp1 nD).symm
    have nDl : D ≠ l := (ne_of_none ml nD).symm
    have nHD : H D = none := sl.free nD
    refine lc_range (lo := 0) (n := ((xs.length : Nat) : Int).toNat) (fun i G => But p H G ∧ StrAt G p (k + i) ∧ ∃ left acc, G l = some (.lst left) ∧ G D = some (.lst acc) ∧ (acc ++ left).Perm xs ∧ left.length + i = xs.length ∧ acc.length = i)
      ⟨fun b o nb e => ?_, (hS1.same (smu nD)).mono (Nat.le_refl _), xs, [], (smu nD) _ _ ml, upd_same, List.Perm.refl _, rfl, rfl⟩ ?_ ?_
    · exact (smu nD) _ _ (sl _ _ e)
    · rintro i G hi ⟨hb, st, left, acc, hl, hD, perm, len1, len2⟩
      refine ⟨rfl, yes_in ⟨_, rfl, .inl ⟨rfl, _, SqL.of hl⟩, _, rfl, _, rfl, l, left, rfl, .inl (SqL.of hl), p, _, k + i, rfl, st, by omega, by omega, by omega, fun G' v v0 v1 bt st' => ?_⟩⟩
      have hl' := bt _ _ nlp hl
      have hD' := bt _ _ nDp hD
      obtain ⟨m, rfl⟩ : ∃ m : Nat, v = (m : Int) := ⟨v.toNat, by omega⟩
      have hm : m < left.length := by omega
      obtain ⟨y, hy⟩ : ∃ y, left[m]? = some y := ⟨_, List.getElem?_eq_getElem hm⟩
      refine ⟨l, left, (m : Int), m, y, rfl, rfl, hl', by omega, by omega, ?_, hy, acc, ?_, by rw [sizeLine_eq]; omega, fun b o nb e => ?_, ?_, left.eraseIdx m, acc ++ [y], ?_, upd_same, ?_, ?_, ?_⟩
      · unfold seqIndex?
        rw [if_neg (show ¬ ((m : Int) < 0) by omega)]
        show (if (decide ((0 : Int) ≤ (m : Int)) && decide ((m : Int) < ((left.length : Nat) : Int))) = true then some ((m : Int).toNat) else none) = some m
        rw [decide_eq_true (show (0 : Int) ≤ (m : Int) by omega), decide_eq_true (show (m : Int) < ((left.length : Nat) : Int) by omega)]
        rfl
      · rw [upd_ne nDl]
        exact hD'
      · have nbl : b ≠ l := ne_of_none e nl
        have nbD : b ≠ D := ne_of_none e nHD
        rw [upd_ne nbD, upd_ne nbl]
        exact bt _ _ nb (hb _ _ nb e)
      · refine (st'.keep fun o e => ?_).mono (by omega)
        rw [upd_ne nDp.symm, upd_ne nlp.symm]
        exact e
      · rw [upd_ne nDl.symm, upd_same]
      · have e1 : left.Perm (y :: left.eraseIdx m) := by
          have e3 : left = left.take m ++ y :: left.drop (m + 1) := by
            have z := List.getElem_cons_drop hm
            rw [List.getElem?_eq_getElem hm] at hy
            rw [Option.some.inj hy] at z
            rw [z, List.take_append_drop]
          rw [List.eraseIdx_eq_take_drop_succ]
          exact (List.Perm.of_eq e3).trans List.perm_middle
        have e2 : (acc ++ [y] ++ left.eraseIdx m).Perm (acc ++ left) := by
          rw [List.append_assoc]
          exact (List.perm_append_left_iff acc).mpr e1.symm
        exact e2.trans perm
      · rw [List.length_eraseIdx_of_lt hm]
        omega
      · rw [List.length_append, len2] <;> rfl
    · rintro G ⟨hb, st, left, acc, hl, hD, perm, len1, len2⟩
      have e0 : left = [] := List.eq_nil_of_length_eq_zero (by omega)
      rw [e0, List.append_nil] at perm
      exact fin G D acc hb (st.mono (by omega)) nHD hD perm
end
end K14

/-! _law_some, _law_names. -/
namespace K14
open PySem PySem.Spec PyProof.Rows L2 Dr Ex Rp LamX
open He (ga ma)
/-- ys are items of xs, each as often at most, in any order -/
def SubP {α : Type} (ys xs : List α) : Prop := ∃ zs, (ys ++ zs).Perm xs
theorem SubP.mem {α : Type} {ys xs : List α} (h : SubP ys xs) : ∀ y ∈ ys, y ∈ xs := fun y hy => by
  obtain ⟨zs, p⟩ := h
  exact p.mem_iff.mp (List.mem_append_left _ hy)
theorem SubP.nodup {α : Type} {ys xs : List α} (h : SubP ys xs) (n : xs.Nodup) : ys.Nodup := by
  obtain ⟨zs, p⟩ := h
  exact (List.nodup_append.mp (p.nodup_iff.mpr n)).1
theorem SubP.len {α : Type} {ys xs : List α} (h : SubP ys xs) : ys.length ≤ xs.length := by
  obtain ⟨zs, p⟩ := h
  have := p.length_eq
  rw [List.length_append] at this
  omega
theorem SubP.take {α : Type} {ys xs : List α} (h : SubP ys xs) (n : Nat) : SubP (ys.take n) xs := by
  obtain ⟨zs, p⟩ := h
  exact ⟨ys.drop n ++ zs, by rw [← List.append_assoc, List.take_append_drop] <;> exact p⟩
theorem SubP.of_perm {α : Type} {ys xs : List α} (h : ys.Perm xs) : SubP ys xs := ⟨[], by rw [List.append_nil] <;> exact h⟩
def sv : V → Str
  | .str x => x
  | _ => Str.empty
theorem sv_strs (xs : List Str) : (xs.map V.str).map sv = xs := by
  rw [List.map_map]
  exact List.map_id'' (fun _ => rfl) xs
theorem strs_sv {ys : List V} {xs : List Str} (h : ∀ y ∈ ys, y ∈ xs.map V.str) : ys = (ys.map sv).map V.str := by
  induction ys with
  | nil => rfl
  | cons y r ih =>
    obtain ⟨x, _, rfl⟩ := List.mem_map.mp (h y List.mem_cons_self)
    rw [List.map_cons, List.map_cons, ← ih fun z hz => h z (List.mem_cons_of_mem _ hz)] <;> rfl
theorem SubP.strs {ys : List V} {xs : List Str} (h : SubP ys (xs.map V.str)) : ∃ zs : List Str, ys = zs.map V.str ∧ SubP zs xs := by
  refine ⟨ys.map sv, strs_sv h.mem, ?_⟩
  obtain ⟨ws, p⟩ := h
  refine ⟨ws.map sv, ?_⟩
  have q := p.map sv
  rw [List.map_append, sv_strs] at q
  exact q
theorem SubP.map {α β : Type} {ys xs : List α} (f : α → β) (h : SubP ys xs) : SubP (ys.map f) (xs.map f) := by
  obtain ⟨ws, p⟩ := h
  exact ⟨ws.map f, by rw [← List.map_append] <;> exact p.map f⟩
/-- _law_some(stream, items, least) -/
def spSome (K : PySem.W.Frag) : Sp := fun vs H Q _ => ∃ (p q : Addr) (xs : List V) (l k : Nat), vs = [.ref p, .ref q, .int l] ∧ StrAt H p k ∧ k ≤ 80000 ∧ p ≠ q ∧ (SqL K H q xs ∨ SqT K H q xs) ∧ xs.length ≤ 1000 ∧ l ≤ xs.length ∧
  ∀ (H' : Hp) (r : Addr) (ys : List V), But p H H' → StrAt H' p (k + xs.length + 1) → H r = none → H' r = some (.lst ys) → SubP ys xs → l ≤ ys.length → Q (.ref r) H'
abbrev nSome : List Str := ["_law_stream_here", "_law_items", "_law_least"]
theorem scSome : FnScope nSome ["_law_stream_here", "_law_items", "_law_least"] (defScope sSome) := ⟨rfl, rfl, rfl, by decide +kernel, rfl, by decide +kernel, by decide +kernel⟩
section
variable {P : Program} {w : World} {K : PySem.W.Frag} {mg : Str → Option Value} {base : Heap}
theorem sq_but {H H' : Hp} {p q : Addr} {xs : List V} (b : But p H H') (n : p ≠ q) (h : SqL K H q xs ∨ SqT K H q xs) : SqL K H' q xs ∨ SqT K H' q xs := by
  rcases h with h | h
  · rcases h with (h | ⟨o, h⟩) | h
    · exact .inl (.inl (.inl (b _ _ (Ne.symm n) h)))
    · exact .inl (.inl (.inr ⟨o, b _ _ (Ne.symm n) h⟩))
    · exact .inl (.inr h)
  · rcases h with h | h
    · rcases h with h | ⟨o, h⟩
      · exact .inr (.inl (.inl (b _ _ (Ne.symm n) h)))
      · exact .inr (.inl (.inr ⟨o, b _ _ (Ne.symm n) h⟩))
    · exact .inr (.inr h)
theorem ok_some {f fD fM : Addr} {fd fdD fdM : FuncData} (F : FnP K "_law_some" sSome f fd) (FD : FnP K "_law_draw" sDraw fD fdD) (FM : FnP K "_law_mixed" sMixed fM fdM) (T : TG K mg) (gD : mg "_law_draw" = some (.ref fD)) (gM : mg "_law_mixed" = some (.ref fM)) : FnOk P w K mg base CX0 3 f fd ["_law_stream_here", "_law_items", "_law_least"] (spSome K) := by
  have tl := T.f "len" (by decide +kernel)
  have GD : FnOk P w K mg base CX0 1 fD fdD ["_law_stream_here", "_law_high"] spDraw := ok_draw FD T
  have bD : Binds K fdD ["_law_stream_here", "_law_high"] [] := FD.bindsN fun _ _ _ _ _ _ us hl => match us, hl with | [_, _], _ => rfl
  have GM : FnOk P w K mg base CX0 2 fM fdM ["_law_stream_here", "_law_items"] (spMixed K) := ok_mixed FM FD T gD
  have bM : Binds K fdM ["_law_stream_here", "_law_items"] [] := FM.bindsN fun _ _ _ _ _ _ us hl => match us, hl with | [_, _], _ => rfl
  refine F.ok scSome (fun vs H Q E h => ?_) (fun cdv A outer s H vs Q E hr h => ?_)
  · obtain ⟨p, q, xs, l, k, rfl, _⟩ := h
    rfl
  · obtain ⟨p, q, xs, l, k, rfl, hS, hk, npq, hq, hlen, hl, fin⟩ := h
    refine ⟨_, PSs.nox (pss_one (ps_ret (pe_slice (show SlR _ (rSlL K) from sl_list) (pe_call GM hr rfl gM FM.kp bM .nil pass0 (pa_cons (pv 0) (pa_cons (pv 1) pa_nil))) po_none
      (po_some (pe_op op_add (pv 2) (pe_call GD (hr.mono (by decide)) rfl gD FD.kp bD .nil pass0 (pa_cons (pv 0) (pa_cons (pe_op op_add (pe_op op_sub (pe_callB (id := "len") (show CallR _ _ (rLenS K) from call_len_seq) (by rfl) tl PySem.boot_len (pa_cons (pv 1) pa_nil)) (pv 2)) pe_int) pa_nil)))))))), ?_⟩
    refine ⟨_, rfl, _, rfl, p, q, xs, k, rfl, hS, by omega, npq, hq, hlen, fun H1 r ys b1 s1 nr er pm => ?_⟩
    have hq1 := sq_but b1 npq hq
    have l1 := pm.length_eq
    refine ⟨_, rfl, _, rfl, _, rfl, q, xs, rfl, hq1, _, rfl, _, _, rfl, rfl, _, _, rfl, rfl, p, _, _, rfl, s1, by omega, by omega, by omega, fun H2 v v0 v1 b2 s2 => ?_⟩
    obtain ⟨m, rfl⟩ : ∃ m : Nat, v = (m : Int) := ⟨v.toNat, by omega⟩
    have er2 : H2 r = some (.lst ys) := b2 _ _ (fun e => by
      obtain ⟨st, hp⟩ := hS.some
      rw [e, hp] at nr
      cases nr) er
    refine ⟨_, _, rfl, rfl, _, rfl, r, ys, rfl, SqL.of er2, fun t nt => ?_⟩
    rw [show ((l : Int) + (m : Int)) = ((l + m : Nat) : Int) by omega, Tp.cutLo]
    have b3 : But p H (upd H2 t (.lst (ys.take (l + m)))) := (b1.trans b2).new nt
    refine fin _ t _ b3 (s2.same (smu nt)) ((b1.trans b2).free (fun e => ?_) nt) upd_same ((SubP.of_perm pm).take _) (by rw [List.length_take]; omega)
    obtain ⟨st, hp⟩ := s2.some
    rw [← e, nt] at hp
    cases hp
end
end K14

/-! _law_names. -/
namespace K14
open PySem PySem.Spec PyProof.Rows L2 Dr Ex Rp LamX
open He (ga ma)
def nm17 : List Str := ["a", "aa", "ab", "aba", "b", "ba", "c", "d", "desc", "e", "from", "k", "m", "self", "x", "y", "z"]
def nm18 : List Str := nm17 ++ (["zzzzzzzz"] : List Str)
theorem nm18_nodup : nm18.Nodup := by decide +kernel
theorem nm18_len : nm18.length = 18 := by decide +kernel
/-- _law_names(stream, much) -/
def spNamesL (K : PySem.W.Frag) : Sp := fun vs H Q _ => ∃ (p : Addr) (n k : Nat), vs = [.ref p, .int n] ∧ StrAt H p k ∧ k ≤ 80000 ∧ n ≤ 18 ∧
  ∀ (H' : Hp) (r : Addr) (ys : List Str), But p H H' → StrAt H' p (k + 18) → H r = none → H' r = some (.lst (ys.map V.str)) → SubP ys nm18 → ys.length = n → Q (.ref r) H'
abbrev nNamesL : List Str := ["_law_stream_here", "_law_much", "_law_some_here"]
theorem scNamesL : FnScope nNamesL ["_law_stream_here", "_law_much"] (defScope sNamesL) := ⟨rfl, rfl, rfl, by decide +kernel, rfl, by decide +kernel, by decide +kernel⟩
section
variable {P : Program} {w : World} {K : PySem.W.Frag} {mg : Str → Option Value} {base : Heap}
theorem ok_names {f fD fM : Addr} {fd fdD fdM : FuncData} (F : FnP K "_law_names" sNamesL f fd) (FD : FnP K "_law_draw" sDraw fD fdD) (FM : FnP K "_law_mixed" sMixed fM fdM) (T : TG K mg) (gD : mg "_law_draw" = some (.ref fD)) (gM : mg "_law_mixed" = some (.ref fM)) : FnOk P w K mg base CX0 3 f fd ["_law_stream_here", "_law_much"] (spNamesL K) := by
  have GM : FnOk P w K mg base CX0 2 fM fdM ["_law_stream_here", "_law_items"] (spMixed K) := ok_mixed FM FD T gD
  have bM : Binds K fdM ["_law_stream_here", "_law_items"] [] := FM.bindsN fun _ _ _ _ _ _ us hl => match us, hl with | [_, _], _ => rfl
  refine F.ok scNamesL (fun vs H Q E h => ?_) (fun cdv A outer s H vs Q E hr h => ?_)
  · obtain ⟨p, n, k, rfl, _⟩ := h
    rfl
  · obtain ⟨p, n, k, rfl, hS, hk, hn, fin⟩ := h
    refine ⟨_, PSs.nox (pss_cons (ps_set (i := 2) scNamesL.nd rfl (Or.inl rfl) (pe_lst (pa_cons pe_str (pa_cons pe_str (pa_cons pe_str (pa_cons pe_str (pa_cons pe_str (pa_cons pe_str (pa_cons pe_str (pa_cons pe_str (pa_cons pe_str (pa_cons pe_str (pa_cons pe_str (pa_cons pe_str (pa_cons pe_str (pa_cons pe_str (pa_cons pe_str (pa_cons pe_str (pa_cons pe_str pa_nil)))))))))))))))))))
      (pss_one (ps_ret (pe_slice (show SlR _ (rSlL K) from sl_list) (pe_call GM hr rfl gM FM.kp bM .nil pass0 (pa_cons (pv 0) (pa_cons (pe_op op_cat (pv 2) (pe_lst (pa_cons pe_str pa_nil))) pa_nil))) po_none (po_some (pv 1)))))), ?_⟩
    refine ⟨(by show 17 ≤ sizeLine; decide), fun l nl => ?_⟩
    have s1 := smu (o := .lst (nm17.map V.str)) nl
    have m1 : (upd H l (.lst (nm17.map V.str))) l = some (.lst (nm17.map V.str)) := upd_same
    have hS1 := hS.same s1
    refine ⟨_, rfl, _, rfl, (by show 1 ≤ sizeLine; decide), fun l2 nl2 => ?_⟩
    have s2 := smu (o := .lst [V.str "zzzzzzzz"]) nl2
    have m2 : (upd (upd H l (.lst (nm17.map V.str))) l2 (.lst [V.str "zzzzzzzz"])) l2 = some (.lst [V.str "zzzzzzzz"]) := upd_same
    have m1' := s2 _ _ m1
    have hS2 := hS1.same s2
    refine ⟨l, l2, _, _, rfl, rfl, m1', m2, (by show 17 + 1 ≤ sizeLine; decide), fun r nr => ?_⟩
    have s3 := smu (o := .lst (nm18.map V.str)) nr
    have m3 : (upd (upd (upd H l (.lst (nm17.map V.str))) l2 (.lst [V.str "zzzzzzzz"])) r (.lst (nm18.map V.str))) r = some (.lst (nm18.map V.str)) := upd_same
    have hS3 := hS2.same s3
    have s13 := (s1.trans s2).trans s3
    obtain ⟨st, hp⟩ := hS2.some
    have npr : p ≠ r := ne_of_none hp nr
    refine ⟨p, r, nm18.map V.str, k, rfl, hS3, by omega, npr, .inl (SqL.of m3), by rw [List.length_map, nm18_len]; decide, fun H1 r1 ys b1 st1 nr1 er1 pm => ?_⟩
    obtain ⟨zs, rfl, sub⟩ := (SubP.of_perm pm).strs
    have hz : zs.length = 18 := by
      have e := pm.length_eq
      rw [List.length_map, List.length_map, nm18_len] at e
      exact e
    refine ⟨_, rfl, _, rfl, r1, _, rfl, SqL.of er1, fun t nt => ?_⟩
    rw [Tp.cutLo, ← List.map_take]
    have bt : But p H H1 := fun b o nb e => b1 _ _ nb (s13 _ _ e)
    rw [List.length_map, nm18_len] at st1
    refine fin _ t _ (bt.new nt) (st1.same (smu nt)) (bt.free (fun e => ?_) nt) upd_same (sub.take n) (by rw [List.length_take]; omega)
    obtain ⟨st', hp'⟩ := st1.some
    rw [← e, nt] at hp'
    cases hp'
end
end K14

/-! _law_tree_atoms. -/
namespace K14
open PySem PySem.Spec PyProof.Rows L2 Dr Ex Rp LamX
open He (ga ma)
/-- rows of texts, each a tuple of its own -/
def RowsS (H : Hp) (bs : List (Addr × List Str)) : Prop := ∀ z ∈ bs, H z.1 = some (.tup (z.2.map V.str))
def refS (bs : List (Addr × List Str)) : List V := bs.map fun z => V.ref z.1
/-- the last i items of ls are popped from l and stand at D -/
def PopI (H1 : Hp) (l D : Addr) (ls : List Str) (i : Nat) (G : Hp) : Prop :=
  (∀ b o, b ≠ l → H1 b = some o → G b = some o) ∧ G l = some (.lst ((ls.take (ls.length - i)).map V.str)) ∧ G D = some (.lst ((ls.reverse.take i).map V.str))
theorem pop0 {H1 : Hp} {l D : Addr} {ls : List Str} (hl : H1 l = some (.lst (ls.map V.str))) (nD : H1 D = none) : PopI H1 l D ls 0 (upd H1 D (.lst [])) := by
  refine ⟨fun b o _ e => (smu nD) _ _ e, ?_, upd_same⟩
  rw [Nat.sub_zero, List.take_length]
  exact (smu nD) _ _ hl
theorem popS {H1 G : Hp} {l D : Addr} {ls : List Str} {i : Nat} (h : PopI H1 l D ls i G) (hi : i < ls.length) (nl : l ≠ D) (nD : H1 D = none) :
    ∃ y, ((ls.take (ls.length - i)).map V.str)[((ls.take (ls.length - i)).map V.str).length - 1]? = some (V.str y) ∧
      (upd G l (.lst ((ls.take (ls.length - i)).map V.str).dropLast)) D = some (.lst ((ls.reverse.take i).map V.str)) ∧ ((ls.reverse.take i).map V.str).length = i ∧
      PopI H1 l D ls (i + 1) (upd (upd G l (.lst ((ls.take (ls.length - i)).map V.str).dropLast)) D (.lst ((ls.reverse.take i).map V.str ++ [V.str y]))) := by
  obtain ⟨h1, h2, h3⟩ := h
  have ln : (ls.take (ls.length - i)).length = ls.length - i := by rw [List.length_take]; omega
  obtain ⟨y, hy⟩ : ∃ y, ls[ls.length - i - 1]? = some y := ⟨_, List.getElem?_eq_getElem (by omega)⟩
  refine ⟨y, ?_, by rw [upd_ne nl.symm]; exact h3, by rw [List.length_map, List.length_take, List.length_reverse]; omega, fun b o nb e => ?_, ?_, ?_⟩
  · rw [List.length_map, ln, List.getElem?_map, List.getElem?_take, if_pos (by omega), hy] <;> rfl
  · rw [upd_ne (ne_of_none e nD), upd_ne nb]
    exact h1 b o nb e
  · rw [upd_ne nl, upd_same, ← List.map_dropLast, List.dropLast_eq_take, ln, List.take_take]
    rw [show min (ls.length - i - 1) (ls.length - i) = ls.length - (i + 1) by omega]
  · rw [upd_same]
    have e : ls.reverse.take (i + 1) = ls.reverse.take i ++ [y] := by
      rw [List.take_succ, List.getElem?_reverse (by omega), show ls.length - 1 - i = ls.length - i - 1 by omega, hy] <;> rfl
    rw [e, List.map_append] <;> rfl
theorem cutM1 (xs : List V) : cutV xs none (some (-1)) = xs.dropLast := by
  unfold cutV
  rw [HT.sIx_none, Nat.sub_zero, List.drop_zero, List.dropLast_eq_take]
  congr 1
  show (if (-1 : Int) < 0 then ((-1 : Int) + (xs.length : Int)).toNat else min (-1 : Int).toNat xs.length) = xs.length - 1
  rw [if_pos (by decide)]
  omega
/-- rows over the columns behind the m-th, each of these in some row -/
structure TreeOk (cols : List Str) (m : Nat) (rows : List (List Str)) : Prop where
  one : rows ≠ []
  row : ∀ r ∈ rows, r ≠ [] ∧ r.Nodup ∧ ∀ c ∈ r, c ∈ cols.drop m
  all : ∀ c ∈ cols.drop m, ∃ r ∈ rows, c ∈ r
theorem pop_mem {cols : List Str} {m j : Nat} (hj : j ≤ m) (hm : m ≤ cols.length) : (∀ c ∈ (cols.take m).reverse.take j, c ∈ cols.take m ∧ c ∈ cols.drop (m - j)) ∧ (∀ c ∈ cols.drop (m - j), c ∈ (cols.take m).reverse.take j ∨ c ∈ cols.drop m) := by
  have e : (cols.take m).reverse.take j = ((cols.take m).drop (m - j)).reverse := by
    rw [List.take_reverse, List.length_take, show min m cols.length - j = m - j by omega]
  have e2 : cols.drop (m - j) = (cols.take m).drop (m - j) ++ cols.drop m := by
    conv => lhs; rw [← List.take_append_drop m cols]
    rw [List.drop_append_of_le_length (by rw [List.length_take]; omega)]
  refine ⟨fun c hc => ?_, fun c hc => ?_⟩
  · rw [e, List.mem_reverse] at hc
    exact ⟨List.mem_of_mem_drop hc, by rw [e2]; exact List.mem_append_left _ hc⟩
  · rw [e2] at hc
    rcases List.mem_append.mp hc with h | h
    · exact .inl (by rw [e, List.mem_reverse]; exact h)
    · exact .inr h
theorem tree_start {cols : List Str} {j : Nat} (nd : cols.Nodup) (h1 : 1 ≤ j) (hj : j ≤ cols.length) : TreeOk cols (cols.length - j) [cols.reverse.take j] := by
  have e := pop_mem (cols := cols) hj (Nat.le_refl _)
  rw [List.take_length] at e
  refine ⟨List.cons_ne_nil _ _, fun r hr => ?_, fun c hc => ⟨_, List.mem_singleton.mpr rfl, ?_⟩⟩
  · rw [List.mem_singleton.mp hr]
    refine ⟨fun z => ?_, ((List.reverse_perm cols).nodup_iff.mpr nd).sublist (List.take_sublist _ _), fun c hc => (e.1 c hc).2⟩
    have := congrArg List.length z
    rw [List.length_take, List.length_reverse] at this
    simp only [List.length_nil] at this
    omega
  · rcases e.2 c hc with h | h
    · exact h
    · rw [List.drop_length] at h
      cases h
theorem tree_more {cols r0 sh new : List Str} {rows : List (List Str)} {m j : Nat} (nd : cols.Nodup) (T : TreeOk cols m rows) (hr : r0 ∈ rows) (hs : SubP sh r0) (h1 : 1 ≤ j) (hj : j ≤ m) (hm : m ≤ cols.length) (pn : new.Perm (sh ++ (cols.take m).reverse.take j)) : TreeOk cols (m - j) (rows ++ [new]) := by
  have e := pop_mem (cols := cols) hj hm
  obtain ⟨_, nr, ir⟩ := T.row r0 hr
  have nd2 : (cols.take m ++ cols.drop m).Nodup := by rw [List.take_append_drop]; exact nd
  have dis := List.nodup_append.mp nd2
  refine ⟨by simp, fun r hr => ?_, fun c hc => ?_⟩
  · rcases List.mem_append.mp hr with h | h
    · obtain ⟨a1, a2, a3⟩ := T.row r h
      exact ⟨a1, a2, fun c hc => by
        have z := a3 c hc
        rw [show m = (m - j) + j by omega, ← List.drop_drop] at z
        exact List.mem_of_mem_drop z⟩
    · rw [List.mem_singleton.mp h]
      refine ⟨fun z => ?_, pn.nodup_iff.mpr (List.nodup_append.mpr ⟨hs.nodup nr, ?_, fun a ha b hb => ?_⟩), fun c hc => ?_⟩
      · have := pn.length_eq
        rw [z, List.length_append, List.length_take, List.length_reverse, List.length_take] at this
        simp only [List.length_nil] at this
        omega
      · exact ((List.reverse_perm _).nodup_iff.mpr dis.1).sublist (List.take_sublist _ _)
      · exact fun q => dis.2.2 b (e.1 b hb).1 a (ir a (hs.mem a ha)) q.symm
      · rcases List.mem_append.mp (pn.mem_iff.mp hc) with h | h
        · have z := ir c (hs.mem c h)
          rw [show m = (m - j) + j by omega, ← List.drop_drop] at z
          exact List.mem_of_mem_drop z
        · exact (e.1 c h).2
  · rcases e.2 c hc with h | h
    · exact ⟨new, List.mem_append_right _ (List.mem_singleton.mpr rfl), pn.mem_iff.mpr (List.mem_append_right _ h)⟩
    · obtain ⟨r, hr, z⟩ := T.all c h
      exact ⟨r, List.mem_append_left _ hr, z⟩
theorem tree_end {cols la : List Str} {ini : List (List Str)} {m : Nat} (nd : cols.Nodup) (T : TreeOk cols m (ini ++ [la])) : TreeOk cols 0 (ini ++ [la ++ cols.take m]) := by
  have nd2 : (cols.take m ++ cols.drop m).Nodup := by rw [List.take_append_drop]; exact nd
  have dis := List.nodup_append.mp nd2
  refine ⟨by simp, fun r hr => ?_, fun c hc => ?_⟩
  · rw [List.drop_zero]
    rcases List.mem_append.mp hr with h | h
    · obtain ⟨a1, a2, a3⟩ := T.row r (List.mem_append_left _ h)
      exact ⟨a1, a2, fun c hc => List.mem_of_mem_drop (a3 c hc)⟩
    · obtain ⟨a1, a2, a3⟩ := T.row la (List.mem_append_right _ (List.mem_singleton.mpr rfl))
      rw [List.mem_singleton.mp h]
      refine ⟨fun z => a1 (List.append_eq_nil_iff.mp z).1, List.nodup_append.mpr ⟨a2, dis.1, fun a ha b hb q => dis.2.2 b hb a (a3 a ha) q.symm⟩, fun c hc => ?_⟩
      rcases List.mem_append.mp hc with h | h
      · exact List.mem_of_mem_drop (a3 c h)
      · exact List.mem_of_mem_take h
  · rw [List.drop_zero, ← List.take_append_drop m cols] at hc
    rcases List.mem_append.mp hc with h | h
    · exact ⟨_, List.mem_append_right _ (List.mem_singleton.mpr rfl), List.mem_append_right _ h⟩
    · obtain ⟨r, hr, z⟩ := T.all c h
      rcases List.mem_append.mp hr with g | g
      · exact ⟨r, List.mem_append_left _ g, z⟩
      · rw [List.mem_singleton.mp g] at z
        exact ⟨_, List.mem_append_right _ (List.mem_singleton.mpr rfl), List.mem_append_left _ z⟩
end K14
namespace K14
open PySem PySem.Spec PyProof.Rows L2
theorem dp_strs {K : PySem.W.Frag} {H : Hp} : ∀ xs : List Str, DpAll K H (xs.map V.str) (xs.map PyData.str)
  | [] => .nil
  | x :: r => .cons (.str x) (dp_strs r)
theorem nm_ok : ∀ x ∈ nm18, PyData.strOk x = true := by decide +kernel
theorem lay_strs : ∀ xs : List Str, (∀ x ∈ xs, x ∈ nm18) → PyData.canLayAll0 (xs.map PyData.str) = true
  | [], _ => rfl
  | x :: r, h => by
    rw [List.map_cons]
    simp only [PyData.canLayAll0, PyData.canLay0, lay_strs r fun y hy => h y (List.mem_cons_of_mem _ hy), nm_ok x (h x List.mem_cons_self), Bool.and_self]
theorem dep_strs : ∀ xs : List Str, PyData.depthAll (xs.map PyData.str) ≤ 1
  | [] => Nat.zero_le _
  | x :: r => by
    rw [List.map_cons]
    have := dep_strs r
    simp only [PyData.depthAll, PyData.depth]
    omega
theorem shaped_strs (xs : List Str) (h : ∀ x ∈ xs, x ∈ nm18) : SeqAt.shaped (.list (xs.map PyData.str)) = true := by
  unfold SeqAt.shaped
  rw [Bool.and_eq_true, decide_eq_true_eq]
  refine ⟨by simp only [PyData.canLay0]; exact lay_strs xs h, ?_⟩
  simp only [PyData.depth]
  have := dep_strs xs
  omega
theorem ne_nil (xs : List Str) : (!PyData.eqv (.list (xs.map PyData.str)) (.list [])) = decide (xs ≠ []) := by
  cases xs with
  | nil => decide
  | cons x r => rfl
end K14
namespace K14
open PySem PySem.Spec PyProof.Rows L2
theorem nodup_le {α : Type} [DecidableEq α] : ∀ (l D : List α), l.Nodup → (∀ x ∈ l, x ∈ D) → l.length ≤ D.length
  | [], _, _, _ => Nat.zero_le _
  | a :: l, D, n, h => by
    obtain ⟨n1, n2⟩ := List.nodup_cons.mp n
    have ha := h a List.mem_cons_self
    have z := nodup_le l (D.erase a) n2 fun x hx => (List.mem_erase_of_ne (fun e : x = a => n1 (e ▸ hx))).mpr (h x (List.mem_cons_of_mem _ hx))
    rw [List.length_erase_of_mem ha] at z
    have : 0 < D.length := List.length_pos_of_mem ha
    rw [List.length_cons]
    omega
theorem TreeOk.len {cols : List Str} {m : Nat} {rows : List (List Str)} (T : TreeOk cols m rows) : ∀ r ∈ rows, r.length ≤ cols.length := fun r hr =>
  nodup_le r cols (T.row r hr).2.1 fun c hc => List.mem_of_mem_drop ((T.row r hr).2.2 c hc)
theorem refS_len (bs : List (Addr × List Str)) : (refS bs).length = bs.length := List.length_map _
theorem refS_get {bs : List (Addr × List Str)} {i : Nat} {x : V} (h : (refS bs)[i]? = some x) : ∃ z ∈ bs, x = .ref z.1 := by
  obtain ⟨z, hz, e⟩ := List.mem_map.mp (List.mem_of_getElem? h)
  exact ⟨z, hz, e.symm⟩
/-- rows stay where all but some addresses stays that hold no tuple -/
theorem RowsS.keep {H G : Hp} {bs : List (Addr × List Str)} {p l : Addr} (h : RowsS H bs) (hp : ∀ xs, H p ≠ some (.tup xs)) (hl : ∀ xs, H l ≠ some (.tup xs)) (k : ∀ b o, b ≠ p → b ≠ l → H b = some o → G b = some o) : RowsS G bs := fun z hz =>
  k _ _ (fun e => hp _ (e ▸ h z hz)) (fun e => hl _ (e ▸ h z hz)) (h z hz)
end K14

/-! _law_tree_atoms. -/
namespace K14
open PySem PySem.Spec PyProof.Rows L2 Dr Ex Rp LamX
open He (ga ma)
/-- _law_tree_atoms(stream, columns, most), .. -/
def spAtoms (K : PySem.W.Frag) : Sp := fun vs H Q _ => ∃ (p q : Addr) (cols : List Str) (n k : Nat), vs = [.ref p, .ref q, .int n] ∧ StrAt H p k ∧ k ≤ 60000 ∧ p ≠ q ∧ SqL K H q (cols.map V.str) ∧ cols.Nodup ∧ (∀ c ∈ cols, c ∈ nm18) ∧ cols ≠ [] ∧ cols.length ≤ 18 ∧ 1 ≤ n ∧ n ≤ 10 ∧
  ∀ (H' : Hp) (r : Addr) (bs : List (Addr × List Str)), But p H H' → StrAt H' p (k + 400) → H r = none → H' r = some (.lst (refS bs)) → RowsS H' bs → TreeOk cols 0 (bs.map (·.2)) → bs.length ≤ n + 1 → Q (.ref r) H'
/-- what the functions drawn from are -/
structure Dfs (K : PySem.W.Frag) (mg : Str → Option Value) : Prop where
  T : TG K mg
  fD : ∃ fd, FnP K "_law_draw" sDraw (ga K "_law_draw") fd
  fP : ∃ fd, FnP K "_law_pick" sPick (ga K "_law_pick") fd
  fM : ∃ fd, FnP K "_law_mixed" sMixed (ga K "_law_mixed") fd
  fS : ∃ fd, FnP K "_law_some" sSome (ga K "_law_some") fd
  fN : ∃ fd, FnP K "_law_names" sNamesL (ga K "_law_names") fd
abbrev nTree : List Str := ["_law_stream_here", "_law_columns_here", "_law_most", "_law_left", "_law_found", "_law_shared", "_law_fresh", "_law_turn"]
theorem scTree : FnScope nTree ["_law_stream_here", "_law_columns_here", "_law_most"] (defScope sTree) := ⟨rfl, rfl, rfl, by decide +kernel, rfl, by decide +kernel, by decide +kernel⟩
section
variable {P : Program} {w : World} {K : PySem.W.Frag} {mg : Str → Option Value} {base : Heap}
theorem ok_tree {f : Addr} {fd : FuncData} (F : FnP K "_law_tree_atoms" sTree f fd) (D : Dfs K mg) : FnOk P w K mg base CX0 4 f fd ["_law_stream_here", "_law_columns_here", "_law_most"] (spAtoms K) := by
  obtain ⟨T, ⟨fdD, FD⟩, ⟨fdP, FP⟩, ⟨fdM, FM⟩, ⟨fdS, FS⟩, _⟩ := D
  have gD := T.g "_law_draw" (by decide +kernel)
  have gP := T.g "_law_pick" (by decide +kernel)
  have gM := T.g "_law_mixed" (by decide +kernel)
  have gS := T.g "_law_some" (by decide +kernel)
  have tl := T.f "len" (by decide +kernel)
  have ti := T.f "list" (by decide +kernel)
  have tt := T.f "tuple" (by decide +kernel)
  have tr := T.f "range" (by decide +kernel)
  have tm := T.f "min" (by decide +kernel)
  have GD : FnOk P w K mg base CX0 1 _ fdD ["_law_stream_here", "_law_high"] spDraw := ok_draw FD T
  have bD : Binds K fdD ["_law_stream_here", "_law_high"] [] := FD.bindsN fun _ _ _ _ _ _ us hl => match us, hl with | [_, _], _ => rfl
  have GP : FnOk P w K mg base CX0 2 _ fdP ["_law_stream_here", "_law_items"] (spPick K) := ok_pick FP FD T gD
  have bP : Binds K fdP ["_law_stream_here", "_law_items"] [] := FP.bindsN fun _ _ _ _ _ _ us hl => match us, hl with | [_, _], _ => rfl
  have GM : FnOk P w K mg base CX0 2 _ fdM ["_law_stream_here", "_law_items"] (spMixed K) := ok_mixed FM FD T gD
  have bM : Binds K fdM ["_law_stream_here", "_law_items"] [] := FM.bindsN fun _ _ _ _ _ _ us hl => match us, hl with | [_, _], _ => rfl
  have GS : FnOk P w K mg base CX0 3 _ fdS ["_law_stream_here", "_law_items", "_law_least"] (spSome K) := ok_some FS FD FM T gD gM
  have bS : Binds K fdS ["_law_stream_here", "_law_items", "_law_least"] [] := FS.bindsN fun _ _ _ _ _ _ us hl => match us, hl with | [_, _, _], _ => rfl
  refine F.ok scTree (fun vs H Q E h => ?_) (fun cdv A outer s H vs Q E hr h => ?_)
  · obtain ⟨p, q, cols, n, k, rfl, _⟩ := h
    rfl
  · obtain ⟨p, q, cols, n, k, rfl, hS, hk, npq, hq, nd, cN, c0, c18, n1, n10, fin⟩ := h
    have hr1 : Room 1 (A.deeper (envOfC "_law_tree_atoms" (defScope sTree) s.heap.objs.size f cdv)) := hr.mono (by decide)
    have hr2 : Room 2 (A.deeper (envOfC "_law_tree_atoms" (defScope sTree) s.heap.objs.size f cdv)) := hr.mono (by decide)
    refine ⟨_, PSs.nox (pss_cons (ps_set (i := 3) scTree.nd rfl (Or.inr rfl) (pe_callTy call_list_of (by rfl) ti (by decide +kernel) (pa_cons (pv 1) pa_nil)))
      (pss_cons (ps_set (i := 4) scTree.nd rfl (Or.inl rfl) (pe_lst (pa_cons (pe_callTy call_tuple_of (by rfl) tt (by decide +kernel) (pa_cons
          (pe_lc (own := [("_law_turn", 7)]) (g := gName 7) (tt := tYes) rfl scTree.nd (pi_range1 rfl tr (pa_cons (pe_callB (call_min2 rfl) (by rfl) tm (by decide +kernel) (pa_cons (pe_callB (id := "len") (show CallR _ _ (rLenS K) from call_len_seq) (by rfl) tl PySem.boot_len (pa_cons (pv 3) pa_nil)) (pa_cons (pe_op op_add pe_int (pe_call GD hr1 rfl gD FD.kp bD .nil pass0 (pa_cons (pv 0) (pa_cons pe_int pa_nil)))) pa_nil))) pa_nil)) (blkOk_by (own := [("_law_turn", 7)]) (N := nTree) (sc := defScope sTree) (by decide +kernel))
            (fun _ _ _ _ _ => pg_name (i := 7) scTree.nd rfl (Or.inl rfl)) (fun _ _ _ _ _ => pts_nil) (fun _ _ _ _ _ => (show PE _ _ (tBM0 K "list" rPop (tVar 3)) from pe_bm0 PySem.F.plainAttrs_list PySem.F.slot_list_pop PySem.F.type_list_pop mt_pop (pv 3)))) pa_nil)) pa_nil)))
      (pss_cons (ps_while PassesOwn.never (PW.pt (pw_and (pt_cmpR (show OpR _ _ (rNeD K) from op_neD hr.units) (pv 3) (pe_lst pa_nil) (nomark _)) (pw_and1 (pt_cmpR op_lt (pe_callB (id := "len") (show CallR _ _ (rLenS K) from call_len_seq) (by rfl) tl PySem.boot_len (pa_cons (pv 4) pa_nil)) (pv 2) (nomark _)))))
          (pss_cons (ps_set (i := 5) scTree.nd rfl (Or.inl rfl) (pe_slice (show SlR _ (rSlL K) from sl_list) (pe_call GS hr rfl gS FS.kp bS .nil pass0 (pa_cons (pv 0) (pa_cons (pe_callTy call_list_of (by rfl) ti (by decide +kernel) (pa_cons (pe_call GP hr2 rfl gP FP.kp bP .nil pass0 (pa_cons (pv 0) (pa_cons (pv 4) pa_nil))) pa_nil)) (pa_cons pe_int pa_nil)))) po_none (po_some pe_int)))
          (pss_cons (ps_setLc (i := 6) (own := [("_law_turn", 7)]) (g := gName 7) (tt := tYes) rfl scTree.nd rfl rfl (sw_true rfl rfl rfl (by decide +kernel)) (pi_range1 rfl tr (pa_cons (pe_callB (call_min2 rfl) (by rfl) tm (by decide +kernel) (pa_cons (pe_callB (id := "len") (show CallR _ _ (rLenS K) from call_len_seq) (by rfl) tl PySem.boot_len (pa_cons (pv 3) pa_nil)) (pa_cons (pe_op op_add pe_int (pe_call GD hr1 rfl gD FD.kp bD .nil pass0 (pa_cons (pv 0) (pa_cons pe_int pa_nil)))) pa_nil))) pa_nil)) (blkOk_by (own := [("_law_turn", 7)]) (N := nTree) (sc := defScope sTree) (by decide +kernel))
            (fun _ _ _ _ _ => pg_name (i := 7) scTree.nd rfl (Or.inl rfl)) (fun _ _ _ _ _ => pts_nil) (fun _ _ _ _ _ => (show PE _ _ (tBM0 K "list" rPop (tVar 3)) from pe_bm0 PySem.F.plainAttrs_list PySem.F.slot_list_pop PySem.F.type_list_pop mt_pop (pv 3))))
          (pss_one (ps_expr (pe_bm PySem.F.plainAttrs_list PySem.F.slot_list_append PySem.F.type_list_append mt_append (pv 4) (pa_cons (pe_callTy call_tuple_of (by rfl) tt (by decide +kernel) (pa_cons (pe_call GM hr2 rfl gM FM.kp bM .nil pass0 (pa_cons (pv 0) (pa_cons (pe_op op_cat (pv 5) (pv 6)) pa_nil))) pa_nil)) pa_nil)))))))
      (pss_one (ps_ret (pe_op op_cat (pe_slice (show SlR _ (rSlL K) from sl_list) (pv 4) po_none (po_some (pe_un un_neg pe_int))) (pe_lst (pa_cons (pe_op (show OpR _ _ (Tp.rCatT K) from Tp.op_catT) (pe_ix ix_list (pv 4) (pe_un un_neg pe_int) (fun _ _ => rfl)) (pe_callTy call_tuple_of (by rfl) tt (by decide +kernel) (pa_cons (pv 3) pa_nil))) pa_nil)))))))), ?_⟩
    obtain ⟨st0, hp0⟩ := hS.some
    refine ⟨_, rfl, q, _, rfl, .inl hq, fun l nl => ?_⟩
    have yl := smu (o := .lst (cols.map V.str)) nl
    have ml := upd_same (H := H) (a := l) (o := .lst (cols.map V.str))
    have nlp : l ≠ p := (ne_of_none hp0 nl).symm
    have nHl : H l = none := nl
    generalize upd H l (.lst (cols.map V.str)) = H1 at yl ml ⊢
    have hS1 := hS.same yl
    show tSeq _ _ _ ([some (.ref p), some (.ref q), some (.int n), some (.ref l), none, none, none, none] : L2.St) _
    refine ⟨_, rfl, l, _, rfl, .inl (SqL.of ml), _, rfl, p, 3, k, rfl, hS1, by omega, by decide, by decide, fun H2 v v0 v1 b2 s2 => ⟨_, _, rfl, rfl, _, _, rfl, ?_⟩⟩
    have nq0 : cols.length ≠ 0 := fun e => c0 (List.eq_nil_of_length_eq_zero e)
    obtain ⟨j, ej, j1, jc⟩ : ∃ j : Nat, (if 1 + v < (((cols.map V.str).length : Nat) : Int) then 1 + v else (((cols.map V.str).length : Nat) : Int)) = (j : Int) ∧ 1 ≤ j ∧ j ≤ cols.length := by
      rw [List.length_map]
      split
      · exact ⟨(1 + v).toNat, by omega, by omega, by omega⟩
      · exact ⟨cols.length, rfl, by omega, Nat.le_refl _⟩
    rw [ej]
    have ml2 := b2 _ _ nlp ml
    obtain ⟨st2, hp2⟩ := s2.some
    refine ⟨_, rfl, by omega, by omega, fun D nD => ?_⟩
    have nDl : l ≠ D := ne_of_none ml2 nD
    refine lc_range (lo := 0) (n := ((j : Nat) : Int).toNat) (fun i G => PopI H2 l D cols i G) (pop0 ml2 nD) (fun i G hi h => ?_) fun G h => ?_
    · obtain ⟨y, e1, e2, e3, e4⟩ := popS h (by omega) nDl nD
      exact ⟨rfl, yes_in ⟨_, rfl, .inl ⟨rfl, _, SqL.of h.2.1⟩, l, _, V.str y, rfl, rfl, h.2.1, e1, _, e2, by rw [e3, sizeLine_eq]; omega, e4⟩⟩
    rw [Int.toNat_natCast] at h
    obtain ⟨hk2, hl, hD⟩ := h
    have nDp : D ≠ p := (ne_of_none hp2 nD).symm
    have bG : But p H G := fun b o nb e => hk2 _ _ (fun z => by rw [z, nHl] at e; cases e) (b2 _ _ nb (yl _ _ e))
    have sG : StrAt G p (k + 1) := s2.keep fun o e => hk2 _ _ nlp.symm e
    refine ⟨D, _, rfl, .inl ⟨SqL.of hD, fun t nt => ?_⟩⟩
    have yt := smu (o := .tup ((cols.reverse.take j).map V.str)) nt
    have mt := upd_same (H := G) (a := t) (o := .tup ((cols.reverse.take j).map V.str))
    have nHt : H t = none := bG.free (fun e => by obtain ⟨_, z⟩ := sG.some; rw [← e, nt] at z; cases z) nt
    generalize upd G t (.tup ((cols.reverse.take j).map V.str)) = G1 at yt mt ⊢
    refine ⟨(by show 1 ≤ sizeLine; decide), fun f' nf => ?_⟩
    have yf := smu (o := .lst [V.ref t]) nf
    have mf := upd_same (H := G1) (a := f') (o := .lst [V.ref t])
    generalize upd G1 f' (.lst [V.ref t]) = G2 at yf mf ⊢
    have y2 := yt.trans yf
    have nfp : f' ≠ p := by
      obtain ⟨_, z⟩ := (sG.same yt).some
      exact (ne_of_none z nf).symm
    have nfl : f' ≠ l := (ne_of_none (yt _ _ hl) nf).symm
    have nHf : H f' = none := (bG.same yt).free nfp nf
    show tSeq _ _ _ ([some (.ref p), some (.ref q), some (.int n), some (.ref l), some (.ref f'), none, none, none] : L2.St) _
    refine while_by (fun σ G => (∃ t5 t6 t7 : Option V, σ = [some (.ref p), some (.ref q), some (.int n), some (.ref l), some (.ref f'), t5, t6, t7]) ∧ But p H G ∧ ∃ (m : Nat) (bs : List (Addr × List Str)), StrAt G p (k + 30 * bs.length) ∧ m ≤ cols.length ∧
      G l = some (.lst ((cols.take m).map V.str)) ∧ G f' = some (.lst (refS bs)) ∧ RowsS G bs ∧ TreeOk cols m (bs.map (·.2)) ∧ bs.length ≤ n) (fun σ G => match G l with | some (.lst xs) => xs.length | _ => 0)
      ⟨⟨none, none, none, rfl⟩, bG.same y2, cols.length - j, [(t, cols.reverse.take j)], (sG.same y2).mono (by show k + 1 ≤ k + 30 * 1; omega), by omega, y2 _ _ hl, mf, (fun z hz => by rw [List.mem_singleton.mp hz]; exact yf _ _ mt), tree_start nd j1 jc, n1⟩ ?_ ?_
    · rintro σ G ⟨⟨t5, t6, t7, rfl⟩, bG, m, bs, sG, hm, hl, hf, hR, T, hn⟩
      refine ⟨_, rfl, Nat.zero_le _, fun E1 nE => ?_⟩
      have yE := smu (o := .lst []) nE
      have mE := upd_same (H := G) (a := E1) (o := .lst [])
      generalize upd G E1 (.lst []) = G3 at yE mE ⊢
      have b3 : But p H G3 := bG.same yE
      have s3 := sG.same yE
      have hl3 := yE _ _ hl
      have hf3 := yE _ _ hf
      obtain ⟨st3, hp3⟩ := s3.some
      have hR3 : RowsS G3 bs := fun z hz => yE _ _ (hR z hz)
      refine ⟨.list ((cols.take m).map PyData.str), .list [], .lst (SqL.of hl3) (dp_strs _), .lst (SqL.of mE) .nil, shaped_strs _ (fun c hc => cN c (List.mem_of_mem_take hc)), rfl, _, rfl, ?_⟩
      rw [ne_nil]
      have hbl : 0 < bs.length := by
        cases bs with
        | nil => exact absurd rfl T.one
        | cons => exact Nat.succ_pos _
      by_cases hc : cols.take m ≠ [] ∧ bs.length < n
      · rw [decide_eq_true hc.1]
        refine iteT ⟨_, rfl, f', _, rfl, .inl (SqL.of hf3), _, rfl, _, _, rfl, rfl, _, rfl, ?_⟩
        rw [refS_len, decide_eq_true (show ((bs.length : Nat) : Int) < (n : Int) by omega)]
        refine iteT ?_
        show tSeq _ _ _ ([some (.ref p), some (.ref q), some (.int n), some (.ref l), some (.ref f'), t5, t6, t7] : L2.St) _
        have npf : p ≠ f' := nfp.symm
        have m1 : 1 ≤ m := by
          cases m with
          | zero => exact absurd (List.take_zero) hc.1
          | succ => omega
        refine ⟨_, rfl, _, rfl, _, rfl, p, f', refS bs, k + 30 * bs.length, rfl, s3, by omega, npf, SqL.of hf3, by rw [refS_len]; exact hbl, by rw [refS_len]; omega, fun G4 i x hx b4 s4 => ?_⟩
        obtain ⟨z, hz, rfl⟩ := refS_get hx
        have hzr := List.mem_map_of_mem (f := (·.2)) hz
        have zlen := T.len _ hzr
        have nzp : z.1 ≠ p := fun e => by
          have y := hR3 z hz
          rw [e, hp3] at y
          cases y
        have hz4 := b4 _ _ nzp (hR3 z hz)
        refine ⟨z.1, _, rfl, .inr (SqT.of hz4), fun L nL => ?_⟩
        have yL := smu (o := .lst (z.2.map V.str)) nL
        have mL := upd_same (H := G4) (a := L) (o := .lst (z.2.map V.str))
        generalize upd G4 L (.lst (z.2.map V.str)) = G5 at yL mL ⊢
        have s5 := s4.same yL
        obtain ⟨st5, hp5⟩ := s5.some
        have npL : p ≠ L := fun e => by
          obtain ⟨_, y⟩ := s4.some
          rw [e, nL] at y
          cases y
        refine ⟨p, L, z.2.map V.str, 0, k + 30 * bs.length + 1, rfl, s5, by omega, npL, .inl (SqL.of mL), by rw [List.length_map]; omega, Nat.zero_le _, fun G6 r ys b6 s6 nr er sub hly => ?_⟩
        obtain ⟨zs, rfl, sub1⟩ := sub.strs
        have b36 : But p G3 G6 := ((b4.same yL).trans b6)
        refine ⟨_, rfl, r, _, rfl, SqL.of er, fun sh nsh => ?_⟩
        rw [show (3 : Int) = ((3 : Nat) : Int) from rfl, Tp.cutLo, ← List.map_take]
        have ysh := smu (o := .lst ((zs.take 3).map V.str)) nsh
        have msh := upd_same (H := G6) (a := sh) (o := .lst ((zs.take 3).map V.str))
        generalize upd G6 sh (.lst ((zs.take 3).map V.str)) = G7 at ysh msh ⊢
        have b37 : But p G3 G7 := b36.same ysh
        have s7 := s6.same ysh
        have hl7 := b37 _ _ nlp hl3
        have hf7 := b37 _ _ nfp hf3
        obtain ⟨st7, hp7⟩ := s7.some
        have nshp : sh ≠ p := by
          obtain ⟨_, y⟩ := s6.some
          exact (ne_of_none y nsh).symm
        have nshl : sh ≠ l := (ne_of_none (b36 _ _ nlp hl3) nsh).symm
        have nshf : sh ≠ f' := (ne_of_none (b36 _ _ nfp hf3) nsh).symm
        show tSeq _ _ _ ([some (.ref p), some (.ref q), some (.int n), some (.ref l), some (.ref f'), some (.ref sh), t6, t7] : L2.St) _
        refine ⟨_, rfl, l, _, rfl, .inl (SqL.of hl7), _, rfl, p, 2, _, rfl, s7, by rw [List.length_map]; omega, by decide, by decide, fun G8 v v0 v1 b8 s8 => ⟨_, _, rfl, rfl, _, _, rfl, ?_⟩⟩
        have ltm : (cols.take m).length = m := by rw [List.length_take]; omega
        obtain ⟨j', ej', j1', jm⟩ : ∃ j : Nat, (if 1 + v < ((((cols.take m).map V.str).length : Nat) : Int) then 1 + v else ((((cols.take m).map V.str).length : Nat) : Int)) = (j : Int) ∧ 1 ≤ j ∧ j ≤ m ∧ j ≤ 2 := by
          rw [List.length_map, ltm]
          split
          · exact ⟨(1 + v).toNat, by omega, by omega, by omega, by omega⟩
          · exact ⟨m, rfl, by omega, Nat.le_refl _, by omega⟩
        rw [ej']
        have hl8 := b8 _ _ nlp hl7
        obtain ⟨st8, hp8⟩ := s8.some
        refine ⟨_, rfl, by omega, by omega, fun D2 nD2 => ?_⟩
        have nD2l : l ≠ D2 := ne_of_none hl8 nD2
        refine lc_range (lo := 0) (n := ((j' : Nat) : Int).toNat) (fun i G => PopI G8 l D2 (cols.take m) i G) (pop0 hl8 nD2) (fun i G hi h => ?_) fun G9 h => ?_
        · obtain ⟨y, e1, e2, e3, e4⟩ := popS h (by omega) nD2l nD2
          exact ⟨rfl, yes_in ⟨_, rfl, .inl ⟨rfl, _, SqL.of h.2.1⟩, l, _, V.str y, rfl, rfl, h.2.1, e1, _, e2, by rw [e3, sizeLine_eq]; omega, e4⟩⟩
        rw [Int.toNat_natCast] at h
        obtain ⟨hk9, hl9, hD9⟩ := h
        have hf9 := hk9 _ _ nfl (b8 _ _ nfp hf7)
        have s9 := s8.keep fun o e => hk9 _ _ nlp.symm e
        have msh9 := hk9 _ _ nshl (b8 _ _ nshp msh)
        have nD2p : D2 ≠ p := (ne_of_none hp8 nD2).symm
        have k39 : ∀ b o, b ≠ p → b ≠ l → G3 b = some o → G9 b = some o := fun b o np nl e => hk9 _ _ nl (b8 _ _ np (b37 _ _ np e))
        show tSeq _ _ _ ([some (.ref p), some (.ref q), some (.int n), some (.ref l), some (.ref f'), some (.ref sh), some (.ref D2), t7] : L2.St) _
        refine ⟨_, rfl, .inl ⟨rfl, _, SqL.of hf9⟩, _, rfl, _, rfl, _, rfl, sh, D2, _, _, rfl, rfl, msh9, hD9, ?_, fun cc ncc => ?_⟩
        · rw [List.length_map, List.length_map, List.length_take, List.length_take, List.length_reverse, sizeLine_eq]
          omega
        have ycc := smu (o := .lst ((zs.take 3).map V.str ++ ((cols.take m).reverse.take j').map V.str)) ncc
        have mcc := upd_same (H := G9) (a := cc) (o := .lst ((zs.take 3).map V.str ++ ((cols.take m).reverse.take j').map V.str))
        generalize upd G9 cc (.lst ((zs.take 3).map V.str ++ ((cols.take m).reverse.take j').map V.str)) = G10 at ycc mcc ⊢
        rw [← List.map_append] at mcc
        have s10 := s9.same ycc
        have npcc : p ≠ cc := fun e => by
          obtain ⟨_, y⟩ := s9.some
          rw [e, ncc] at y
          cases y
        have alen : (zs.take 3 ++ (cols.take m).reverse.take j').length ≤ 5 := by
          rw [List.length_append, List.length_take, List.length_take]
          omega
        refine ⟨p, cc, _, _, rfl, s10, by rw [List.length_map]; omega, npcc, .inl (SqL.of mcc), by rw [List.length_map]; omega, fun G11 r8 ys8 b11 s11 nr8 er8 pm => ?_⟩
        obtain ⟨new, rfl, sb8⟩ := (SubP.of_perm pm).strs
        have pn : new.Perm (zs.take 3 ++ (cols.take m).reverse.take j') := by
          have y := pm.map sv
          rw [sv_strs, sv_strs] at y
          exact y
        refine ⟨r8, _, rfl, .inl ⟨SqL.of er8, fun t2 nt2 => ?_⟩⟩
        have yt2 := smu (o := .tup (new.map V.str)) nt2
        have mt2 := upd_same (H := G11) (a := t2) (o := .tup (new.map V.str))
        generalize upd G11 t2 (.tup (new.map V.str)) = G12 at yt2 mt2 ⊢
        have s12 := s11.same yt2
        have k312 : ∀ b o, b ≠ p → b ≠ l → G3 b = some o → G12 b = some o := fun b o np nl e => yt2 _ _ (b11 _ _ np (ycc _ _ (k39 b o np nl e)))
        have hf12 := k312 _ _ nfp nfl hf3
        have hl12 := yt2 _ _ (b11 _ _ nlp (ycc _ _ hl9))
        have nft2 : f' ≠ t2 := ne_of_none (b11 _ _ nfp (ycc _ _ hf9)) nt2
        refine ⟨f', refS bs, .ref t2, rfl, rfl, hf12, by rw [refS_len, sizeLine_eq]; omega, ?_⟩
        have nfl' : l ≠ f' := nfl.symm
        have rows2 := tree_more nd T hzr (sub1.take 3) j1' jm.1 hm pn
        refine ⟨⟨⟨_, _, _, rfl⟩, fun b o nb e => ?_, m - j', bs ++ [(t2, new)], ?_, by omega, ?_, ?_, fun y hy => ?_, ?_, ?_⟩, ?_⟩
        · rw [upd_ne (fun z => by rw [z, nHf] at e; cases e)]
          exact k312 b o nb (fun z => by rw [z, nHl] at e; cases e) (b3 _ _ nb e)
        · refine (s12.keep fun o e => by rw [upd_ne nfp.symm]; exact e).mono ?_
          rw [List.length_append, List.length_map, List.length_map]
          simp only [List.length_cons, List.length_nil]
          omega
        · rw [upd_ne nfl', hl12, ltm, List.take_take, show min (m - j') m = m - j' by omega]
        · rw [upd_same]
          unfold refS
          rw [List.map_append] <;> rfl
        · rcases List.mem_append.mp hy with hy | hy
          · have nyf : y.1 ≠ f' := fun e => by
              have q2 := hR3 y hy
              rw [e, hf3] at q2
              cases q2
            rw [upd_ne nyf]
            exact hR3.keep (p := p) (l := l) (fun xs e => by rw [hp3] at e; cases e) (fun xs e => by rw [hl3] at e; cases e) k312 y hy
          · rw [List.mem_singleton.mp hy, upd_ne nft2.symm]
            exact mt2
        · rw [List.map_append]
          exact rows2
        · rw [List.length_append]
          simp only [List.length_cons, List.length_nil]
          omega
        · show (match (upd G12 f' _) l with | some (.lst xs) => xs.length | _ => 0) < (match G l with | some (.lst xs) => xs.length | _ => 0)
          rw [upd_ne nfl', hl12, hl]
          show ((((cols.take m).take ((cols.take m).length - j')).map V.str).length) < ((cols.take m).map V.str).length
          rw [List.length_map, List.length_map, List.length_take, ltm]
          omega
      · by_cases h0 : cols.take m ≠ []
        case' pos =>
          have hbn : ¬ (bs.length < n) := fun z => hc ⟨h0, z⟩
          rw [decide_eq_true h0]
          refine iteT ⟨_, rfl, f', _, rfl, .inl (SqL.of hf3), _, rfl, _, _, rfl, rfl, _, rfl, ?_⟩
          rw [refS_len, decide_eq_false (show ¬ (((bs.length : Nat) : Int) < (n : Int)) by omega)]
          refine iteF ?_
        case' neg =>
          rw [decide_eq_false h0]
          refine iteF (iteF ?_)
        all_goals
          obtain ⟨ini, la, rfl⟩ : ∃ ini la, bs = ini ++ [la] := ⟨_, _, (List.dropLast_concat_getLast (by intro e; subst e; exact absurd hbl (by decide))).symm⟩
          show tSeq _ _ _ ([some (.ref p), some (.ref q), some (.int n), some (.ref l), some (.ref f'), t5, t6, t7] : L2.St) _
          have hfe : refS (ini ++ [la]) = refS ini ++ [V.ref la.1] := by
            unfold refS
            rw [List.map_append] <;> rfl
          have hla := hR3 la (List.mem_append_right _ (List.mem_singleton.mpr rfl))
          have lal := T.len la.2 (List.mem_map_of_mem (List.mem_append_right _ (List.mem_singleton.mpr rfl)))
          refine ⟨_, rfl, _, rfl, _, rfl, f', _, rfl, SqL.of hf3, fun d nd' => ?_⟩
          rw [show cutV (refS (ini ++ [la])) none (some (-(1 : Int))) = refS ini by rw [show (-(1 : Int)) = -1 from rfl, cutM1, hfe, List.dropLast_concat]]
          have yd := smu (o := .lst (refS ini)) nd'
          have md := upd_same (H := G3) (a := d) (o := .lst (refS ini))
          have nHd : H d = none := b3.free (fun e => by rw [← e, nd'] at hp3; cases hp3) nd'
          generalize upd G3 d (.lst (refS ini)) = G4 at yd md ⊢
          refine ⟨_, rfl, _, rfl, f', _, _, V.ref la.1, rfl, rfl, SqL.of (yd _ _ hf3), by rw [hfe]; exact atI_last _ _, _, rfl, l, _, rfl, .inl ⟨SqL.of (yd _ _ hl3), fun t3 nt3 => ?_⟩⟩
          have yt3 := smu (o := .tup ((cols.take m).map V.str)) nt3
          have mt3 := upd_same (H := G4) (a := t3) (o := .tup ((cols.take m).map V.str))
          generalize upd G4 t3 (.tup ((cols.take m).map V.str)) = G5 at yt3 mt3 ⊢
          refine ⟨la.1, t3, _, _, rfl, rfl, yt3 _ _ (yd _ _ hla), mt3, by rw [List.length_map, List.length_map, List.length_take]; omega, fun G6 pp y6 hpp => ?_⟩
          rw [← List.map_append] at hpp
          refine ⟨(by show 1 ≤ sizeLine; decide), fun rr nrr => ?_⟩
          have yrr := smu (o := .lst [V.ref pp]) nrr
          have mrr := upd_same (H := G6) (a := rr) (o := .lst [V.ref pp])
          generalize upd G6 rr (.lst [V.ref pp]) = G7 at yrr mrr ⊢
          refine ⟨d, rr, _, _, rfl, rfl, yrr _ _ (y6 _ _ (yt3 _ _ md)), mrr, by rw [refS_len, sizeLine_eq]; rw [List.length_append] at hn; simp only [List.length_cons, List.length_nil] at hn ⊢; omega, fun fp nfp2 => ?_⟩
          have yfp := smu (o := .lst (refS ini ++ [V.ref pp])) nfp2
          have mfp := upd_same (H := G7) (a := fp) (o := .lst (refS ini ++ [V.ref pp]))
          have y37 : Same G3 G7 := ((yd.trans yt3).trans y6).trans yrr
          have nHfp : H fp = none := (b3.same y37).free (fun e => by
            have z := y37 _ _ hp3
            rw [← e, nfp2] at z
            cases z) nfp2
          generalize upd G7 fp (.lst (refS ini ++ [V.ref pp])) = G8 at yfp mfp ⊢
          have y38 := y37.trans yfp
          have T2 := T
          rw [List.map_append] at T2
          refine fin G8 fp (ini ++ [(pp, la.2 ++ cols.take m)]) (b3.same y38) ((s3.same y38).mono ?_) nHfp ?_ (fun y hy => ?_) ?_ ?_
          · omega
          · rw [mfp]
            unfold refS
            rw [List.map_append] <;> rfl
          · rcases List.mem_append.mp hy with hy | hy
            · exact y38 _ _ (hR3 y (List.mem_append_left _ hy))
            · rw [List.mem_singleton.mp hy]
              exact yfp _ _ (yrr _ _ hpp)
          · rw [List.map_append]
            exact tree_end nd T2
          · rw [List.length_append] at hn ⊢
            simp only [List.length_cons, List.length_nil] at hn ⊢
            omega
    · rintro σ H Q Q' hm h
      obtain ⟨v, hv, hz, h⟩ := h
      refine ⟨v, hv, hz, fun e ne => ?_⟩
      obtain ⟨d, e', a1, a2, a3, a4, c, hc, q⟩ := h e ne
      refine ⟨d, e', a1, a2, a3, a4, c, hc, ?_⟩
      cases c with
      | false => exact iteF (hm _ _ (by simpa using q))
      | true =>
        rw [if_pos rfl] at q
        obtain ⟨v2, hv2, p, ys, e1, e2, v3, hv3, i, j, e4, e5, b, e6, q⟩ := q
        exact iteT ⟨v2, hv2, p, ys, e1, e2, v3, hv3, i, j, e4, e5, b, e6, hm _ _ q⟩
end
end K14

/-! _law_any_atoms. -/
namespace K14
open PySem PySem.Spec PyProof.Rows L2 Dr Ex Rp LamX
open He (ga ma)
theorem flat_strs (xs : List Str) : (xs.map V.str).all flatV = true := List.all_eq_true.mpr fun x hx => by
  obtain ⟨z, _, rfl⟩ := List.mem_map.mp hx
  rfl
theorem inV_strs (x : Str) : ∀ xs : List Str, inV (.str x) (xs.map V.str) = decide (x ∈ xs)
  | [] => by simp [inV]
  | y :: r => by
    have z := inV_strs x r
    unfold inV at z ⊢
    rw [List.map_cons, List.any_cons, z]
    have e : eqV (V.str y) (.str x) = decide (y = x) := rfl
    rw [e]
    by_cases h : y = x
    · subst h
      simp
    · have h2 : x ≠ y := fun q => h q.symm
      simp [h, h2]
theorem sql_but {K : PySem.W.Frag} {H H' : Hp} {p q : Addr} {xs : List V} (b : But p H H') (n : p ≠ q) (h : SqL K H q xs) : SqL K H' q xs := by
  rcases h with (h | ⟨o, h⟩) | h
  · exact .inl (.inl (b _ _ (Ne.symm n) h))
  · exact .inl (.inr ⟨o, b _ _ (Ne.symm n) h⟩)
  · exact .inr h
abbrev nAny : List Str := ["_law_stream_here", "_law_columns_here", "_law_most", "_law_found", "_law_used", "_law_turn", "_law_some_here", "_law_lone", "_law_one"]
theorem scAny : FnScope nAny ["_law_stream_here", "_law_columns_here", "_law_most"] (defScope sAny) := ⟨rfl, rfl, rfl, by decide +kernel, rfl, by decide +kernel, by decide +kernel⟩
section
variable {P : Program} {w : World} {K : PySem.W.Frag} {mg : Str → Option Value} {base : Heap}
theorem ok_any {f : Addr} {fd : FuncData} (F : FnP K "_law_any_atoms" sAny f fd) (D : Dfs K mg) : FnOk P w K mg base CX0 4 f fd ["_law_stream_here", "_law_columns_here", "_law_most"] (spAtoms K) := by
  obtain ⟨T, ⟨fdD, FD⟩, ⟨fdP, FP⟩, ⟨fdM, FM⟩, ⟨fdS, FS⟩, _⟩ := D
  have gD := T.g "_law_draw" (by decide +kernel)
  have gM := T.g "_law_mixed" (by decide +kernel)
  have gS := T.g "_law_some" (by decide +kernel)
  have tt := T.f "tuple" (by decide +kernel)
  have tr := T.f "range" (by decide +kernel)
  have tm := T.f "max" (by decide +kernel)
  have GD : FnOk P w K mg base CX0 1 _ fdD ["_law_stream_here", "_law_high"] spDraw := ok_draw FD T
  have bD : Binds K fdD ["_law_stream_here", "_law_high"] [] := FD.bindsN fun _ _ _ _ _ _ us hl => match us, hl with | [_, _], _ => rfl
  have GS : FnOk P w K mg base CX0 3 _ fdS ["_law_stream_here", "_law_items", "_law_least"] (spSome K) := ok_some FS FD FM T gD gM
  have bS : Binds K fdS ["_law_stream_here", "_law_items", "_law_least"] [] := FS.bindsN fun _ _ _ _ _ _ us hl => match us, hl with | [_, _, _], _ => rfl
  refine F.ok scAny (fun vs H Q E h => ?_) (fun cdv A outer s H vs Q E hr h => ?_)
  · obtain ⟨p, q, cols, n, k, rfl, _⟩ := h
    rfl
  · obtain ⟨p, q, cols, n, k, rfl, hS, hk, npq, hq, nd, cN, c0, c18, n1, n10, fin⟩ := h
    have hr1 : Room 1 (A.deeper (envOfC "_law_any_atoms" (defScope sAny) s.heap.objs.size f cdv)) := hr.mono (by decide)
    refine ⟨_, PSs.nox (pss_cons (ps_asg (pe_tup (pa_cons (pe_lst pa_nil) (pa_cons (pe_lst pa_nil) pa_nil))) (pg_tup (by rfl) (pgs_cons (pg_name (i := 3) scAny.nd rfl (Or.inl rfl)) (pgs_cons (pg_name (i := 4) scAny.nd rfl (Or.inr rfl)) pgs_nil))))
      (pss_cons (ps_for PassesOwn.never rfl (pi_range1 rfl tr (pa_cons (pe_callB (call_max2 rfl) (by rfl) tm (by decide +kernel) (pa_cons pe_int (pa_cons (pe_op op_sub (pv 2) (pe_call GD hr1 rfl gD FD.kp bD .nil pass0 (pa_cons (pv 0) (pa_cons pe_int pa_nil)))) pa_nil))) pa_nil)) (pg_name (i := 5) scAny.nd rfl (Or.inl rfl))
        (pss_cons (ps_set (i := 6) scAny.nd rfl (Or.inl rfl) (pe_slice (show SlR _ (rSlL K) from sl_list) (pe_call GS hr rfl gS FS.kp bS .nil pass0 (pa_cons (pv 0) (pa_cons (pv 1) (pa_cons pe_int pa_nil)))) po_none (po_some (pe_op op_add pe_int (pe_call GD hr1 rfl gD FD.kp bD .nil pass0 (pa_cons (pv 0) (pa_cons pe_int pa_nil)))))))
        (pss_cons (ps_expr (pe_bm PySem.F.plainAttrs_list PySem.F.slot_list_append PySem.F.type_list_append mt_append (pv 3) (pa_cons (pe_callTy call_tuple_of (by rfl) tt (by decide +kernel) (pa_cons (pv 6) pa_nil)) pa_nil)))
        (pss_one (ps_expr (pe_bm PySem.F.plainAttrs_list PySem.F.slot_list_extend PySem.F.type_list_extend mt_extend (pv 4) (pa_cons (pv 6) pa_nil)))))))
      (pss_cons (ps_setLc (i := 7) (own := [("_law_one", 8)]) (g := gName 8) rfl scAny.nd rfl rfl (sw_true rfl rfl rfl (by decide +kernel)) (pi_list (pv 1)) (blkOk_by (own := [("_law_one", 8)]) (N := nAny) (sc := defScope sAny) (by decide +kernel))
          (fun _ _ _ _ _ => pg_name (i := 8) scAny.nd rfl (Or.inl rfl)) (fun _ _ _ _ _ => pts_one (pt_cmpR (show OpR _ _ (rIn K true) from op_notIn_seq) (pv 8) (pv 4) (by rfl))) (fun _ _ _ _ _ => pv 8))
      (pss_one (ps_ret (pe_ifExp (pt_cmpR (show OpR _ _ (rNeD K) from op_neD hr.units) (pv 7) (pe_lst pa_nil) (nomark _)) (pe_op op_cat (pv 3) (pe_lst (pa_cons (pe_callTy call_tuple_of (by rfl) tt (by decide +kernel) (pa_cons (pv 7) pa_nil)) pa_nil))) (pv 3))))))), ?_⟩
    obtain ⟨st0, hp0⟩ := hS.some
    refine ⟨Nat.zero_le _, fun fo nfo => ?_⟩
    have yfo := smu (o := .lst []) nfo
    have mfo := upd_same (H := H) (a := fo) (o := .lst [])
    have nfp : fo ≠ p := (ne_of_none hp0 nfo).symm
    generalize upd H fo (.lst []) = H1 at yfo mfo ⊢
    refine ⟨Nat.zero_le _, fun us nus => ?_⟩
    have yus := smu (o := .lst []) nus
    have mus := upd_same (H := H1) (a := us) (o := .lst [])
    have nup : us ≠ p := (ne_of_none (yfo _ _ hp0) nus).symm
    have nuf : us ≠ fo := (ne_of_none mfo nus).symm
    have nHu : H us = none := yfo.free nus
    generalize upd H1 us (.lst []) = H2 at yus mus ⊢
    refine ⟨(by show 2 ≤ sizeLine; decide), fun t nt => ?_⟩
    have yt := smu (o := .tup [V.ref fo, V.ref us]) nt
    have mt := upd_same (H := H2) (a := t) (o := .tup [V.ref fo, V.ref us])
    refine ⟨t, _, rfl, SqT.of mt, rfl, _, _, rfl, _, _, rfl, rfl, ?_⟩
    show tSeq _ _ _ ([some (.ref p), some (.ref q), some (.int n), some (.ref fo), some (.ref us), none, none, none, none] : L2.St) _
    generalize upd H2 t (.tup [V.ref fo, V.ref us]) = H3 at yt mt ⊢
    have y3 : Same H H3 := (yfo.trans yus).trans yt
    have hS3 := hS.same y3
    refine ⟨_, rfl, _, rfl, p, 2, k, rfl, hS3, by omega, by decide, by decide, fun H4 v v0 v1 b4 s4 => ⟨_, _, rfl, rfl, _, _, rfl, ?_⟩⟩
    obtain ⟨j, ej, j1, jn⟩ : ∃ j : Nat, (if (n : Int) - v > 1 then (n : Int) - v else 1) = (j : Int) ∧ 1 ≤ j ∧ j ≤ n := by
      split
      · exact ⟨((n : Int) - v).toNat, by omega, by omega, by omega⟩
      · exact ⟨1, rfl, Nat.le_refl _, n1⟩
    rw [ej]
    refine ⟨_, rfl, by omega, by omega, ?_⟩
    have b04 : But p H H4 := fun b o nb e => b4 _ _ nb (y3 _ _ e)
    refine for_range (lo := 0) (n := ((j : Nat) : Int).toNat) (fun i σ G => (∃ t5 t6 t7 t8 : Option V, σ = [some (.ref p), some (.ref q), some (.int n), some (.ref fo), some (.ref us), t5, t6, t7, t8]) ∧ But p H G ∧ StrAt G p (k + 1 + 20 * i) ∧
      ∃ (bs : List (Addr × List Str)) (used : List Str), G fo = some (.lst (refS bs)) ∧ G us = some (.lst (used.map V.str)) ∧ RowsS G bs ∧ bs.length = i ∧ (∀ z ∈ bs, z.2 ≠ [] ∧ z.2.Nodup ∧ ∀ c ∈ z.2, c ∈ cols) ∧ (∀ c ∈ used, ∃ z ∈ bs, c ∈ z.2) ∧ used.length ≤ 18 * i)
      ⟨⟨_, _, _, _, rfl⟩, b04, s4, [], [], b4 _ _ nfp (yt _ _ (yus _ _ mfo)), b4 _ _ nup (yt _ _ mus), (fun z hz => nomatch hz), rfl, (fun z hz => nomatch hz), (fun z hz => nomatch hz), Nat.zero_le _⟩ ?_ ?_
    · rintro i σ G hi ⟨⟨t5, t6, t7, t8, rfl⟩, bG, sG, bs, used, hfo, hus, hR, hlen, hbs, hu, hul⟩
      show tSeq _ _ _ ([some (.ref p), some (.ref q), some (.int n), some (.ref fo), some (.ref us), some (.int (0 + (i : Int))), t6, t7, t8] : L2.St) _
      rw [Int.toNat_natCast] at hi
      obtain ⟨stG, hpG⟩ := sG.some
      refine ⟨_, rfl, _, rfl, p, q, cols.map V.str, 1, _, rfl, sG, by omega, npq, .inl (sql_but bG npq hq), by rw [List.length_map]; omega, ?_, fun G1 r ys b1 s1 nr er sub hly => ?_⟩
      · rw [List.length_map]
        exact List.length_pos_iff.mpr c0
      obtain ⟨zs, rfl, sub1⟩ := sub.strs
      refine ⟨_, rfl, p, 3, _, rfl, s1, by rw [List.length_map]; omega, by decide, by decide, fun G2 v2 w0 w1 b2 s2 => ⟨_, _, rfl, rfl, _, rfl, r, zs.map V.str, rfl, SqL.of (b2 _ _ (fun e => by rw [e, hpG] at nr; cases nr) er), fun sh nsh => ?_⟩⟩
      obtain ⟨m, rfl⟩ : ∃ m : Nat, v2 = (m : Int) := ⟨v2.toNat, by omega⟩
      rw [show ((1 : Int) + (m : Int)) = ((1 + m : Nat) : Int) by omega, Tp.cutLo, ← List.map_take]
      have ysh := smu (o := .lst ((zs.take (1 + m)).map V.str)) nsh
      have msh := upd_same (H := G2) (a := sh) (o := .lst ((zs.take (1 + m)).map V.str))
      generalize upd G2 sh (.lst ((zs.take (1 + m)).map V.str)) = G3 at ysh msh ⊢
      have bG3 : But p G G3 := (b1.trans b2).same ysh
      have s3 := s2.same ysh
      have sub2 := sub1.take (1 + m)
      have zl : 1 ≤ (zs.take (1 + m)).length := by
        rw [List.length_take]
        rw [List.length_map] at hly
        omega
      have zu := sub2.len
      have znd := sub2.nodup nd
      have zin := sub2.mem
      generalize zs.take (1 + m) = row at *
      show tSeq _ _ _ ([some (.ref p), some (.ref q), some (.int n), some (.ref fo), some (.ref us), some (.int (0 + (i : Int))), some (.ref sh), t7, t8] : L2.St) _
      have hfo3 := bG3 _ _ nfp hfo
      have nHfo : fo ≠ sh := by
        have z := (b1.trans b2) _ _ nfp hfo
        exact ne_of_none z nsh
      have nHus : us ≠ sh := by
        have z := (b1.trans b2) _ _ nup hus
        exact ne_of_none z nsh
      refine ⟨_, rfl, .inl ⟨rfl, _, SqL.of hfo3⟩, _, rfl, sh, _, rfl, .inl ⟨SqL.of msh, fun t2 nt2 => ?_⟩⟩
      have yt2 := smu (o := .tup (row.map V.str)) nt2
      have mt2 := upd_same (H := G3) (a := t2) (o := .tup (row.map V.str))
      have nft2 : fo ≠ t2 := ne_of_none hfo3 nt2
      have nut2 : us ≠ t2 := ne_of_none (bG3 _ _ nup hus) nt2
      have nsht2 : sh ≠ t2 := ne_of_none msh nt2
      generalize upd G3 t2 (.tup (row.map V.str)) = G4 at yt2 mt2 ⊢
      refine ⟨fo, refS bs, .ref t2, rfl, rfl, yt2 _ _ hfo3, by rw [refS_len, sizeLine_eq]; omega, ?_⟩
      show tSeq _ _ _ ([some (.ref p), some (.ref q), some (.int n), some (.ref fo), some (.ref us), some (.int (0 + (i : Int))), some (.ref sh), t7, t8] : L2.St) _
      have hus5 : (upd G4 fo (.lst (refS bs ++ [V.ref t2]))) us = some (.lst (used.map V.str)) := by
        rw [upd_ne nuf]
        exact yt2 _ _ (bG3 _ _ nup hus)
      have hsh5 : (upd G4 fo (.lst (refS bs ++ [V.ref t2]))) sh = some (.lst (row.map V.str)) := by
        rw [upd_ne nHfo.symm]
        exact yt2 _ _ msh
      refine ⟨_, rfl, .inl ⟨rfl, _, SqL.of hus5⟩, _, rfl, us, sh, _, _, rfl, rfl, hus5, hsh5, by rw [List.length_map, List.length_map, sizeLine_eq]; omega, ?_⟩
      rw [← List.map_append]
      have keep : ∀ b o, b ≠ p → b ≠ fo → b ≠ us → G b = some o → (upd (upd G4 fo (.lst (refS bs ++ [V.ref t2]))) us (.lst ((used ++ row).map V.str))) b = some o := fun b o np nf nu e => by
        rw [upd_ne nu, upd_ne nf]
        exact yt2 _ _ (bG3 _ _ np e)
      refine ⟨⟨_, _, _, _, rfl⟩, fun b o nb e => ?_, ?_, bs ++ [(t2, row)], used ++ row, ?_, upd_same, fun z hz => ?_, ?_, fun z hz => ?_, fun c hc => ?_, ?_⟩
      · exact keep b o nb (fun z => by rw [z, nfo] at e; cases e) (fun z => by rw [z, nHu] at e; cases e) (bG _ _ nb e)
      · refine ((s3.same yt2).keep fun o e => by rw [upd_ne nup.symm, upd_ne nfp.symm]; exact e).mono ?_
        rw [List.length_map]
        omega
      · rw [upd_ne nuf.symm, upd_same]
        unfold refS
        rw [List.map_append] <;> rfl
      · rcases List.mem_append.mp hz with hz | hz
        · have q2 := hR z hz
          exact keep _ _ (fun e => by rw [e, hpG] at q2; cases q2) (fun e => by rw [e, hfo] at q2; cases q2) (fun e => by rw [e, hus] at q2; cases q2) q2
        · rw [List.mem_singleton.mp hz, upd_ne nut2.symm, upd_ne nft2.symm]
          exact mt2
      · rw [List.length_append, hlen] <;> rfl
      · rcases List.mem_append.mp hz with hz | hz
        · exact hbs z hz
        · rw [List.mem_singleton.mp hz]
          exact ⟨fun e => by
            have e2 : row = [] := e
            rw [e2] at zl
            exact absurd zl (by decide), znd, zin⟩
      · rcases List.mem_append.mp hc with hc | hc
        · obtain ⟨z, hz, e⟩ := hu c hc
          exact ⟨z, List.mem_append_left _ hz, e⟩
        · exact ⟨_, List.mem_append_right _ (List.mem_singleton.mpr rfl), hc⟩
      · rw [List.length_append]
        omega
    · rintro σ G ⟨⟨t5, t6, t7, t8, rfl⟩, bG, sG, bs, used, hfo, hus, hR, hlen, hbs, hu, hul⟩
      rw [Int.toNat_natCast] at sG hlen hul
      show tSeq _ _ _ ([some (.ref p), some (.ref q), some (.int n), some (.ref fo), some (.ref us), t5, t6, t7, t8] : L2.St) _
      have hqG := sql_but bG npq hq
      obtain ⟨stG, hpG⟩ := sG.some
      refine ⟨_, rfl, q, rfl, ⟨_, hqG⟩, fun D nD => ?_⟩
      refine lc_list (xs := cols.map V.str) (fun i G1 => Same G G1 ∧ G1 D = some (.lst (((cols.take i).filter fun c => decide (c ∉ used)).map V.str))) ⟨smu nD, upd_same⟩ (fun i G1 _ h => Same.seq h.1 hqG) (fun i x G1 hx h => ?_) fun G1 h => ?_
      · obtain ⟨y1, hD⟩ := h
        obtain ⟨c, hc, rfl⟩ : ∃ c, cols[i]? = some c ∧ x = .str c := by
          rw [List.getElem?_map] at hx
          cases e : cols[i]? with
          | none =>
            rw [e] at hx
            cases hx
          | some c =>
            rw [e] at hx
            exact ⟨c, rfl, (Option.some.inj hx).symm⟩
        have tk : cols.take (i + 1) = cols.take i ++ [c] := by rw [List.take_succ, hc] <;> rfl
        have nHD : ∀ {b o}, G b = some o → b ≠ D := fun e => ne_of_none e nD
        refine ⟨rfl, _, rfl, _, rfl, us, used.map V.str, rfl, .inl (SqL.of (y1 _ _ hus)), rfl, flat_strs _, _, rfl, ?_⟩
        rw [if_pos rfl, inV_strs]
        by_cases hcu : c ∈ used
        · rw [decide_eq_true hcu]
          refine iteF ⟨y1, ?_⟩
          rw [tk, List.filter_append, hD]
          simp [hcu]
        · rw [decide_eq_false hcu]
          refine iteT ⟨_, rfl, _, hD, ?_, fun b o e => ?_, ?_⟩
          · rw [List.length_map, sizeLine_eq]
            have z1 := List.length_filter_le (fun c => decide (c ∉ used)) (cols.take i)
            have z2 : (cols.take i).length ≤ cols.length := by rw [List.length_take]; omega
            omega
          · rw [upd_ne (nHD e)]
            exact y1 _ _ e
          · rw [upd_same, tk, List.filter_append]
            simp [hcu]
      · obtain ⟨y1, hD⟩ := h
        rw [List.length_map, List.take_length] at hD
        have lm : ∀ c, c ∈ cols.filter (fun c => decide (c ∉ used)) ↔ c ∈ cols ∧ c ∉ used := fun c => by simp [List.mem_filter]
        have lnd : (cols.filter fun c => decide (c ∉ used)).Nodup := nd.sublist List.filter_sublist
        have ll := List.length_filter_le (fun c => decide (c ∉ used)) cols
        generalize cols.filter (fun c => decide (c ∉ used)) = lone at hD lm lnd ll ⊢
        show tSeq _ _ _ ([some (.ref p), some (.ref q), some (.int n), some (.ref fo), some (.ref us), t5, t6, some (.ref D), t8] : L2.St) _
        have cov : ∀ c ∈ cols, c ∉ lone → ∃ z ∈ bs, c ∈ z.2 := fun c hc hn => hu c (Classical.byContradiction fun q => hn ((lm c).mpr ⟨hc, q⟩))
        refine ⟨_, rfl, Nat.zero_le _, fun E1 nE => ?_⟩
        have yE := smu (o := .lst []) nE
        have mE := upd_same (H := G1) (a := E1) (o := .lst [])
        generalize upd G1 E1 (.lst []) = G2 at yE mE ⊢
        have y2 := y1.trans yE
        have hD2 := yE _ _ hD
        have b2 : But p H G2 := bG.same y2
        have s2 := sG.same y2
        have hfo2 := y2 _ _ hfo
        have hR2 : RowsS G2 bs := fun z hz => y2 _ _ (hR z hz)
        have one : bs ≠ [] := fun e => by
          rw [e] at hlen
          simp only [List.length_nil] at hlen
          omega
        refine ⟨.list (lone.map PyData.str), .list [], .lst (SqL.of hD2) (dp_strs _), .lst (SqL.of mE) .nil, shaped_strs _ (fun c hc => cN c ((lm c).mp hc).1), rfl, _, rfl, ?_⟩
        rw [ne_nil]
        by_cases h0 : lone ≠ []
        · rw [decide_eq_true h0]
          refine iteT ⟨_, rfl, _, rfl, D, _, rfl, .inl ⟨SqL.of hD2, fun t3 nt3 => ?_⟩⟩
          have yt3 := smu (o := .tup (lone.map V.str)) nt3
          have mt3 := upd_same (H := G2) (a := t3) (o := .tup (lone.map V.str))
          generalize upd G2 t3 (.tup (lone.map V.str)) = G3 at yt3 mt3 ⊢
          refine ⟨(by show 1 ≤ sizeLine; decide), fun rr nrr => ?_⟩
          have yrr := smu (o := .lst [V.ref t3]) nrr
          have mrr := upd_same (H := G3) (a := rr) (o := .lst [V.ref t3])
          generalize upd G3 rr (.lst [V.ref t3]) = G4 at yrr mrr ⊢
          refine ⟨fo, rr, _, _, rfl, rfl, yrr _ _ (yt3 _ _ hfo2), mrr, by rw [refS_len, sizeLine_eq]; simp only [List.length_cons, List.length_nil]; omega, fun fp nfp2 => ?_⟩
          have yfp := smu (o := .lst (refS bs ++ [V.ref t3])) nfp2
          have mfp := upd_same (H := G4) (a := fp) (o := .lst (refS bs ++ [V.ref t3]))
          have y24 : Same G2 G4 := yt3.trans yrr
          have nHfp : H fp = none := (b2.same y24).free (fun e => by
            have z := y24 _ _ (y2 _ _ hpG)
            rw [← e, nfp2] at z
            cases z) nfp2
          generalize upd G4 fp (.lst (refS bs ++ [V.ref t3])) = G5 at yfp mfp ⊢
          have y25 := y24.trans yfp
          refine fin G5 fp (bs ++ [(t3, lone)]) (b2.same y25) ((s2.same y25).mono (by omega)) nHfp ?_ (fun z hz => ?_) ⟨by simp, fun r hr => ?_, fun c hc => ?_⟩ ?_
          · rw [mfp]
            unfold refS
            rw [List.map_append] <;> rfl
          · rcases List.mem_append.mp hz with hz | hz
            · exact y25 _ _ (hR2 z hz)
            · rw [List.mem_singleton.mp hz]
              exact yfp _ _ (yrr _ _ mt3)
          · rw [List.drop_zero]
            obtain ⟨z, hz, rfl⟩ := List.mem_map.mp hr
            rcases List.mem_append.mp hz with hz | hz
            · exact hbs z hz
            · rw [List.mem_singleton.mp hz]
              exact ⟨h0, lnd, fun c hc => ((lm c).mp hc).1⟩
          · rw [List.drop_zero] at hc
            by_cases hl : c ∈ lone
            · exact ⟨lone, List.mem_map.mpr ⟨(t3, lone), List.mem_append_right _ (List.mem_singleton.mpr rfl), rfl⟩, hl⟩
            · obtain ⟨z, hz, e⟩ := cov c hc hl
              exact ⟨z.2, List.mem_map.mpr ⟨z, List.mem_append_left _ hz, rfl⟩, e⟩
          · rw [List.length_append]
            simp only [List.length_cons, List.length_nil]
            omega
        · rw [decide_eq_false h0]
          have e0 : lone = [] := Classical.byContradiction h0
          refine iteF ⟨_, rfl, fin G2 fo bs b2 (s2.mono (by omega)) nfo hfo2 hR2 ⟨fun e => one (List.map_eq_nil_iff.mp e), fun r hr => ?_, fun c hc => ?_⟩ (by omega)⟩
          · rw [List.drop_zero]
            obtain ⟨z, hz, rfl⟩ := List.mem_map.mp hr
            exact hbs z hz
          · rw [List.drop_zero] at hc
            obtain ⟨z, hz, e⟩ := cov c hc (by rw [e0]; exact List.not_mem_nil)
            exact ⟨z.2, List.mem_map.mpr ⟨z, hz, rfl⟩, e⟩
end
end K14

/-! _law_round_atoms. -/
namespace K14
open PySem PySem.Spec PyProof.Rows L2 Dr Ex Rp LamX
open He (ga ma)
def spRound (K : PySem.W.Frag) : Sp := fun vs H Q _ => ∃ (p q : Addr) (cols : List Str) (n k : Nat), vs = [.ref p, .ref q, .int n] ∧ StrAt H p k ∧ k ≤ 60000 ∧ p ≠ q ∧ SqL K H q (cols.map V.str) ∧ cols.Nodup ∧ (∀ c ∈ cols, c ∈ nm18) ∧ 3 ≤ cols.length ∧ cols.length ≤ 18 ∧ 3 ≤ n ∧ n ≤ 10 ∧
  ∀ (H' : Hp) (r : Addr) (bs : List (Addr × List Str)), But p H H' → StrAt H' p (k + 400) → H r = none → H' r = some (.lst (refS bs)) → RowsS H' bs → TreeOk cols 0 (bs.map (·.2)) → bs.length ≤ n + 1 → Q (.ref r) H'
theorem at_prev {cs : List Str} (nd : cs.Nodup) (h2 : 2 ≤ cs.length) {i : Nat} {c : Str} (hi : cs[i]? = some c) : ∃ a, a ∈ cs ∧ atI (cs.map V.str) ((0 + (i : Int)) - 1) = some (V.str a) ∧ a ≠ c := by
  have hl := (List.getElem?_eq_some_iff.mp hi).1
  cases i with
  | zero =>
    have ne : cs ≠ [] := fun e => by rw [e] at h2; exact absurd h2 (by decide)
    have e := List.dropLast_concat_getLast ne
    refine ⟨cs.getLast ne, List.getLast_mem ne, ?_, fun q => ?_⟩
    · rw [show (0 + ((0 : Nat) : Int) - 1) = -1 from rfl]
      conv => lhs; rw [← e]
      rw [List.map_append]
      exact atI_last _ _
    · have h3 : cs[cs.length - 1]? = some c := by
        rw [← q, List.getElem?_eq_getElem (by omega), List.getLast_eq_getElem]
      have z := (List.getElem?_inj (by omega) nd).mp (hi.trans h3.symm)
      omega
  | succ m =>
    have hm : m < cs.length := by omega
    refine ⟨cs[m], List.getElem_mem hm, ?_, fun q => ?_⟩
    · rw [show (0 + ((m + 1 : Nat) : Int) - 1) = (m : Int) by omega]
      exact atI_nat (by rw [List.getElem?_map, List.getElem?_eq_getElem hm] <;> rfl)
    · have h3 : cs[m]? = some c := by rw [List.getElem?_eq_getElem hm, q]
      have z := (List.getElem?_inj hl nd).mp (hi.trans h3.symm)
      omega
/-- rows over cs, at D -/
def Rws (cs : List Str) (D : Addr) (bs : List (Addr × List Str)) (G : Hp) : Prop := G D = some (.lst (refS bs)) ∧ RowsS G bs ∧ ∀ z ∈ bs, z.2 ≠ [] ∧ z.2.Nodup ∧ ∀ c ∈ z.2, c ∈ cs
theorem Rws.more {cs row : List Str} {D t : Addr} {bs : List (Addr × List Str)} {G G1 : Hp} (h : Rws cs D bs G) (y : ∀ b o, b ≠ D → G b = some o → G1 b = some o) (ht : G1 t = some (.tup (row.map V.str))) (hr : row ≠ [] ∧ row.Nodup ∧ ∀ c ∈ row, c ∈ cs) (nt : t ≠ D) :
    Rws cs D (bs ++ [(t, row)]) (upd G1 D (.lst (refS bs ++ [V.ref t]))) := by
  obtain ⟨h1, h2, h3⟩ := h
  refine ⟨?_, fun z hz => ?_, fun z hz => ?_⟩
  · rw [upd_same]
    unfold refS
    rw [List.map_append] <;> rfl
  · rcases List.mem_append.mp hz with hz | hz
    · have q := h2 z hz
      have nz : z.1 ≠ D := fun e => by
        rw [e, h1] at q
        cases q
      rw [upd_ne nz]
      exact y _ _ nz q
    · rw [List.mem_singleton.mp hz, upd_ne nt]
      exact ht
  · rcases List.mem_append.mp hz with hz | hz
    · exact h3 z hz
    · rw [List.mem_singleton.mp hz]
      exact hr
theorem min3 (a b c : Int) : nuMin3 (.int a) (.int b) (.int c) = some (.int (min (min a b) c)) := by
  unfold nuMin3 nuMin2
  have e : ∀ x y : Int, nuLt (.int x) (.int y) = some (decide (x < y)) := fun x y => rfl
  rw [e]
  by_cases h : b < a
  · simp only [Option.map_some, Option.bind_some, decide_eq_true h, if_true, e]
    by_cases h2 : c < b
    · rw [decide_eq_true h2, if_pos rfl, show min (min a b) c = c by omega]
    · rw [decide_eq_false h2, if_neg (by decide), show min (min a b) c = b by omega]
  · simp only [Option.map_some, Option.bind_some, decide_eq_false h, e]
    rw [if_neg (by decide), e]
    by_cases h2 : c < a
    · rw [Option.map_some, decide_eq_true h2, if_pos rfl, show min (min a b) c = c by omega]
    · rw [Option.map_some, decide_eq_false h2, if_neg (by decide), show min (min a b) c = a by omega]
def rTupOf (K : PySem.W.Frag) : List V → Hp → VK → Prop := fun xs H Q => ∃ p ys, xs = [.ref p] ∧ ((SqL K H p ys ∧ ∀ l, H l = none → Q (.ref l) (upd H l (.tup ys))) ∨ (SqT K H p ys ∧ Q (.ref p) H))
abbrev nRound : List Str := ["_law_stream_here", "_law_columns_here", "_law_most", "_law_many_here", "_law_circle", "_law_others", "_law_found", "_law_at"]
theorem scRound : FnScope nRound ["_law_stream_here", "_law_columns_here", "_law_most"] (defScope sRound) := ⟨rfl, rfl, rfl, by decide +kernel, rfl, by decide +kernel, by decide +kernel⟩
section
variable {P : Program} {w : World} {K : PySem.W.Frag} {mg : Str → Option Value} {base : Heap}
theorem ok_round {f : Addr} {fd : FuncData} (F : FnP K "_law_round_atoms" sRound f fd) (D : Dfs K mg) : FnOk P w K mg base CX0 4 f fd ["_law_stream_here", "_law_columns_here", "_law_most"] (spRound K) := by
  obtain ⟨T, ⟨fdD, FD⟩, _⟩ := D
  have gD := T.g "_law_draw" (by decide +kernel)
  have tl := T.f "len" (by decide +kernel)
  have tt := T.f "tuple" (by decide +kernel)
  have tr := T.f "range" (by decide +kernel)
  have tm := T.f "min" (by decide +kernel)
  have GD : FnOk P w K mg base CX0 1 _ fdD ["_law_stream_here", "_law_high"] spDraw := ok_draw FD T
  have bD : Binds K fdD ["_law_stream_here", "_law_high"] [] := FD.bindsN fun _ _ _ _ _ _ us hl => match us, hl with | [_, _], _ => rfl
  refine F.ok scRound (fun vs H Q E h => ?_) (fun cdv A outer s H vs Q E hr h => ?_)
  · obtain ⟨p, q, cols, n, k, rfl, _⟩ := h
    rfl
  · obtain ⟨p, q, cols, n, k, rfl, hS, hk, npq, hq, nd, cN, c3, c18, n3, n10, fin⟩ := h
    have hr1 : Room 1 (A.deeper (envOfC "_law_round_atoms" (defScope sRound) s.heap.objs.size f cdv)) := hr.mono (by decide)
    refine ⟨_, PSs.nox (pss_cons (ps_set (i := 3) scRound.nd rfl (Or.inl rfl) (pe_callB (call_min3Nu rfl) (by rfl) tm (by decide +kernel) (pa_cons (pe_callB (id := "len") (show CallR _ _ (rLenS K) from call_len_seq) (by rfl) tl PySem.boot_len (pa_cons (pv 1) pa_nil)) (pa_cons (pv 2) (pa_cons (pe_op op_add pe_int (pe_call GD hr1 rfl gD FD.kp bD .nil pass0 (pa_cons (pv 0) (pa_cons pe_int pa_nil)))) pa_nil)))))
      (pss_cons (ps_asg (pe_tup (pa_cons (pe_slice (show SlR _ (rSlL K) from sl_list) (pv 1) po_none (po_some (pv 3))) (pa_cons (pe_slice (show SlR _ (rSlL K) from sl_list) (pv 1) (po_some (pv 3)) po_none) pa_nil))) (pg_tup (by rfl) (pgs_cons (pg_name (i := 4) scRound.nd rfl (Or.inr rfl)) (pgs_cons (pg_name (i := 5) scRound.nd rfl (Or.inl rfl)) pgs_nil))))
      (pss_cons (ps_setLc (i := 6) (own := [("_law_at", 7)]) (g := gName 7) (tt := tYes) rfl scRound.nd rfl rfl (sw_true rfl rfl rfl (by decide +kernel)) (pi_range1 rfl tr (pa_cons (pe_callB (id := "len") (show CallR _ _ (rLenS K) from call_len_seq) (by rfl) tl PySem.boot_len (pa_cons (pv 4) pa_nil)) pa_nil)) (blkOk_by (own := [("_law_at", 7)]) (N := nRound) (sc := defScope sRound) (by decide +kernel))
          (fun _ _ _ _ _ => pg_name (i := 7) scRound.nd rfl (Or.inl rfl)) (fun _ _ _ _ _ => pts_nil) (fun _ _ _ _ _ => pe_tup (pa_cons (pe_ix (show IxR _ (rIxL K) from ix_list) (pv 4) (pe_op op_sub (pv 7) pe_int) (fun _ _ => rfl)) (pa_cons (pe_ix (show IxR _ (rIxL K) from ix_list) (pv 4) (pv 7) (fun _ _ => rfl)) pa_nil))))
      (C8.pss_cut (ps_if (PW.pt (pw_and (pt_cmpR (show OpR _ _ (rIn K false) from op_in_seq) (pe_callB (id := "len") (show CallR _ _ (rLenS K) from call_len_seq) (by rfl) tl PySem.boot_len (pa_cons (pv 4) pa_nil)) (pe_tup (pa_cons pe_int (pa_cons pe_int pa_nil))) (by rfl)) (pw_and1 (pt_cmpR op_eq (pe_call GD hr1 rfl gD FD.kp bD .nil pass0 (pa_cons (pv 0) (pa_cons pe_int pa_nil))) pe_int (nomark _)))))
          (pss_one (ps_setLc (i := 6) (own := [("_law_at", 7)]) (g := gName 7) (tt := tYes) rfl scRound.nd rfl rfl (sw_true rfl rfl rfl (by decide +kernel)) (pi_range1 rfl tr (pa_cons (pe_callB (id := "len") (show CallR _ _ (rLenS K) from call_len_seq) (by rfl) tl PySem.boot_len (pa_cons (pv 4) pa_nil)) pa_nil)) (blkOk_by (own := [("_law_at", 7)]) (N := nRound) (sc := defScope sRound) (by decide +kernel))
            (fun _ _ _ _ _ => pg_name (i := 7) scRound.nd rfl (Or.inl rfl)) (fun _ _ _ _ _ => pts_nil) (fun _ _ _ _ _ => (show PE _ _ (tCB (rTupOf K) (tCons (tOp rCat (tSl (rSlL K) (tVar 4) tNoPart (tPart (tVar 7))) (tSl (rSlL K) (tVar 4) (tPart (tOp (rI0 fun i j => .int (i + j)) (tVar 7) (tC (.int 1)))) tNoPart)) tNil)) from pe_callTy (T := "tuple") (show CallR _ (.type "tuple") (rTupOf K) from call_tuple_of) (by rfl) tt (by decide +kernel) (pa_cons (pe_op op_cat (pe_slice (show SlR _ (rSlL K) from sl_list) (pv 4) po_none (po_some (pv 7))) (pe_slice (show SlR _ (rSlL K) from sl_list) (pv 4) (po_some (pe_op op_add (pv 7) pe_int)) po_none)) pa_nil))))) pss_nil)
      (pss_cons (ps_if (pt_cmpR (show OpR _ _ (rNeD K) from op_neD hr.units) (pv 5) (pe_lst pa_nil) (nomark _))
          (pss_one (ps_asg (pe_op (show OpR _ _ (Tp.rCatT K) from Tp.op_catT) (pe_ix ix_list (pv 6) pe_int (fun _ _ => rfl)) (pe_callTy call_tuple_of (by rfl) tt (by decide +kernel) (pa_cons (pv 5) pa_nil))) (pg_sub (pv 6) pe_int set_list))) pss_nil)
      (pss_one (ps_ret (pv 6)))))))), ?_⟩
    obtain ⟨st0, hp0⟩ := hS.some
    refine ⟨_, rfl, q, _, rfl, .inl hq, _, rfl, _, rfl, p, 3, k, rfl, hS, by omega, by decide, by decide, fun H1 v v0 v1 b1 s1 => ⟨_, _, rfl, rfl, _, _, _, _, rfl, min3 _ _ _, ?_⟩⟩
    obtain ⟨j, ej, j3, jc, jn⟩ : ∃ j : Nat, min (min ((((cols.map V.str).length : Nat) : Int)) (n : Int)) (3 + v) = (j : Int) ∧ 3 ≤ j ∧ j ≤ cols.length ∧ j ≤ n := by
      rw [List.length_map]
      exact ⟨(min (min ((cols.length : Nat) : Int) (n : Int)) (3 + v)).toNat, by omega, by omega, by omega, by omega⟩
    rw [ej]
    show tSeq _ _ _ ([some (.ref p), some (.ref q), some (.int n), some (.int j), none, none, none, none] : L2.St) _
    have hq1 := sql_but b1 npq hq
    obtain ⟨st1, hp1⟩ := s1.some
    refine ⟨_, rfl, _, rfl, _, rfl, q, _, rfl, hq1, fun C nC => ?_⟩
    rw [Tp.cutLo, ← List.map_take]
    have yC := smu (o := .lst ((cols.take j).map V.str)) nC
    have mC := upd_same (H := H1) (a := C) (o := .lst ((cols.take j).map V.str))
    have nCp : C ≠ p := (ne_of_none hp1 nC).symm
    generalize upd H1 C (.lst ((cols.take j).map V.str)) = H2 at yC mC ⊢
    refine ⟨_, rfl, _, rfl, _, rfl, q, _, rfl, Same.seq yC hq1, fun O nO => ?_⟩
    rw [Tp.cutHi, ← List.map_drop]
    have yO := smu (o := .lst ((cols.drop j).map V.str)) nO
    have mO := upd_same (H := H2) (a := O) (o := .lst ((cols.drop j).map V.str))
    have nOp : O ≠ p := (ne_of_none (yC _ _ hp1) nO).symm
    generalize upd H2 O (.lst ((cols.drop j).map V.str)) = H3 at yO mO ⊢
    refine ⟨(by show 2 ≤ sizeLine; decide), fun t nt => ?_⟩
    have yt := smu (o := .tup [V.ref C, V.ref O]) nt
    have mt := upd_same (H := H3) (a := t) (o := .tup [V.ref C, V.ref O])
    refine ⟨t, _, rfl, SqT.of mt, rfl, _, _, rfl, _, _, rfl, rfl, ?_⟩
    show tSeq _ _ _ ([some (.ref p), some (.ref q), some (.int n), some (.int j), some (.ref C), some (.ref O), none, none] : L2.St) _
    generalize upd H3 t (.tup [V.ref C, V.ref O]) = H4 at yt mt ⊢
    have y14 : Same H1 H4 := (yC.trans yO).trans yt
    have b4 : But p H H4 := b1.same y14
    have s4 := s1.same y14
    have hC4 := yt _ _ (yO _ _ mC)
    have hO4 := yt _ _ mO
    have cl : (cols.take j).length = j := by rw [List.length_take]; omega
    have cnd : (cols.take j).Nodup := nd.sublist (List.take_sublist _ _)
    have cin : ∀ c ∈ cols.take j, c ∈ cols := fun c h => List.mem_of_mem_take h
    have cov0 : ∀ c ∈ cols, c ∈ cols.take j ∨ c ∈ cols.drop j := fun c h => by
      rw [← List.take_append_drop j cols] at h
      exact List.mem_append.mp h
    have dis : ∀ c ∈ cols.take j, c ∉ cols.drop j := fun c h1 h2 => by
      have z := nd
      rw [← List.take_append_drop j cols] at z
      exact (List.nodup_append.mp z).2.2 c h1 c h2 rfl
    have dnd : (cols.drop j).Nodup := nd.sublist (List.drop_sublist _ _)
    have din : ∀ c ∈ cols.drop j, c ∈ cols := fun c h => List.mem_of_mem_drop h
    have dl : (cols.drop j).length ≤ 18 := by rw [List.length_drop]; omega
    generalize cols.take j = cs at *
    generalize cols.drop j = os at *
    refine ⟨_, rfl, C, _, rfl, .inl (SqL.of hC4), _, rfl, by rw [List.length_map]; omega, by rw [List.length_map]; omega, fun D nD => ?_⟩
    have nDp : D ≠ p := (ne_of_none (y14 _ _ hp1) nD).symm
    have nHD : H D = none := b4.free nDp nD
    rw [List.length_map]
    refine lc_range (lo := 0) (n := ((cs.length : Nat) : Int).toNat) (fun i G => Same H4 G ∧ ∃ bs, Rws cs D bs G ∧ bs.length = i ∧ ∀ m c, m < i → cs[m]? = some c → ∃ z ∈ bs, c ∈ z.2) ⟨smu nD, [], ⟨upd_same, (fun z hz => nomatch hz), (fun z hz => nomatch hz)⟩, rfl, fun m c h => absurd h (Nat.not_lt_zero _)⟩ (fun i G hi h => ?_) fun G h => ?_
    · obtain ⟨yG, bs, hw, hl, hm⟩ := h
      rw [Int.toNat_natCast] at hi
      obtain ⟨c, hc⟩ : ∃ c, cs[i]? = some c := ⟨_, List.getElem?_eq_getElem hi⟩
      obtain ⟨a, ha, hat, hac⟩ := at_prev cnd (by omega) hc
      have hCG := yG _ _ hC4
      refine ⟨rfl, yes_in ⟨_, rfl, _, rfl, _, _, rfl, rfl, C, _, _, V.str a, rfl, rfl, SqL.of hCG, hat, _, rfl, _, rfl, C, _, _, V.str c, rfl, rfl, SqL.of hCG, ?_, (by show 2 ≤ sizeLine; decide), fun t2 nt2 => ?_⟩⟩
      · rw [show (0 + (i : Int)) = (i : Int) by omega]
        exact atI_nat (by rw [List.getElem?_map, hc] <;> rfl)
      have yt2 := smu (o := .tup [V.str a, V.str c]) nt2
      have mt2 := upd_same (H := G) (a := t2) (o := .tup [V.str a, V.str c])
      have ntD : t2 ≠ D := (ne_of_none hw.1 nt2).symm
      refine ⟨refS bs, yt2 _ _ hw.1, by rw [refS_len, sizeLine_eq]; omega, fun b o e => ?_, bs ++ [(t2, [a, c])], hw.more (row := [a, c]) (fun b o _ e => yt2 _ _ e) mt2 ⟨List.cons_ne_nil _ _, ?_, fun x hx => ?_⟩ ntD, by rw [List.length_append, hl] <;> rfl, fun m x hmi hx => ?_⟩
      · rw [upd_ne (ne_of_none e nD)]
        exact yt2 _ _ (yG _ _ e)
      · refine List.nodup_cons.mpr ⟨fun h => hac (List.mem_singleton.mp h), List.nodup_cons.mpr ⟨List.not_mem_nil, List.nodup_nil⟩⟩
      · rcases List.mem_cons.mp hx with rfl | hx
        · exact ha
        · rw [List.mem_singleton.mp hx]
          exact List.mem_of_getElem? hc
      · rcases Nat.lt_or_eq_of_le (Nat.le_of_lt_succ hmi) with h | h
        · obtain ⟨z, hz, e⟩ := hm m x h hx
          exact ⟨z, List.mem_append_left _ hz, e⟩
        · rw [h, hc] at hx
          refine ⟨_, List.mem_append_right _ (List.mem_singleton.mpr rfl), ?_⟩
          rw [← Option.some.inj hx]
          exact List.mem_cons_of_mem _ List.mem_cons_self
    obtain ⟨yG, bs, hw, hl, hm⟩ := h
    rw [Int.toNat_natCast] at hl hm
    have sG := s4.same yG
    have bG : But p H G := b4.same yG
    show C8.tCut _ _ _ ([some (.ref p), some (.ref q), some (.int n), some (.int j), some (.ref C), some (.ref O), some (.ref D), none] : L2.St) _
    refine ⟨fun σ G => (∃ (D : Addr) (t7 : Option V) (bs : List (Addr × List Str)), σ = [some (.ref p), some (.ref q), some (.int n), some (.int j), some (.ref C), some (.ref O), some (.ref D), t7] ∧ H D = none ∧ D ≠ p ∧ D ≠ O ∧ Rws cs D bs G ∧ bs.length = j ∧ ∀ c ∈ cs, ∃ z ∈ bs, c ∈ z.2) ∧ But p H G ∧ StrAt G p (k + 2) ∧ G O = some (.lst (os.map V.str)), ?_, ?_⟩
    · have hCG := yG _ _ hC4
      have hOG := yG _ _ hO4
      have nDO : D ≠ O := (ne_of_none hO4 nD).symm
      have cov : ∀ c ∈ cs, ∃ z ∈ bs, c ∈ z.2 := fun c hc => by
        obtain ⟨m, hm1, e⟩ := List.mem_iff_getElem.mp hc
        exact hm m c (by omega) (by rw [List.getElem?_eq_getElem hm1, e])
      refine ⟨_, rfl, C, _, rfl, .inl (SqL.of hCG), (by show 2 ≤ sizeLine; decide), fun t5 nt5 => ?_⟩
      have yt5 := smu (o := .tup [V.int 3, V.int 4]) nt5
      have mt5 := upd_same (H := G) (a := t5) (o := .tup [V.int 3, V.int 4])
      have nDt5 : D ≠ t5 := ne_of_none hw.1 nt5
      generalize upd G t5 (.tup [V.int 3, V.int 4]) = G1 at yt5 mt5 ⊢
      have b1' : But p H G1 := bG.same yt5
      have s1' := sG.same yt5
      have hw1 : Rws cs D bs G1 := ⟨yt5 _ _ hw.1, fun z hz => yt5 _ _ (hw.2.1 z hz), hw.2.2⟩
      refine ⟨t5, _, rfl, .inr (SqT.of mt5), rfl, rfl, _, rfl, ?_⟩
      cases hin : (if false = true then !inV (V.int ((cs.map V.str).length : Nat)) [V.int 3, V.int 4] else inV (V.int ((cs.map V.str).length : Nat)) [V.int 3, V.int 4]) with
      | false =>
        refine iteF (iteF ?_)
        exact ⟨⟨D, none, bs, rfl, nHD, nDp, nDO, hw1, by omega, cov⟩, b1', s1'.mono (by omega), yt5 _ _ hOG⟩
      | true =>
        refine iteT ⟨_, rfl, p, 2, _, rfl, s1', by omega, by decide, by decide, fun G2 v2 w0 w1 b2 s2 => ⟨rfl, _, rfl, ?_⟩⟩
        have nDp' := nDp
        have hw2 : Rws cs D bs G2 := by
          refine ⟨b2 _ _ nDp hw1.1, fun z hz => b2 _ _ (fun e => ?_) (hw1.2.1 z hz), hw1.2.2⟩
          have q2 := hw1.2.1 z hz
          obtain ⟨_, y⟩ := s1'.some
          rw [e, y] at q2
          cases q2
        have hO2 := b2 _ _ nOp (yt5 _ _ hOG)
        have hC2 := b2 _ _ nCp (yt5 _ _ hCG)
        refine ite2 (fun _ => ?_) (fun _ => ?_)
        · show tAsg _ _ _ ([some (.ref p), some (.ref q), some (.int n), some (.int j), some (.ref C), some (.ref O), some (.ref D), none] : L2.St) _
          refine ⟨_, rfl, C, _, rfl, .inl (SqL.of hC2), _, rfl, by rw [List.length_map]; omega, by rw [List.length_map]; omega, fun D2 nD2 => ?_⟩
          obtain ⟨st2, hp2⟩ := s2.some
          have nD2p : D2 ≠ p := (ne_of_none hp2 nD2).symm
          have nD2O : D2 ≠ O := (ne_of_none hO2 nD2).symm
          have nHD2 : H D2 = none := (b1'.trans b2).free nD2p nD2
          rw [List.length_map]
          refine lc_range (lo := 0) (n := ((cs.length : Nat) : Int).toNat) (fun i G => Same G2 G ∧ ∃ bs, Rws cs D2 bs G ∧ bs.length = i ∧ ∀ i' m c, i' < i → m ≠ i' → cs[m]? = some c → ∃ z ∈ bs, c ∈ z.2) ⟨smu nD2, [], ⟨upd_same, (fun z hz => nomatch hz), (fun z hz => nomatch hz)⟩, rfl, fun i' m c h => absurd h (Nat.not_lt_zero _)⟩ (fun i G hi h => ?_) fun G h => ?_
          · obtain ⟨yG, bs, hw, hl, hm⟩ := h
            rw [Int.toNat_natCast] at hi
            have hCG := yG _ _ hC2
            refine ⟨rfl, yes_in ⟨_, rfl, _, rfl, _, rfl, C, _, rfl, SqL.of hCG, fun a na => ?_⟩⟩
            rw [show (0 + (i : Int)) = (i : Int) by omega, Tp.cutLo, ← List.map_take]
            have ya := smu (o := .lst ((cs.take i).map V.str)) na
            have ma := upd_same (H := G) (a := a) (o := .lst ((cs.take i).map V.str))
            generalize upd G a (.lst ((cs.take i).map V.str)) = G3 at ya ma ⊢
            refine ⟨_, rfl, _, rfl, _, _, rfl, rfl, _, rfl, C, _, rfl, SqL.of (ya _ _ hCG), fun b nb => ?_⟩
            rw [show ((i : Int) + 1) = ((i + 1 : Nat) : Int) by omega, Tp.cutHi, ← List.map_drop]
            have yb := smu (o := .lst ((cs.drop (i + 1)).map V.str)) nb
            have mb := upd_same (H := G3) (a := b) (o := .lst ((cs.drop (i + 1)).map V.str))
            generalize upd G3 b (.lst ((cs.drop (i + 1)).map V.str)) = G4 at yb mb ⊢
            refine ⟨a, b, _, _, rfl, rfl, yb _ _ ma, mb, by rw [List.length_map, List.length_map, List.length_take, List.length_drop, sizeLine_eq]; omega, fun c nc => ?_⟩
            rw [← List.map_append]
            have yc := smu (o := .lst ((cs.take i ++ cs.drop (i + 1)).map V.str)) nc
            have mc := upd_same (H := G4) (a := c) (o := .lst ((cs.take i ++ cs.drop (i + 1)).map V.str))
            generalize upd G4 c (.lst ((cs.take i ++ cs.drop (i + 1)).map V.str)) = G5 at yc mc ⊢
            refine ⟨c, _, rfl, .inl ⟨SqL.of mc, fun t2 nt2 => ?_⟩⟩
            have yt2 := smu (o := .tup ((cs.take i ++ cs.drop (i + 1)).map V.str)) nt2
            have mt2 := upd_same (H := G5) (a := t2) (o := .tup ((cs.take i ++ cs.drop (i + 1)).map V.str))
            have y5 : Same G G5 := (ya.trans yb).trans yc
            have ntD : t2 ≠ D2 := (ne_of_none (y5 _ _ hw.1) nt2).symm
            have ee : cs.eraseIdx i = cs.take i ++ cs.drop (i + 1) := List.eraseIdx_eq_take_drop_succ cs i
            refine ⟨refS bs, yt2 _ _ (y5 _ _ hw.1), by rw [refS_len, sizeLine_eq]; omega, fun b' o e => ?_, bs ++ [(t2, cs.take i ++ cs.drop (i + 1))], hw.more (fun b' o _ e => yt2 _ _ (y5 _ _ e)) mt2 ⟨fun e => ?_, ?_, fun x hx => ?_⟩ ntD, by rw [List.length_append, hl] <;> rfl, fun i' m x hi' hmi hx => ?_⟩
            · rw [upd_ne (ne_of_none e nD2)]
              exact yt2 _ _ (y5 _ _ (yG _ _ e))
            · have z := congrArg List.length e
              rw [List.length_append, List.length_take, List.length_drop] at z
              simp only [List.length_nil] at z
              omega
            · rw [← ee]
              exact cnd.sublist (List.eraseIdx_sublist cs i)
            · rw [← ee] at hx
              exact (List.eraseIdx_sublist cs i).subset hx
            · rcases Nat.lt_or_eq_of_le (Nat.le_of_lt_succ hi') with h | h
              · obtain ⟨z, hz, e⟩ := hm i' m x h hmi hx
                exact ⟨z, List.mem_append_left _ hz, e⟩
              · refine ⟨_, List.mem_append_right _ (List.mem_singleton.mpr rfl), ?_⟩
                subst h
                rcases Nat.lt_or_gt_of_ne hmi with g | g
                · refine List.mem_append_left _ (List.mem_of_getElem? (i := m) ?_)
                  rw [List.getElem?_take, if_pos g, hx]
                · refine List.mem_append_right _ (List.mem_of_getElem? (i := m - (i' + 1)) ?_)
                  rw [List.getElem?_drop, show i' + 1 + (m - (i' + 1)) = m by omega, hx]
          obtain ⟨yG, bs, hw, hl, hm⟩ := h
          rw [Int.toNat_natCast] at hl hm
          have cov : ∀ c ∈ cs, ∃ z ∈ bs, c ∈ z.2 := fun c hc => by
            obtain ⟨m, hm1, e⟩ := List.mem_iff_getElem.mp hc
            have hx : cs[m]? = some c := by rw [List.getElem?_eq_getElem hm1, e]
            by_cases h0 : m = 0
            · exact hm 1 m c (by omega) (by omega) hx
            · exact hm 0 m c (by omega) h0 hx
          exact ⟨⟨D2, none, bs, rfl, nHD2, nD2p, nD2O, hw, by omega, cov⟩, (b1'.trans b2).same yG, (s2.same yG).mono (by omega), yG _ _ hO2⟩
        · exact ⟨⟨D, none, bs, rfl, nHD, nDp, nDO, hw2, by omega, cov⟩, b1'.trans b2, s2.mono (by omega), hO2⟩
    · rintro σ G ⟨⟨D, t7, bs, rfl, nHD, nDp, nDO, hw, hl, cov⟩, bG, sG, hO⟩
      show tSeq _ _ _ ([some (.ref p), some (.ref q), some (.int n), some (.int j), some (.ref C), some (.ref O), some (.ref D), t7] : L2.St) _
      refine ⟨_, rfl, Nat.zero_le _, fun E1 nE => ?_⟩
      have yE := smu (o := .lst []) nE
      have mE := upd_same (H := G) (a := E1) (o := .lst [])
      generalize upd G E1 (.lst []) = G1 at yE mE ⊢
      have b1' := bG.same yE
      have s1' := sG.same yE
      have hO1 := yE _ _ hO
      have hD1 := yE _ _ hw.1
      have hR1 : RowsS G1 bs := fun z hz => yE _ _ (hw.2.1 z hz)
      refine ⟨.list (os.map PyData.str), .list [], .lst (SqL.of hO1) (dp_strs _), .lst (SqL.of mE) .nil, shaped_strs _ (fun c hc => cN c (din c hc)), rfl, _, rfl, ?_⟩
      rw [ne_nil]
      have one : bs ≠ [] := fun e => by
        rw [e] at hl
        simp only [List.length_nil] at hl
        omega
      by_cases h0 : os ≠ []
      · rw [decide_eq_true h0]
        obtain ⟨z0, rest, rfl⟩ := List.exists_cons_of_ne_nil one
        have hz0 := hR1 z0 List.mem_cons_self
        obtain ⟨r1, r2, r3⟩ := hw.2.2 z0 List.mem_cons_self
        have zl : z0.2.length ≤ 18 := by
          have := nodup_le z0.2 cs r2 r3
          omega
        refine iteT ⟨_, rfl, D, _, _, V.ref z0.1, rfl, rfl, SqL.of hD1, atI_nat (j := 0) rfl, _, rfl, O, _, rfl, .inl ⟨SqL.of hO1, fun t3 nt3 => ?_⟩⟩
        have yt3 := smu (o := .tup (os.map V.str)) nt3
        have mt3 := upd_same (H := G1) (a := t3) (o := .tup (os.map V.str))
        generalize upd G1 t3 (.tup (os.map V.str)) = G2 at yt3 mt3 ⊢
        refine ⟨z0.1, t3, _, _, rfl, rfl, yt3 _ _ hz0, mt3, by rw [List.length_map, List.length_map]; omega, fun G3 pp y3 hpp => ?_⟩
        rw [← List.map_append] at hpp
        have y13 : Same G1 G3 := yt3.trans y3
        refine ⟨_, rfl, D, refS (z0 :: rest), 0, 0, rfl, rfl, y13 _ _ hD1, by unfold ixN; rw [if_pos (by decide), if_pos (by rw [refS_len, List.length_cons]; omega)] <;> rfl, ?_⟩
        show tSeq _ _ _ ([some (.ref p), some (.ref q), some (.int n), some (.int j), some (.ref C), some (.ref O), some (.ref D), t7] : L2.St) _
        have npD : pp ≠ D := fun e => by
          have z := y13 _ _ hD1
          rw [← e, hpp] at z
          cases z
        refine ⟨_, rfl, fin _ D ((pp, z0.2 ++ os) :: rest) (fun b o nb e => ?_) (((s1'.same y13).keep fun o e => ?_).mono (by omega)) nHD upd_same (fun z hz => ?_) ⟨List.cons_ne_nil _ _, fun r hr => ?_, fun c hc => ?_⟩ ?_⟩
        · rw [upd_ne (fun z => by rw [z, nHD] at e; cases e)]
          exact y13 _ _ (b1' _ _ nb e)
        · rw [upd_ne nDp.symm]
          exact e
        · rcases List.mem_cons.mp hz with rfl | hz
          · rw [upd_ne npD]
            exact hpp
          · have z1 := y13 _ _ (hR1 z (List.mem_cons_of_mem _ hz))
            rw [upd_ne (fun e => by
              have z2 := y13 _ _ hD1
              rw [← e, z1] at z2
              cases z2)]
            exact z1
        · rw [List.drop_zero]
          rcases List.mem_cons.mp hr with rfl | hr
          · refine ⟨fun e => r1 (List.append_eq_nil_iff.mp e).1, List.nodup_append.mpr ⟨r2, dnd, fun a ha b hb e => dis a (r3 a ha) (e ▸ hb)⟩, fun c hc => ?_⟩
            rcases List.mem_append.mp hc with h | h
            · exact cin c (r3 c h)
            · exact din c h
          · obtain ⟨z, hz, rfl⟩ := List.mem_map.mp hr
            obtain ⟨a1, a2, a3⟩ := hw.2.2 z (List.mem_cons_of_mem _ hz)
            exact ⟨a1, a2, fun c h => cin c (a3 c h)⟩
        · rw [List.drop_zero] at hc
          rcases cov0 c hc with h | h
          · obtain ⟨z, hz, e⟩ := cov c h
            rcases List.mem_cons.mp hz with rfl | hz
            · exact ⟨_, List.mem_cons_self, List.mem_append_left _ e⟩
            · exact ⟨z.2, List.mem_cons_of_mem _ (List.mem_map_of_mem hz), e⟩
          · exact ⟨_, List.mem_cons_self, List.mem_append_right _ h⟩
        · rw [List.length_cons] at hl ⊢
          omega
      · rw [decide_eq_false h0]
        have e0 : os = [] := Classical.byContradiction h0
        refine iteF ?_
        show tSeq _ _ _ ([some (.ref p), some (.ref q), some (.int n), some (.int j), some (.ref C), some (.ref O), some (.ref D), t7] : L2.St) _
        refine ⟨_, rfl, fin G1 D bs b1' (s1'.mono (by omega)) nHD hD1 hR1 ⟨fun e => one (List.map_eq_nil_iff.mp e), fun r hr => ?_, fun c hc => ?_⟩ (by omega)⟩
        · rw [List.drop_zero]
          obtain ⟨z, hz, rfl⟩ := List.mem_map.mp hr
          obtain ⟨a1, a2, a3⟩ := hw.2.2 z hz
          exact ⟨a1, a2, fun c h => cin c (a3 c h)⟩
        · rw [List.drop_zero] at hc
          rcases cov0 c hc with h | h
          · obtain ⟨z, hz, e⟩ := cov c h
            exact ⟨z.2, List.mem_map_of_mem hz, e⟩
          · rw [e0] at h
            cases h
end
end K14

/-! sorted of a list of tuples of alike data. -/
namespace Sd
open PySem PySem.Spec PySem.W PySem.Calls PyProof.Rows L2
variable {β : Type}
theorem refs_back : ∀ {L : List (Addr × β)} {us : List Value}, Vals (L.map fun q => V.ref q.1) us → us = L.map fun q => Value.ref q.1
  | [], _, h => by cases h; rfl
  | q :: r, _, h => by
    cases h with
    | cons a t =>
      rw [refs_back t]
      cases a
      rfl
theorem refs_to : ∀ L : List (Addr × β), Vals (L.map fun q => V.ref q.1) (L.map fun q => Value.ref q.1)
  | [] => .nil
  | _ :: r => .cons rfl (refs_to r)
theorem out_is : ∀ {out : List Value} {L : List (Addr × β)}, EachIs (fun (v : Value) (q : Addr × β) => v = Value.ref q.1) out L → out = L.map fun q => Value.ref q.1
  | _, _, .nil => rfl
  | _, _, .cons h t => by rw [h, out_is t] <;> rfl
theorem each_ref : ∀ L : List (Addr × β), EachIs (fun (v : Value) (q : Addr × β) => v = Value.ref q.1) (L.map fun q => Value.ref q.1) L
  | [] => .nil
  | _ :: r => .cons rfl (each_ref r)
theorem each_reads {h : Heap} {enc : β → PyData} : ∀ L : List (Addr × β), (∀ q ∈ L, ∃ as, Reads h (.ref q.1) (enc q.2) as) → EachIs (fun (v : Value) (q : Addr × β) => ∃ as, Reads h v (enc q.2) as) (L.map fun q => Value.ref q.1) L
  | [], _ => .nil
  | q :: r, k => .cons (k q List.mem_cons_self) (each_reads r fun z hz => k z (List.mem_cons_of_mem _ hz))
/-- sorted(list), its items tuples that read as enc tells -/
def rSortedDat (K : PySem.W.Frag) (enc : β → PyData) : List V → Hp → VK → Prop := fun vs H Q => ∃ (a : Addr) (L : List (Addr × β)), vs = [V.ref a] ∧ SqL K H a (L.map fun q => V.ref q.1) ∧ (∀ q ∈ L, Dp K H (.ref q.1) (enc q.2)) ∧
  AllAlike (L.map fun q => enc q.2) ∧ (∀ q ∈ L, ∃ x r, enc q.2 = .tuple (x :: r)) ∧ (∀ q ∈ L, (enc q.2).depth ≤ 50) ∧ L.length ≤ 1000 ∧ ∀ p, H p = none → Q (.ref p) (upd H p (.lst ((L.mergeSort (dataLe false fun q => enc q.2)).map fun q => V.ref q.1)))
theorem cr_sortedDat {X : Cx} {enc : β → PyData} (hu : X.A.units + 64 < cLine) : CallR X (.builtin "sorted") (rSortedDat X.K enc) := by
  intro pins s σ H vs us Q I r h
  obtain ⟨a, L, rfl, hs, hr, hal, hk, hd, hL, q⟩ := h
  obtain ⟨its, rv, hl, _⟩ := I.list hs
  rw [Vals.ref1 r]
  have hi := refs_back rv
  subst hi
  refine sorted_data (R := fun v q => v = Value.ref q.1) (enc := fun q : Addr × β => enc q.2) (bs := L) hl.isList (each_ref L) (each_reads L fun z hz => Dp.reads I (enc z.2) (.ref z.1) (.ref z.1) (hr z hz) rfl) hal (.inl fun d hd => ?_) (by rw [sizeLine_eq]; omega) (fun z hz => by have := hd z hz; omega) fun out ho he => ?_
  · obtain ⟨z, hz, rfl⟩ := List.mem_map.mp hd
    exact hk z hz
  · have eo := out_is he
    subst eo
    obtain ⟨ep, he'⟩ := PyProof.Rows.sortedAll_at s.heap (L.map fun q => Value.ref q.1) ((L.mergeSort (dataLe false fun q => enc q.2)).map fun q => Value.ref q.1).toArray
    exact ⟨.ref _, upd H (s.heap.objs.size + 1) (.lst _), I.laid (t' := s.toks) (fun _ _ => PyProof.Rows.sortedAll_old) (Nat.le_succ _) ⟨by rw [List.length_map, List.length_mergeSort, sizeLine_eq]; omega, _, ep, refs_to _, he'⟩, rfl, q _ (I.hok.fresh (Nat.le_succ _))⟩
end Sd

/-! A comprehension over zip of two lists. -/
namespace Lz
open PySem PySem.Spec PyProof.Rows L2
theorem lc_zipL {K : PySem.W.Frag} {a b : Addr} {xs ys : List V} {g : TG} {tt : TT} {te : TE} {vs : List Nat} {σ : L2.St} {H1 : Hp} {D : Addr} {Qd : Hp → Prop} (hl : xs.length = ys.length) (Pv : Nat → Hp → Prop) (h0 : Pv 0 (upd H1 D (.lst []))) (hq : ∀ i H, Pv i H → SqL K H a xs ∧ SqL K H b ys)
    (hs : ∀ (i : Nat) (x y : V) (T : Addr) (H : Hp), xs[i]? = some x → ys[i]? = some y → Pv i H → H T = none → g (.ref T) (wipe σ vs) (upd H T (.tup [x, y])) fun σ2 H2 => wipe σ2 vs = wipe σ vs ∧ tt σ2 H2 fun b H3 =>
      if b = true then te σ2 H3 fun y H4 => ∃ acc, H4 D = some (.lst acc) ∧ acc.length < sizeLine ∧ Pv (i + 1) (upd H4 D (.lst (acc ++ [y]))) else Pv (i + 1) H3) (hd : ∀ H, Pv xs.length H → Qd H) :
    ∃ W : Nat → Nat → Hp → Prop, (∃ m, W 0 m (upd H1 D (.lst []))) ∧ ∀ i m H, W i m H →
      ((Itz K a b).stop i H ∧ Qd H) ∨ ((Itz K a b).go i H ∧ ∃ Nx : Hp → Prop, (∀ H', Nx H' → ∃ m', m' < m ∧ W (i + 1) m' H') ∧ ∀ x H', (Itz K a b).yld i H x H' → g x (wipe σ vs) H' fun σ2 H2 => wipe σ2 vs = wipe σ vs ∧ tt σ2 H2 fun b H3 =>
        if b = true then te σ2 H3 fun y H4 => ∃ acc, H4 D = some (.lst acc) ∧ acc.length < sizeLine ∧ Nx (upd H4 D (.lst (acc ++ [y]))) else Nx H3) := by
  refine ⟨fun i m H => m = xs.length - i ∧ i ≤ xs.length ∧ Pv i H, ⟨xs.length, rfl, Nat.zero_le _, h0⟩, ?_⟩
  rintro i m H ⟨rfl, hi, p⟩
  obtain ⟨qx, qy⟩ := hq i H p
  by_cases hlt : i < xs.length
  · have hx : xs[i]? = some xs[i] := List.getElem?_eq_getElem hlt
    have hlt2 : i < ys.length := by omega
    have hy : ys[i]? = some ys[i] := List.getElem?_eq_getElem hlt2
    refine .inr ⟨⟨xs, ys, _, _, qx, qy, hx, hy⟩, Pv (i + 1), fun H' p' => ⟨xs.length - (i + 1), by omega, rfl, hlt, p'⟩, fun v H' y => ?_⟩
    obtain ⟨T, x', y', rfl, hT, rfl, f1, f2⟩ := y
    exact hs i x' y' T H (f1 xs qx) (f2 ys qy) p hT
  · have e : i = xs.length := by omega
    subst e
    exact .inl ⟨⟨xs, ys, qx, qy, Or.inl (Nat.le_refl _)⟩, hd H p⟩
end Lz

/-! _law_query. -/
namespace K14
open PySem PySem.Spec PyProof.Rows L2 Dr Ex Rp LamX
open He (ga ma)
/-- a row's name and columns, as data -/
def encA (z : Str × List Str) : PyData := .tuple [.str z.1, .tuple (z.2.map PyData.str)]
def leA (a b : Str × List Str) : Bool := PySem.W.dataLe false encA a b
/-- the plain query: what is shown, what is sorted down, the rows by name -/
structure Plain where
  seen : List Str
  low : List Str
  ats : List (Str × List Str)
def Plain.d (x : Plain) : PyData := .tuple [.tuple (x.seen.map .str), .tuple (x.low.map .str), .tuple (x.ats.map encA)]
structure Plain.Ok (x : Plain) (cols : List Str) : Prop where
  nd : cols.Nodup
  nm : ∀ c ∈ cols, c ∈ nm18
  rows : TreeOk cols 0 (x.ats.map (·.2))
  names : (x.ats.map (·.1)).Nodup ∧ ∀ n ∈ x.ats.map (·.1), n ∈ nm18
  srt : x.ats.Pairwise fun a b => leA a b = true
  seen : SubP x.seen cols
  low : (∀ c ∈ x.low, c ∈ x.seen) ∧ x.low.Nodup ∧ sortedS x.low = true
/-- _law_query(stream, most, most_atoms) -/
def spQuery (K : PySem.W.Frag) : Sp := fun vs H Q _ => ∃ (p : Addr) (m a k : Nat), vs = [.ref p, .int m, .int a] ∧ StrAt H p k ∧ k ≤ 50000 ∧ 1 ≤ m ∧ m ≤ 17 ∧ 1 ≤ a ∧ a ≤ 10 ∧
  ∀ (H' : Hp) (r : Addr) (x : Plain) (cols : List Str), But p H H' → StrAt H' p (k + 500) → H r = none → Dt K (ct p H') (.ref r) x.d → x.Ok cols → cols.length ≤ m → cols ≠ [] → x.ats.length ≤ a + 1 → Q (.ref r) H'
/-- the makers of rows -/
structure Mks (K : PySem.W.Frag) : Prop where
  fT : ∃ fd, FnP K "_law_tree_atoms" sTree (ga K "_law_tree_atoms") fd
  fA : ∃ fd, FnP K "_law_any_atoms" sAny (ga K "_law_any_atoms") fd
  fR : ∃ fd, FnP K "_law_round_atoms" sRound (ga K "_law_round_atoms") fd
abbrev nQuery : List Str := ["_law_stream_here", "_law_most", "_law_most_atoms", "_law_columns_here", "_law_way_here", "_law_found", "_law_names_here", "_law_seen", "_law_low", "_law_pairs", "_law_one", "_law_name"]
theorem scQuery : FnScope nQuery ["_law_stream_here", "_law_most", "_law_most_atoms"] (defScope sQuery) := ⟨rfl, rfl, rfl, by decide +kernel, rfl, by decide +kernel, by decide +kernel⟩
theorem alike_strs : ∀ xs ys : List Str, PySem.W.alikeAll (xs.map PyData.str) (ys.map PyData.str) = true
  | [], ys => by
    cases ys <;> rfl
  | x :: r, [] => rfl
  | x :: r, y :: t => by
    rw [List.map_cons, List.map_cons]
    simp only [PySem.W.alikeAll, PySem.W.alike, alike_strs r t, Bool.and_self]
theorem alike_encA (a b : Str × List Str) : PySem.W.alike (encA a) (encA b) = true := by
  unfold encA
  simp only [PySem.W.alikeAll, PySem.W.alike, alike_strs, Bool.and_self]
theorem depth_encA (a : Str × List Str) : (encA a).depth ≤ 50 := by
  unfold encA
  simp only [PyData.depth, PyData.depthAll]
  have := dep_strs a.2
  omega
abbrev AtA := Addr × (Str × List Str)
def leL (a b : AtA) : Bool := PySem.W.dataLe false (fun q : AtA => encA q.2) a b
theorem leL_total : PySem.W.TotalLe leL := PySem.W.sortLe_total (PyProof.Rows.listOrd PyProof.Rows.itemOrd) false fun q : AtA => PySem.W.keyToks (encA q.2)
theorem leL_pair (L : List AtA) : ((L.mergeSort leL).map (·.2)).Pairwise fun a b => leA a b = true := by
  rw [List.pairwise_map]
  exact List.pairwise_mergeSort (le := leL) leL_total.trans (fun a b => by rcases leL_total.total a b with q | q <;> rw [q] <;> simp) L
theorem TreeOk.perm {cols : List Str} {m : Nat} {r1 r2 : List (List Str)} (T : TreeOk cols m r1) (p : r2.Perm r1) : TreeOk cols m r2 :=
  ⟨fun e => T.one (by rw [e] at p; exact (List.nil_perm.mp p)), fun r hr => T.row r (p.mem_iff.mp hr), fun c hc => by
    obtain ⟨r, hr, z⟩ := T.all c hc
    exact ⟨r, p.mem_iff.mpr hr, z⟩⟩
/-- rows with their names -/
def AtsAt (G : Hp) (L : List AtA) : Prop := ∀ z ∈ L, ∃ ra, G z.1 = some (.tup [.str z.2.1, .ref ra]) ∧ G ra = some (.tup (z.2.2.map V.str))
theorem ct_tup {H : Hp} {p b : Addr} {st xs : List V} (hp : H p = some (.lst st)) (h : H b = some (.tup xs)) : ct p H b = some (.tup xs) :=
  ct_at h (fun e => by rw [e, hp] at h; cases h) (fun _ e => nomatch e)
theorem ats_dt {K : PySem.W.Frag} {H : Hp} {p : Addr} {st : List V} (hp : H p = some (.lst st)) : ∀ {L : List AtA}, AtsAt H L → DtAll K (ct p H) (L.map fun z => V.ref z.1) ((L.map (·.2)).map encA)
  | [], _ => .nil
  | z :: r, h => by
    obtain ⟨ra, h1, h2⟩ := h z List.mem_cons_self
    exact .cons (.tup (SqT.of (ct_tup hp h1)) (.cons (.str _) (.cons (.tup (SqT.of (ct_tup hp h2)) (dt_strs _)) .nil))) (ats_dt hp fun y hy => h y (List.mem_cons_of_mem _ hy))
/-- behind the choice of the rows' maker -/
def MidQ (p C : Addr) (m a k : Nat) (way : Int) (cols : List Str) (H : Hp) : L2.St → Hp → Prop := fun σ G => ∃ (D : Addr) (bs : List (Addr × List Str)), σ = [some (.ref p), some (.int m), some (.int a), some (.ref C), some (.int way), some (.ref D), none, none, none, none, none, none] ∧
  But p H G ∧ StrAt G p (k + 420) ∧ G C = some (.lst (cols.map V.str)) ∧ G D = some (.lst (refS bs)) ∧ RowsS G bs ∧ TreeOk cols 0 (bs.map (·.2)) ∧ bs.length ≤ a + 1
theorem row_enough {l : Nat} {n : Nat} {x : V} {i : Nat} (h : ([V.int 0, V.int 1, V.int (n : Int), V.int (if (n : Int) - 1 > 0 then (n : Int) - 1 else 0)] : List V)[i]? = some x) (hn : 1 ≤ n) : ∃ l : Nat, x = .int l ∧ l ≤ n := by
  match i, h with
  | 0, h => exact ⟨0, (Option.some.inj h).symm, Nat.zero_le _⟩
  | 1, h => exact ⟨1, (Option.some.inj h).symm, hn⟩
  | 2, h => exact ⟨n, (Option.some.inj h).symm, Nat.le_refl _⟩
  | 3, h =>
    refine ⟨n - 1, ?_, by omega⟩
    have e : V.int (if (n : Int) - 1 > 0 then (n : Int) - 1 else 0) = x := Option.some.inj h
    rw [← e]
    congr 1
    split <;> omega
  | i + 4, h => simp at h
section
variable {P : Program} {w : World} {K : PySem.W.Frag} {mg : Str → Option Value} {base : Heap}
theorem ok_query {f : Addr} {fd : FuncData} (F : FnP K "_law_query" sQuery f fd) (D : Dfs K mg) (M : Mks K) : FnOk P w K mg base CX0 5 f fd ["_law_stream_here", "_law_most", "_law_most_atoms"] (spQuery K) := by
  obtain ⟨⟨fdT, FT⟩, ⟨fdA, FA⟩, ⟨fdR, FR⟩⟩ := M
  obtain ⟨T, ⟨fdD, FD⟩, ⟨fdP, FP⟩, ⟨fdM, FM⟩, ⟨fdS, FS⟩, ⟨fdN, FN⟩⟩ := id D
  have gD := T.g "_law_draw" (by decide +kernel)
  have gP := T.g "_law_pick" (by decide +kernel)
  have gM := T.g "_law_mixed" (by decide +kernel)
  have gS := T.g "_law_some" (by decide +kernel)
  have gN := T.g "_law_names" (by decide +kernel)
  have gT := T.g "_law_tree_atoms" (by decide +kernel)
  have gA := T.g "_law_any_atoms" (by decide +kernel)
  have gR := T.g "_law_round_atoms" (by decide +kernel)
  have tl := T.f "len" (by decide +kernel)
  have tt := T.f "tuple" (by decide +kernel)
  have tm := T.f "max" (by decide +kernel)
  have tz := T.f "zip" (by decide +kernel)
  have ts := T.f "sorted" (by decide +kernel)
  have GD : FnOk P w K mg base CX0 1 _ fdD ["_law_stream_here", "_law_high"] spDraw := ok_draw FD T
  have bD : Binds K fdD ["_law_stream_here", "_law_high"] [] := FD.bindsN fun _ _ _ _ _ _ us hl => match us, hl with | [_, _], _ => rfl
  have GP : FnOk P w K mg base CX0 2 _ fdP ["_law_stream_here", "_law_items"] (spPick K) := ok_pick FP FD T gD
  have bP : Binds K fdP ["_law_stream_here", "_law_items"] [] := FP.bindsN fun _ _ _ _ _ _ us hl => match us, hl with | [_, _], _ => rfl
  have GS : FnOk P w K mg base CX0 3 _ fdS ["_law_stream_here", "_law_items", "_law_least"] (spSome K) := ok_some FS FD FM T gD gM
  have bS : Binds K fdS ["_law_stream_here", "_law_items", "_law_least"] [] := FS.bindsN fun _ _ _ _ _ _ us hl => match us, hl with | [_, _, _], _ => rfl
  have GN : FnOk P w K mg base CX0 3 _ fdN ["_law_stream_here", "_law_much"] (spNamesL K) := ok_names FN FD FM T gD gM
  have bN : Binds K fdN ["_law_stream_here", "_law_much"] [] := FN.bindsN fun _ _ _ _ _ _ us hl => match us, hl with | [_, _], _ => rfl
  have GT : FnOk P w K mg base CX0 4 _ fdT ["_law_stream_here", "_law_columns_here", "_law_most"] (spAtoms K) := ok_tree FT D
  have bT : Binds K fdT ["_law_stream_here", "_law_columns_here", "_law_most"] [] := FT.bindsN fun _ _ _ _ _ _ us hl => match us, hl with | [_, _, _], _ => rfl
  have GA : FnOk P w K mg base CX0 4 _ fdA ["_law_stream_here", "_law_columns_here", "_law_most"] (spAtoms K) := ok_any FA D
  have bA : Binds K fdA ["_law_stream_here", "_law_columns_here", "_law_most"] [] := FA.bindsN fun _ _ _ _ _ _ us hl => match us, hl with | [_, _, _], _ => rfl
  have GR : FnOk P w K mg base CX0 4 _ fdR ["_law_stream_here", "_law_columns_here", "_law_most"] (spRound K) := ok_round FR D
  have bR : Binds K fdR ["_law_stream_here", "_law_columns_here", "_law_most"] [] := FR.bindsN fun _ _ _ _ _ _ us hl => match us, hl with | [_, _, _], _ => rfl
  refine F.ok scQuery (fun vs H Q E h => ?_) (fun cdv A outer s H vs Q E hr h => ?_)
  · obtain ⟨p, m, a, k, rfl, _⟩ := h
    rfl
  · obtain ⟨p, m, a, k, rfl, hS, hk, m1, m17, a1, a10, fin⟩ := h
    have hr1 : Room 1 (A.deeper (envOfC "_law_query" (defScope sQuery) s.heap.objs.size f cdv)) := hr.mono (by decide)
    have hr2 : Room 2 (A.deeper (envOfC "_law_query" (defScope sQuery) s.heap.objs.size f cdv)) := hr.mono (by decide)
    have hr3 : Room 3 (A.deeper (envOfC "_law_query" (defScope sQuery) s.heap.objs.size f cdv)) := hr.mono (by decide)
    refine ⟨_, PSs.nox (pss_cons (ps_set (i := 3) scQuery.nd rfl (Or.inl rfl) (pe_call GN hr3 rfl gN FN.kp bN .nil pass0 (pa_cons (pv 0) (pa_cons (pe_op op_add pe_int (pe_call GD hr1 rfl gD FD.kp bD .nil pass0 (pa_cons (pv 0) (pa_cons (pv 1) pa_nil)))) pa_nil))))
      (pss_cons (ps_set (i := 4) scQuery.nd rfl (Or.inl rfl) (pe_call GD hr1 rfl gD FD.kp bD .nil pass0 (pa_cons (pv 0) (pa_cons pe_int pa_nil))))
      (C8.pss_cut (ps_if (PW.pt (pw_or (pt_cmpR op_lt (pv 4) pe_int (nomark _)) (pw_or (pt_cmpR op_lt (pe_callB (id := "len") (show CallR _ _ (rLenS K) from call_len_seq) (by rfl) tl PySem.boot_len (pa_cons (pv 3) pa_nil)) pe_int (nomark _)) (pw_or1 (pt_cmpR op_lt (pv 2) pe_int (nomark _))))))
          (pss_one (ps_set (i := 5) scQuery.nd rfl (Or.inl rfl) (pe_call GT hr rfl gT FT.kp bT .nil pass0 (pa_cons (pv 0) (pa_cons (pv 3) (pa_cons (pv 2) pa_nil))))))
          (pss_one (ps_if (pt_cmpR op_lt (pv 4) pe_int (nomark _))
            (pss_one (ps_set (i := 5) scQuery.nd rfl (Or.inl rfl) (pe_call GA hr rfl gA FA.kp bA .nil pass0 (pa_cons (pv 0) (pa_cons (pv 3) (pa_cons (pv 2) pa_nil))))))
            (pss_one (ps_set (i := 5) scQuery.nd rfl (Or.inl rfl) (pe_call GR hr rfl gR FR.kp bR .nil pass0 (pa_cons (pv 0) (pa_cons (pv 3) (pa_cons (pv 2) pa_nil)))))))))
      (pss_cons (ps_set (i := 6) scQuery.nd rfl (Or.inl rfl) (pe_call GN hr3 rfl gN FN.kp bN .nil pass0 (pa_cons (pv 0) (pa_cons (pe_callB (id := "len") (show CallR _ _ (rLenS K) from call_len_seq) (by rfl) tl PySem.boot_len (pa_cons (pv 5) pa_nil)) pa_nil))))
      (pss_cons (ps_set (i := 7) scQuery.nd rfl (Or.inl rfl) (pe_call GS hr3 rfl gS FS.kp bS .nil pass0 (pa_cons (pv 0) (pa_cons (pv 3) (pa_cons (pe_call GP hr2 rfl gP FP.kp bP .nil pass0 (pa_cons (pv 0) (pa_cons (pe_lst (pa_cons pe_int (pa_cons pe_int (pa_cons (pe_callB (id := "len") (show CallR _ _ (rLenS K) from call_len_seq) (by rfl) tl PySem.boot_len (pa_cons (pv 3) pa_nil))
          (pa_cons (pe_callB (call_max2 rfl) (by rfl) tm (by decide +kernel) (pa_cons pe_int (pa_cons (pe_op op_sub (pe_callB (id := "len") (show CallR _ _ (rLenS K) from call_len_seq) (by rfl) tl PySem.boot_len (pa_cons (pv 3) pa_nil)) pe_int) pa_nil))) pa_nil))))) pa_nil))) pa_nil)))))
      (pss_cons (ps_set (i := 8) scQuery.nd rfl (Or.inl rfl) (pe_callTy call_tuple_of (by rfl) tt (by decide +kernel) (pa_cons (pe_callB (show CallR _ _ (rSortedS K) from cr_sortedS) (by rfl) ts (by decide +kernel) (pa_cons
          (pe_lc (own := [("_law_one", 10)]) (g := gName 10) (tt := tTest (tOp rEq (tCall spDraw [] E0 (tCons (tVar 0) (tCons (tC (.int 4)) tNil))) (tC (.int 0)))) (te := tVar 10) rfl scQuery.nd (pi_list (pv 7)) (blkOk_by (own := [("_law_one", 10)]) (N := nQuery) (sc := defScope sQuery) (by decide +kernel))
            (fun _ _ _ _ _ => pg_name (i := 10) scQuery.nd rfl (Or.inl rfl)) (fun _ _ _ _ _ => pts_one (pt_cmpR op_eq (pe_call GD hr1 rfl gD FD.kp bD .nil pass0 (pa_cons (pv 0) (pa_cons pe_int pa_nil))) pe_int (nomark _))) (fun _ _ _ _ _ => pv 10)) pa_nil)) pa_nil)))
      (pss_cons (ps_set (i := 9) scQuery.nd rfl (Or.inl rfl) (pe_callB (show CallR _ _ (Sd.rSortedDat K encA) from Sd.cr_sortedDat hr.units) (by rfl) ts (by decide +kernel) (pa_cons
          (pe_lc (own := [("_law_name", 11), ("_law_one", 10)]) (g := gTup K 2 (gCons (gName 11) (gCons (gName 10) gNil))) (tt := tYes) rfl scQuery.nd (pi_zip (by rfl) tz (pa_cons (pv 6) (pa_cons (pv 5) pa_nil))) (blkOk_by (own := [("_law_name", 11), ("_law_one", 10)]) (N := nQuery) (sc := defScope sQuery) (by decide +kernel))
            (fun _ _ _ _ _ => pg_tup (by rfl) (pgs_cons (pg_name (i := 11) scQuery.nd rfl (Or.inl rfl)) (pgs_cons (pg_name (i := 10) scQuery.nd rfl (Or.inl rfl)) pgs_nil))) (fun _ _ _ _ _ => pts_nil) (fun _ _ _ _ _ => pe_tup (pa_cons (pv 11) (pa_cons (pv 10) pa_nil)))) pa_nil)))
      (pss_one (ps_ret (pe_tup (pa_cons (pe_callTy call_tuple_of (by rfl) tt (by decide +kernel) (pa_cons (pv 7) pa_nil)) (pa_cons (pv 8) (pa_cons (pe_callTy call_tuple_of (by rfl) tt (by decide +kernel) (pa_cons (pv 9) pa_nil)) pa_nil))))))))))))), ?_⟩
    obtain ⟨st0, hp0⟩ := hS.some
    refine ⟨_, rfl, _, rfl, _, rfl, p, m, k, rfl, hS, by omega, by omega, by omega, fun H1 v v0 v1 b1 s1 => ⟨_, _, rfl, rfl, ?_⟩⟩
    obtain ⟨v', rfl⟩ : ∃ v' : Nat, v = (v' : Int) := ⟨v.toNat, by omega⟩
    refine ⟨p, 1 + v', k + 1, (show ([V.ref p, V.int (1 + (v' : Int))] : List V) = [V.ref p, V.int ((1 + v' : Nat) : Int)] by rw [show (1 : Int) + (v' : Int) = ((1 + v' : Nat) : Int) by omega]), s1, by omega, by omega, fun H2 C cols b2 s2 nC hC sub hlen => ?_⟩
    show tSeq _ _ _ ([some (.ref p), some (.int m), some (.int a), some (.ref C), none, none, none, none, none, none, none, none] : L2.St) _
    have nd : cols.Nodup := sub.nodup nm18_nodup
    have cN : ∀ c ∈ cols, c ∈ nm18 := sub.mem
    obtain ⟨st2, hp2⟩ := s2.some
    have npC : p ≠ C := fun e => by
      obtain ⟨_, z⟩ := s1.some
      rw [e, nC] at z
      cases z
    refine ⟨_, rfl, p, 8, _, rfl, s2, by omega, by decide, by decide, fun H3 way w0 w1 b3 s3 => ?_⟩
    show C8.tCut _ _ _ ([some (.ref p), some (.int m), some (.int a), some (.ref C), some (.int way), none, none, none, none, none, none, none] : L2.St) _
    have b03 : But p H H3 := (b1.trans b2).trans b3
    have hC3 := b3 _ _ npC.symm hC
    have goM : ∀ (H' : Hp) (r : Addr) (bs : List (Addr × List Str)), But p H3 H' → StrAt H' p (k + 1 + 18 + 1 + 400) → H3 r = none → H' r = some (.lst (refS bs)) → RowsS H' bs → TreeOk cols 0 (bs.map (·.2)) → bs.length ≤ a + 1 →
        MidQ p C m a k way cols H ([some (.ref p), some (.int m), some (.int a), some (.ref C), some (.int way), some (.ref r), none, none, none, none, none, none] : L2.St) H' := fun H' r bs b' s' nr hr' hR hT hl =>
      ⟨r, bs, rfl, b03.trans b', s'.mono (by omega), b' _ _ npC.symm hC3, hr', hR, hT, hl⟩
    have c0 : cols ≠ [] := fun e => by
      rw [e] at hlen
      simp only [List.length_nil] at hlen
      omega
    refine ⟨MidQ p C m a k way cols H, ?_, ?_⟩
    · have tree : spAtoms K ([.ref p, .ref C, .int a] ++ []) H3 (fun x H' => MidQ p C m a k way cols H ([some (.ref p), some (.int m), some (.int a), some (.ref C), some (.int way), some x, none, none, none, none, none, none] : L2.St) H') E0 :=
        ⟨p, C, cols, a, _, rfl, s3, by omega, npC, SqL.of hC3, nd, cN, c0, by omega, a1, a10, goM⟩
      refine ⟨_, rfl, _, _, rfl, rfl, _, rfl, ?_⟩
      by_cases h4 : way < 4
      · rw [decide_eq_true h4]
        exact iteT (iteT ⟨_, rfl, _, rfl, _, rfl, tree⟩)
      · rw [decide_eq_false h4]
        refine iteF ⟨_, rfl, C, _, rfl, .inl (SqL.of hC3), _, _, rfl, rfl, _, rfl, ?_⟩
        rw [List.length_map]
        by_cases h3 : cols.length < 3
        · rw [decide_eq_true (show ((cols.length : Nat) : Int) < 3 by omega)]
          exact iteT (iteT ⟨_, rfl, _, rfl, _, rfl, tree⟩)
        · rw [decide_eq_false (show ¬ ((cols.length : Nat) : Int) < 3 by omega)]
          refine iteF ⟨_, rfl, _, _, rfl, rfl, _, rfl, ?_⟩
          by_cases ha : a < 3
          · rw [decide_eq_true (show (a : Int) < 3 by omega)]
            exact iteT ⟨_, rfl, _, rfl, _, rfl, tree⟩
          · rw [decide_eq_false (show ¬ (a : Int) < 3 by omega)]
            refine iteF ?_
            refine ⟨_, rfl, _, _, rfl, rfl, _, rfl, ?_⟩
            refine ite2 (fun _ => ?_) (fun _ => ?_)
            · exact ⟨_, rfl, _, rfl, _, rfl, tree⟩
            · exact ⟨_, rfl, _, rfl, _, rfl, p, C, cols, a, _, rfl, s3, by omega, npC, SqL.of hC3, nd, cN, by omega, by omega, by omega, a10, goM⟩
    · rintro σ G ⟨D, bs, rfl, bG, sG, hCG, hD, hR, hT, hbl⟩
      show tSeq _ _ _ ([some (.ref p), some (.int m), some (.int a), some (.ref C), some (.int way), some (.ref D), none, none, none, none, none, none] : L2.St) _
      obtain ⟨stG, hpG⟩ := sG.some
      have nCp := npC.symm
      have nDp : D ≠ p := fun e => by
        rw [e, hpG] at hD
        have q : stG = refS bs := by injection (Option.some.inj hD)
        obtain ⟨x1, x2, x3, hx, _⟩ := sG
        rw [hx] at hpG
        have q2 : ([.int x1, .int x2, .int x3] : List V) = stG := by injection (Option.some.inj hpG)
        rw [q] at q2
        cases bs with
        | nil => cases q2
        | cons z r => cases q2
      have rp : ∀ z ∈ bs, z.1 ≠ p := fun z hz e => by
        have q := hR z hz
        rw [e, hpG] at q
        cases q
      refine ⟨_, rfl, _, rfl, D, _, rfl, .inl (SqL.of hD), p, (refS bs).length, k + 420, rfl, sG, by omega, by rw [refS_len]; omega, fun G1 Nn ns b1 s1 nN hN subN lenN => ?_⟩
      rw [refS_len] at lenN
      show tSeq _ _ _ ([some (.ref p), some (.int m), some (.int a), some (.ref C), some (.int way), some (.ref D), some (.ref Nn), none, none, none, none, none] : L2.St) _
      have nNp : Nn ≠ p := fun e => by rw [e, hpG] at nN; cases nN
      have hC1 := b1 _ _ nCp hCG
      have c1 : 1 ≤ cols.length := by omega
      refine ⟨_, rfl, _, rfl, _, rfl, _, rfl, C, _, rfl, .inl (SqL.of hC1), _, rfl, C, _, rfl, .inl (SqL.of hC1), _, _, rfl, rfl, _, _, rfl, (by show 4 ≤ sizeLine; decide), fun B nB => ?_⟩
      rw [List.length_map]
      generalize eB : upd G1 B _ = G2
      have yB : Same G1 G2 := eB ▸ smu nB
      have mB : G2 B = some (.lst [V.int 0, V.int 1, V.int (cols.length : Int), V.int (if (cols.length : Int) - 1 > 0 then (cols.length : Int) - 1 else 0)]) := eB ▸ upd_same
      have s2 := s1.same yB
      have npB : p ≠ B := fun e => by
        obtain ⟨_, z⟩ := s1.some
        rw [e, nB] at z
        cases z
      refine ⟨p, B, _, _, rfl, s2, by omega, npB, SqL.of mB, (by show 0 < 4; decide), (by show 4 < 1000000; decide), fun G3 i x hx b3' s3' => ?_⟩
      obtain ⟨l, rfl, hll⟩ := row_enough (l := 0) hx c1
      have b13 : But p G1 G3 := fun b o nb e => b3' _ _ nb (yB _ _ e)
      have hC3' := b13 _ _ nCp hC1
      refine ⟨p, C, _, l, _, rfl, s3', by omega, npC, .inl (SqL.of hC3'), by rw [List.length_map]; omega, by rw [List.length_map]; omega, fun G4 Sn ys b4 s4 nS hSn subS _ => ?_⟩
      obtain ⟨seen, rfl, sbS⟩ := subS.strs
      rw [List.length_map] at s4
      show tSeq _ _ _ ([some (.ref p), some (.int m), some (.int a), some (.ref C), some (.int way), some (.ref D), some (.ref Nn), some (.ref Sn), none, none, none, none] : L2.St) _
      have nSp : Sn ≠ p := fun e => by
        obtain ⟨_, z⟩ := s3'.some
        rw [← e, nS] at z
        cases z
      have b14 : But p G1 G4 := b13.trans b4
      obtain ⟨st4, hp4⟩ := s4.some
      have seenl := sbS.len
      refine ⟨_, rfl, Sn, rfl, ⟨_, SqL.of hSn⟩, fun D2 nD2 => ?_⟩
      have nD2p : D2 ≠ p := (ne_of_none hp4 nD2).symm
      refine lc_list (xs := seen.map V.str) (fun i G => But p G4 G ∧ StrAt G p (k + 420 + 18 + 1 + cols.length + 1 + i) ∧ ∃ zs : List Str, G D2 = some (.lst (zs.map V.str)) ∧ zs.Sublist (seen.take i)) ⟨fun b o _ e => (smu nD2) _ _ e, s4.same (smu nD2), [], upd_same, List.nil_sublist _⟩ (fun i G _ h => SqL.of (h.1 _ _ nSp hSn)) (fun i x G hx h => ?_) fun G5 h => ?_
      · obtain ⟨bG', sG', zs, hz, hsub⟩ := h
        have hi : i < seen.length := by
          have := (List.getElem?_eq_some_iff.mp hx).1
          rw [List.length_map] at this
          exact this
        obtain ⟨c, hc, rfl⟩ : ∃ c, seen[i]? = some c ∧ x = .str c := by
          rw [List.getElem?_map] at hx
          cases e : seen[i]? with
          | none =>
            rw [e] at hx
            cases hx
          | some c =>
            rw [e] at hx
            exact ⟨c, rfl, (Option.some.inj hx).symm⟩
        have tk : seen.take (i + 1) = seen.take i ++ [c] := by rw [List.take_succ, hc] <;> rfl
        refine ⟨rfl, _, rfl, p, 4, _, rfl, sG', by omega, by decide, by decide, fun G6 v2 w0' w1' b6 s6 => ⟨rfl, _, rfl, ?_⟩⟩
        have hz6 := b6 _ _ nD2p hz
        have zl := hsub.length_le
        rw [List.length_take] at zl
        refine ite2 (fun _ => ?_) (fun _ => ?_)
        · refine ⟨_, rfl, _, hz6, ?_, fun b o nb e => ?_, s6.keep fun o e => ?_, zs ++ [c], ?_, ?_⟩
          · rw [List.length_map, sizeLine_eq]
            omega
          · rw [upd_ne (ne_of_none e nD2)]
            exact b6 _ _ nb (bG' _ _ nb e)
          · rw [upd_ne nD2p.symm]
            exact e
          · rw [upd_same, List.map_append] <;> rfl
          · rw [tk]
            exact List.Sublist.append hsub (List.Sublist.refl _)
        · refine ⟨fun b o nb e => b6 _ _ nb (bG' _ _ nb e), s6, zs, hz6, ?_⟩
          rw [tk]
          exact hsub.trans (List.sublist_append_left _ _)
      obtain ⟨b5, s5, zs, hz5, hsub⟩ := h
      rw [List.length_map, List.take_length] at hsub
      rw [List.length_map] at s5
      have zl := hsub.length_le
      refine ⟨D2, zs, rfl, SqL.of hz5, by omega, fun low P2 pmL srtL nP2 => ?_⟩
      have yP2 := smu (o := .lst (low.map V.str)) nP2
      have mP2 := upd_same (H := G5) (a := P2) (o := .lst (low.map V.str))
      generalize upd G5 P2 (.lst (low.map V.str)) = G6 at yP2 mP2 ⊢
      refine ⟨P2, _, rfl, .inl ⟨SqL.of mP2, fun Ln nLn => ?_⟩⟩
      have yLn := smu (o := .tup (low.map V.str)) nLn
      have mLn := upd_same (H := G6) (a := Ln) (o := .tup (low.map V.str))
      generalize upd G6 Ln (.tup (low.map V.str)) = G7 at yLn mLn ⊢
      show tSeq _ _ _ ([some (.ref p), some (.int m), some (.int a), some (.ref C), some (.int way), some (.ref D), some (.ref Nn), some (.ref Sn), some (.ref Ln), none, none, none] : L2.St) _
      have b17 : But p G1 G7 := ((b14.trans b5).same yP2).same yLn
      have s7 := (s5.same yP2).same yLn
      have hS7 := yLn _ _ (yP2 _ _ (b5 _ _ nSp hSn))
      have hN7 := b17 _ _ nNp hN
      have hD7 := b17 _ _ nDp (b1 _ _ nDp hD)
      have hR7 : RowsS G7 bs := fun z hz => b17 _ _ (rp z hz) (b1 _ _ (rp z hz) (hR z hz))
      have low7 : (∀ c ∈ low, c ∈ seen) ∧ low.Nodup ∧ sortedS low = true := ⟨fun c hc => hsub.subset (pmL.mem_iff.mp hc), pmL.nodup_iff.mpr ((sbS.nodup nd).sublist hsub), srtL⟩
      have bH7 : But p H G7 := (bG.trans b1).trans b17
      have lz : (ns.map V.str).length = (refS bs).length := by rw [List.length_map, refS_len, lenN]
      refine ⟨_, rfl, _, rfl, Nn, D, ns.map V.str, refS bs, rfl, SqL.of hN7, SqL.of hD7, fun D3 nD3 => ?_⟩
      refine Lz.lc_zipL (xs := ns.map V.str) (ys := refS bs) lz (fun i G => Same G7 G ∧ ∃ L : List AtA, G D3 = some (.lst (L.map fun z => V.ref z.1)) ∧ L.map (·.2) = (ns.zip (bs.map (·.2))).take i ∧ AtsAt G L) ⟨smu nD3, [], upd_same, rfl, fun z hz => nomatch hz⟩ (fun i G h => ⟨SqL.of (h.1 _ _ hN7), SqL.of (h.1 _ _ hD7)⟩) (fun i x y Tt G hx hy h nT => ?_) fun G8 h => ?_
      · obtain ⟨yG, L, hL, hLz, hA⟩ := h
        obtain ⟨c, hc, rfl⟩ : ∃ c, ns[i]? = some c ∧ x = .str c := by
          rw [List.getElem?_map] at hx
          cases e : ns[i]? with
          | none =>
            rw [e] at hx
            cases hx
          | some c =>
            rw [e] at hx
            exact ⟨c, rfl, (Option.some.inj hx).symm⟩
        obtain ⟨z, hz, rfl⟩ : ∃ z, bs[i]? = some z ∧ y = .ref z.1 := by
          unfold refS at hy
          rw [List.getElem?_map] at hy
          cases e : bs[i]? with
          | none =>
            rw [e] at hy
            cases hy
          | some c =>
            rw [e] at hy
            exact ⟨c, rfl, (Option.some.inj hy).symm⟩
        have yT := smu (o := .tup [V.str c, V.ref z.1]) nT
        have mT := upd_same (H := G) (a := Tt) (o := .tup [V.str c, V.ref z.1])
        generalize upd G Tt (.tup [V.str c, V.ref z.1]) = G9 at yT mT ⊢
        have lL : L.length ≤ 11 := by
          have e := congrArg List.length hLz
          rw [List.length_map, List.length_take, List.length_zip, List.length_map] at e
          omega
        refine ⟨Tt, _, rfl, SqT.of mT, rfl, _, _, rfl, _, _, rfl, rfl, rfl, yes_in ⟨_, rfl, _, rfl, (by show 2 ≤ sizeLine; decide), fun t2 nt2 => ?_⟩⟩
        have yt2 := smu (o := .tup [V.str c, V.ref z.1]) nt2
        have mt2 := upd_same (H := G9) (a := t2) (o := .tup [V.str c, V.ref z.1])
        generalize upd G9 t2 (.tup [V.str c, V.ref z.1]) = G10 at yt2 mt2 ⊢
        have y10 : Same G G10 := yT.trans yt2
        have hL10 := y10 _ _ hL
        have ntup : ∀ {b : Addr} {xs : List V}, G10 b = some (.tup xs) → b ≠ D3 := fun h e => by
          rw [e, hL10] at h
          cases h
        refine ⟨_, hL10, by rw [List.length_map, sizeLine_eq]; omega, fun b o e => ?_, L ++ [(t2, (c, z.2))], by rw [upd_same, List.map_append] <;> rfl, ?_, fun q hq => ?_⟩
        · rw [upd_ne (ne_of_none e nD3)]
          exact y10 _ _ (yG _ _ e)
        · rw [List.map_append, hLz, List.take_succ, (List.getElem?_zip_eq_some (z := (c, z.2))).mpr ⟨hc, by rw [List.getElem?_map, hz] <;> rfl⟩] <;> rfl
        · rcases List.mem_append.mp hq with hq | hq
          · obtain ⟨ra, h1, h2⟩ := hA q hq
            have h1' := y10 _ _ h1
            have h2' := y10 _ _ h2
            exact ⟨ra, by rw [upd_ne (ntup h1')]; exact h1', by rw [upd_ne (ntup h2')]; exact h2'⟩
          · rw [List.mem_singleton.mp hq]
            have h2' := y10 _ _ (yG _ _ (hR7 z (List.mem_of_getElem? hz)))
            exact ⟨z.1, by rw [upd_ne (ntup mt2)]; exact mt2, by rw [upd_ne (ntup h2')]; exact h2'⟩
      obtain ⟨y8, L, hL, hLz, hA⟩ := h
      have hzl : (ns.zip (bs.map (·.2))).length = bs.length := by rw [List.length_zip, List.length_map, lenN, Nat.min_self]
      rw [List.length_map, lenN, ← hzl, List.take_length] at hLz
      have lL : L.length = bs.length := by
        have e := congrArg List.length hLz
        rw [List.length_map, hzl] at e
        exact e
      refine ⟨D3, L, rfl, SqL.of hL, fun z hz => ?_, fun d hd d' hd' => ?_, fun z _ => ⟨_, _, rfl⟩, fun z _ => depth_encA z.2, by omega, fun P3 nP3 => ?_⟩
      · obtain ⟨ra, h1, h2⟩ := hA z hz
        exact .tup (SqT.of h1) (.cons (.str _) (.cons (.tup (SqT.of h2) (dp_strs _)) .nil))
      · obtain ⟨a, _, rfl⟩ := List.mem_map.mp hd
        obtain ⟨b, _, rfl⟩ := List.mem_map.mp hd'
        exact alike_encA _ _
      show gName 9 _ ([some (.ref p), some (.int m), some (.int a), some (.ref C), some (.int way), some (.ref D), some (.ref Nn), some (.ref Sn), some (.ref Ln), none, none, none] : L2.St) _ _
      have pmS : (L.mergeSort leL).Perm L := List.mergeSort_perm _ _
      have prS := leL_pair L
      have yP3 := smu (o := .lst ((L.mergeSort leL).map fun z => V.ref z.1)) nP3
      have mP3 := upd_same (H := G8) (a := P3) (o := .lst ((L.mergeSort leL).map fun z => V.ref z.1))
      generalize hSL : L.mergeSort leL = SL at pmS prS yP3 mP3
      have eSL : L.mergeSort (PySem.W.dataLe false fun q : AtA => encA q.2) = SL := hSL
      rw [eSL]
      generalize upd G8 P3 (.lst (SL.map fun z => V.ref z.1)) = G9 at yP3 mP3 ⊢
      show tSeq _ _ _ ([some (.ref p), some (.int m), some (.int a), some (.ref C), some (.int way), some (.ref D), some (.ref Nn), some (.ref Sn), some (.ref Ln), some (.ref P3), none, none] : L2.St) _
      have y79 : Same G7 G9 := y8.trans yP3
      refine ⟨_, rfl, Sn, _, rfl, .inl ⟨SqL.of (y79 _ _ hS7), fun t1 nt1 => ?_⟩⟩
      have yt1 := smu (o := .tup (seen.map V.str)) nt1
      have mt1 := upd_same (H := G9) (a := t1) (o := .tup (seen.map V.str))
      generalize upd G9 t1 (.tup (seen.map V.str)) = G10 at yt1 mt1 ⊢
      refine ⟨_, rfl, _, rfl, P3, _, rfl, .inl ⟨SqL.of (yt1 _ _ mP3), fun t2 nt2 => ?_⟩⟩
      have yt2 := smu (o := .tup (SL.map fun z => V.ref z.1)) nt2
      have mt2 := upd_same (H := G10) (a := t2) (o := .tup (SL.map fun z => V.ref z.1))
      generalize upd G10 t2 (.tup (SL.map fun z => V.ref z.1)) = G11 at yt2 mt2 ⊢
      refine ⟨(by show 3 ≤ sizeLine; decide), fun r nr => ?_⟩
      have yr := smu (o := .tup [V.ref t1, V.ref Ln, V.ref t2]) nr
      have mr := upd_same (H := G11) (a := r) (o := .tup [V.ref t1, V.ref Ln, V.ref t2])
      have y711 : Same G7 G11 := (y79.trans yt1).trans yt2
      obtain ⟨st7, hp7⟩ := s7.some
      have nHr : H r = none := (bH7.same y711).free (fun e => by
        have z := y711 _ _ hp7
        rw [← e, nr] at z
        cases z) nr
      generalize upd G11 r (.tup [V.ref t1, V.ref Ln, V.ref t2]) = G12 at yr mr ⊢
      have y712 := y711.trans yr
      have hp12 := y712 _ _ hp7
      have hA12 : AtsAt G12 SL := fun z hz => by
        obtain ⟨ra, h1, h2⟩ := hA z (pmS.mem_iff.mp hz)
        have y812 : Same G8 G12 := ((yP3.trans yt1).trans yt2).trans yr
        exact ⟨ra, y812 _ _ h1, y812 _ _ h2⟩
      have fstL : (L.map (·.2)).map (·.1) = ns := by
        rw [hLz, List.map_fst_zip (by rw [List.length_map, lenN]; exact Nat.le_refl _)]
      have sndL : (L.map (·.2)).map (·.2) = bs.map (·.2) := by
        rw [hLz, List.map_snd_zip (by rw [List.length_map, lenN]; exact Nat.le_refl _)]
      have pm2 := pmS.map (fun q : AtA => q.2)
      have nsnd := subN.nodup nm18_nodup
      refine fin G12 r ⟨seen, low, SL.map (·.2)⟩ cols (bH7.same y712) ((s7.same y712).mono (by omega)) nHr ?_ ⟨nd, cN, ?_, ⟨?_, fun n hn => ?_⟩, prS, sbS, low7⟩ (by omega) c0 ?_
      · exact .tup (SqT.of (ct_tup hp12 mr)) (.cons (.tup (SqT.of (ct_tup hp12 (yr _ _ (yt2 _ _ mt1)))) (dt_strs _)) (.cons (.tup (SqT.of (ct_tup hp12 (y712 _ _ mLn))) (dt_strs _)) (.cons (.tup (SqT.of (ct_tup hp12 (yr _ _ mt2))) (ats_dt hp12 hA12)) .nil)))
      · exact (sndL ▸ hT).perm (pm2.map (fun q : Str × List Str => q.2))
      · exact (pm2.map (fun q : Str × List Str => q.1)).nodup_iff.mpr (by rw [fstL]; exact nsnd)
      · have z := (pm2.map (fun q : Str × List Str => q.1)).mem_iff.mp hn
        rw [fstL] at z
        exact subN.mem n z
      · show (SL.map (·.2)).length ≤ a + 1
        rw [List.length_map, pmS.length_eq, lL]
        exact hbl
end
end K14

/-! is_name, _law_is_word, _law_is_line. -/
namespace K14
open PySem PySem.Spec PyProof.Rows L2 Dr Ex Rp LamX
open He (ga ma)
section
variable {X : Cx} {x : Str} {n : String} {pos : Pos}
theorem p_bty (hm : X.mg x = none) (hv : bootBuiltins x = some (.type n)) (hg : Gl X x := by rfl) (hn : x ≠ "__name__" := by decide) (hd : (x == ("__debug__" : Str)) = false := by decide) : PE X (.Name x pos) (tC (.ty n)) := pe_bltn hg hm hv rfl hn hd
end
theorem kit_str (d : PyData) {K : PySem.W.Frag} : PySem.W.kitOne K (.type (tyD d)) (.type "str") = some (decide (tyD d = "str")) := by
  cases d
  · exact kit_ty (a := "NoneType") (b := "str") (r := false) (by decide +kernel)
  · exact kit_ty (a := "bool") (b := "str") (r := false) (by decide +kernel)
  · exact kit_ty (a := "int") (b := "str") (r := false) (by decide +kernel)
  · exact kit_ty (a := "str") (b := "str") (r := true) (by decide +kernel)
  · exact kit_ty (a := "list") (b := "str") (r := false) (by decide +kernel)
  · exact kit_ty (a := "tuple") (b := "str") (r := false) (by decide +kernel)
  · exact kit_ty (a := "dict") (b := "str") (r := false) (by decide +kernel)
def lowC (c : Nat) : Bool := decide (97 ≤ c) && decide (c ≤ 122)
def isWord : PyData → Bool
  | .str x => decide (1 ≤ x.length) && (decide (x.length ≤ 8) && x.cps.toList.all lowC)
  | _ => false
def shortS : PyData → Prop
  | .str x => x.length ≤ 1000
  | _ => True
def spWord (K : PySem.W.Frag) : Sp := fun vs H Q _ => ∃ (v : V) (d : PyData), vs = [v] ∧ Dt K H v d ∧ shortS d ∧ ∀ H', Same H H' → Q (.bl (isWord d)) H'
abbrev nName : List Str := ["value", "letter"]
theorem scName : FnScope nName ["value"] (defScope sIsName) := ⟨rfl, rfl, rfl, by decide +kernel, rfl, by decide +kernel, by decide +kernel⟩
section
variable {P : Program} {w : World} {K : PySem.W.Frag} {mg : Str → Option Value} {base : Heap}
theorem ok_name {CX : CXT} {f : Addr} {fd : FuncData} (F : FnP K "is_name" sIsName f fd) (T : TG K mg) (gL : ∃ t, mg "MAX_LETTERS" = some (.int 8 t)) : FnOk P w K mg base CX 1 f fd ["value"] (spWord K) := by
  have ti := T.f "isinstance" (by decide +kernel)
  have ts := T.f "str" (by decide +kernel)
  have tl := T.f "len" (by decide +kernel)
  have ta := T.f "all" (by decide +kernel)
  obtain ⟨tk, gL⟩ := gL
  refine F.ok scName (fun vs H Q E h => ?_) (fun cdv A outer s H vs Q E hr h => ?_)
  · obtain ⟨v, d, rfl, _⟩ := h
    rfl
  · obtain ⟨v, d, rfl, hd, hsh, k⟩ := h
    refine ⟨_, PSs.nox (pss_cons (ps_if (PW.pt (pw_or (pt_not (pt_val (pe_callB call_isi (by rfl) ti (by decide +kernel) (pa_cons (pv 0) (pa_cons (p_bty (n := "str") ts (by decide +kernel)) pa_nil)))))
          (pw_or1 (pt_not (pt_chain op_le op_le pe_int (pe_callB call_len_str (by rfl) tl PySem.boot_len (pa_cons (pv 0) pa_nil)) (pe_glob (v := .int 8) rfl gL ⟨_, rfl⟩))))))
        (pss_one (ps_ret pe_bl)) pss_nil)
      (pss_one (ps_ret (pe_callB (cr_all rfl) (by rfl) ta (by decide +kernel) (pa_cons (pe_lc (own := [("letter", 1)]) (g := gName 1) (tt := tYes) rfl scName.nd (pi_str (pv 0)) (blkOk_by (own := [("letter", 1)]) (N := nName) (sc := defScope sIsName) (by decide +kernel))
        (fun _ _ _ _ _ => pg_name (i := 1) scName.nd rfl (Or.inl rfl)) (fun _ _ _ _ _ => pts_nil) (fun _ _ _ _ _ => pe_chain op_le_str op_le_str pe_str (pv 1) pe_str)) pa_nil))))), ?_⟩
    refine ⟨_, rfl, _, _, _, _, _, rfl, .ty _, hd.ty, kit_str d, _, rfl, ?_⟩
    cases d with
    | str x =>
      cases hd
      have hx : x.length ≤ 1000 := hsh
      refine iteF ⟨_, rfl, x, rfl, by rw [sizeLine_eq]; omega, _, _, rfl, rfl, _, rfl, ?_⟩
      have out : isWord (.str x) = false → Q (.bl false) H := fun e => by
        have z := k H (Same.refl H)
        rw [e] at z
        exact z
      by_cases h0 : (1 : Int) ≤ (x.length : Int)
      · refine ite2 (fun _ => ⟨_, _, rfl, rfl, _, rfl, ?_⟩) fun c => absurd (decide_eq_true h0) c
        by_cases h1 : (x.length : Int) ≤ 8
        · rw [decide_eq_true h1]
          refine iteF ?_
          have w1 : isWord (.str x) = x.cps.toList.all lowC := by
            show (decide (1 ≤ x.length) && (decide (x.length ≤ 8) && x.cps.toList.all lowC)) = _
            rw [decide_eq_true (show 1 ≤ x.length by omega), decide_eq_true (show x.length ≤ 8 by omega)] <;> rfl
          have sz : x.cps.size ≤ 8 := by
            have : x.length = x.cps.size := rfl
            omega
          refine ⟨_, rfl, x, rfl, fun D hD => lc_it walk_str (fun i H' => Same H H' ∧ H' D = some (.lst ((((x.cps.toList.take i).map lowC)).map V.bl))) ⟨smu hD, by rw [upd_same]; rfl⟩ (fun _ _ _ _ => trivial) ?_ ?_⟩
          · rintro i v G2 G hi ⟨s1, hL⟩ ⟨rfl, c, hc, rfl⟩
            have hc2 : x.cps.toList[i]? = some c := by rw [Array.getElem?_toList]; exact hc
            have ec : (x.cps.toList.take (i + 1)).map lowC = (x.cps.toList.take i).map lowC ++ [lowC c] := by
              rw [List.take_add_one, hc2, List.map_append] <;> rfl
            have done : ∀ b : Bool, b = lowC c → ∃ acc, G D = some (.lst acc) ∧ acc.length < sizeLine ∧ Same H (upd G D (.lst (acc ++ [V.bl b]))) ∧ upd G D (.lst (acc ++ [V.bl b])) D = some (.lst (((x.cps.toList.take (i + 1)).map lowC).map V.bl)) := fun b hb => by
              refine ⟨_, hL, ?_, fun b o e => ?_, ?_⟩
              · rw [List.length_map, List.length_map, List.length_take, Array.length_toList, sizeLine_eq]
                omega
              · rw [upd_ne (ne_of_none e hD)]
                exact s1 _ _ e
              · rw [upd_same, ec, List.map_append, hb] <;> rfl
            refine ⟨rfl, yes_in ⟨_, rfl, _, _, rfl, rfl, _, rfl, ?_⟩⟩
            by_cases c1 : 97 ≤ c
            · have e1 : (!decide (([c] : List Nat) < [97])) = true := by
                rw [Bool.not_eq_true', decide_eq_false_iff_not]
                show ¬ List.Lex (· < ·) [c] [97]
                intro z
                cases z with
                | cons h => cases h
                | rel h => omega
              refine ite2 (fun _ => ⟨_, _, rfl, rfl, ?_⟩) fun z => absurd e1 z
              refine done _ ?_
              unfold lowC
              rw [decide_eq_true c1, Bool.true_and]
              by_cases c2 : c ≤ 122
              · rw [decide_eq_true c2, Bool.not_eq_true', decide_eq_false_iff_not]
                show ¬ List.Lex (· < ·) [122] [c]
                intro z
                cases z with
                | cons h => cases h
                | rel h => omega
              · rw [decide_eq_false c2, Bool.not_eq_false', decide_eq_true_eq]
                exact (show List.Lex (· < ·) [122] [c] from List.Lex.rel (show 122 < c by omega))
            · have e1 : (!decide (([c] : List Nat) < [97])) = false := by
                rw [Bool.not_eq_false', decide_eq_true_eq]
                exact (show List.Lex (· < ·) [c] [97] from List.Lex.rel (show c < 97 by omega))
              refine ite2 (fun z => absurd (z.symm.trans e1) (by simp)) fun _ => ?_
              refine done _ ?_
              unfold lowC
              rw [decide_eq_false c1] <;> rfl
          · rintro G ⟨s1, hL⟩
            refine ⟨D, x.cps.toList.map lowC, rfl, SqL.of ?_, ?_⟩
            · rw [hL, ← Array.length_toList, List.take_length]
            · have e : (x.cps.toList.map lowC).all id = x.cps.toList.all lowC := by rw [List.all_map] <;> rfl
              rw [e, ← w1]
              exact k G s1
        · rw [decide_eq_false h1]
          refine iteT (out ?_)
          show (decide (1 ≤ x.length) && (decide (x.length ≤ 8) && x.cps.toList.all lowC)) = false
          rw [decide_eq_false (show ¬ x.length ≤ 8 by omega), Bool.false_and, Bool.and_false]
      · refine ite2 (fun c => absurd (of_decide_eq_true c) h0) fun _ => ⟨_, rfl, iteT (out ?_)⟩
        show (decide (1 ≤ x.length) && (decide (x.length ≤ 8) && x.cps.toList.all lowC)) = false
        rw [decide_eq_false (show ¬ 1 ≤ x.length by omega)] <;> rfl
    | none => exact iteT (k H (Same.refl H))
    | bool b => exact iteT (k H (Same.refl H))
    | int i => exact iteT (k H (Same.refl H))
    | tuple x => exact iteT (k H (Same.refl H))
    | list ds => exact iteT (k H (Same.refl H))
    | dict ds => exact iteT (k H (Same.refl H))
end
end K14

/-! are_names. -/
namespace K14
open PySem PySem.Spec PyProof.Rows L2 Dr Ex Rp LamX
open He (ga ma)
theorem kit_tup (d : PyData) {K : PySem.W.Frag} : PySem.W.kitOne K (.type (tyD d)) (.type "tuple") = some (decide (tyD d = "tuple")) := by
  cases d
  · exact kit_ty (a := "NoneType") (b := "tuple") (r := false) (by decide +kernel)
  · exact kit_ty (a := "bool") (b := "tuple") (r := false) (by decide +kernel)
  · exact kit_ty (a := "int") (b := "tuple") (r := false) (by decide +kernel)
  · exact kit_ty (a := "str") (b := "tuple") (r := false) (by decide +kernel)
  · exact kit_ty (a := "list") (b := "tuple") (r := false) (by decide +kernel)
  · exact kit_ty (a := "tuple") (b := "tuple") (r := true) (by decide +kernel)
  · exact kit_ty (a := "dict") (b := "tuple") (r := false) (by decide +kernel)
def itsD : PyData → List PyData
  | .tuple ds => ds
  | _ => []
def wordD : PyData → Str
  | .str x => x
  | _ => Str.empty
/-- a tuple of different names -/
def namesOk : PyData → Bool
  | .tuple ds => ds.all isWord && decide ((ds.map wordD).Nodup)
  | _ => false
theorem word_strs : ∀ {ds : List PyData}, ds.all isWord = true → ds = (ds.map wordD).map .str
  | [], _ => rfl
  | d :: r, h => by
    rw [List.all_cons, Bool.and_eq_true] at h
    have ih := word_strs h.2
    cases d with
    | str x =>
      rw [List.map_cons, List.map_cons, ← ih] <;> rfl
    | _ => cases h.1
theorem strs_of_dt {K : PySem.W.Frag} {H : Hp} : ∀ {xs : List Str} {vs : List V}, DtAll K H vs (xs.map .str) → vs = xs.map .str
  | [], _, h => by cases h; rfl
  | x :: r, _, h => by
    cases h with
    | cons a t =>
      rw [strs_of_dt t]
      cases a
      rfl
theorem dup_at {α : Type} [DecidableEq α] : ∀ {l : List α}, ¬ l.Nodup → ∃ a ∈ l, a ∈ l.erase a
  | [], h => absurd List.nodup_nil h
  | b :: r, h => by
    by_cases hb : b ∈ r
    · exact ⟨b, List.mem_cons_self, by rw [List.erase_cons_head] <;> exact hb⟩
    · have hr : ¬ r.Nodup := fun z => h (List.nodup_cons.mpr ⟨hb, z⟩)
      obtain ⟨a, ha, he⟩ := dup_at hr
      have ne : ¬ (b == a) = true := fun z => hb ((beq_iff_eq.mp z) ▸ ha)
      exact ⟨a, List.mem_cons_of_mem _ ha, by rw [List.erase_cons_tail ne]; exact List.mem_cons_of_mem _ he⟩
/-- as many different ones as there are: all are different -/
theorem nodup_iff_len {α : Type} [DecidableEq α] {L l : List α} (nd : L.Nodup) (hm : ∀ y, y ∈ L ↔ y ∈ l) : l.Nodup ↔ L.length = l.length := by
  constructor
  · exact fun h => ((List.perm_ext_iff_of_nodup nd h).mpr hm).length_eq
  · intro e
    refine Classical.byContradiction fun h => ?_
    obtain ⟨a, ha, he⟩ := dup_at h
    have z := nodup_le L (l.erase a) nd fun x hx => by
      by_cases q : x = a
      · rw [q]
        exact he
      · exact (List.mem_erase_of_ne q).mpr ((hm x).mp hx)
    rw [List.length_erase_of_mem ha] at z
    have := List.length_pos_of_mem ha
    omega
def spNamesP (K : PySem.W.Frag) : Sp := fun vs H Q _ => ∃ (v : V) (d : PyData), vs = [v] ∧ Dt K H v d ∧ (∀ e ∈ itsD d, shortS e) ∧ (itsD d).length ≤ 1000 ∧ ∀ H', Same H H' → Q (.bl (namesOk d)) H'
abbrev nNamesP : List Str := ["value", "name"]
theorem scNamesP : FnScope nNamesP ["value"] (defScope sNames) := ⟨rfl, rfl, rfl, by decide +kernel, rfl, by decide +kernel, by decide +kernel⟩
theorem all_get {K : PySem.W.Frag} {H : Hp} : ∀ {xs : List V} {ds : List PyData} {i : Nat} {x : V}, DtAll K H xs ds → xs[i]? = some x → ∃ d, ds[i]? = some d ∧ Dt K H x d
  | _, _, _, _, .nil, h => by cases h
  | _, _, 0, _, .cons h _, e => ⟨_, rfl, Option.some.inj e ▸ h⟩
  | _, _, i + 1, _, .cons _ t, e => all_get (i := i) t e
section
variable {P : Program} {w : World} {K : PySem.W.Frag} {mg : Str → Option Value} {base : Heap}
theorem ok_namesP {CX : CXT} {f f1 : Addr} {fd fd1 : FuncData} (F : FnP K "are_names" sNames f fd) (F1 : FnP K "is_name" sIsName f1 fd1) (T : TG K mg) (g1 : mg "is_name" = some (.ref f1)) : FnOk P w K mg base CX 2 f fd ["value"] (spNamesP K) := by
  have ti := T.f "isinstance" (by decide +kernel)
  have tt := T.f "tuple" (by decide +kernel)
  have ta := T.f "all" (by decide +kernel)
  have tl := T.f "len" (by decide +kernel)
  have ts := T.f "set" (by decide +kernel)
  have G : FnOk P w K mg base CX0 1 f1 fd1 ["value"] (spWord K) := ok_name F1 T T.m
  have b1 : Binds K fd1 ["value"] [] := F1.bindsN fun _ _ _ _ _ _ us hl => match us, hl with | [_], _ => rfl
  refine F.ok scNamesP (fun vs H Q E h => ?_) (fun cdv A outer s H vs Q E hr h => ?_)
  · obtain ⟨v, d, rfl, _⟩ := h
    rfl
  · obtain ⟨v, d, rfl, hd, hsh, hlen, k⟩ := h
    refine ⟨_, PSs.nox (pss_cons (ps_if (PW.pt (pw_or (pt_not (pt_val (pe_callB call_isi (by rfl) ti (by decide +kernel) (pa_cons (pv 0) (pa_cons (p_bty (n := "tuple") tt (by decide +kernel)) pa_nil)))))
          (pw_or1 (pt_not (pt_val (pe_callB (cr_all rfl) (by rfl) ta (by decide +kernel) (pa_cons (pe_lc (own := [("name", 1)]) (g := gName 1) (tt := tYes) rfl scNamesP.nd (pi_tup (pv 0)) (blkOk_by (own := [("name", 1)]) (N := nNamesP) (sc := defScope sNames) (by decide +kernel))
            (fun _ _ _ _ _ => pg_name (i := 1) scNamesP.nd rfl (Or.inl rfl)) (fun _ _ _ _ _ => pts_nil) (fun _ _ _ _ _ => pe_call G hr rfl g1 F1.kp b1 .nil pass0 (pa_cons (pv 1) pa_nil))) pa_nil)))))))
        (pss_one (ps_ret pe_bl)) pss_nil)
      (pss_one (ps_ret (pe_cmpR op_eq (pe_callB (show CallR _ _ (Sl.rLenL P w) from Sl.cr_lenL) (by rfl) tl PySem.boot_len (pa_cons (pe_callTy (show CallR _ (.type "set") (Sl.rSetL K P w) from Sl.cr_setL rfl) (by rfl) ts (by decide +kernel) (pa_cons (pv 0) pa_nil)) pa_nil))
        (pe_callB (id := "len") (show CallR _ _ (rLenS K) from call_len_seq) (by rfl) tl PySem.boot_len (pa_cons (pv 0) pa_nil)) (nomark _))))), ?_⟩
    refine ⟨_, rfl, _, _, _, _, _, rfl, .ty _, hd.ty, kit_tup d, _, rfl, ?_⟩
    cases d with
    | tuple ds =>
      cases hd with
      | tup h1 h2 =>
        rename_i a xs
        have ll : ds.length = xs.length := DtAll.len h2
        have hl1 : ds.length ≤ 1000 := hlen
        refine iteF ?_
        refine ⟨_, rfl, a, rfl, ⟨xs, h1⟩, fun D hD => lc_tup (xs := xs) (fun i H' => Same H H' ∧ H' D = some (.lst (((ds.take i).map isWord).map V.bl))) ⟨smu hD, upd_same⟩ (fun i H' _ h => sqt_same h.1 h1) ?_ ?_⟩
        · rintro i x H' hx ⟨s1, hL⟩
          obtain ⟨d, e1, e2⟩ := all_get h2 hx
          refine ⟨rfl, yes_in ⟨_, rfl, x, d, rfl, Dt.same s1 d _ e2, hsh d (List.mem_of_getElem? e1), fun H2 s2 => ⟨_, s2 _ _ hL, ?_, fun b o e => ?_, ?_⟩⟩⟩
          · have l1 := (List.getElem?_eq_some_iff.mp hx).1
            rw [List.length_map, List.length_map, List.length_take, sizeLine_eq]
            omega
          · rw [upd_ne (ne_of_none e hD)]
            exact s2 _ _ (s1 b o e)
          · rw [upd_same, List.take_add_one, e1]
            simp
        · rintro H' ⟨s1, hL⟩
          refine ⟨D, (ds.map isWord), rfl, SqL.of ?_, ?_⟩
          · rw [hL, ← ll, List.take_length]
          have e : (ds.map isWord).all id = ds.all isWord := by rw [List.all_map] <;> rfl
          rw [e]
          refine ⟨_, rfl, ?_⟩
          cases hb : ds.all isWord with
          | false =>
            refine iteT ?_
            have z := k H' s1
            have e0 : namesOk (.tuple ds) = false := by
              show (ds.all isWord && _) = false
              rw [hb, Bool.false_and]
            rw [e0] at z
            exact z
          | true =>
            have ed := word_strs hb
            have ex : xs = (ds.map wordD).map V.str := strs_of_dt (ed ▸ h2)
            have e0 : namesOk (.tuple ds) = decide ((ds.map wordD).Nodup) := by
              show (ds.all isWord && _) = _
              rw [hb, Bool.true_and]
            have ek : xs = ((ds.map wordD).map (Sum.inr (α := Int))).map kV := by
              rw [ex, List.map_map (f := Sum.inr)] <;> rfl
            refine iteF ⟨_, rfl, a, (ds.map wordD).map Sum.inr, rfl, .inr (by rw [← ek]; exact sqt_same s1 h1), by rw [List.length_map, List.length_map]; unfold scanBound; omega, fun p L nL mL np => ⟨p, L, rfl, upd_same, fun _ => ⟨_, rfl, a, xs, rfl, .inr (sqt_same (s1.trans (smu np)) h1), ?_⟩⟩⟩
            have z := k _ (s1.trans (smu (o := Sl.SetLO P w p L) np))
            rw [e0] at z
            have en : (ds.map wordD).Nodup ↔ L.length = ((ds.map wordD).map (Sum.inr (α := Int))).length := by
              rw [← nodup_iff_len nL mL]
              exact ⟨fun h => by rw [List.Nodup, List.pairwise_map]; exact h.imp fun n e => n (Sum.inr.inj e), fun h => by rw [List.Nodup, List.pairwise_map] at h; exact h.imp fun n e => n (by rw [e])⟩
            rw [List.length_map, List.length_map, ll] at en
            have e1 : decide ((ds.map wordD).Nodup) = decide (V.int (L.length : Nat) = V.int (xs.length : Nat)) := by
              rw [decide_eq_decide, en]
              exact ⟨fun h => by rw [h], fun h => by injection h with q; omega⟩
            rw [e1] at z
            exact ⟨rfl, z⟩
    | none => exact iteT (iteT (k H (Same.refl H)))
    | bool b => exact iteT (iteT (k H (Same.refl H)))
    | int i => exact iteT (iteT (k H (Same.refl H)))
    | str x => exact iteT (iteT (k H (Same.refl H)))
    | list ds => exact iteT (iteT (k H (Same.refl H)))
    | dict ds => exact iteT (iteT (k H (Same.refl H)))
end
end K14

/-! are_some_of. -/
namespace K14
open PySem PySem.Spec PyProof.Rows L2 Dr Ex Rp LamX
open He (ga ma)
def someOk (d : PyData) (cs : List Str) : Bool := namesOk d && (itsD d).all fun e => decide (wordD e ∈ cs)
def spSomeOf (K : PySem.W.Frag) : Sp := fun vs H Q _ => ∃ (v : V) (d : PyData) (b : Addr) (cs : List Str), vs = [v, .ref b] ∧ Dt K H v d ∧ (∀ e ∈ itsD d, shortS e) ∧ (itsD d).length ≤ 1000 ∧ SqT K H b (cs.map V.str) ∧ ∀ H', Same H H' → Q (.bl (someOk d cs)) H'
abbrev nSomeOf : List Str := ["value", "names", "name"]
theorem scSomeOf : FnScope nSomeOf ["value", "names"] (defScope sSomeOf) := ⟨rfl, rfl, rfl, by decide +kernel, rfl, by decide +kernel, by decide +kernel⟩
section
variable {P : Program} {w : World} {K : PySem.W.Frag} {mg : Str → Option Value} {base : Heap}
theorem ok_someOf {CX : CXT} {f f1 f2 : Addr} {fd fd1 fd2 : FuncData} (F : FnP K "are_some_of" sSomeOf f fd) (F1 : FnP K "is_name" sIsName f1 fd1) (F2 : FnP K "are_names" sNames f2 fd2) (T : TG K mg) (g1 : mg "is_name" = some (.ref f1)) (g2 : mg "are_names" = some (.ref f2)) :
    FnOk P w K mg base CX 3 f fd ["value", "names"] (spSomeOf K) := by
  have ta := T.f "all" (by decide +kernel)
  have G : FnOk P w K mg base CX0 2 f2 fd2 ["value"] (spNamesP K) := ok_namesP F2 F1 T g1
  have b2 : Binds K fd2 ["value"] [] := F2.bindsN fun _ _ _ _ _ _ us hl => match us, hl with | [_], _ => rfl
  refine F.ok scSomeOf (fun vs H Q E h => ?_) (fun cdv A outer s H vs Q E hr h => ?_)
  · obtain ⟨v, d, b, cs, rfl, _⟩ := h
    rfl
  · obtain ⟨v, d, b, cs, rfl, hd, hsh, hlen, hb, k⟩ := h
    refine ⟨_, PSs.nox (pss_one (ps_ret (pe_and (pe_call G hr rfl g2 F2.kp b2 .nil pass0 (pa_cons (pv 0) pa_nil))
      (pe_one (pe_callB (cr_all rfl) (by rfl) ta (by decide +kernel) (pa_cons (pe_lc (own := [("name", 2)]) (g := gName 2) (tt := tYes) rfl scSomeOf.nd (pi_tup (pv 0)) (blkOk_by (own := [("name", 2)]) (N := nSomeOf) (sc := defScope sSomeOf) (by decide +kernel))
        (fun _ _ _ _ _ => pg_name (i := 2) scSomeOf.nd rfl (Or.inl rfl)) (fun _ _ _ _ _ => pts_nil) (fun _ _ _ _ _ => pe_cmpR (show OpR _ _ (rIn K false) from op_in_seq) (pv 2) (pv 1) (by rfl))) pa_nil)))))), ?_⟩
    refine ⟨_, rfl, v, d, rfl, hd, hsh, hlen, fun H1 s1 => ?_⟩
    refine ⟨_, rfl, ?_⟩
    cases hn : namesOk d with
    | false =>
      have z := k H1 s1
      have e0 : someOk d cs = false := by
        unfold someOk
        rw [hn, Bool.false_and]
      rw [e0] at z
      exact iteF z
    | true =>
      cases hd with
      | tup h1 h2 =>
        rename_i a xs ds
        have hw : ds.all isWord = true := ((Bool.and_eq_true _ _).mp (show (ds.all isWord && decide ((ds.map wordD).Nodup)) = true from hn)).1
        have ed := word_strs hw
        have ex : xs = (ds.map wordD).map V.str := strs_of_dt (ed ▸ h2)
        have e0 : someOk (.tuple ds) cs = (ds.map wordD).all fun x => decide (x ∈ cs) := by
          unfold someOk
          rw [hn, Bool.true_and, List.all_map] <;> rfl
        have lx : ds.length ≤ 1000 := hlen
        rw [e0] at k
        have lw : (ds.map wordD).length ≤ 1000 := by rw [List.length_map]; exact lx
        generalize ds.map wordD = ws at ex k lw
        subst ex
        refine iteT ⟨_, rfl, a, rfl, ⟨_, sqt_same s1 h1⟩, fun D hD => lc_tup (xs := ws.map V.str) (fun i H' => Same H1 H' ∧ H' D = some (.lst (((ws.take i).map fun x => decide (x ∈ cs)).map V.bl))) ⟨smu hD, upd_same⟩ (fun i H' _ h => sqt_same (s1.trans h.1) h1) ?_ ?_⟩
        · rintro i x H' hx ⟨s2, hL⟩
          obtain ⟨c, hc, rfl⟩ : ∃ c, ws[i]? = some c ∧ x = .str c := by
            rw [List.getElem?_map] at hx
            cases e : ws[i]? with
            | none =>
              rw [e] at hx
              cases hx
            | some c =>
              rw [e] at hx
              exact ⟨c, rfl, (Option.some.inj hx).symm⟩
          refine ⟨rfl, yes_in ⟨_, rfl, _, rfl, b, cs.map V.str, rfl, .inr (sqt_same (s1.trans s2) hb), rfl, flat_strs _, _, hL, ?_, fun b' o e => ?_, ?_⟩⟩
          · rw [List.length_map, List.length_map, List.length_take, sizeLine_eq]
            omega
          · rw [upd_ne (ne_of_none e hD)]
            exact s2 _ _ e
          · rw [upd_same, List.take_add_one, hc, if_neg (by decide), inV_strs]
            simp
        · rintro H' ⟨s2, hL⟩
          refine ⟨D, ws.map fun x => decide (x ∈ cs), rfl, SqL.of ?_, ?_⟩
          · rw [hL, List.length_map, List.take_length]
          · have e : (ws.map fun x => decide (x ∈ cs)).all id = ws.all fun x => decide (x ∈ cs) := by rw [List.all_map] <;> rfl
            rw [e]
            exact k H' (s1.trans s2)
      | _ => cases hn
end
end K14

/-! _law_is_near. -/
namespace K14
open PySem PySem.Spec PyProof.Rows L2 Dr Ex Rp LamX
open He (ga ma)
section
variable {K : PySem.W.Frag} {H : Hp}
theorem enc_inv {u : V} {z : Str × List Str} (h : Dt K H u (encA z)) : ∃ t c, u = .ref t ∧ SqT K H t [.str z.1, .ref c] ∧ SqT K H c (z.2.map V.str) := by
  unfold encA at h
  cases h with
  | tup h1 h2 =>
    cases h2 with
    | cons a t =>
      cases a
      cases t with
      | cons b t2 =>
        cases t2
        cases b with
        | tup h3 h4 =>
          rw [strs_of_dt h4] at h3
          exact ⟨_, _, rfl, h1, h3⟩
theorem plain_inv {v : V} {x : Plain} (h : Dt K H v x.d) : ∃ r v1 v2 a xs, v = .ref r ∧ SqT K H r [v1, v2, .ref a] ∧ SqT K H a xs ∧ DtAll K H xs (x.ats.map encA) := by
  unfold Plain.d at h
  cases h with
  | tup h1 h2 =>
    cases h2 with
    | cons a t =>
      cases t with
      | cons b t2 =>
        cases t2 with
        | cons c t3 =>
          cases t3
          cases c with
          | tup h3 h4 => exact ⟨_, _, _, _, _, rfl, h1, h3, h4⟩
end
def near (x : Plain) (one other : Str) : Bool := decide (one ≠ other) && x.ats.any fun z => decide (one ∈ z.2) && decide (other ∈ z.2)
def spIsNear (K : PySem.W.Frag) : Sp := fun vs H Q _ => ∃ (v : V) (x : Plain) (one other : Str), vs = [v, .str one, .str other] ∧ Dt K H v x.d ∧ x.ats.length ≤ 1000 ∧ ∀ H', Same H H' → Q (.bl (near x one other)) H'
abbrev nIsNear : List Str := ["_law_plain", "_law_one", "_law_other", "_law_some_here", "_law_name", "_law_columns_here"]
theorem scIsNear : FnScope nIsNear ["_law_plain", "_law_one", "_law_other"] (defScope sIsNear) := ⟨rfl, rfl, rfl, by decide +kernel, rfl, by decide +kernel, by decide +kernel⟩
theorem ones_ne (n : Nat) : (!PyData.eqv (.list ((List.replicate n (1 : Int)).map PyData.int)) (.list [])) = decide (n ≠ 0) := by
  cases n with
  | zero => decide
  | succ n => rfl
theorem lay_ones : ∀ n : Nat, PyData.canLayAll0 ((List.replicate n (1 : Int)).map PyData.int) = true
  | 0 => rfl
  | n + 1 => by
    rw [List.replicate_succ, List.map_cons]
    simp only [PyData.canLayAll0, PyData.canLay0, lay_ones n, Bool.and_self]
theorem dep_ones : ∀ n : Nat, PyData.depthAll ((List.replicate n (1 : Int)).map PyData.int) ≤ 1
  | 0 => Nat.zero_le _
  | n + 1 => by
    rw [List.replicate_succ, List.map_cons]
    have := dep_ones n
    simp only [PyData.depthAll, PyData.depth]
    omega
theorem shaped_ones (n : Nat) : SeqAt.shaped (.list ((List.replicate n (1 : Int)).map PyData.int)) = true := by
  unfold SeqAt.shaped
  rw [Bool.and_eq_true, decide_eq_true_eq]
  refine ⟨by simp only [PyData.canLay0]; exact lay_ones n, ?_⟩
  simp only [PyData.depth]
  have := dep_ones n
  omega
theorem dp_ints' {K : PySem.W.Frag} {H : Hp} : ∀ xs : List Int, DpAll K H (xs.map V.int) (xs.map PyData.int)
  | [] => .nil
  | x :: r => .cons (.int x) (dp_ints' r)
section
variable {P : Program} {w : World} {K : PySem.W.Frag} {mg : Str → Option Value} {base : Heap}
theorem ok_isNear {CX : CXT} {f : Addr} {fd : FuncData} (F : FnP K "_law_is_near" sIsNear f fd) : FnOk P w K mg base CX 1 f fd ["_law_plain", "_law_one", "_law_other"] (spIsNear K) := by
  refine F.ok scIsNear (fun vs H Q E h => ?_) (fun cdv A outer s H vs Q E hr h => ?_)
  · obtain ⟨v, x, one, other, rfl, _⟩ := h
    rfl
  · obtain ⟨v, x, one, other, rfl, hd, hlen, k⟩ := h
    refine ⟨_, PSs.nox (pss_cons (ps_setLc (i := 3) (own := [("_law_name", 4), ("_law_columns_here", 5)]) (g := gTup K 2 (gCons (gName 4) (gCons (gName 5) gNil)))
        (tt := tAnd (tTest (tOp (rIn K false) (tVar 1) (tVar 5))) (tTest (tOp (rIn K false) (tVar 2) (tVar 5)))) (te := tC (.int 1)) rfl scIsNear.nd rfl rfl (sw_true rfl rfl rfl (by decide +kernel)) (pi_tup (pe_ix ix_tup (pv 0) pe_int (fun _ _ => rfl))) (blkOk_by (own := [("_law_name", 4), ("_law_columns_here", 5)]) (N := nIsNear) (sc := defScope sIsNear) (by decide +kernel))
        (fun _ _ _ _ _ => pg_tup (by rfl) (pgs_cons (pg_name (i := 4) scIsNear.nd rfl (Or.inl rfl)) (pgs_cons (pg_name (i := 5) scIsNear.nd rfl (Or.inl rfl)) pgs_nil)))
        (fun _ _ _ _ _ => pts_one (PW.pt (pw_and (pt_cmpR (show OpR _ _ (rIn K false) from op_in_seq) (pv 1) (pv 5) (by rfl)) (pw_and1 (pt_cmpR (show OpR _ _ (rIn K false) from op_in_seq) (pv 2) (pv 5) (by rfl)))))) (fun _ _ _ _ _ => pe_int))
      (pss_one (ps_ret (pe_and (pe_cmpR op_ne (pv 1) (pv 2) (nomark _)) (pe_one (pe_cmpR (show OpR _ _ (rNeD K) from op_neD hr.units) (pv 3) (pe_lst pa_nil) (nomark _))))))), ?_⟩
    obtain ⟨r, v1, v2, a, xs, rfl, h1, h2, h3⟩ := plain_inv hd
    have ll := DtAll.len h3
    rw [List.length_map] at ll
    refine ⟨_, rfl, r, _, 2, .ref a, rfl, rfl, h1, rfl, a, rfl, ⟨xs, h2⟩, fun D hD => ?_⟩
    refine lc_tup (xs := xs) (fun i H' => Same H H' ∧ ∃ n : Nat, H' D = some (.lst ((List.replicate n (1 : Int)).map V.int)) ∧ n ≤ i ∧ (n ≠ 0 ↔ ((x.ats.take i).any fun z => decide (one ∈ z.2) && decide (other ∈ z.2)) = true)) ⟨smu hD, 0, upd_same, Nat.le_refl _, by simp⟩ (fun i H' _ h => sqt_same h.1 h2) ?_ ?_
    · rintro i y H' hy ⟨s1, n, hL, hn, hiff⟩
      obtain ⟨d, e1, e2⟩ := all_get h3 hy
      rw [List.getElem?_map] at e1
      obtain ⟨z, hz, rfl⟩ : ∃ z, x.ats[i]? = some z ∧ d = encA z := by
        cases e : x.ats[i]? with
        | none =>
          rw [e] at e1
          cases e1
        | some z =>
          rw [e] at e1
          exact ⟨z, rfl, (Option.some.inj e1).symm⟩
      obtain ⟨t, c, rfl, ht, hc⟩ := enc_inv e2
      have tk : x.ats.take (i + 1) = x.ats.take i ++ [z] := by rw [List.take_succ, hz] <;> rfl
      have hi : i < xs.length := (List.getElem?_eq_some_iff.mp hy).1
      have hc1 := sqt_same s1 hc
      have key : ∀ b1 b2 : Bool, b1 = decide (one ∈ z.2) → b2 = decide (other ∈ z.2) → (x.ats.take (i + 1)).any (fun z => decide (one ∈ z.2) && decide (other ∈ z.2)) = (((x.ats.take i).any fun z => decide (one ∈ z.2) && decide (other ∈ z.2)) || (b1 && b2)) := fun b1 b2 e1 e2 => by
        rw [tk, List.any_append, e1, e2]
        simp
      refine ⟨t, _, rfl, sqt_same s1 ht, rfl, _, _, rfl, _, _, rfl, rfl, rfl, ?_⟩
      refine ⟨_, rfl, _, rfl, c, z.2.map V.str, rfl, .inr hc1, rfl, flat_strs _, _, rfl, ?_⟩
      rw [if_neg (by decide), inV_strs]
      by_cases p1 : one ∈ z.2
      · rw [decide_eq_true p1]
        refine iteT ⟨_, rfl, _, rfl, c, z.2.map V.str, rfl, .inr hc1, rfl, flat_strs _, _, rfl, ?_⟩
        rw [if_neg (by decide), inV_strs]
        by_cases p2 : other ∈ z.2
        · rw [decide_eq_true p2]
          refine iteT ⟨_, hL, by rw [List.length_map, List.length_replicate, sizeLine_eq]; omega, fun b o e => ?_, n + 1, ?_, by omega, ?_⟩
          · rw [upd_ne (ne_of_none e hD)]
            exact s1 _ _ e
          · rw [upd_same, List.replicate_succ', List.map_append] <;> rfl
          · rw [key true true (decide_eq_true p1).symm (decide_eq_true p2).symm]
            simp
        · rw [decide_eq_false p2]
          refine iteF ⟨s1, n, hL, by omega, ?_⟩
          rw [key true false (decide_eq_true p1).symm (decide_eq_false p2).symm, Bool.and_false, Bool.or_false]
          exact hiff
      · rw [decide_eq_false p1]
        refine iteF (iteF ⟨s1, n, hL, by omega, ?_⟩)
        rw [key false _ (decide_eq_false p1).symm rfl, Bool.false_and, Bool.or_false]
        exact hiff
    · rintro H' ⟨s1, n, hL, hn, hiff⟩
      rw [← ll, List.take_length] at hiff
      show tSeq _ _ _ ([some (.ref r), some (.str one), some (.str other), some (.ref D), none, none] : L2.St) _
      have z := k H' s1
      unfold near at z
      refine ⟨_, rfl, _, rfl, rfl, ?_⟩
      have ec : ∀ b : Bool, (!decide (V.str one = V.str other)) = b → (decide (one ≠ other)) = b := fun b e => by
        rw [← e]
        by_cases q : one = other
        · subst q
          simp
        · have q2 : V.str one ≠ V.str other := fun z => q (by injection z)
          simp [q, q2]
      cases hb : (!decide (V.str one = V.str other)) with
      | false =>
        rw [ec _ hb, Bool.false_and] at z
        exact ⟨_, rfl, iteF z⟩
      | true =>
        rw [ec _ hb, Bool.true_and] at z
        refine ⟨_, rfl, iteT ⟨_, rfl, Nat.zero_le _, fun E1 nE => ?_⟩⟩
        have yE := smu (o := .lst []) nE
        have mE := upd_same (H := H') (a := E1) (o := .lst [])
        have z2 := k _ (s1.trans yE)
        unfold near at z2
        rw [ec _ hb, Bool.true_and] at z2
        refine ⟨.list ((List.replicate n (1 : Int)).map PyData.int), .list [], .lst (SqL.of (yE _ _ hL)) (dp_ints' _), .lst (SqL.of mE) .nil, shaped_ones n, rfl, ?_⟩
        rw [ones_ne]
        have e : (x.ats.any fun z => decide (one ∈ z.2) && decide (other ∈ z.2)) = decide (n ≠ 0) := by
          by_cases q : n ≠ 0
          · rw [decide_eq_true q]
            exact hiff.mp q
          · rw [decide_eq_false q]
            exact Bool.eq_false_iff.mpr fun y => q (hiff.mpr y)
        rw [← e]
        exact z2
end
end K14

/-! _law_columns. -/
namespace K14
open PySem PySem.Spec PyProof.Rows L2 Dr Ex Rp LamX
open He (ga ma)
def Plain.cols (x : Plain) : List Str := sSet' x
where sSet' (x : Plain) : List Str := Sl.sSet (x.ats.flatMap (·.2))
def spCols (K : PySem.W.Frag) : Sp := fun vs H Q _ => ∃ (v : V) (x : Plain), vs = [v] ∧ Dt K H v x.d ∧ x.ats.length ≤ 20 ∧ (∀ z ∈ x.ats, z.2.length ≤ 100) ∧ ∀ H' r, Same H H' → H r = none → H' r = some (.lst (x.cols.map V.str)) → Q (.ref r) H'
abbrev nCols : List Str := ["_law_plain", "_law_found", "_law_name", "_law_columns_here"]
theorem scCols : FnScope nCols ["_law_plain"] (defScope sCols) := ⟨rfl, rfl, rfl, by decide +kernel, rfl, by decide +kernel, by decide +kernel⟩
section
variable {P : Program} {w : World} {K : PySem.W.Frag} {mg : Str → Option Value} {base : Heap}
theorem ok_cols {CX : CXT} {f : Addr} {fd : FuncData} (F : FnP K "_law_columns" sCols f fd) (T : TG K mg) : FnOk P w K mg base CX 1 f fd ["_law_plain"] (spCols K) := by
  have t1 := T.f "sorted" (by decide +kernel)
  have t2 := T.f "set" (by decide +kernel)
  refine F.ok scCols (fun vs H Q E h => ?_) (fun cdv A outer s H vs Q E hr h => ?_)
  · obtain ⟨v, x, rfl, _⟩ := h
    rfl
  · obtain ⟨v, x, rfl, hd, hlen, hz, k⟩ := h
    refine ⟨_, PSs.nox (pss_cons (ps_set (i := 1) scCols.nd rfl (Or.inl rfl) (pe_lst pa_nil))
      (pss_cons (ps_for PassesOwn.never rfl (pi_tup (pe_ix ix_tup (pv 0) pe_int (fun _ _ => rfl))) (pg_tup (by rfl) (pgs_cons (pg_name (i := 2) scCols.nd rfl (Or.inl rfl)) (pgs_cons (pg_name (i := 3) scCols.nd rfl (Or.inl rfl)) pgs_nil)))
        (pss_one (ps_expr (pe_bm PySem.F.plainAttrs_list PySem.F.slot_list_extend PySem.F.type_list_extend (show MtM _ "list.extend" (Et.rExtendT K) from Et.mt_extendT) (pv 1) (pa_cons (pv 3) pa_nil)))))
      (pss_one (ps_ret (pe_callB (show CallR _ _ (Sl.rSortedL P w) from Sl.cr_sortedL rfl hr.units) (by rfl) t1 (by decide +kernel) (pa_cons (pe_callTy (show CallR _ (.type "set") (Sl.rSetL K P w) from Sl.cr_setL rfl) (by rfl) t2 (by decide +kernel) (pa_cons (pv 1) pa_nil)) pa_nil)))))), ?_⟩
    obtain ⟨r, v1, v2, a, xs, rfl, h1, h2, h3⟩ := plain_inv hd
    have ll := DtAll.len h3
    rw [List.length_map] at ll
    refine ⟨Nat.zero_le _, fun D hD => ?_⟩
    have yD := smu (o := .lst []) hD
    have mD := upd_same (H := H) (a := D) (o := .lst [])
    generalize upd H D (.lst []) = H1 at yD mD ⊢
    show tSeq _ _ _ ([some (.ref r), some (.ref D), none, none] : L2.St) _
    refine ⟨_, rfl, r, _, 2, .ref a, rfl, rfl, sqt_same yD h1, rfl, a, rfl, ⟨xs, sqt_same yD h2⟩, ?_⟩
    refine for_tup (xs := xs) (fun i σ G => (∃ t2 t3 : Option V, σ = [some (.ref r), some (.ref D), t2, t3]) ∧ Same H G ∧ G D = some (.lst (((x.ats.take i).flatMap (·.2)).map V.str)) ∧ ((x.ats.take i).flatMap (·.2)).length ≤ 100 * i) ⟨⟨_, _, rfl⟩, yD, mD, Nat.zero_le _⟩ (fun i σ G _ h => sqt_same h.2.1 h2) ?_ ?_
    · rintro i y σ G hy ⟨⟨t2', t3', rfl⟩, s1, hL, hb⟩
      obtain ⟨d, e1, e2⟩ := all_get h3 hy
      rw [List.getElem?_map] at e1
      obtain ⟨z, hz', rfl⟩ : ∃ z, x.ats[i]? = some z ∧ d = encA z := by
        cases e : x.ats[i]? with
        | none =>
          rw [e] at e1
          cases e1
        | some z =>
          rw [e] at e1
          exact ⟨z, rfl, (Option.some.inj e1).symm⟩
      obtain ⟨t, c, rfl, ht, hc⟩ := enc_inv e2
      have tk : x.ats.take (i + 1) = x.ats.take i ++ [z] := by rw [List.take_succ, hz'] <;> rfl
      have zl := hz z (List.mem_of_getElem? hz')
      have hi := (List.getElem?_eq_some_iff.mp hy).1
      have fm : (x.ats.take (i + 1)).flatMap (·.2) = (x.ats.take i).flatMap (·.2) ++ z.2 := by
        rw [tk, List.flatMap_append]
        simp
      refine ⟨t, _, rfl, sqt_same s1 ht, rfl, _, _, rfl, _, _, rfl, rfl, ?_⟩
      refine ⟨_, rfl, .inl ⟨rfl, _, SqL.of hL⟩, _, rfl, D, c, _, _, rfl, rfl, hL, sqt_same s1 hc, by rw [List.length_map, List.length_map, sizeLine_eq]; omega, ?_⟩
      refine ⟨⟨_, _, rfl⟩, fun b o e => ?_, ?_, ?_⟩
      · rw [upd_ne (ne_of_none e hD)]
        exact s1 _ _ e
      · rw [upd_same, fm, List.map_append]
      · rw [fm, List.length_append]
        omega
    · rintro σ G ⟨⟨t2', t3', rfl⟩, s1, hL, hb⟩
      rw [← ll, List.take_length] at hL hb
      show tSeq _ _ _ ([some (.ref r), some (.ref D), t2', t3'] : L2.St) _
      have ek : (x.ats.flatMap (·.2)).map V.str = ((x.ats.flatMap (·.2)).map (Sum.inr (α := Int))).map kV := by
        rw [List.map_map (f := Sum.inr)] <;> rfl
      rw [ek] at hL
      refine ⟨_, rfl, D, (x.ats.flatMap (·.2)).map Sum.inr, rfl, .inl (SqL.of hL), by rw [List.length_map]; unfold scanBound; omega, fun p L nL mL np => ?_⟩
      refine ⟨p, L, rfl, upd_same, .inr fun y hy => ?_, fun _ L1 q pm nq => ?_⟩
      · obtain ⟨s, _, e⟩ := List.mem_map.mp ((mL y).mp hy)
        exact ⟨s, e.symm⟩
      · rw [Sl.sorted_strs pm nL mL]
        exact k _ q ((s1.trans (smu np)).trans (smu nq)) ((s1.trans (smu (o := Sl.SetLO P w p L) np)).free nq) upd_same
end
end K14

/-! _law_have. -/
namespace K14
open PySem PySem.Spec PyProof.Rows L2 Dr Ex Rp LamX
open He (ga ma)
def have_ (x : Plain) (ss : List Str) : List Str := (x.ats.filter fun z => ss.all fun s => decide (s ∈ z.2)).map (·.1)
def spHave (K : PySem.W.Frag) : Sp := fun vs H Q _ => ∃ (v : V) (x : Plain) (b : Addr) (ss : List Str), vs = [v, .ref b] ∧ Dt K H v x.d ∧ (SqL K H b (ss.map V.str) ∨ SqT K H b (ss.map V.str)) ∧ x.ats.length ≤ 20 ∧ ss.length ≤ 100 ∧ ∀ H' r, Same H H' → H r = none → H' r = some (.lst ((have_ x ss).map V.str)) → Q (.ref r) H'
abbrev nHave : List Str := ["_law_plain", "_law_some_here", "_law_name", "_law_columns_here", "_law_one"]
theorem scHave : FnScope nHave ["_law_plain", "_law_some_here"] (defScope sHave) := ⟨rfl, rfl, rfl, by decide +kernel, rfl, by decide +kernel, by decide +kernel⟩
theorem ones_eq (n : Nat) : PyData.eqv (.list ((List.replicate n (1 : Int)).map PyData.int)) (.list []) = decide (n = 0) := by
  cases n with
  | zero => decide
  | succ n => rfl
/-- walked in two ways -/
theorem pi_or {X : Cx} {tg e : Expr} {w1 w2 : TI} (h1 : PI X tg e w1) (h2 : PI X tg e w2) : PI X tg e (fun σ H R => w1 σ H R ∨ w2 σ H R) := ⟨fun pins s σ H R I h => h.elim (h1.run pins s σ H R I) (h2.run pins s σ H R I)⟩
def scHaveIn : Scope := { kind := .function, names := [(".0", .local), ("_law_name", .local), ("_law_columns_here", .cell), ("_law_some_here", .cell)], isGenerator := false, isCoroutine := false }
section
variable {P : Program} {w : World} {K : PySem.W.Frag} {mg : Str → Option Value} {base : Heap}
theorem ok_have {CX : CXT} {f : Addr} {fd : FuncData} (F : FnP K "_law_have" sHave f fd) : FnOk P w K mg base CX 1 f fd ["_law_plain", "_law_some_here"] (spHave K) := by
  refine F.ok scHave (fun vs H Q E h => ?_) (fun cdv A outer s H vs Q E hr h => ?_)
  · obtain ⟨v, x, b, ss, rfl, _⟩ := h
    rfl
  · obtain ⟨v, x, b, ss, rfl, hd, hb, hlen, hs, k⟩ := h
    refine ⟨_, PSs.nox (pss_one (ps_ret (pe_lc (own := [("_law_name", 2), ("_law_columns_here", 3)]) (g := gTup K 2 (gCons (gName 2) (gCons (gName 3) gNil)))
        (tt := tTest (tOp (rEqD K) (tLc (fun σ H R => iList K (tVar 1) σ H R ∨ iTup K (tVar 1) σ H R) (gName 4) (tTest (tOp (rIn K true) (tVar 4) (tVar 3))) (tC (.int 1)) [4]) (tLst tNil))) (te := tVar 2) rfl scHave.nd (pi_tup (pe_ix ix_tup (pv 0) pe_int (fun _ _ => rfl))) (blkOk_by (own := [("_law_name", 2), ("_law_columns_here", 3)]) (N := nHave) (sc := defScope sHave) (by decide +kernel))
        (fun _ _ _ _ _ => pg_tup (by rfl) (pgs_cons (pg_name (i := 2) scHave.nd rfl (Or.inl rfl)) (pgs_cons (pg_name (i := 3) scHave.nd rfl (Or.inr rfl)) pgs_nil)))
        (fun _ _ _ _ _ => pts_one (pt_cmpR (show OpR _ _ (rEqD K) from op_eqD hr.units)
          (pe_lc (own := [("_law_one", 4)]) (g := gName 4) (tt := tTest (tOp (rIn K true) (tVar 4) (tVar 3))) (te := tC (.int 1)) rfl scHave.nd (pi_or (pi_list (pv 1)) (pi_tup (pv 1))) (blkOk_by (own := [("_law_one", 4)]) (N := nHave) (sc := scHaveIn) (by decide +kernel))
            (fun _ _ _ _ _ => pg_name (i := 4) scHave.nd rfl (Or.inl rfl)) (fun _ _ _ _ _ => pts_one (pt_cmpR (show OpR _ _ (rIn K true) from op_notIn_seq) (pv 4) (pv 3) (by rfl))) (fun _ _ _ _ _ => pe_int)) (pe_lst pa_nil) (nomark _))) (fun _ _ _ _ _ => pv 2)))), ?_⟩
    obtain ⟨r, v1, v2, a, xs, rfl, h1, h2, h3⟩ := plain_inv hd
    have ll := DtAll.len h3
    rw [List.length_map] at ll
    refine ⟨_, rfl, r, _, 2, .ref a, rfl, rfl, h1, rfl, a, rfl, ⟨xs, h2⟩, fun D hD => ?_⟩
    refine lc_tup (xs := xs) (fun i H' => Same H H' ∧ H' D = some (.lst ((((x.ats.take i).filter fun z => ss.all fun s => decide (s ∈ z.2)).map (·.1)).map V.str))) ⟨smu hD, upd_same⟩ (fun i H' _ h => sqt_same h.1 h2) ?_ ?_
    · rintro i y G hy ⟨s1, hL⟩
      obtain ⟨d, e1, e2⟩ := all_get h3 hy
      rw [List.getElem?_map] at e1
      obtain ⟨z, hz, rfl⟩ : ∃ z, x.ats[i]? = some z ∧ d = encA z := by
        cases e : x.ats[i]? with
        | none =>
          rw [e] at e1
          cases e1
        | some z =>
          rw [e] at e1
          exact ⟨z, rfl, (Option.some.inj e1).symm⟩
      obtain ⟨t, c, rfl, ht, hc⟩ := enc_inv e2
      have tk : x.ats.take (i + 1) = x.ats.take i ++ [z] := by rw [List.take_succ, hz] <;> rfl
      have hi : i < xs.length := (List.getElem?_eq_some_iff.mp hy).1
      refine ⟨t, _, rfl, sqt_same s1 ht, rfl, _, _, rfl, _, _, rfl, rfl, rfl, ?_⟩
      rcases hb with hb | hb
      case' inl =>
        refine .inl ⟨_, rfl, b, rfl, ⟨_, Same.seq s1 hb⟩, fun D2 nD2 => ?_⟩
        refine lc_list (xs := ss.map V.str) (fun j G2 => Same G G2 ∧ ∃ n : Nat, G2 D2 = some (.lst ((List.replicate n (1 : Int)).map V.int)) ∧ n ≤ j ∧ (n = 0 ↔ ((ss.take j).all fun s => decide (s ∈ z.2)) = true)) ⟨smu nD2, 0, upd_same, Nat.le_refl _, by simp⟩ (fun j G2 _ h => Same.seq (s1.trans h.1) hb) ?_ ?_
      case' inr =>
        refine .inr ⟨_, rfl, b, rfl, ⟨_, sqt_same s1 hb⟩, fun D2 nD2 => ?_⟩
        refine lc_tup (xs := ss.map V.str) (fun j G2 => Same G G2 ∧ ∃ n : Nat, G2 D2 = some (.lst ((List.replicate n (1 : Int)).map V.int)) ∧ n ≤ j ∧ (n = 0 ↔ ((ss.take j).all fun s => decide (s ∈ z.2)) = true)) ⟨smu nD2, 0, upd_same, Nat.le_refl _, by simp⟩ (fun j G2 _ h => sqt_same (s1.trans h.1) hb) ?_ ?_
      all_goals
        first
          |
            rintro j y G2 hyj ⟨s2, n, hL2, hn, hiff⟩
            obtain ⟨o, ho, rfl⟩ : ∃ o, ss[j]? = some o ∧ y = .str o := by
              rw [List.getElem?_map] at hyj
              cases e : ss[j]? with
              | none =>
                rw [e] at hyj
                cases hyj
              | some o =>
                rw [e] at hyj
                exact ⟨o, rfl, (Option.some.inj hyj).symm⟩
            have hj := (List.getElem?_eq_some_iff.mp ho).1
            have tk2 : ss.take (j + 1) = ss.take j ++ [o] := by rw [List.take_succ, ho] <;> rfl
            refine ⟨rfl, _, rfl, _, rfl, c, z.2.map V.str, rfl, .inr (sqt_same (s1.trans s2) hc), rfl, flat_strs _, _, rfl, ?_⟩
            rw [if_pos rfl, inV_strs]
            by_cases p1 : o ∈ z.2
            · rw [decide_eq_true p1]
              refine iteF ⟨s2, n, hL2, by omega, ?_⟩
              rw [tk2, List.all_append, hiff]
              simp [p1]
            · rw [decide_eq_false p1]
              refine iteT ⟨_, hL2, by rw [List.length_map, List.length_replicate, sizeLine_eq]; omega, fun b' o' e => ?_, n + 1, ?_, by omega, ?_⟩
              · rw [upd_ne (ne_of_none e nD2)]
                exact s2 _ _ e
              · rw [upd_same, List.replicate_succ', List.map_append] <;> rfl
              · rw [tk2, List.all_append]
                simp [p1]
          |
            rintro G2 ⟨s2, n, hL2, hn, hiff⟩
            rw [List.length_map, List.take_length] at hiff
            refine ⟨Nat.zero_le _, fun E1 nE => ?_⟩
            have yE := smu (o := .lst []) nE
            have mE := upd_same (H := G2) (a := E1) (o := .lst [])
            generalize upd G2 E1 (.lst []) = G3 at yE mE ⊢
            have hL3 := yE _ _ (s2 _ _ hL)
            refine ⟨.list ((List.replicate n (1 : Int)).map PyData.int), .list [], .lst (SqL.of (yE _ _ hL2)) (dp_ints' _), .lst (SqL.of mE) .nil, shaped_ones n, rfl, _, rfl, ?_⟩
            rw [ones_eq]
            by_cases h0 : n = 0
            · rw [decide_eq_true h0]
              have ha := hiff.mp h0
              refine iteT ⟨_, rfl, _, hL3, ?_, fun b' o' e => ?_, ?_⟩
              · have z1 := List.length_filter_le (fun z => ss.all fun s => decide (s ∈ z.2)) (x.ats.take i)
                rw [List.length_take] at z1
                rw [List.length_map, List.length_map, sizeLine_eq]
                omega
              · rw [upd_ne (ne_of_none e hD)]
                exact yE _ _ (s2 _ _ (s1 _ _ e))
              · rw [upd_same, tk, List.filter_append, List.map_append, List.map_append]
                have ef : List.filter (fun z => ss.all fun s => decide (s ∈ z.2)) [z] = [z] := by
                  rw [List.filter_cons, if_pos ha] <;> rfl
                rw [ef] <;> rfl
            · rw [decide_eq_false h0]
              have ha : ¬ (ss.all fun s => decide (s ∈ z.2)) = true := fun q => h0 (hiff.mpr q)
              refine iteF ⟨(s1.trans s2).trans yE, ?_⟩
              rw [hL3, tk, List.filter_append]
              have ef : List.filter (fun z => ss.all fun s => decide (s ∈ z.2)) [z] = [] := by
                rw [List.filter_cons, if_neg ha] <;> rfl
              rw [ef, List.append_nil]
    · rintro G ⟨s1, hL⟩
      rw [← ll, List.take_length] at hL
      exact k G D s1 hD hL
end
end K14

/-! The promises by hand as ways over data. -/
namespace K14
open PySem PySem.Spec PyProof.Rows L2 Dr Rp Dw
open He (ga ma)
section
variable {P : Program} {w : World} {K : PySem.W.Frag} {mg : Str → Option Value} {base : Heap} {CX : CXT} {k : Nat} {f : Addr} {fd : FuncData} {ps : List Str}
theorem paired3 {α β : Type} {R : α → β → Prop} {xs : List α} {a b c : β} (h : Paired R xs [a, b, c]) : ∃ x y z, xs = [x, y, z] ∧ R x a ∧ R y b ∧ R z c := by
  cases h with
  | cons h1 t =>
    cases t with
    | cons h2 t =>
      cases t with
      | cons h3 t =>
        cases t
        exact ⟨_, _, _, rfl, h1, h2, h3⟩
def dWord : WD := fun es P => ∃ d, es = [.py d] ∧ shortS d ∧ P (.py (.bool (isWord d)))
theorem w_word (F : FnOk P w K mg base CX k f fd ps (spWord K)) : FnOk P w K mg base CX k f fd ps (spW K .data dWord) := F.imp fun vs H Q E q => by
  obtain ⟨Lc, p, es, P, o, r, ⟨d, rfl, hs, hP⟩, k⟩ := q
  obtain ⟨x, rfl, rx⟩ := paired1 r
  exact ⟨x, d, rfl, Dt.sameR ctL_all _ _ rx, hs, fun H' s => k _ H' _ hP (Stp.same s o.ne) (o.same s) (Dt.bl _)⟩
def dNamesP : WD := fun es P => ∃ d, es = [.py d] ∧ (∀ e ∈ itsD d, shortS e) ∧ (itsD d).length ≤ 1000 ∧ P (.py (.bool (namesOk d)))
theorem w_namesP (F : FnOk P w K mg base CX k f fd ps (spNamesP K)) : FnOk P w K mg base CX k f fd ps (spW K .data dNamesP) := F.imp fun vs H Q E q => by
  obtain ⟨Lc, p, es, P, o, r, ⟨d, rfl, hs, hl, hP⟩, k⟩ := q
  obtain ⟨x, rfl, rx⟩ := paired1 r
  exact ⟨x, d, rfl, Dt.sameR ctL_all _ _ rx, hs, hl, fun H' s => k _ H' _ hP (Stp.same s o.ne) (o.same s) (Dt.bl _)⟩
def dSomeOf : WD := fun es P => ∃ (d : PyData) (cs : List Str), es = [.py d, .py (.tuple (cs.map .str))] ∧ (∀ e ∈ itsD d, shortS e) ∧ (itsD d).length ≤ 1000 ∧ P (.py (.bool (someOk d cs)))
theorem w_someOf (F : FnOk P w K mg base CX k f fd ps (spSomeOf K)) : FnOk P w K mg base CX k f fd ps (spW K .data dSomeOf) := F.imp fun vs H Q E q => by
  obtain ⟨Lc, p, es, P, o, r, ⟨d, cs, rfl, hs, hl, hP⟩, k⟩ := q
  obtain ⟨x, y, rfl, rx, ry⟩ := paired2 r
  have ry : Dt K (ctL Lc H) y (.tuple (cs.map .str)) := ry
  cases ry with
  | tup h1 h2 =>
    rw [strs_of_dt h2] at h1
    exact ⟨x, d, _, cs, rfl, Dt.sameR ctL_all _ _ rx, hs, hl, SameR.sqt ctL_all h1, fun H' s => k _ H' _ hP (Stp.same s o.ne) (o.same s) (Dt.bl _)⟩
def dMixed : WD := fun es P => ∃ (d : PyData) (ds : List PyData), es = [.st, .py d] ∧ seqD d = some ds ∧ ds.length ≤ 1000 ∧ ∀ ds' : List PyData, ds'.Perm ds → P (.py (.list ds'))
theorem w_mixed {ps : List Str} (hps : ps.length = 2) (F : FnOk P w K mg base CX k f fd ps (spMixed K)) : FnOk P w K mg base CX k f fd ps (spW K .fresh dMixed) := imp0 F (fun vs H Q E q => by
    obtain ⟨Lc, p, es, P, o, r, ⟨d, ds, rfl, _⟩, _⟩ := q
    rw [paired_len r, hps]
    rfl) fun vs H Q E hK q => by
  obtain ⟨Lc, p, es, P, o, r, ⟨d, ds, rfl, hd, hl, hP⟩, k⟩ := q
  obtain ⟨x, y, rfl, rx, ry⟩ := paired2 r
  obtain ⟨q, rfl, rfl⟩ := rx
  obtain ⟨a, xs, rfl, ne, hq, ha⟩ := sq_of o hK ry hd
  refine ⟨q, a, xs, 0, rfl, (o.str q rfl).2, by decide, ne, hq, by rw [← DtAll.len ha]; exact hl, fun H' r ys b s h0 h1 hp => ?_⟩
  have st : Stp Lc (some q) H H' := Stp.but b o.ne (by obtain ⟨_, z⟩ := s.some; rw [z]; simp)
  obtain ⟨ds', p', h'⟩ := perm_dts hp ha
  exact k _ H' _ (hP ds' p') st (o.step st fun q' e => by cases e; exact str_any s) (fresh_list o b h0 h1 h')
def dSome : WD := fun es P => ∃ (d : PyData) (ds : List PyData) (l : Nat), es = [.st, .py d, .py (.int l)] ∧ seqD d = some ds ∧ ds.length ≤ 1000 ∧ l ≤ ds.length ∧ ∀ ds' : List PyData, SubP ds' ds → l ≤ ds'.length → P (.py (.list ds'))
theorem w_some {ps : List Str} (hps : ps.length = 3) (F : FnOk P w K mg base CX k f fd ps (spSome K)) : FnOk P w K mg base CX k f fd ps (spW K .fresh dSome) := imp0 F (fun vs H Q E q => by
    obtain ⟨Lc, p, es, P, o, r, ⟨d, ds, l, rfl, _⟩, _⟩ := q
    rw [paired_len r, hps]
    rfl) fun vs H Q E hK q => by
  obtain ⟨Lc, p, es, P, o, r, ⟨d, ds, l, rfl, hd, hl, hle, hP⟩, k⟩ := q
  obtain ⟨x, y, z, rfl, rx, ry, rz⟩ := paired3 r
  obtain ⟨q, rfl, rfl⟩ := rx
  have rz : Dt K (ctL Lc H) z (.int l) := rz
  cases rz
  obtain ⟨a, xs, rfl, ne, hq, ha⟩ := sq_of o hK ry hd
  have el := DtAll.len ha
  refine ⟨q, a, xs, l, 0, rfl, (o.str q rfl).2, by decide, ne, hq, by rw [← el]; exact hl, by rw [← el]; exact hle, fun H' r ys b s h0 h1 hp h2 => ?_⟩
  have st : Stp Lc (some q) H H' := Stp.but b o.ne (by obtain ⟨_, z⟩ := s.some; rw [z]; simp)
  obtain ⟨zs, hp⟩ := hp
  obtain ⟨ds', p', h'⟩ := perm_dts hp ha
  obtain ⟨d1, d2, rfl, g1, g2⟩ := split_dts h'
  exact k _ H' _ (hP d1 ⟨d2, p'⟩ (by rw [DtAll.len g1]; exact h2)) st (o.step st fun q' e => by cases e; exact str_any s) (fresh_list o b h0 h1 g1)
theorem SubP.strsD {ys : List PyData} {xs : List Str} (h : SubP ys (xs.map PyData.str)) : ∃ zs : List Str, ys = zs.map PyData.str ∧ SubP zs xs := by
  have sd : ∀ {ys : List PyData}, (∀ y ∈ ys, y ∈ xs.map PyData.str) → ys = (ys.map wordD).map PyData.str := fun {ys} h => by
    induction ys with
    | nil => rfl
    | cons y r ih =>
      obtain ⟨x, _, rfl⟩ := List.mem_map.mp (h y List.mem_cons_self)
      rw [List.map_cons, List.map_cons, ← ih fun z hz => h z (List.mem_cons_of_mem _ hz)] <;> rfl
  refine ⟨ys.map wordD, sd h.mem, ?_⟩
  obtain ⟨ws, p⟩ := h
  refine ⟨ws.map wordD, ?_⟩
  have q := p.map wordD
  rw [List.map_append, List.map_map] at q
  have e : xs.map (wordD ∘ PyData.str) = xs := List.map_id'' (fun _ => rfl) xs
  rw [e] at q
  exact q
theorem noMuts_strs : ∀ xs : List Str, noMut.noMuts (xs.map PyData.str) = true
  | [] => rfl
  | x :: r => by
    rw [List.map_cons, noMut.noMuts, noMuts_strs r]
    rfl
theorem noMuts_encA : ∀ xs : List (Str × List Str), noMut.noMuts (xs.map encA) = true
  | [] => rfl
  | x :: r => by
    rw [List.map_cons, noMut.noMuts, noMuts_encA r]
    simp [encA, noMut, noMut.noMuts, noMuts_strs]
theorem noMut_plain (x : Plain) : noMut x.d = true := by
  unfold Plain.d
  simp [noMut, noMut.noMuts, noMuts_strs, noMuts_encA]
def dQuery : WD := fun es P => ∃ m a : Nat, es = [.st, .py (.int m), .py (.int a)] ∧ 1 ≤ m ∧ m ≤ 17 ∧ 1 ≤ a ∧ a ≤ 10 ∧ ∀ (x : Plain) (cols : List Str), x.Ok cols → cols.length ≤ m → cols ≠ [] → x.ats.length ≤ a + 1 → P (.py x.d)
theorem w_query (F : FnOk P w K mg base CX k f fd ps (spQuery K)) : FnOk P w K mg base CX k f fd ps (spW K .data dQuery) := F.imp fun vs H Q E q => by
  obtain ⟨Lc, p, es, P, o, r, ⟨m, a, rfl, h1, h2, h3, h4, hP⟩, k⟩ := q
  obtain ⟨x, y, z, rfl, rx, ry, rz⟩ := paired3 r
  obtain ⟨q, rfl, rfl⟩ := rx
  have ry : Dt K (ctL Lc H) y (.int m) := ry
  have rz : Dt K (ctL Lc H) z (.int a) := rz
  cases ry
  cases rz
  refine ⟨q, m, a, 0, rfl, (o.str q rfl).2, by decide, h1, h2, h3, h4, fun H' r x cols b s h0 hd hx c1 c2 c3 => ?_⟩
  have st : Stp Lc (some q) H H' := Stp.but b o.ne (by obtain ⟨_, z⟩ := s.some; rw [z]; simp)
  have o' := o.step st fun q' e => by cases e; exact str_any s
  refine k _ H' _ (hP x cols hx c1 c2 c3) st o' (tight o' _ _ (noMut_plain x) ?_)
  have sr : SameR (ct q H') H' := fun b u h => ⟨u, by
    unfold ct at h
    split at h
    · cases h
    · split at h
      · cases h
      · exact h, .inl rfl⟩
  exact Dt.sameR sr _ _ hd
def dIsNear : WD := fun es P => ∃ (x : Plain) (one other : Str), es = [.py x.d, .py (.str one), .py (.str other)] ∧ x.ats.length ≤ 1000 ∧ P (.py (.bool (near x one other)))
theorem w_isNear (F : FnOk P w K mg base CX k f fd ps (spIsNear K)) : FnOk P w K mg base CX k f fd ps (spW K .data dIsNear) := F.imp fun vs H Q E q => by
  obtain ⟨Lc, p, es, P, o, r, ⟨x, one, other, rfl, hl, hP⟩, k⟩ := q
  obtain ⟨u, y, z, rfl, rx, ry, rz⟩ := paired3 r
  have ry : Dt K (ctL Lc H) y (.str one) := ry
  have rz : Dt K (ctL Lc H) z (.str other) := rz
  cases ry
  cases rz
  exact ⟨u, x, one, other, rfl, Dt.sameR ctL_all _ _ rx, hl, fun H' s => k _ H' _ hP (Stp.same s o.ne) (o.same s) (Dt.bl _)⟩
def dCols : WD := fun es P => ∃ x : Plain, es = [.py x.d] ∧ x.ats.length ≤ 20 ∧ (∀ z ∈ x.ats, z.2.length ≤ 100) ∧ P (.py (.list (x.cols.map .str)))
theorem w_cols (F : FnOk P w K mg base CX k f fd ps (spCols K)) : FnOk P w K mg base CX k f fd ps (spW K .fresh dCols) := F.imp fun vs H Q E q => by
  obtain ⟨Lc, p, es, P, o, r, ⟨x, rfl, h1, h2, hP⟩, k⟩ := q
  obtain ⟨u, rfl, rx⟩ := paired1 r
  exact ⟨u, x, rfl, Dt.sameR ctL_all _ _ rx, h1, h2, fun H' r s h0 h3 => k _ H' _ hP (Stp.same s o.ne) (o.same s) (fresh_same o s h0 h3 (strs_all _))⟩
def dHave : WD := fun es P => ∃ (x : Plain) (d : PyData) (ss : List Str), es = [.py x.d, .py d] ∧ seqD d = some (ss.map .str) ∧ x.ats.length ≤ 20 ∧ ss.length ≤ 100 ∧ P (.py (.list ((have_ x ss).map .str)))
theorem w_have (F : FnOk P w K mg base CX k f fd ps (spHave K)) : FnOk P w K mg base CX k f fd ps (spW K .fresh dHave) := F.imp fun vs H Q E q => by
  obtain ⟨Lc, p, es, P, o, r, ⟨x, d, ss, rfl, hd, h1, h2, hP⟩, k⟩ := q
  obtain ⟨u, y, rfl, rx, ry⟩ := paired2 r
  have ry : Dt K (ctL Lc H) y d := ry
  have z : ∃ a, y = .ref a ∧ (SqL K H a (ss.map V.str) ∨ SqT K H a (ss.map V.str)) := by
    unfold seqD at hd
    split at hd
    · have hd := Option.some.inj hd
      subst hd
      cases ry with
      | lstR g1 g2 =>
        rw [strs_of_dt g2] at g1
        exact ⟨_, rfl, .inl (.inl (SameR.rd ctL_all g1))⟩
    · have hd := Option.some.inj hd
      subst hd
      cases ry with
      | tup g1 g2 =>
        rw [strs_of_dt g2] at g1
        exact ⟨_, rfl, .inr (SameR.sqt ctL_all g1)⟩
    · cases hd
  obtain ⟨a, rfl, hz⟩ := z
  exact ⟨u, x, a, ss, rfl, Dt.sameR ctL_all _ _ rx, hz, h1, h2, fun H' r s h0 h3 => k _ H' _ hP (Stp.same s o.ne) (o.same s) (fresh_same o s h0 h3 (strs_all _))⟩
end
end K14

/-! Data ways: truth of data, defs with *names. -/
namespace Dw
open PySem PySem.Spec PySem.W PySem.Calls PyProof.Rows L2 Dr Rp
open He (ga)
section
variable {X : Cx}
theorem tru_D : TruR X (fun x H Q => (∃ k, TruV X.K x H k ∧ Q k H) ∨ ∃ a o kvs, x = .ref a ∧ H a = some (.frz o (.dK kvs)) ∧ Q (!kvs.isEmpty) H) := by
  intro pins s σ H x v Q I rx h
  rcases h with h | ⟨a, o, kvs, rfl, e, q⟩
  · exact tru_ok pins s σ H x v Q I rx h
  · cases rx
    obtain ⟨_, hz, hS, vs, r, m⟩ : s.heap.get? a = some o ∧ kvs.length ≤ sizeLine ∧ (a == sysModules) = false ∧ ∃ vs, KV kvs vs ∧ s.heap.DictOf (mixKind X.prog X.w) a vs := I.hok a _ e
    have hlen : kvs.length = vs.length := Paired.length r
    have z : sizeLine < 2 ^ 62 := by decide
    exact wpAny_truthy_dict hS m (by omega) ⟨H, I.tok _, by rw [isEmpty_kv r]; exact q⟩
def truD : PyData → Option Bool
  | .none => some false
  | .bool b => some b
  | .int i => some (i != 0)
  | .list ds => some (!ds.isEmpty)
  | .tuple ds => some (!ds.isEmpty)
  | .dict ds => some (!ds.isEmpty)
  | .str x => if x.length ≤ sizeLine then some ((x.length : Int) != 0) else none
def wTru : EV → (Bool → Prop) → Prop
  | .py d, P => ∃ b, truD d = some b ∧ P b
  | _, _ => False
theorem dts_empty {K : PySem.W.Frag} {G : Hp} {vs : List V} {ds : List PyData} (h : DtAll K G vs ds) : ds.isEmpty = vs.isEmpty := by cases h <;> rfl
theorem dkv_empty {K : PySem.W.Frag} {G : Hp} {vs : List (Key × V)} {ds : List (PyData × PyData)} (h : DtKv K G vs ds) : ds.isEmpty = vs.isEmpty := by cases h <;> rfl
/-- a name's truth -/
theorem dtru {e : Expr} {fa : WF} (h : PE X e (tW X.K .read fa)) (he : ∀ whole, isTrue e X.env whole = (do let v ← whole; standAt e.pos; holding [v] (truthy v)) := by intro _; rfl) : PT X e (tWT X.K (wT1 fa wTru)) :=
  kt1 (ma := .read) (g := wTru) _ (by decide) (pt_truthR h tru_D he) fun L p H0 H v a P Q o ra hg k => by
    unfold wTru at hg
    split at hg
    · obtain ⟨b, hb, hP⟩ := hg
      unfold truD at hb
      split at hb
      · cases hb
        have z := Res.dt ra
        cases z
        exact .inl ⟨_, rfl, k _ hP⟩
      · cases hb
        rw [ra.bool]
        exact .inl ⟨_, rfl, k _ hP⟩
      · cases hb
        rw [ra.int]
        exact .inl ⟨_, rfl, k _ hP⟩
      · cases hb
        obtain ⟨a, vs, rfl, h1, h2⟩ := ra.list
        exact .inl ⟨_, .inl ⟨vs, .inl h1, rfl⟩, k _ (by rw [← dts_empty h2]; exact hP)⟩
      · cases hb
        obtain ⟨a, vs, rfl, h1, h2⟩ := ra.tup
        exact .inl ⟨_, .inr (.inl ⟨vs, h1, rfl⟩), k _ (by rw [← dts_empty h2]; exact hP)⟩
      · cases hb
        obtain ⟨a, kvs, rfl, h1, h2⟩ := ra.dict
        rcases h1 with h1 | ⟨o, h1⟩
        · exact .inl ⟨_, .inr (.inr ⟨kvs, h1, rfl⟩), k _ (by rw [← dkv_empty h2]; exact hP)⟩
        · exact .inr ⟨a, o, kvs, rfl, h1, k _ (by rw [← dkv_empty h2]; exact hP)⟩
      · split at hb
        · rename_i hl
          cases hb
          rw [ra.str]
          exact .inl ⟨_, ⟨hl, rfl⟩, k _ hP⟩
        · cases hb
    · exact hg.elim
end
section
variable {P : Program} {w : World} {K : PySem.W.Frag} {mg : Str → Option Value} {base : Heap} {CX : CXT}
def wDefS (n j : Nat) (f : WS) : WD := fun es P => ∃ ws ds, es = ws ++ ds.map EV.py ∧ ws.length = j ∧ ds.length ≤ sizeLine ∧ f (startE n (ws ++ [.py (.tuple ds)])) { nx := fun _ => P (.py .none), rt := P }
theorem paired_split {α β : Type} {R : α → β → Prop} : ∀ {vs : List α} {a b : List β}, Paired R vs (a ++ b) → ∃ x y, vs = x ++ y ∧ Paired R x a ∧ Paired R y b
  | vs, [], b, h => ⟨[], vs, rfl, .nil, h⟩
  | _, a :: r, b, h => by
    cases h with
    | cons h1 t =>
      obtain ⟨x, y, rfl, g1, g2⟩ := paired_split t
      exact ⟨_ :: x, y, rfl, .cons h1 g1, g2⟩
theorem rest_dts {p : Option Addr} {G : Hp} : ∀ {vs : List V} {ds : List PyData}, Paired (fun v e => Rv K p G v e) vs (ds.map EV.py) → DtAll K G vs ds
  | _, [], h => by
    cases h
    exact .nil
  | _, d :: r, h => by
    cases h with
    | cons h1 t => exact .cons h1 (rest_dts t)
theorem fn_WS {x qual : Str} {params : Arguments} {body : List Stmt} {scope : Scope} {f : Addr} {fd : FuncData} {N ps : List Str} {pv : Str} {k : Nat} {fw : WS} (F : FunD K x qual params body scope [] [] f fd) (S : FnScope N (ps ++ [pv]) scope) (hCX : StX.CXUp CX) (hn : ps.length + 1 ≤ N.length)
    (hbd : ∀ (kV doc pm : Value) (an : Option Addr) (cdv ct : Value) (us rest : List Value), us.length = ps.length → bindArgs (PySem.W.fnOf x qual params body scope .none kV doc pm an cdv ct) ⟨us ++ rest, []⟩ = (newTuple rest >>= fun t => pure (ps.zip us ++ [(pv, t)])))
    (hb : ∀ (cdv : Value) (A : Around) (outer : List Env) (s : Shared) (H : Hp) (E : XK), Room k (A.deeper (envOfC qual scope s.heap.objs.size f cdv)) → PSs (cxOf CX P w K mg base N qual scope f cdv A outer s H E).nox body (tWS K .data fw)) :
    FnR P w K mg base CX (k + 1) f (spW K .data (wDefS N.length ps.length fw)) := by
  obtain ⟨oc, od, dV, kV, doc, pm, an, cdv, ct, osl, rfl, lk, hcd, hD, hK⟩ := F.ex
  rcases hD with ⟨_, rfl⟩ | ⟨e, _⟩
  · refine (StX.fn_star (sp := spW K .data (wDef N.length (ps.length + 1) fw)) (k := k) lk hcd S hCX (fun us rest hl => hbd kV doc pm an cdv ct us rest hl) (fun A outer s H vs Q E hr h => ?_)).imp fun vs H Q E q => ?_
    · obtain ⟨Lc, p, es, P, o, r, ⟨hl, hg⟩, k⟩ := h
      refine ⟨_, (hb cdv A outer s H E hr).nox, ?_⟩
      refine ⟨H, Lc, _, p, {}, _, _, start_ok o r (by omega), hg, fun ρ' os' H' σ' hk E' => ?_, fun ρ' os' H' σ' hk E' => hk.elim, fun ρ' os' H' σ' hk E' => hk.elim, fun e v H' hk s' o' r' => k e H' v hk s' o' r'⟩
      exact k _ H' .non hk E'.stp E'.lok .non
    · obtain ⟨Lc, p, es, P, o, r, ⟨ws, ds, rfl, hl, hz, hg⟩, k⟩ := q
      obtain ⟨v1, v2, rfl, r1, r2⟩ := paired_split r
      have hd := rest_dts r2
      refine ⟨v1, v2, rfl, (paired_len r1).trans hl, by rw [← DtAll.len hd]; exact hz, fun q hq => ?_⟩
      have st : Stp Lc p H (upd H q (.tup v2)) := Stp.new o.ne hq
      have nl : ¬ Lc q := fun l => o.ne q l hq
      refine ⟨Lc, p, _, P, o.new hq, paired_app (Paired.mapP r1 fun v e h => Rv.step h o st) (.cons (show Rv K p _ _ (.py (.tuple ds)) from Dt.tup (.inl (.inl (ctL_at upd_same nl fun ps e => nomatch e))) (Dt.sameRAll (st.ct o) _ _ hd)) .nil), ⟨?_, hg⟩, fun e H' v hP s' o' r' => k e H' v hP (st.trans s') o' (r'.base st)⟩
      rw [List.length_append, hl]
      rfl
  · exact absurd rfl e
end
section
variable {X : Cx} {m mr : Mode} {CX : CXT} {k : Nat} {f : Addr} {sp : Sp} {E : XK} {g : WD} {fa : WA} {x : Str} {q pos : Pos} {e : Expr} {es : List Expr} {t : TA}
theorem pe_callF (F : FnR X.prog X.w X.K X.mg X.base CX k f sp) (hr : Room k X.A) (hg : Gl X x) (hm : X.mg x = some (.ref f)) (hk : PySem.W.keepIn X.K (.ref f) = true) (hx : Passes CX X E)
    (ha : PA X (e :: es) t) (hdb : (x == ("__debug__" : Str)) = false := by decide) (he : starEach (e :: es) X.env = (false, eval e X.env) :: starEach es X.env := by rfl) (hpl : (backTo pos (starEach es X.env)).any (·.1) = false := by rfl) :
    PE X (.Call (.Name x q) (e :: es) [] pos) (fun σ H Q => t σ H fun vs H1 => sp vs H1 Q E) := by
  refine ⟨fun pins s σ H Q I h => ?_⟩
  refine wpAny_Call_Name_kw (ld_glob I hg hm ?_ hdb)
  refine PySem.W.callWith_K (h₀ := X.base) I.ok.mod.kin hk (thn (ha.run pos pins s σ H _ I h) fun us s1 ⟨vs, H1, I1, r, q⟩ => ⟨I1.kIn, ?_⟩) he hpl
  exact wpAny_call (run_fnR F hr hx I1 r q)
theorem dcallR (F : FnR X.prog X.w X.K X.mg X.base CX k f (spW X.K mr g)) (hr : Room k X.A) (hg : Gl X x) (hmg : X.mg x = some (.ref f)) (hk : PySem.W.keepIn X.K (.ref f) = true) (hx : Passes CX X E0) (ha : PA X (e :: es) (tWA X.K .data fa)) (hm : mr = .fresh ∨ mr = .data ∧ m ≠ .fresh := by decide) (hdb : (x == ("__debug__" : Str)) = false := by decide)
    (he : starEach (e :: es) X.env = (false, eval e X.env) :: starEach es X.env := by rfl) (hpl : (backTo pos (starEach es X.env)).any (·.1) = false := by rfl) : PE X (.Call (.Name x q) (e :: es) [] pos) (tW X.K m (wCallA g fa)) :=
  ka (ma := .data) (g := g) (fun vs H Q => spW X.K mr g vs H Q E0) (pe_callF F hr hg hmg hk hx ha hdb he hpl) fun L p H0 H vs es P Q o ra hg k =>
    ⟨L, p, es, P, o, ra, hg, fun e H' v hP s o' r => k e H' v hP s o' (r.to hm o)⟩
end
end Dw

/-! sorted of a tuple of data. -/
namespace Dw
open PySem PySem.Spec PySem.W PySem.Calls PyProof.Rows L2 Dr Rp
section
variable {prog : Program} {w : World} {A : Around} {E : Value → Shared → Prop} {s : Shared}
theorem collect_tuple {l : Addr} {vs : List Value} {Q : List Value → Shared → Prop} {o : Obj} {n : Nat} (ho : s.heap.get? l = some o) (hc : o.cls = .type "tuple") (hd : o.data = .seq vs.toArray n)
    (h : Q vs { s with heap := (s.heap.push (seqObj "list" #[] 0)).update s.heap.objs.size (Obj.mapSeq (· ++ vs.toArray)) }) (hsz : vs.length ≤ sizeLine) :
    wpAny (model prog w) A (collect (.ref l)) Q E s := by
  unfold collect
  refine wpAny_bind (wpAny_runValue (codeAny_builtin entry_proto_collect' ?_))
  show wpAny _ _ (do again (.builtin "list.__iadd__" ⟨[← newList [], .ref l], []⟩)) _ _ s
  refine wpAny_bind (wpAny_newList (wpAny_pure ⟨Code.quiet_builtin _ (by decide +kernel), codeAny_builtin entry_list_iadd' ?_⟩))
  show wpAny _ _ (Builtin.List.listExtendWith (.ref s.heap.objs.size) (.ref l) (.ref s.heap.objs.size)) _ _ { s with heap := s.heap.push (seqObj "list" #[] 0) }
  unfold Builtin.List.listExtendWith
  have ho' : (s.heap.push (seqObj "list" #[] 0)).get? l = some o := Heap.get?_push_of_some _ ho
  refine wpAny_bind (wpAny_typeOf (T := "tuple") ⟨o, ho', hc⟩ ?_)
  rw [if_pos (by simp)]
  refine wpAny_bind (listItems_at ho' hd ?_)
  refine wpAny_bind (listItems_at (xs := #[]) (n := 0) (Heap.get?_push_size _ rfl) rfl ?_)
  rw [if_neg (by simp)]
  refine wpAny_bind (listUpdate_at (xs := #[]) (n := 0) (Heap.get?_push_size _ rfl) rfl ?_ (Nat.zero_le _) (by show (#[] ++ vs.toArray).size ≤ sizeLine + 1; simp only [Array.size_append, List.size_toArray, List.length_nil]; omega))
  refine wpAny_pure ?_
  show wpAny (model prog w) A (do
      let o ← load s.heap.objs.size
      match o.data with
      | .seq xs _ => pure xs.toList
      | _ => unsupported "internal:collect") Q E { s with heap := (s.heap.push (seqObj "list" #[] 0)).update s.heap.objs.size (Obj.mapSeq (· ++ vs.toArray)) }
  refine wpAny_bind (wpAny_load (get?_update_seq (Heap.get?_push_size _ rfl) _) ?_)
  show wpAny _ _ (pure ((#[] : Array Value) ++ vs.toArray).toList) Q E _
  rw [show ((#[] : Array Value) ++ vs.toArray).toList = vs by simp]
  exact wpAny_pure h
theorem sorted_dataT {β : Type} {R : Value → β → Prop} {enc : β → PyData} {bs : List β} {vs : List Value} {l : Addr} {Q : Value → Shared → Prop} {o : Obj} {n : Nat} (ho : s.heap.get? l = some o) (hc : o.cls = .type "tuple") (hd : o.data = .seq vs.toArray n) (e : EachIs R vs bs) (er : EachIs (fun v b => ∃ as, Reads s.heap v (enc b) as) vs bs) (hal : AllAlike (bs.map enc)) (hk : Sortable (bs.map enc)) (hL : bs.length ≤ sizeLine)
    (hu : ∀ b, b ∈ bs → A.units + 2 + (enc b).depth < cLine) (h : ∀ out, out.length = bs.length → EachIs R out (bs.mergeSort (dataLe false enc)) → Q (.ref (s.heap.objs.size + 1)) { s with heap := sortedAll s.heap vs (List.toArray out) }) :
    wpAny (model prog w) A (call (.builtin "sorted") [.ref l]) Q E s := by
  have er' : EachIs (fun v b => ∃ as, Reads (sortingHeap (copyHeap s.heap vs) (s.heap.objs.size + 1) vs) v (enc b) as) vs bs := er.mono fun _ _ ⟨as, r⟩ => ⟨as, PyProof.Rows.Reads.keeps (fun _ _ => sorting_copy_old) r⟩
  have S := SortsAt.data (prog := prog) (w := w) (A := A.in1.in1) (s := { s with heap := sortingHeap (copyHeap s.heap vs) (s.heap.objs.size + 1) vs }) (each_map (R := fun v d => ∃ as, Reads (sortingHeap (copyHeap s.heap vs) (s.heap.objs.size + 1) vs) v d as) enc er') hal hk (bound_map hu)
  have hL2 : vs.length ≤ sizeLine := by rw [e.length]; exact hL
  refine call_function_entry_kw kind_sorted plain_sorted entry_sorted (args_sorted1 _) ?_
  unfold Builtin.«sorted»
  refine wpAny_bind (m := checkCount "sorted" 1 1 _) (wpAny_pure ?_)
  refine wpAny_bind (collect_tuple ho hc hd ?_ hL2)
  refine wpAny_bind (wpAny_newList ?_ hL2)
  have hsz : ((s.heap.push (seqObj "list" #[] 0)).update s.heap.objs.size (Obj.mapSeq (· ++ vs.toArray))).objs.size = s.heap.objs.size + 1 := by
    rw [Heap.size_update, PyProof.Rows.size_push']
  show wpAny _ _ _ _ _ { s with heap := copyHeap s.heap vs }
  rw [hsz]
  refine wpAny_bind (wpAny_holding (wpAny_call_entry_kw slot_list_sort ⟨_, copyHeap_at s.heap vs, rfl⟩ entry_list_sort ?body (args_list_sort _)))
  case body =>
    show wpAny (model prog w) A.in1.in1 (Builtin.«list.sort» ⟨[.ref (s.heap.objs.size + 1)], []⟩) _ _ _
    refine list_sort_vals (s := { s with heap := copyHeap s.heap vs }) (copyHeap_at s.heap vs) S hL2 ⟨_, rfl, wpAny_pure ⟨_, rfl, ?_⟩⟩
    exact h _ (by rw [sortVals_length false rfl]; exact e.length) (sortVals_data false e er' hal)
end
section
variable {X : Cx} {m : Mode}
theorem cr_sortedVT (hu : X.A.units + 64 < cLine) : CallR X (.builtin "sorted") (fun xs H Q => ∃ a vs ds, xs = [V.ref a] ∧ SqT X.K H a vs ∧ DpAll X.K H vs ds ∧ vs.length = ds.length ∧ AllAlike ds ∧ Sortable ds ∧ (∀ d ∈ ds, d.depth ≤ 50) ∧
    ∀ p, H p = none → Q (.ref p) (upd H p (.lst (((vs.zip ds).mergeSort (dataLe false (·.2))).map (·.1))))) := by
  intro pins s σ H xs us Q I r h
  obtain ⟨a, vs, ds, rfl, hs, hr, hlen, hal, hk, hd, q⟩ := h
  obtain ⟨its, rv, ⟨o, ho, hc, n, hdat⟩, hz⟩ := I.tuple hs
  rw [Vals.ref1 r]
  obtain ⟨e1, e2⟩ := prs_reads (h := s.heap) (K := X.K) I hr rv
  have es : (vs.zip ds).map (·.2) = ds := zip_snd hlen
  have ll : (vs.zip ds).length = vs.length := by rw [List.length_zip, hlen, Nat.min_self]
  refine sorted_dataT (R := fun u (q : V × PyData) => RelV q.1 u) (enc := fun q : V × PyData => q.2) (bs := vs.zip ds) ho hc hdat e1 e2 (by rw [es]; exact hal) (by rw [es]; exact hk) (by rw [ll]; exact hz) (fun z hz => ?_) fun out ho he => ?_
  · have := hd z.2 (by rw [← es]; exact List.mem_map.mpr ⟨z, hz, rfl⟩)
    omega
  · obtain ⟨ep, he'⟩ := PyProof.Rows.sortedAll_at s.heap its out.toArray
    refine ⟨.ref _, upd H (s.heap.objs.size + 1) (.lst _), I.laid (t' := s.toks) (fun _ _ => PyProof.Rows.sortedAll_old) (Nat.le_succ _) ⟨?_, _, ep, each_vals he, he'⟩, rfl, q _ (I.hok.fresh (Nat.le_succ _))⟩
    rw [List.length_map, List.length_mergeSort, ll]
    exact hz
/-- sorted of a list or a tuple -/
def brSorted2 (hu : X.A.units + 64 < cLine) : BR X m (.builtin "sorted") wSorted where
  r := _
  c := cr_or (cr_sortedV hu) (cr_sortedVT hu)
  s := fun L p H0 H vs es P Q o ra hg k => by
    unfold wSorted at hg
    split at hg
    · obtain ⟨v, rfl, r⟩ := paired1 ra
      obtain ⟨a, vs, rfl, h1, h2⟩ := r.list
      exact .inl (brSorted_s o hg h2 k (.inl h1))
    · obtain ⟨v, rfl, r⟩ := paired1 ra
      obtain ⟨a, vs, rfl, h1, h2⟩ := r.tup
      exact .inr ⟨a, vs, _, rfl, h1, dps_of _ _ (al_nod hg.1.1) (dts_all h2), (DtAll.len h2).symm, hg.1.2.1, hg.1.2.2.1, hg.1.2.2.2, fun r hr => Go.lst k o hg.2 (sort_dts h2) hr⟩
    · exact hg.elim
end
end Dw

/-! Data ways: dict of a dict or of pairs; dicts compared. -/
namespace Dw
open PySem PySem.Spec PySem.W PySem.Calls PyProof.Rows L2 Dr Rp
open He (ga)
/-- pairs (key, value) -/
def pairsM : List PyData → Option (List (Key × PyData))
  | [] => some []
  | .tuple [k, d] :: r => match keyD k, pairsM r with
    | some key, some ms => some ((key, d) :: ms)
    | _, _ => none
  | _ :: _ => none
theorem pairsM_inv {d : PyData} {r : List PyData} {ms : List (Key × PyData)} (h : pairsM (d :: r) = some ms) : ∃ k key d' ms', d = .tuple [k, d'] ∧ keyD k = some key ∧ pairsM r = some ms' ∧ ms = (key, d') :: ms' := by
  unfold pairsM at h
  split at h
  · exact absurd h (by simp_all)
  · rename_i k d' r' e
    injection e with e1 e2
    subst e1 e2
    split at h
    · rename_i key ms' h1 h2
      cases h
      exact ⟨_, key, _, ms', rfl, h1, h2, rfl⟩
    · cases h
  · cases h
def wDictA : List EV → (EV → Prop) → Prop
  | [.py (.dict ds)], P => P (.py (.dict ds))
  | [.py (.list xs)], P => ∃ ms, pairsM xs = some ms ∧ P (.py (.dict (mergeD [] ms)))
  | _, _ => False
theorem key_of {K : PySem.W.Frag} {G : Hp} {v : V} {d : PyData} {k : Key} (h : Dt K G v d) (e : keyD d = some k) : v = kV k := by
  unfold keyD at e
  split at e
  · cases e
    cases h
    rfl
  · cases e
    cases h
    rfl
  · cases e
theorem pairs_in {K : PySem.W.Frag} {L : Addr → Prop} {H : Hp} : ∀ {vs : List V} {xs : List PyData} {ms : List (Key × PyData)}, DtAll K (ctL L H) vs xs → pairsM xs = some ms →
    ∃ (ps : List Addr) (kvs : List (Key × V)), vs = ps.map V.ref ∧ Paired (fun p kv => SqT K H p [kV kv.1, kv.2]) ps kvs ∧ Paired (fun (a : Key × V) (b : Key × PyData) => a.1 = b.1 ∧ Dt K (ctL L H) a.2 b.2) kvs ms
  | _, [], _, h, e => by
    cases h
    cases e
    exact ⟨[], [], rfl, .nil, .nil⟩
  | _, d :: r, _, h, e => by
    obtain ⟨k, key, d', ms', rfl, h1, h2, rfl⟩ := pairsM_inv e
    cases h with
    | cons a t =>
      obtain ⟨ps, kvs, rfl, g1, g2⟩ := pairs_in t h2
      cases a with
      | tup hq ha =>
        cases ha with
        | cons a1 ha =>
          cases ha with
          | cons a2 ha =>
            cases ha
            cases key_of a1 h1
            exact ⟨_ :: ps, (key, _) :: kvs, rfl, .cons (SameR.sqt ctL_all hq) g1, .cons ⟨rfl, a2⟩ g2⟩
section
variable {X : Cx} {m : Mode}
def brDictA (hcalm : X.calm = true) : BR X m (.type "dict") wDictA where
  r := _
  c := cr_or call_dictD (call_dictP hcalm)
  s := fun L p H0 H vs es P Q o ra hg k => by
    unfold wDictA at hg
    split at hg
    · obtain ⟨v, rfl, r⟩ := paired1 ra
      obtain ⟨a, kvs, rfl, h1, h2⟩ := r.dict
      exact .inl ⟨a, kvs, rfl, h1, fun l hl => Go.dic k o hg h2 hl⟩
    · obtain ⟨v, rfl, r⟩ := paired1 ra
      obtain ⟨ms, hm, hP⟩ := hg
      obtain ⟨a, xs, rfl, h1, h2⟩ := r.list
      obtain ⟨ps, kvs, rfl, g1, g2⟩ := pairs_in h2 hm
      exact .inr ⟨a, ps, kvs, rfl, .inl h1, g1, fun q hq => Go.dic k o hP (merge_dts g2 .nil) hq⟩
    · exact hg.elim
end
/-- the pairs of one dict found in another: all, none: what is asked cannot be said -/
def eqKv (es : List (PyData × PyData)) : List (PyData × PyData) → Option Bool
  | [] => some true
  | (k, d) :: r => match keyD k with
    | none => none
    | some key => match dGet es key with
      | none => some false
      | some d' => if (eqOk d && eqOk d') = true then (eqKv es r).map fun b => PyData.eqv d d' && b else none
theorem dGet_no {K : PySem.W.Frag} {G : Hp} {k : Key} : ∀ {kvs : List (Key × V)} {ds : List (PyData × PyData)}, DtKv K G kvs ds → dGet ds k = none → valV kvs k = none
  | _, _, .nil, _ => rfl
  | _, _, .cons (k := k') a t, h => by
    unfold dGet at h
    rw [keyD_kD] at h
    unfold valV
    by_cases e : k' = k
    · subst e
      rw [if_pos rfl] at h
      cases h
    · rw [if_neg (fun z => e (Option.some.inj z))] at h
      have z := dGet_no t h
      unfold valV at z
      rw [List.find?_cons_of_neg (by simpa using e)]
      exact z
section
variable {X : Cx} {pins : List (Addr × Obj)} {σ : L2.St} {H : Hp} {s : Shared}
theorem hits_dt (I : Inv X pins σ H s) (hu : X.A.in1.units + 64 < cLine) {ls : List (Key × V)} {vb : List (Key × Value)} {es : List (PyData × PyData)} (rb : KV ls vb) (he : DtKv X.K H ls es) : ∀ {ks : List (Key × V)} {va : List (Key × Value)} {ds : List (PyData × PyData)} {b : Bool}, KV ks va → DtKv X.K H ks ds → eqKv es ds = some b → PySem.W.KeqHits X.A.in1 s vb va b := by
  intro ks va ds b ra
  unfold KV at ra
  induction ra generalizing ds b with
  | nil =>
    intro hd h
    cases hd
    cases h
    exact .nil
  | @cons p q ps qs h t ih =>
    intro hd e
    obtain ⟨h1, h2⟩ := h
    obtain ⟨key, u⟩ := q
    obtain ⟨k1, v⟩ := p
    have h1 : k1 = key := h1
    subst h1
    cases hd with
    | cons a hd =>
      unfold eqKv at e
      rw [keyD_kD] at e
      dsimp only at e
      split at e
      · rename_i hn
        cases e
        have z := dGet_no he hn
        have rr := rb.val k1
        rw [z] at rr
        have : valueAt vb k1 = none := by
          cases w : valueAt vb k1 with
          | none => rfl
          | some y => rw [w] at rr; exact rr.elim
        exact .miss this
      · rename_i d' hg
        split at e
        · rename_i hok
          rw [Bool.and_eq_true] at hok
          obtain ⟨w, hw, hd'⟩ := dGet_of he hg
          have rr := rb.val k1
          rw [hw] at rr
          obtain ⟨y, hy, ry⟩ := rr.some_of
          cases er : eqKv es _ with
          | none => rw [er] at e; cases e
          | some b' =>
            rw [er] at e
            cases e
            have hA := hok.1
            have hB := hok.2
            unfold eqOk at hA hB
            rw [Bool.and_eq_true] at hA hB
            obtain ⟨as, r1⟩ := Dp.reads I _ v u (dp_of _ _ hA.1 a) h2
            obtain ⟨bs, r2⟩ := Dp.reads I _ w y (dp_of _ _ hB.1 hd') ry
            exact .hit hy (PySem.W.keq_at r1 r2 hA.2 hB.2 hu) (ih hd er)
        · cases e
def rDD (K : PySem.W.Frag) (neg : Bool) : R2 := fun x y H Q => ∃ a b ks ls ds es c, x = .ref a ∧ y = .ref b ∧ Rd H a (.dK ks) ∧ Rd H b (.dK ls) ∧ DtKv K H ks ds ∧ DtKv K H ls es ∧ eqKv es ds = some c ∧ Q (.bl (xor neg (ds.length == es.length && c))) H
theorem op_neDD (hu : X.A.units + 66 < cLine) : OpR X (compareOp .NotEq) (rDD X.K true) := by
  intro pins s σ H x y v u Q I rx ry h
  obtain ⟨a, b, ks, ls, ds, es, c, rfl, rfl, ea, eb, hd, he, hc, q⟩ := h
  obtain rfl : v = Value.ref a := rx
  obtain rfl : u = Value.ref b := ry
  obtain ⟨_, ya, va, ra, da⟩ := dk_rd I.hok ea
  obtain ⟨_, yb, vb, rb, db⟩ := dk_rd I.hok eb
  have l1 : va.length = ds.length := by rw [dkv_len hd]; exact (Paired.length ra).symm
  have l2 : vb.length = es.length := by rw [dkv_len he]; exact (Paired.length rb).symm
  exact PySem.W.keq_ne (knd := mixKind X.prog X.w) (r := c) ya yb da db (by omega) (fun _ => hits_dt I (by show X.A.units + 1 + 64 < cLine; omega) rb he ra hd hc) (fin_bl I q (by rw [l1, l2]; simp))
theorem op_eqDD (hu : X.A.units + 66 < cLine) : OpR X (compareOp .Eq) (rDD X.K false) := by
  intro pins s σ H x y v u Q I rx ry h
  obtain ⟨a, b, ks, ls, ds, es, c, rfl, rfl, ea, eb, hd, he, hc, q⟩ := h
  obtain rfl : v = Value.ref a := rx
  obtain rfl : u = Value.ref b := ry
  obtain ⟨_, ya, va, ra, da⟩ := dk_rd I.hok ea
  obtain ⟨_, yb, vb, rb, db⟩ := dk_rd I.hok eb
  have l1 : va.length = ds.length := by rw [dkv_len hd]; exact (Paired.length ra).symm
  have l2 : vb.length = es.length := by rw [dkv_len he]; exact (Paired.length rb).symm
  exact PySem.W.keq_eq (knd := mixKind X.prog X.w) (r := c) ya yb da db (by omega) (fun _ => hits_dt I (by show X.A.units + 1 + 64 < cLine; omega) rb he ra hd hc) (fin_bl I q (by rw [l1, l2]; simp))
end
def wEqDD (neg : Bool) : EV → EV → (EV → Prop) → Prop
  | .py (.dict ds), .py (.dict es), P => ∃ c, eqKv es ds = some c ∧ P (.py (.bool (xor neg (ds.length == es.length && c))))
  | _, _, _ => False
theorem dt_dict {K : PySem.W.Frag} {G : Hp} {v : V} {ds : List (PyData × PyData)} (h : Dt K G v (.dict ds)) : ∃ a kvs, v = .ref a ∧ Rd G a (.dK kvs) ∧ DtKv K G kvs ds := by
  cases h with
  | dicR h1 h2 => exact ⟨_, _, rfl, h1, h2⟩
section
variable {X : Cx}
theorem tneDD {a b : Expr} {pos : Pos} {fa fb : WF} (hu : X.A.units + 66 < cLine) (ha : PE X a (tW X.K .read fa)) (hb : PE X b (tW X.K .read fb)) : PT X (.Compare a [.NotEq] [b] pos) (tWT X.K (wT1 (w2 fa fb (wEqDD true)) wTB)) :=
  kt2 (r := rDD X.K true) (op_neDD hu) ha hb (nomark _) fun L p H0 H v a u b P Q o ra rb hg k => by
    unfold wEqDD at hg
    split at hg
    · obtain ⟨c, hc, hg⟩ := hg
      obtain ⟨a, ks, rfl, h1, h2⟩ := dt_dict ra.dt
      obtain ⟨b, ls, rfl, h3, h4⟩ := dt_dict rb.dt
      exact ⟨a, b, ks, ls, _, _, c, rfl, rfl, h1, h3, h2, h4, hc, Go.val (m := .read) k o (by decide) hg (.bl _)⟩
    · exact hg.elim
theorem teqDD {a b : Expr} {pos : Pos} {fa fb : WF} (hu : X.A.units + 66 < cLine) (ha : PE X a (tW X.K .read fa)) (hb : PE X b (tW X.K .read fb)) : PT X (.Compare a [.Eq] [b] pos) (tWT X.K (wT1 (w2 fa fb (wEqDD false)) wTB)) :=
  kt2 (r := rDD X.K false) (op_eqDD hu) ha hb (nomark _) fun L p H0 H v a u b P Q o ra rb hg k => by
    unfold wEqDD at hg
    split at hg
    · obtain ⟨c, hc, hg⟩ := hg
      obtain ⟨a, ks, rfl, h1, h2⟩ := dt_dict ra.dt
      obtain ⟨b, ls, rfl, h3, h4⟩ := dt_dict rb.dt
      exact ⟨a, b, ks, ls, _, _, c, rfl, rfl, h1, h3, h2, h4, hc, Go.val (m := .read) k o (by decide) hg (.bl _)⟩
    · exact hg.elim
end
/-- a, b = e1, e2 where a name is lent to what stands within: the pair is made and taken apart -/
theorem ds_par2 {X : Cx} {mr : Mode} {i j : Nat} {x y : Str} {a b : Expr} {fa fb : WF} {px py pt pos : Pos} {kt k2 pt2} (hc : X.calm = true) (hN : X.N.Nodup) (hi : X.N[i]? = some x) (hj : X.N[j]? = some y) (hx : Loc X.env.scope x) (hy : Loc X.env.scope y)
    (ha : PE X a (tW X.K .data fa)) (hb : PE X b (tW X.K .data fb)) (hfx : X.fn x = true ∨ X.env.scope.names.lookup x = some .local := by first | exact .inl rfl | exact .inr rfl) (hfy : X.fn y = true ∨ X.env.scope.names.lookup y = some .local := by first | exact .inl rfl | exact .inr rfl)
    (hw : swappedStores [.Tuple [.Name x px, .Name y py] kt pt] (.Tuple [a, b] k2 pt2) X.env = pure none := by rfl)
    (hs : swapsWithSole [.Tuple [.Name x px, .Name y py] kt pt] (.Tuple [a, b] k2 pt2) pos.line X.env = pure false := by rfl) (h1 : starEach [a, b] X.env = (false, eval a X.env) :: starEach [b] X.env := by rfl) (h2 : starEach [b] X.env = (false, eval b X.env) :: starEach [] X.env := by rfl)
    (g1 : (assignEach [.Name x px, .Name y py] X.env).map (·.2) = assign (.Name x px) X.env :: (assignEach [.Name y py] X.env).map (·.2) := by rfl) (g2 : (assignEach [.Name y py] X.env).map (·.2) = assign (.Name y py) X.env :: (assignEach [] X.env).map (·.2) := by rfl) :
    PS X (.Assign [.Tuple [.Name x px, .Name y py] kt pt] (.Tuple [a, b] k2 pt2) pos) (tWS X.K mr (wPar i j fa fb)) := by
  refine ps_mono (ps_asg (pe_tup (pa_cons ha (pa_cons hb pa_nil h2) h1)) (pg_tup hc (pgs_cons (pg_name hN hi hx hfx) (pgs_cons (pg_name hN hj hy hfy) pgs_nil g2) g1)) hs hw) fun D σ H q => ?_
  obtain ⟨He, Lc, os, p, gs, ρ, k, E, ⟨hli, hlj, hf⟩, k1, _⟩ := q
  refine ⟨He, Lc, os, p, gs, ρ, _, E, hf, fun a H1 v ha s o r => ?_⟩
  refine ⟨He, Lc, os, p, gs, ρ, _, E.step s o, ha, fun b H2 w hb s2 o2 r2 => ⟨by show 2 ≤ sizeLine; decide, fun q hq => ⟨q, [v, w], rfl, .inl (.inl upd_same), rfl, v, [w], rfl, w, [], rfl, rfl, ?_⟩⟩⟩
  have E1 := (E.step s o).step s2 o2
  have s3 : Stp (Ls Lc os) p H2 (upd H2 q (.tup [v, w])) := Stp.new o2.ne hq
  have o3 := o2.new (u := .tup [v, w]) hq
  have rv := Rv.step (Rv.step (show Rv X.K p (ctL (Ls Lc os) H1) v a from r) o s2) o2 s3
  have rw' := Rv.step (show Rv X.K p (ctL (Ls Lc os) H2) w b from r2) o2 s3
  have E2 := (E1.step s3 o3).put hli rv
  exact k1 _ _ _ _ hb (E2.put (by rw [List.length_set]; exact hlj) (Rv.sameR (ctL_sub dropO_sub) rw'))
/-- texts compared -/
def wEqS (neg : Bool) : EV → EV → (EV → Prop) → Prop
  | .py (.str a), .py (.str b), P => P (.py (.bool (xor neg (decide (a = b)))))
  | _, _, _ => False
section
variable {X : Cx}
theorem tneS {a b : Expr} {pos : Pos} {fa fb : WF} (ha : PE X a (tW X.K .read fa)) (hb : PE X b (tW X.K .read fb)) : PT X (.Compare a [.NotEq] [b] pos) (tWT X.K (wT1 (w2 fa fb (wEqS true)) wTB)) :=
  kt2 (r := rNe) op_ne ha hb (nomark _) fun L p H0 H v a u b P Q o ra rb hg k => by
    unfold wEqS at hg
    split at hg
    · rw [ra.str, rb.str]
      rename_i P x y
      refine ⟨rfl, Go.val (m := .read) k o (by decide) hg ?_⟩
      rw [show (!decide (V.str x = V.str y)) = xor true (decide (x = y)) from by rw [Bool.eq_iff_iff]; simp]
      exact Dt.bl _
    · exact hg.elim
theorem teqS {a b : Expr} {pos : Pos} {fa fb : WF} (ha : PE X a (tW X.K .read fa)) (hb : PE X b (tW X.K .read fb)) : PT X (.Compare a [.Eq] [b] pos) (tWT X.K (wT1 (w2 fa fb (wEqS false)) wTB)) :=
  kt2 (r := rEq) op_eq ha hb (nomark _) fun L p H0 H v a u b P Q o ra rb hg k => by
    unfold wEqS at hg
    split at hg
    · rw [ra.str, rb.str]
      rename_i P x y
      refine ⟨rfl, Go.val (m := .read) k o (by decide) hg ?_⟩
      rw [show decide (V.str x = V.str y) = xor false (decide (x = y)) from by rw [Bool.eq_iff_iff]; simp]
      exact Dt.bl _
    · exact hg.elim
end
end Dw

/-! law_k14: the defs whose derivations tools/dk14.py prints. -/
namespace K14
open PySem PySem.Spec PyProof.Rows L2 Dr Rp Dw
open He (ga ma)
open He5 (wf)
abbrev sPCols : Stmt := iColumns
abbrev sPAtoms : Stmt := iAtoms
abbrev sPHas : Stmt := iHas
abbrev sColsOfQ : Stmt := sColsOf
abbrev sAreAt : Stmt := sAtoms
abbrev sFIni : Stmt := iForm
abbrev sCkForm : Stmt := sForm
abbrev sHomeS : Stmt := sHome

abbrev nPCols : List Str := ["self"]
theorem scPCols : FnScope nPCols ["self"] (defScope sPCols) := ⟨rfl, rfl, rfl, by decide +kernel, rfl, by decide +kernel, by decide +kernel⟩
def wPCols : WS :=
  (wRet (w1 (wVar .data 0) (wFld "Query" "_columns")))
def dPCols : WD := wDef 1 1 wPCols
section
variable {P : Program} {w : World} {K : PySem.W.Frag} {mg : Str → Option Value} {base : Heap}
theorem ok_PCols {f : Addr} {fd : FuncData}  (F : FunD K "columns" "Query.columns" (defArgs sPCols) (defBody sPCols) (defScope sPCols) [] [] f fd) (T : TG K mg) (cl_Query : Cls K (ga K "Query")) (na_Query__columns : NoAttr K (ga K "Query") "_columns") : FnOk P w K mg base CX0 1 f fd ["self"] (spW K .data dPCols) := by
  refine fn_W F scPCols (by decide) (fun cdv A outer s H E hr => ?_)
  have hu : (A.deeper (envOfC "Query.columns" (defScope sPCols) s.heap.objs.size f cdv)).units + 64 < cLine := hr.units
  have hu1 : (A.deeper (envOfC "Query.columns" (defScope sPCols) s.heap.objs.size f cdv)).units + 1 < cLine := hu_of hr
  have hu2 : (A.deeper (envOfC "Query.columns" (defScope sPCols) s.heap.objs.size f cdv)).units + 66 < cLine := by
    have := hr.un
    omega
  exact (dss_one (ds_ret (dfld (C := "Query") cl_Query na_Query__columns (dv 0))))
end

abbrev nPAtoms : List Str := ["self"]
theorem scPAtoms : FnScope nPAtoms ["self"] (defScope sPAtoms) := ⟨rfl, rfl, rfl, by decide +kernel, rfl, by decide +kernel, by decide +kernel⟩
def wPAtoms : WS :=
  (wRet (wCallA wDictA (wCons (w1 (wVar .data 0) (wFld "Query" "_atoms")) wNil)))
def dPAtoms : WD := wDefR 1 1 wPAtoms
section
variable {P : Program} {w : World} {K : PySem.W.Frag} {mg : Str → Option Value} {base : Heap}
theorem ok_PAtoms {f : Addr} {fd : FuncData}  (F : FunD K "atoms" "Query.atoms" (defArgs sPAtoms) (defBody sPAtoms) (defScope sPAtoms) [] [] f fd) (T : TG K mg) (cl_Query : Cls K (ga K "Query")) (na_Query__atoms : NoAttr K (ga K "Query") "_atoms") : FnOk P w K mg base CX0 1 f fd ["self"] (spW K .fresh dPAtoms) := by
  have b_dict := T.f "dict" (by decide +kernel)
  refine fn_WF F scPAtoms (by decide) (fun cdv A outer s H E hr => ?_)
  have hu : (A.deeper (envOfC "Query.atoms" (defScope sPAtoms) s.heap.objs.size f cdv)).units + 64 < cLine := hr.units
  have hu1 : (A.deeper (envOfC "Query.atoms" (defScope sPAtoms) s.heap.objs.size f cdv)).units + 1 < cLine := hu_of hr
  have hu2 : (A.deeper (envOfC "Query.atoms" (defScope sPAtoms) s.heap.objs.size f cdv)).units + 66 < cLine := by
    have := hr.un
    omega
  exact (dss_one (ds_ret (dbt (brDictA rfl) (by decide +kernel) rfl b_dict (dacons (dfld (C := "Query") cl_Query na_Query__atoms (dv 0)) danil))))
end

abbrev nPHas : List Str := ["self", "value"]
theorem scPHas : FnScope nPHas ["self", "value"] (defScope sPHas) := ⟨rfl, rfl, rfl, by decide +kernel, rfl, by decide +kernel, by decide +kernel⟩
def wPHas : WS :=
  (wRet (w2 (wVar .read 1) (w1 (wVar .data 0) (wFld "Query" "_columns")) (wIn false)))
def dPHas : WD := wDef 2 2 wPHas
section
variable {P : Program} {w : World} {K : PySem.W.Frag} {mg : Str → Option Value} {base : Heap}
theorem ok_PHas {f : Addr} {fd : FuncData}  (F : FunD K "__contains__" "Query.__contains__" (defArgs sPHas) (defBody sPHas) (defScope sPHas) [] [] f fd) (T : TG K mg) (cl_Query : Cls K (ga K "Query")) (na_Query__columns : NoAttr K (ga K "Query") "_columns") : FnOk P w K mg base CX0 1 f fd ["self", "value"] (spW K .data dPHas) := by
  refine fn_W F scPHas (by decide) (fun cdv A outer s H E hr => ?_)
  have hu : (A.deeper (envOfC "Query.__contains__" (defScope sPHas) s.heap.objs.size f cdv)).units + 64 < cLine := hr.units
  have hu1 : (A.deeper (envOfC "Query.__contains__" (defScope sPHas) s.heap.objs.size f cdv)).units + 1 < cLine := hu_of hr
  have hu2 : (A.deeper (envOfC "Query.__contains__" (defScope sPHas) s.heap.objs.size f cdv)).units + 66 < cLine := by
    have := hr.un
    omega
  exact (dss_one (ds_ret (din (dv 1) (dfld (C := "Query") cl_Query na_Query__columns (dv 0)))))
end

abbrev nChkQ : List Str := ["query"]
theorem scChkQ : FnScope nChkQ ["query"] (defScope sChkQ) := ⟨rfl, rfl, rfl, by decide +kernel, rfl, by decide +kernel, by decide +kernel⟩
def wChkQ : WS :=
  (wIfS (wTNot (wT1 (w1 (wVar .data 0) (wIsiO "Query")) wTB)) wNever wNext)
def dChkQ : WD := wDef 1 1 wChkQ
section
variable {P : Program} {w : World} {K : PySem.W.Frag} {mg : Str → Option Value} {base : Heap}
theorem ok_ChkQ {f : Addr} {fd : FuncData}  (F : FnP K "check_query" sChkQ f fd) (T : TG K mg) (ic_Query : C8.InsC K (ga K "Query")) : FnOk P w K mg base CX0 1 f fd ["query"] (spW K .data dChkQ) := by
  have b_isinstance := T.f "isinstance" (by decide +kernel)
  have gC_Query := T.g "Query" (by decide +kernel)
  refine fn_W F scChkQ (by decide) (fun cdv A outer s H E hr => ?_)
  have hu : (A.deeper (envOfC "check_query" (defScope sChkQ) s.heap.objs.size f cdv)).units + 64 < cLine := hr.units
  have hu1 : (A.deeper (envOfC "check_query" (defScope sChkQ) s.heap.objs.size f cdv)).units + 1 < cLine := hu_of hr
  have hu2 : (A.deeper (envOfC "check_query" (defScope sChkQ) s.heap.objs.size f cdv)).units + 66 < cLine := by
    have := hr.un
    omega
  exact (dss_one (ds_if (dt_not (dtest (disiO (n := "Query") ic_Query (dv 0) rfl b_isinstance rfl gC_Query))) (dss_one ds_never) dss_nil))
end

abbrev nChkC : List Str := ["query", "column"]
theorem scChkC : FnScope nChkC ["query", "column"] (defScope sChkC) := ⟨rfl, rfl, rfl, by decide +kernel, rfl, by decide +kernel, by decide +kernel⟩
def wChkC : WS :=
  (wIfS (wT1 (w2 (wVar .data 1) (wVar .data 0) (wInO "Query" dPHas true)) wTB) wNever wNext)
def dChkC : WD := wDef 2 2 wChkC
section
variable {P : Program} {w : World} {K : PySem.W.Frag} {mg : Str → Option Value} {base : Heap}
theorem ok_ChkC {f : Addr} {fd : FuncData}  (F : FnP K "check_column" sChkC f fd) (T : TG K mg) {fd_Query_contains : FuncData} (F_Query_contains : FunD K "__contains__" "Query.__contains__" (defArgs iHas) (defBody iHas) (defScope iHas) [] [] (ma K (ga K "Query") "__contains__") fd_Query_contains) (me_Query_contains : Meth K (ga K "Query") "__contains__" (ma K (ga K "Query") "__contains__")) (G_Query_contains : FnOk P w K mg base CX0 1 (ma K (ga K "Query") "__contains__") fd_Query_contains ["self", "value"] (spW K .data dPHas)) : FnOk P w K mg base CX0 2 f fd ["query", "column"] (spW K .data dChkC) := by
  have b_Query_contains : Binds K fd_Query_contains ["self", "value"] [] := F_Query_contains.bindsN fun _ _ _ _ _ _ us hl => match us, hl with | [_, _], _ => rfl
  refine fn_W F scChkC (by decide) (fun cdv A outer s H E hr => ?_)
  have hu : (A.deeper (envOfC "check_column" (defScope sChkC) s.heap.objs.size f cdv)).units + 64 < cLine := hr.units
  have hu1 : (A.deeper (envOfC "check_column" (defScope sChkC) s.heap.objs.size f cdv)).units + 1 < cLine := hu_of hr
  have hu2 : (A.deeper (envOfC "check_column" (defScope sChkC) s.heap.objs.size f cdv)).units + 66 < cLine := by
    have := hr.un
    omega
  have r_Query_contains : Room 1 (A.deeper (envOfC "check_column" (defScope sChkC) s.heap.objs.size f cdv)) := hr.mono (by decide)
  exact (dss_one (ds_if (tninO (n := "Query") me_Query_contains G_Query_contains r_Query_contains b_Query_contains pass0 (dv 1) (dv 0)) (dss_one ds_never) dss_nil))
end

abbrev nBeside : List Str := ["atoms", "column", "own", "other"]
theorem scBeside : FnScope nBeside ["atoms", "column"] (defScope sBeside) := ⟨rfl, rfl, rfl, by decide +kernel, rfl, by decide +kernel, by decide +kernel⟩
def wBeside : WS :=
  (wRet (wCallA wTupleOf (wCons (wSg2 (wSeqI (wVar .read 0)) (gN 2) (wT1 (w2 (wVar .read 1) (wVar .read 2) (wIn false)) wTB) (wSeqI (wVar .read 2)) (gN 3) (wT1 (w2 (wVar .read 3) (wVar .read 1) (wEq true)) wTB) (wVar .data 3) [2, 3] [3]) wNil)))
def dBeside : WD := wDef 4 2 wBeside
section
variable {P : Program} {w : World} {K : PySem.W.Frag} {mg : Str → Option Value} {base : Heap}
theorem ok_Beside {f : Addr} {fd : FuncData}  (F : FnP K "beside" sBeside f fd) (T : TG K mg)  : FnOk P w K mg base CX0 1 f fd ["atoms", "column"] (spW K .data dBeside) := by
  have b_sorted := T.f "sorted" (by decide +kernel)
  have b_tuple := T.f "tuple" (by decide +kernel)
  refine fn_W F scBeside (by decide) (fun cdv A outer s H E hr => ?_)
  have hu : (A.deeper (envOfC "beside" (defScope sBeside) s.heap.objs.size f cdv)).units + 64 < cLine := hr.units
  have hu1 : (A.deeper (envOfC "beside" (defScope sBeside) s.heap.objs.size f cdv)).units + 1 < cLine := hu_of hr
  have hu2 : (A.deeper (envOfC "beside" (defScope sBeside) s.heap.objs.size f cdv)).units + 66 < cLine := by
    have := hr.un
    omega
  exact (dss_one (ds_ret (dbt (brTuple (by decide)) (by decide +kernel) rfl b_tuple (dacons (dsortSg2 [("own", 2), ("other", 3)] [3] rfl scBeside.nd hu (di_seq (dv 0)) (blkOk_by (own := [("own", 2), ("other", 3)]) (N := nBeside) (sc := defScope sBeside) (by decide +kernel)) (by decide) (fun _ _ _ _ _ => (dg 2 scBeside.nd rfl (by first | exact Or.inl rfl | exact Or.inr rfl))) (fun _ _ _ _ _ => (dts_one (tin (dv 1) (dv 2)))) (fun _ _ _ _ _ => (di_seq (dv 2))) (fun _ _ _ _ _ => (dg 3 scBeside.nd rfl (by first | exact Or.inl rfl | exact Or.inr rfl))) (fun _ _ _ _ _ => (dts_one (tne hu (dv 3) (dv 1)))) (fun _ _ _ _ _ => (dv 3)) rfl b_sorted) danil))))
end

abbrev nNear : List Str := ["query", "atoms", "column"]
theorem scNear : FnScope nNear ["query"] (defScope sNear) := ⟨rfl, rfl, rfl, by decide +kernel, rfl, by decide +kernel, by decide +kernel⟩
def wNear : WS :=
  (wSeq (wDrop (wCallA dChkQ (wCons (wVar .data 0) wNil)))
  (wSeq (wSet 1 (w1 (w1 (wVar .data 0) (wProp "Query" dPAtoms)) wValsL))
  (wRet (wDc (wSeqI (w1 (wVar .data 0) (wProp "Query" dPCols))) (gN 2) wYes (wVar .data 2) (wCallA dBeside (wCons (wVar .data 1) (wCons (wVar .data 2) wNil))) [2]))))
def dNear : WD := wDefR 3 1 wNear
section
variable {P : Program} {w : World} {K : PySem.W.Frag} {mg : Str → Option Value} {base : Heap}
theorem ok_Near {f : Addr} {fd : FuncData}  (F : FnP K "neighbours" sNear f fd) (T : TG K mg) {fd_check_query : FuncData} (F_check_query : FnP K "check_query" sChkQ (ga K "check_query") fd_check_query) (G_check_query : FnOk P w K mg base CX0 1 (ga K "check_query") fd_check_query ["query"] (spW K .data dChkQ)) {fd_beside : FuncData} (F_beside : FnP K "beside" sBeside (ga K "beside") fd_beside) (G_beside : FnOk P w K mg base CX0 1 (ga K "beside") fd_beside ["atoms", "column"] (spW K .data dBeside)) {fd_atoms : FuncData} (F_atoms : FunD K "atoms" "Query.atoms" (defArgs iAtoms) (defBody iAtoms) (defScope iAtoms) [] [] (wf K (ga K "Query") "property" "atoms") fd_atoms) (p_atoms : PropOf K (ga K "Query") "atoms" (ma K (ga K "Query") "atoms") (wf K (ga K "Query") "property" "atoms")) (G_atoms : FnOk P w K mg base CX0 1 (wf K (ga K "Query") "property" "atoms") fd_atoms ["self"] (spW K .fresh dPAtoms)) {fd_columns : FuncData} (F_columns : FunD K "columns" "Query.columns" (defArgs iColumns) (defBody iColumns) (defScope iColumns) [] [] (wf K (ga K "Query") "property" "columns") fd_columns) (p_columns : PropOf K (ga K "Query") "columns" (ma K (ga K "Query") "columns") (wf K (ga K "Query") "property" "columns")) (G_columns : FnOk P w K mg base CX0 1 (wf K (ga K "Query") "property" "columns") fd_columns ["self"] (spW K .data dPCols)) (cl_Query : Cls K (ga K "Query")) : FnOk P w K mg base CX0 3 f fd ["query"] (spW K .fresh dNear) := by
  have b_list := T.f "list" (by decide +kernel)
  have g_check_query := T.g "check_query" (by decide +kernel)
  have b_check_query : Binds K fd_check_query ["query"] [] := F_check_query.bindsN fun _ _ _ _ _ _ us hl => match us, hl with | [_], _ => rfl
  have b_atoms : Binds K fd_atoms ["self"] [] := F_atoms.bindsN fun _ _ _ _ _ _ us hl => match us, hl with | [_], _ => rfl
  have b_columns : Binds K fd_columns ["self"] [] := F_columns.bindsN fun _ _ _ _ _ _ us hl => match us, hl with | [_], _ => rfl
  have g_beside := T.g "beside" (by decide +kernel)
  have b_beside : Binds K fd_beside ["atoms", "column"] [] := F_beside.bindsN fun _ _ _ _ _ _ us hl => match us, hl with | [_, _], _ => rfl
  refine fn_WF F scNear (by decide) (fun cdv A outer s H E hr => ?_)
  have hu : (A.deeper (envOfC "neighbours" (defScope sNear) s.heap.objs.size f cdv)).units + 64 < cLine := hr.units
  have hu1 : (A.deeper (envOfC "neighbours" (defScope sNear) s.heap.objs.size f cdv)).units + 1 < cLine := hu_of hr
  have hu2 : (A.deeper (envOfC "neighbours" (defScope sNear) s.heap.objs.size f cdv)).units + 66 < cLine := by
    have := hr.un
    omega
  have r_check_query : Room 1 (A.deeper (envOfC "neighbours" (defScope sNear) s.heap.objs.size f cdv)) := hr.mono (by decide)
  have r_atoms : Room 2 (A.deeper (envOfC "neighbours" (defScope sNear) s.heap.objs.size f cdv)) := hr.mono (by decide)
  have r_columns : Room 2 (A.deeper (envOfC "neighbours" (defScope sNear) s.heap.objs.size f cdv)) := hr.mono (by decide)
  have r_beside : Room 1 (A.deeper (envOfC "neighbours" (defScope sNear) s.heap.objs.size f cdv)) := hr.mono (by decide)
  exact (dss_cons (ds_expr (dcall G_check_query r_check_query rfl g_check_query F_check_query.kp b_check_query pass0 (dacons (dv 0) danil)))
      (dss_cons (ds_set 1 scNear.nd rfl (by first | exact Or.inl rfl | exact Or.inr rfl) (dlistVals rfl (dprop (C := "Query") cl_Query p_atoms G_atoms r_atoms b_atoms pass0 (dv 0)) rfl b_list (by decide +kernel)))
      (dss_one (ds_ret (ddc [("column", 2)] rfl scNear.nd (di_seq (dprop (C := "Query") cl_Query p_columns G_columns r_columns b_columns pass0 (dv 0))) (blkOk_by (own := [("column", 2)]) (N := nNear) (sc := defScope sNear) (by decide +kernel)) (fun _ _ _ _ _ => (dg 2 scNear.nd rfl (by first | exact Or.inl rfl | exact Or.inr rfl))) (fun _ _ _ _ _ => dts_nil) (fun _ _ _ _ _ => (dv 2)) (fun _ _ _ _ _ => (dcall G_beside r_beside rfl g_beside F_beside.kp b_beside pass0 (dacons (dv 1) (dacons (dv 2) danil)))))))))
end

abbrev nHomeOf : List Str := ["query", "columns", "column", "name", "own"]
theorem scHomeOf : FnScope nHomeOf ["query", "columns"] (defScope sHomeOf) := ⟨rfl, rfl, rfl, by decide +kernel, rfl, by decide +kernel, by decide +kernel⟩
def wHomeOf : WS :=
  (wSeq (wDrop (wCallA dChkQ (wCons (wVar .data 0) wNil)))
  (wSeq (wIfS (wTNot (wT1 (w1 (wVar .read 1) (isiD "tuple")) wTB)) wNever wNext)
  (wSeq (wFor (wSeqI (wVar .data 1)) (gN 2) (wDrop (wCallA dChkC (wCons (wVar .data 0) (wCons (wVar .data 2) wNil)))))
  (wSeq (wFor (wDicI pairsD (w1 (wVar .data 0) (wProp "Query" dPAtoms))) (gT [(gN 3), (gN 4)]) (wIfS (wT1 (wCallA wAll (wCons (wLc (wSeqI (wVar .read 1)) (gN 2) wYes (w2 (wVar .read 2) (wVar .read 4) (wIn false)) [2]) wNil)) wTB) (wRet (wVar .data 3)) wNext))
  (wRet (wC .none))))))
def dHomeOf : WD := wDef 5 2 wHomeOf
section
variable {P : Program} {w : World} {K : PySem.W.Frag} {mg : Str → Option Value} {base : Heap}
theorem ok_HomeOf {f : Addr} {fd : FuncData}  (F : FnP K "home_of" sHomeOf f fd) (T : TG K mg) {fd_check_query : FuncData} (F_check_query : FnP K "check_query" sChkQ (ga K "check_query") fd_check_query) (G_check_query : FnOk P w K mg base CX0 1 (ga K "check_query") fd_check_query ["query"] (spW K .data dChkQ)) {fd_check_column : FuncData} (F_check_column : FnP K "check_column" sChkC (ga K "check_column") fd_check_column) (G_check_column : FnOk P w K mg base CX0 2 (ga K "check_column") fd_check_column ["query", "column"] (spW K .data dChkC)) {fd_atoms : FuncData} (F_atoms : FunD K "atoms" "Query.atoms" (defArgs iAtoms) (defBody iAtoms) (defScope iAtoms) [] [] (wf K (ga K "Query") "property" "atoms") fd_atoms) (p_atoms : PropOf K (ga K "Query") "atoms" (ma K (ga K "Query") "atoms") (wf K (ga K "Query") "property" "atoms")) (G_atoms : FnOk P w K mg base CX0 1 (wf K (ga K "Query") "property" "atoms") fd_atoms ["self"] (spW K .fresh dPAtoms)) (cl_Query : Cls K (ga K "Query")) : FnOk P w K mg base CX0 3 f fd ["query", "columns"] (spW K .data dHomeOf) := by
  have b_all := T.f "all" (by decide +kernel)
  have b_isinstance := T.f "isinstance" (by decide +kernel)
  have b_tuple := T.f "tuple" (by decide +kernel)
  have g_check_query := T.g "check_query" (by decide +kernel)
  have b_check_query : Binds K fd_check_query ["query"] [] := F_check_query.bindsN fun _ _ _ _ _ _ us hl => match us, hl with | [_], _ => rfl
  have g_check_column := T.g "check_column" (by decide +kernel)
  have b_check_column : Binds K fd_check_column ["query", "column"] [] := F_check_column.bindsN fun _ _ _ _ _ _ us hl => match us, hl with | [_, _], _ => rfl
  have b_atoms : Binds K fd_atoms ["self"] [] := F_atoms.bindsN fun _ _ _ _ _ _ us hl => match us, hl with | [_], _ => rfl
  refine fn_W F scHomeOf (by decide) (fun cdv A outer s H E hr => ?_)
  have hu : (A.deeper (envOfC "home_of" (defScope sHomeOf) s.heap.objs.size f cdv)).units + 64 < cLine := hr.units
  have hu1 : (A.deeper (envOfC "home_of" (defScope sHomeOf) s.heap.objs.size f cdv)).units + 1 < cLine := hu_of hr
  have hu2 : (A.deeper (envOfC "home_of" (defScope sHomeOf) s.heap.objs.size f cdv)).units + 66 < cLine := by
    have := hr.un
    omega
  have r_check_query : Room 1 (A.deeper (envOfC "home_of" (defScope sHomeOf) s.heap.objs.size f cdv)) := hr.mono (by decide)
  have r_check_column : Room 2 (A.deeper (envOfC "home_of" (defScope sHomeOf) s.heap.objs.size f cdv)) := hr.mono (by decide)
  have r_atoms : Room 2 (A.deeper (envOfC "home_of" (defScope sHomeOf) s.heap.objs.size f cdv)) := hr.mono (by decide)
  exact (dss_cons (ds_expr (dcall G_check_query r_check_query rfl g_check_query F_check_query.kp b_check_query pass0 (dacons (dv 0) danil)))
      (dss_cons (ds_if (dt_not (dtest (disi (T := "tuple") (dv 1) rfl b_isinstance rfl b_tuple (by decide +kernel)))) (dss_one ds_never) dss_nil)
      (dss_cons (ds_for [2] rfl PassesOwn.never rfl (di_seq (dv 1)) (dg 2 scHomeOf.nd rfl (by first | exact Or.inl rfl | exact Or.inr rfl)) (dss_one (ds_expr (dcall G_check_column r_check_column rfl g_check_column F_check_column.kp b_check_column pass0 (dacons (dv 0) (dacons (dv 2) danil))))))
      (dss_cons (ds_for [3, 4] rfl PassesOwn.never rfl (di_items (dprop (C := "Query") cl_Query p_atoms G_atoms r_atoms b_atoms pass0 (dv 0))) (dgt rfl (dgs_cons (dg 3 scHomeOf.nd rfl (by first | exact Or.inl rfl | exact Or.inr rfl)) (dgs_cons (dg 4 scHomeOf.nd rfl (by first | exact Or.inl rfl | exact Or.inr rfl)) dgs_nil))) (dss_one (ds_if (dtest (dbf (brAll (cr_all rfl) (by decide)) (by decide +kernel) rfl b_all (dacons (dlc [("column", 2)] rfl scHomeOf.nd (di_seq (dv 1)) (blkOk_by (own := [("column", 2)]) (N := nHomeOf) (sc := defScope sHomeOf) (by decide +kernel)) (fun _ _ _ _ _ => (dg 2 scHomeOf.nd rfl (by first | exact Or.inl rfl | exact Or.inr rfl))) (fun _ _ _ _ _ => dts_nil) (fun _ _ _ _ _ => (din (dv 2) (dv 4)))) danil))) (dss_one (ds_ret (dv 3))) dss_nil)))
      (dss_one (ds_ret dnon))))))
end

abbrev nHomeS : List Str := ["query", "columns"]
theorem scHomeS : FnScope nHomeS ["query", "columns"] (defScope sHomeS) := ⟨rfl, rfl, rfl, by decide +kernel, rfl, by decide +kernel, by decide +kernel⟩
def wHomeS : WS :=
  (wRet (wCallA dHomeOf (wCons (wVar .data 0) (wCons (wVar .data 1) wNil))))
def dHomeS : WD := wDefS 2 1 wHomeS
section
variable {P : Program} {w : World} {K : PySem.W.Frag} {mg : Str → Option Value} {base : Heap}
theorem ok_HomeS {f : Addr} {fd : FuncData} (F : FnP K "home" sHomeS f fd) (T : TG K mg) {fd_home_of : FuncData} (F_home_of : FnP K "home_of" sHomeOf (ga K "home_of") fd_home_of) (G_home_of : FnOk P w K mg base CX0 3 (ga K "home_of") fd_home_of ["query", "columns"] (spW K .data dHomeOf)) : FnR P w K mg base CX0 4 f (spW K .data dHomeS) := by
  have g_home_of := T.g "home_of" (by decide +kernel)
  have b_home_of : Binds K fd_home_of ["query", "columns"] [] := F_home_of.bindsN fun _ _ _ _ _ _ us hl => match us, hl with | [_, _], _ => rfl
  refine fn_WS (N := nHomeS) (ps := ["query"]) (pv := "columns") F scHomeS StX.cxUp_none (by decide) (fun _ _ _ _ _ _ us rest hl => match us, rest, hl with | [_], [], _ => rfl | [_], _ :: _, _ => rfl) (fun cdv A outer s H E hr => ?_)
  have hu : (A.deeper (envOfC "home" (defScope sHomeS) s.heap.objs.size f cdv)).units + 64 < cLine := hr.units
  have hu1 : (A.deeper (envOfC "home" (defScope sHomeS) s.heap.objs.size f cdv)).units + 1 < cLine := hu_of hr
  have hu2 : (A.deeper (envOfC "home" (defScope sHomeS) s.heap.objs.size f cdv)).units + 66 < cLine := by
    have := hr.un
    omega
  have r_home_of : Room 3 (A.deeper (envOfC "home" (defScope sHomeS) s.heap.objs.size f cdv)) := hr.mono (by decide)
  exact (dss_one (ds_ret (dcall G_home_of r_home_of rfl g_home_of F_home_of.kp b_home_of pass0 (dacons (dv 0) (dacons (dv 1) danil)))))
end

abbrev nColsOfQ : List Str := ["atoms", "columns", "column"]
theorem scColsOfQ : FnScope nColsOfQ ["atoms"] (defScope sColsOfQ) := ⟨rfl, rfl, rfl, by decide +kernel, rfl, by decide +kernel, by decide +kernel⟩
def wColsOfQ : WS :=
  (wRet (wCallA wTupleOf (wCons (wSg2 (wDicI (fun ds => ds.map fun q => .py q.2) (wVar .data 0)) (gN 1) wYes (wSeqI (wVar .read 1)) (gN 2) wYes (wVar .data 2) [1, 2] [2]) wNil)))
def dColsOfQ : WD := wDef 3 1 wColsOfQ
section
variable {P : Program} {w : World} {K : PySem.W.Frag} {mg : Str → Option Value} {base : Heap}
theorem ok_ColsOfQ {f : Addr} {fd : FuncData}  (F : FnP K "columns_of" sColsOfQ f fd) (T : TG K mg)  : FnOk P w K mg base CX0 1 f fd ["atoms"] (spW K .data dColsOfQ) := by
  have b_sorted := T.f "sorted" (by decide +kernel)
  have b_tuple := T.f "tuple" (by decide +kernel)
  refine fn_W F scColsOfQ (by decide) (fun cdv A outer s H E hr => ?_)
  have hu : (A.deeper (envOfC "columns_of" (defScope sColsOfQ) s.heap.objs.size f cdv)).units + 64 < cLine := hr.units
  have hu1 : (A.deeper (envOfC "columns_of" (defScope sColsOfQ) s.heap.objs.size f cdv)).units + 1 < cLine := hu_of hr
  have hu2 : (A.deeper (envOfC "columns_of" (defScope sColsOfQ) s.heap.objs.size f cdv)).units + 66 < cLine := by
    have := hr.un
    omega
  exact (dss_one (ds_ret (dbt (brTuple (by decide)) (by decide +kernel) rfl b_tuple (dacons (dsortSg2 [("columns", 1), ("column", 2)] [2] rfl scColsOfQ.nd hu (di_values (dv 0)) (blkOk_by (own := [("columns", 1), ("column", 2)]) (N := nColsOfQ) (sc := defScope sColsOfQ) (by decide +kernel)) (by decide) (fun _ _ _ _ _ => (dg 1 scColsOfQ.nd rfl (by first | exact Or.inl rfl | exact Or.inr rfl))) (fun _ _ _ _ _ => dts_nil) (fun _ _ _ _ _ => (di_seq (dv 1))) (fun _ _ _ _ _ => (dg 2 scColsOfQ.nd rfl (by first | exact Or.inl rfl | exact Or.inr rfl))) (fun _ _ _ _ _ => dts_nil) (fun _ _ _ _ _ => (dv 2)) rfl b_sorted) danil))))
end

abbrev nAreAt : List Str := ["value", "name", "columns"]
theorem scAreAt : FnScope nAreAt ["value"] (defScope sAreAt) := ⟨rfl, rfl, rfl, by decide +kernel, rfl, by decide +kernel, by decide +kernel⟩
def wAreAt : WS :=
  (wSeq (wIfS (wTOr (wTNot (wT1 (w1 (wVar .read 0) (isiD "dict")) wTB)) (wTNot (wT1 (wVar .read 0) wTru))) (wRet (wC (.bool false))) wNext)
  (wRet (wCallA wAll (wCons (wLc (wDicI pairsD (wVar .data 0)) (gT [(gN 1), (gN 2)]) wYes (wAndV (wCallA dWord (wCons (wVar .data 1) wNil)) (wAndV (wCallA dNamesP (wCons (wVar .data 2) wNil)) (w2 (wCallA wLen (wCons (wVar .read 2) wNil)) (wC (.int 0)) (wCmpI (fun i j => decide (j < i)))))) [1, 2]) wNil))))
def dAreAt : WD := wDef 3 1 wAreAt
section
variable {P : Program} {w : World} {K : PySem.W.Frag} {mg : Str → Option Value} {base : Heap}
theorem ok_AreAt {f : Addr} {fd : FuncData}  (F : FnP K "are_atoms" sAreAt f fd) (T : TG K mg) {fd_are_names : FuncData} (F_are_names : FnP K "are_names" sNames (ga K "are_names") fd_are_names) (G_are_names : FnOk P w K mg base CX0 2 (ga K "are_names") fd_are_names ["value"] (spW K .data dNamesP)) {fd_is_name : FuncData} (F_is_name : FnP K "is_name" sIsName (ga K "is_name") fd_is_name) (G_is_name : FnOk P w K mg base CX0 1 (ga K "is_name") fd_is_name ["value"] (spW K .data dWord)) : FnOk P w K mg base CX0 3 f fd ["value"] (spW K .data dAreAt) := by
  have b_all := T.f "all" (by decide +kernel)
  have b_dict := T.f "dict" (by decide +kernel)
  have b_isinstance := T.f "isinstance" (by decide +kernel)
  have b_len := T.f "len" (by decide +kernel)
  have g_are_names := T.g "are_names" (by decide +kernel)
  have b_are_names : Binds K fd_are_names ["value"] [] := F_are_names.bindsN fun _ _ _ _ _ _ us hl => match us, hl with | [_], _ => rfl
  have g_is_name := T.g "is_name" (by decide +kernel)
  have b_is_name : Binds K fd_is_name ["value"] [] := F_is_name.bindsN fun _ _ _ _ _ _ us hl => match us, hl with | [_], _ => rfl
  refine fn_W F scAreAt (by decide) (fun cdv A outer s H E hr => ?_)
  have hu : (A.deeper (envOfC "are_atoms" (defScope sAreAt) s.heap.objs.size f cdv)).units + 64 < cLine := hr.units
  have hu1 : (A.deeper (envOfC "are_atoms" (defScope sAreAt) s.heap.objs.size f cdv)).units + 1 < cLine := hu_of hr
  have hu2 : (A.deeper (envOfC "are_atoms" (defScope sAreAt) s.heap.objs.size f cdv)).units + 66 < cLine := by
    have := hr.un
    omega
  have r_are_names : Room 2 (A.deeper (envOfC "are_atoms" (defScope sAreAt) s.heap.objs.size f cdv)) := hr.mono (by decide)
  have r_is_name : Room 1 (A.deeper (envOfC "are_atoms" (defScope sAreAt) s.heap.objs.size f cdv)) := hr.mono (by decide)
  exact (dss_cons (ds_if (PW.pt (dw_or (dt_not (dtest (disi (T := "dict") (dv 0) rfl b_isinstance rfl b_dict (by decide +kernel)))) (dw_or1 (dt_not (dtru (dv 0)))))) (dss_one (ds_ret dbl)) dss_nil)
      (dss_one (ds_ret (dbf (brAll (cr_all rfl) (by decide)) (by decide +kernel) rfl b_all (dacons (dlc [("name", 1), ("columns", 2)] rfl scAreAt.nd (di_items (dv 0)) (blkOk_by (own := [("name", 1), ("columns", 2)]) (N := nAreAt) (sc := defScope sAreAt) (by decide +kernel)) (fun _ _ _ _ _ => (dgt rfl (dgs_cons (dg 1 scAreAt.nd rfl (by first | exact Or.inl rfl | exact Or.inr rfl)) (dgs_cons (dg 2 scAreAt.nd rfl (by first | exact Or.inl rfl | exact Or.inr rfl)) dgs_nil)))) (fun _ _ _ _ _ => dts_nil) (fun _ _ _ _ _ => (dand (dcall G_is_name r_is_name rfl g_is_name F_is_name.kp b_is_name pass0 (dacons (dv 1) danil)) (dand (dcall G_are_names r_are_names rfl g_are_names F_are_names.kp b_are_names pass0 (dacons (dv 2) danil)) (pe_one (dcmpI op_gt (dbf (brLen (by decide)) (by decide +kernel) rfl b_len (dacons (dv 2) danil)) dint)))))) danil)))))
end

abbrev nFIni : List Str := ["self", "shown", "atoms", "down", "name"]
theorem scFIni : FnScope nFIni ["self", "shown", "atoms", "down"] (defScope sFIni) := ⟨rfl, rfl, rfl, by decide +kernel, rfl, by decide +kernel, by decide +kernel⟩
def wFIni : WFl :=
  (wFlC "shown_columns" (wVar .data 1)
  (wFlC "down_columns" (wCallA wTupleOf (wCons (wCallA wSorted (wCons (wVar .read 3) wNil)) wNil))
  (wFlC "atom_columns" (wDc (wSeqI (w1 (wVar .read 2) wSortedK)) (gN 4) wYes (wVar .data 4) (w2 (wVar .read 2) (wVar .read 4) wIx) [4])
  (wFlC "all_columns" (wCallA dColsOfQ (wCons (wVar .data 2) wNil))
  wFlN))))
def dFIni : WI := wIni 5 4 wFIni
section
variable {P : Program} {w : World} {K : PySem.W.Frag} {mg : Str → Option Value} {base : Heap}
theorem ok_FIni {f : Addr} {fd : FuncData} (F : FunD K "__init__" "Form.__init__" (defArgs sFIni) (defBody sFIni) (defScope sFIni) [] [] f fd) (T : TG K mg) {fd_columns_of : FuncData} (F_columns_of : FnP K "columns_of" sColsOfQ (ga K "columns_of") fd_columns_of) (G_columns_of : FnOk P w K mg base CX0 1 (ga K "columns_of") fd_columns_of ["atoms"] (spW K .data dColsOfQ)) (cl_Form : Cls K (ga K "Form")) (na_Form_all_columns : NoAttr K (ga K "Form") "all_columns") (na_Form_atom_columns : NoAttr K (ga K "Form") "atom_columns") (na_Form_down_columns : NoAttr K (ga K "Form") "down_columns") (na_Form_shown_columns : NoAttr K (ga K "Form") "shown_columns") : FnOk P w K mg base CX0 2 f fd ["self", "shown", "atoms", "down"] (spI K "Form" dFIni) := by
  have b_sorted := T.f "sorted" (by decide +kernel)
  have b_tuple := T.f "tuple" (by decide +kernel)
  have g_columns_of := T.g "columns_of" (by decide +kernel)
  have b_columns_of : Binds K fd_columns_of ["atoms"] [] := F_columns_of.bindsN fun _ _ _ _ _ _ us hl => match us, hl with | [_], _ => rfl
  refine fn_init F scFIni (by decide) (fun cdv A outer s H E hr => ?_)
  have hu : (A.deeper (envOfC "Form.__init__" (defScope sFIni) s.heap.objs.size f cdv)).units + 64 < cLine := hr.units
  have hu1 : (A.deeper (envOfC "Form.__init__" (defScope sFIni) s.heap.objs.size f cdv)).units + 1 < cLine := hu_of hr
  have hu2 : (A.deeper (envOfC "Form.__init__" (defScope sFIni) s.heap.objs.size f cdv)).units + 66 < cLine := by
    have := hr.un
    omega
  have r_columns_of : Room 1 (A.deeper (envOfC "Form.__init__" (defScope sFIni) s.heap.objs.size f cdv)) := hr.mono (by decide)
  exact (dfl_cons cl_Form na_Form_shown_columns (dv 1)
      (dfl_cons cl_Form na_Form_down_columns (dbt (brTuple (by decide)) (by decide +kernel) rfl b_tuple (dacons (dbf (brSorted2 hu) (by decide +kernel) rfl b_sorted (dacons (dv 3) danil)) danil))
      (dfl_cons cl_Form na_Form_atom_columns (ddc [("name", 4)] rfl scFIni.nd (di_seq (dsortK rfl (dv 2) rfl b_sorted)) (blkOk_by (own := [("name", 4)]) (N := nFIni) (sc := defScope sFIni) (by decide +kernel)) (fun _ _ _ _ _ => (dg 4 scFIni.nd rfl (by first | exact Or.inl rfl | exact Or.inr rfl))) (fun _ _ _ _ _ => dts_nil) (fun _ _ _ _ _ => (dv 4)) (fun _ _ _ _ _ => (dix hu1 (dv 2) (dv 4))))
      (dfl_cons cl_Form na_Form_all_columns (dcall G_columns_of r_columns_of rfl g_columns_of F_columns_of.kp b_columns_of pass0 (dacons (dv 2) danil))
      dfl_nil))))
end

abbrev nCkForm : List Str := ["shown", "atoms", "down"]
theorem scCkForm : FnScope nCkForm ["shown", "atoms", "down"] (defScope sCkForm) := ⟨rfl, rfl, rfl, by decide +kernel, rfl, by decide +kernel, by decide +kernel⟩
def wCkForm : WS :=
  (wSeq (wIfS (wTNot (wT1 (wCallA dAreAt (wCons (wVar .data 1) wNil)) wTB)) wNever wNext)
  (wSeq (wIfS (wTNot (wT1 (wCallA dSomeOf (wCons (wVar .data 0) (wCons (wCallA dColsOfQ (wCons (wVar .data 1) wNil)) wNil))) wTB)) wNever wNext)
  (wSeq (wIfS (wTNot (wT1 (wCallA dSomeOf (wCons (wVar .data 2) (wCons (wVar .data 0) wNil))) wTB)) wNever wNext)
  (wRet (wCallA (wMake "Form" dFIni) (wCons (wVar .data 0) (wCons (wVar .data 1) (wCons (wVar .data 2) wNil))))))))
def dCkForm : WD := wDef 3 3 wCkForm
section
variable {P : Program} {w : World} {K : PySem.W.Frag} {mg : Str → Option Value} {base : Heap}
theorem ok_CkForm {f : Addr} {fd : FuncData}  (F : FnP K "checked_form" sCkForm f fd) (T : TG K mg) {fd_are_atoms : FuncData} (F_are_atoms : FnP K "are_atoms" sAreAt (ga K "are_atoms") fd_are_atoms) (G_are_atoms : FnOk P w K mg base CX0 3 (ga K "are_atoms") fd_are_atoms ["value"] (spW K .data dAreAt)) {fd_columns_of : FuncData} (F_columns_of : FnP K "columns_of" sColsOfQ (ga K "columns_of") fd_columns_of) (G_columns_of : FnOk P w K mg base CX0 1 (ga K "columns_of") fd_columns_of ["atoms"] (spW K .data dColsOfQ)) {fd_are_some_of : FuncData} (F_are_some_of : FnP K "are_some_of" sSomeOf (ga K "are_some_of") fd_are_some_of) (G_are_some_of : FnOk P w K mg base CX0 3 (ga K "are_some_of") fd_are_some_of ["value", "names"] (spW K .data dSomeOf)) {fd_Form_init : FuncData} (F_Form_init : FunD K "__init__" "Form.__init__" (defArgs sFIni) (defBody sFIni) (defScope sFIni) [] [] (ma K (ga K "Form") "__init__") fd_Form_init) (M_Form : Mk K (ga K "Form") (ma K (ga K "Form") "__init__")) (G_Form_init : FnOk P w K mg base CX0 2 (ma K (ga K "Form") "__init__") fd_Form_init ["self", "shown", "atoms", "down"] (spI K "Form" dFIni)) : FnOk P w K mg base CX0 4 f fd ["shown", "atoms", "down"] (spW K .data dCkForm) := by
  have gC_Form := T.g "Form" (by decide +kernel)
  have b_Form_init : Binds K fd_Form_init ["self", "shown", "atoms", "down"] [] := F_Form_init.bindsN fun _ _ _ _ _ _ us hl => match us, hl with | [_, _, _, _], _ => rfl
  have g_are_atoms := T.g "are_atoms" (by decide +kernel)
  have b_are_atoms : Binds K fd_are_atoms ["value"] [] := F_are_atoms.bindsN fun _ _ _ _ _ _ us hl => match us, hl with | [_], _ => rfl
  have g_columns_of := T.g "columns_of" (by decide +kernel)
  have b_columns_of : Binds K fd_columns_of ["atoms"] [] := F_columns_of.bindsN fun _ _ _ _ _ _ us hl => match us, hl with | [_], _ => rfl
  have g_are_some_of := T.g "are_some_of" (by decide +kernel)
  have b_are_some_of : Binds K fd_are_some_of ["value", "names"] [] := F_are_some_of.bindsN fun _ _ _ _ _ _ us hl => match us, hl with | [_, _], _ => rfl
  refine fn_W F scCkForm (by decide) (fun cdv A outer s H E hr => ?_)
  have hu : (A.deeper (envOfC "checked_form" (defScope sCkForm) s.heap.objs.size f cdv)).units + 64 < cLine := hr.units
  have hu1 : (A.deeper (envOfC "checked_form" (defScope sCkForm) s.heap.objs.size f cdv)).units + 1 < cLine := hu_of hr
  have hu2 : (A.deeper (envOfC "checked_form" (defScope sCkForm) s.heap.objs.size f cdv)).units + 66 < cLine := by
    have := hr.un
    omega
  have r_Form_init : Room 3 (A.deeper (envOfC "checked_form" (defScope sCkForm) s.heap.objs.size f cdv)) := hr.mono (by decide)
  have r_are_atoms : Room 3 (A.deeper (envOfC "checked_form" (defScope sCkForm) s.heap.objs.size f cdv)) := hr.mono (by decide)
  have r_columns_of : Room 1 (A.deeper (envOfC "checked_form" (defScope sCkForm) s.heap.objs.size f cdv)) := hr.mono (by decide)
  have r_are_some_of : Room 3 (A.deeper (envOfC "checked_form" (defScope sCkForm) s.heap.objs.size f cdv)) := hr.mono (by decide)
  exact (dss_cons (ds_if (dt_not (dtest (dcall G_are_atoms r_are_atoms rfl g_are_atoms F_are_atoms.kp b_are_atoms pass0 (dacons (dv 1) danil)))) (dss_one ds_never) dss_nil)
      (dss_cons (ds_if (dt_not (dtest (dcall G_are_some_of r_are_some_of rfl g_are_some_of F_are_some_of.kp b_are_some_of pass0 (dacons (dv 0) (dacons (dcall G_columns_of r_columns_of rfl g_columns_of F_columns_of.kp b_columns_of pass0 (dacons (dv 1) danil)) danil))))) (dss_one ds_never) dss_nil)
      (dss_cons (ds_if (dt_not (dtest (dcall G_are_some_of r_are_some_of rfl g_are_some_of F_are_some_of.kp b_are_some_of pass0 (dacons (dv 2) (dacons (dv 0) danil))))) (dss_one ds_never) dss_nil)
      (dss_one (ds_ret (dmake M_Form G_Form_init r_Form_init rfl gC_Form b_Form_init pass0 (dacons (dv 0) (dacons (dv 1) (dacons (dv 2) danil)))))))))
end

end K14

/-! def f(a, b = d, *, k = e, **names), called with all of a, b and nothing else. -/
namespace Mx
open PySem PySem.Spec PyProof.Rows L2 ClX
def KwTo {α : Type} (D : Addr) : List (Str × Value) → Sem α → Sem α → Prop
  | [], t, r => t = r
  | q :: l, t, r => ∃ (β γ : Type) (k1 : Option Value → Sem β) (k2 : β → Sem γ) (k3 : γ → Sem α) (a : β), t = ((nsGet D q.1 >>= k1) >>= k2) >>= k3 ∧ k1 (some q.2) = pure a ∧ KwTo D l (k2 a >>= k3) r
theorem KwTo.wp {α : Type} {K : PySem.W.Frag} {M : Model} {A : Around} {Q : α → Shared → Prop} {E : Value → Shared → Prop} {s : Shared} {D : Addr} (X : K.In s.heap) : ∀ {l : List (Str × Value)} {t r : Sem α}, (∀ q ∈ l, PySem.W.nsIn K D q.1 = some (some q.2)) → KwTo D l t r → wpAny M A r Q E s → wpAny M A t Q E s
  | [], t, r, _, e, h => by
    have e : t = r := e
    rw [e]
    exact h
  | q :: l, t, r, hl, e, h => by
    obtain ⟨β, γ, k1, k2, k3, a, e1, e2, e3⟩ := e
    have l1 : PySem.W.Looks M s.heap (nsGet D q.1 >>= k1) a := (PySem.W.looks_nsIn X (hl q (List.mem_cons_self ..))).andThen (PySem.W.Looks.of_pure e2)
    rw [e1, bind_assoc]
    exact wpAny_bind (l1.here (KwTo.wp X (fun p hp => hl p (List.mem_cons_of_mem _ hp)) e3 h))
section
variable {P : Program} {w : World} {K : PySem.W.Frag} {mg : Str → Option Value} {base : Heap} {k : Nat} {x qual : Str} {params : Arguments} {body : List Stmt} {scope : Scope} {dvs : List V} {kws : List (Str × V)} {f : Addr} {fd : FuncData} {CX : CXT} {N ps : List Str} {sp : Sp}
theorem fn_kwd {pd : Str} {n : Nat} (F : FunD K x qual params body scope dvs kws f fd) (S : FnScope N (ps ++ [pd]) scope) (hCX : StX.CXUp CX) (hd : dvs ≠ []) (hk : kws ≠ []) (hn : n + kws.length = ps.length)
    (hb : ∀ (T D : Addr) (doc pm : Value) (an : Option Addr) (cdv ct : Value) (us its ks : List Value), us.length = n → its.length = dvs.length → ks.length = kws.length → ∃ k, bindArgs (PySem.W.fnOf x qual params body scope (.ref T) (.ref D) doc pm an cdv ct) ⟨us, []⟩ = seqItems? (.ref T) >>= k ∧
      KwTo D ((kws.map (·.1)).zip ks) (k (some its.toArray)) ((alloc ({ cls := .type "dict", data := .dict #[] } : Obj) : Sem Addr) >>= fun d => pure (ps.zip (us ++ ks) ++ [(pd, Value.ref d)])))
    (hbody : ∀ (cdv : Value) (A : Around) (outer : List Env) (s : Shared) (H : Hp) (vs : List V) (Q : VK) (E : XK), Room k (A.deeper (envOfC qual scope s.heap.objs.size f cdv)) → sp vs H Q E →
      ∃ t, PSs (cxOf CX P w K mg base N qual scope f cdv A outer s H E) body t ∧ t { nx := fun _ H' => Q .non H', rt := Q } (start N vs) H) :
    FnR P w K mg base CX (k + 1) f (fun vs H Q E => vs.length = n ∧ ∀ d, H d = none → sp (vs ++ (kws.map (·.2) ++ [V.ref d])) (upd H d (.dK [])) Q E) := by
  obtain ⟨oc, od, dV, kV, doc, pm, an, cdv, ct, osl, rfl, lk, hcd, hD, hK⟩ := F.ex
  rcases hD with ⟨e, _⟩ | ⟨_, T, o, its, m, rfl, lT, oT, rT⟩
  · exact absurd e hd
  rcases hK with e | ⟨D, rfl, hq⟩
  · exact absurd e hk
  obtain ⟨kk, hl, rk, hks⟩ := kwd_vals hq
  intro A outer s H us vs Q E hr e0 r hsp
  obtain ⟨hlen, hq0⟩ := hsp
  have hn0 : H s.heap.objs.size = none := e0.hok.fresh (Nat.le_refl _)
  have KX : K.In s.heap := e0.mod.kin.keeps fun b o e => (e0.bs b o e).1
  refine StX.run_bnd lk hcd S hr e0 (G := fun xs H2 => ∃ d, H d = none ∧ xs = vs ++ (kws.map (·.2) ++ [V.ref d]) ∧ H2 = upd H d (.dK [])) (fun A' Ex Q' h => ?_) fun s2 H2 xs ⟨d, hd, ex, eH⟩ hr' => ?_
  · obtain ⟨kb, e1, e2⟩ := hb T D doc pm an cdv ct us its kk (by rw [← r.length]; exact hlen) rT.length.symm hl
    rw [e1]
    refine wpAny_bind (wpAny_seqItems (KX _ _ lT) oT (KwTo.wp KX hks e2 ?_))
    refine wpAny_bind (wpAny_alloc (wpAny_pure ?_))
    have new : ObjOk P w (upd H s.heap.objs.size (.dK [])) (s.heap.push ({ cls := .type "dict", data := .dict #[] } : Obj)) s.heap.objs.size (.dK []) := dk_empty _ (StX.env0_big e0)
    have un := StX.un_laid (fs := frs outer) (s := s) (o := ({ cls := .type "dict", data := .dict #[] } : Obj)) (u := .dK []) hn0
    have z := h _ _ (vs ++ (kws.map (·.2) ++ [V.ref s.heap.objs.size])) (us ++ (kk ++ [Value.ref s.heap.objs.size])) (StX.env0_laid e0 new) un rfl (fun e s' => hCX outer s H _ _ E e s' un (fun b o q => Heap.get?_push_of_some _ q) rfl) (r.append (rk.append (.cons rfl .nil)))
      (by simp only [List.length_append, List.length_map, List.length_cons, List.length_nil, hlen]; omega) ⟨_, hn0, rfl, rfl⟩
    rw [← List.append_assoc, List.zip_append (by rw [List.length_append, ← r.length, hlen, hl, hn])] at z
    exact z
  · subst ex eH
    exact hbody cdv A outer s2 _ _ Q E hr' (hq0 d hd)
end
end Mx

/-! Query.__init__ where shown is a Form; Query.of; with_shown_of. -/
namespace K14
open PySem PySem.Spec PyProof.Rows L2 Dr Rp Dw
open He (ga ma)
open He5 (wf)
abbrev iQuery' : Stmt := iQuery
/-- a Form's fields -/
def formF (s d : List Str) (at_ : List (PyData × PyData)) (cs : List Str) : List (Str × PyData) := [("shown_columns", .tuple (s.map .str)), ("down_columns", .tuple (d.map .str)), ("atom_columns", .dict at_), ("all_columns", .tuple (cs.map .str))]
def queryF (s d : List Str) (at_ : List (PyData × PyData)) (cs : List Str) : List (Str × PyData) := [("_shown", .tuple (s.map .str)), ("_down", .tuple (d.map .str)), ("_atoms", .dict at_), ("_columns", .tuple (cs.map .str))]
def dQIni : WI := fun es P => ∃ s d at_ cs, es = [.ob "Form" (formF s d at_ cs), .no, .no] ∧ at_.length ≤ 10 ∧ cs.length ≤ 10 ∧ P (queryF s d at_ cs)
abbrev nQIni : List Str := ["self", "shown", "down", "atoms", "form"]
theorem scQIni : FnScope nQIni ((["self", "shown", "down"] : List Str) ++ (["atoms"] : List Str)) (defScope iQuery) := ⟨rfl, rfl, rfl, by decide +kernel, rfl, by decide +kernel, by decide +kernel⟩
theorem ps_no {X : Cx} {st : Stmt} : PS X st (fun _ _ _ => False) := ⟨fun _ _ _ _ _ _ h => h.elim⟩
theorem pe_no {X : Cx} {e : Expr} : PE X e (fun _ _ _ => False) := ⟨fun _ _ _ _ _ _ h => h.elim⟩
def wQIni : WFl := wFlC "_shown" (w1 (wVar .data 4) (wFld "Form" "shown_columns")) (wFlC "_down" (w1 (wVar .data 4) (wFld "Form" "down_columns")) (wFlC "_atoms" (w1 (wVar .data 4) (wFld "Form" "atom_columns")) (wFlC "_columns" (w1 (wVar .data 4) (wFld "Form" "all_columns")) wFlN)))
theorem wQIni_ok {s d : List Str} {at_ : List (PyData × PyData)} {cs : List Str} {P : List (Str × PyData) → Prop} (h : P (queryF s d at_ cs)) : wQIni [.no, .ob "Form" (formF s d at_ cs), .no, .no, .ob "Form" (formF s d at_ cs)] [] P := by
  refine ⟨rfl, _, rfl, fun q hq => (nomatch hq), by simp, rfl, _, rfl, fun q hq => ?_, by simp, rfl, _, rfl, fun q hq => ?_, by simp, rfl, _, rfl, fun q hq => ?_, by simp, h⟩
  · rcases List.mem_cons.mp hq with rfl | hq
    · show ("_shown" : Str) ≠ "_down"
      decide
    · cases hq
  · rcases List.mem_cons.mp hq with rfl | hq
    · show ("_shown" : Str) ≠ "_atoms"
      decide
    · rcases List.mem_cons.mp hq with rfl | hq
      · show ("_down" : Str) ≠ "_atoms"
        decide
      · cases hq
  · rcases List.mem_cons.mp hq with rfl | hq
    · show ("_shown" : Str) ≠ "_columns"
      decide
    · rcases List.mem_cons.mp hq with rfl | hq
      · show ("_down" : Str) ≠ "_columns"
        decide
      · rcases List.mem_cons.mp hq with rfl | hq
        · show ("_atoms" : Str) ≠ "_columns"
          decide
        · cases hq
/-- what the class's head must hold -/
structure QC (K : PySem.W.Frag) : Prop where
  clF : Cls K (ga K "Form")
  naF : ∀ f, f ∈ fsF → NoAttr K (ga K "Form") f
  icF : C8.InsC K (ga K "Form")
  clQ : Cls K (ga K "Query")
  naQ : ∀ f, f ∈ fsQ → NoAttr K (ga K "Query") f
  cA : ∃ t, Con K (ga K "Query") "MAX_ATOMS" (.int 10) (.int 10 t)
  cC : ∃ t, Con K (ga K "Query") "MAX_COLUMNS" (.int 10) (.int 10 t)
section
variable {P : Program} {w : World} {K : PySem.W.Frag} {mg : Str → Option Value} {base : Heap}
theorem drop_none {i : Nat} : dropO (fun _ => none) i = fun _ => none := by
  funext j
  unfold dropO
  split <;> rfl
theorem ls_none {Lc : Addr → Prop} : Ls Lc (fun _ => none) = Lc := funext fun b => propext ⟨(fun l => l.elim id fun ⟨i, h⟩ => (by cases h)), Or.inl⟩
theorem body_QIni {A : Around} {outer : List Env} {s : Shared} {f : Addr} {cdv : Value} {H : Hp} {E : XK} {k : Nat} (T : TG K mg) (C : QC K) {vs : List V} {Q : VK} (hr : Room k (A.deeper (envOfC "Query.__init__" (defScope iQuery) s.heap.objs.size f cdv))) (h : spI K "Query" dQIni vs H Q E) :
    ∃ t, PSs (cxOf CX0 P w K mg base nQIni "Query.__init__" (defScope iQuery) f cdv A outer s H E) (defBody iQuery) t ∧ t { nx := fun _ H' => Q .non H', rt := Q } (start nQIni vs) H := by
  have b_isinstance := T.f "isinstance" (by decide +kernel)
  have b_len := T.f "len" (by decide +kernel)
  have gC_Form := T.g "Form" (by decide +kernel)
  obtain ⟨Lc, p, x, dx, rest, es, P', rfl, hx, lx, np, o, r, ⟨s0, d0, at_, cs, rfl, ha, hc, hP⟩, kk⟩ := h
  obtain ⟨t1, cA⟩ := C.cA
  obtain ⟨t2, cC⟩ := C.cC
  refine ⟨_, PSs.nox (pss_cons (ps_set (i := 4) scQIni.nd rfl (by first | exact Or.inl rfl | exact Or.inr rfl) (pe_ifExp (dtest (disiO (n := "Form") C.icF (dv 1) rfl b_isinstance rfl gC_Form)) (pv 1) pe_no))
    (pss_cons (ps_if (pt_cmpR op_gt (dbf (m := .read) (brLen (by decide)) (by decide +kernel) rfl b_len (dacons (dfld (C := "Form") C.clF (C.naF "atom_columns" (by decide)) (dv 4)) danil)) (pe_con (pv 0) rfl) rfl) (pss_one ps_no) pss_nil)
    (pss_cons (ps_if (pt_cmpR op_gt (dbf (m := .read) (brLen (by decide)) (by decide +kernel) rfl b_len (dacons (dfld (C := "Form") C.clF (C.naF "all_columns" (by decide)) (dv 4)) danil)) (pe_con (pv 0) rfl) rfl) (pss_one ps_no) pss_nil)
    (dfl_cons C.clQ (C.naQ "_shown" (by decide)) (dfld (C := "Form") C.clF (C.naF "shown_columns" (by decide)) (dv 4))
    (dfl_cons C.clQ (C.naQ "_down" (by decide)) (dfld (C := "Form") C.clF (C.naF "down_columns" (by decide)) (dv 4))
    (dfl_cons C.clQ (C.naQ "_atoms" (by decide)) (dfld (C := "Form") C.clF (C.naF "atom_columns" (by decide)) (dv 4))
    (dfl_cons C.clQ (C.naQ "_columns" (by decide)) (dfld (C := "Form") C.clF (C.naF "all_columns" (by decide)) (dv 4)) dfl_nil))))))), ?_⟩
  have E0 : EnvOk K H Lc (fun _ => none) p {} H (L2.start nQIni (V.ref x :: rest)) [.no, .ob "Form" (formF s0 d0 at_ cs), .no, .no, .no] := start_okN (N := nQIni) o (.cons (.inl rfl) r : Paired _ (V.ref x :: rest) [EV.no, .ob "Form" (formF s0 d0 at_ cs), .no, .no]) (by show 4 ≤ 5; decide)
  obtain ⟨v1, hv1, rv1⟩ := E0.val 1 (.ob "Form" (formF s0 d0 at_ cs)) rfl
  obtain ⟨r1, r2, r3, rfl⟩ : ∃ a b c, rest = [a, b, c] := by
    have l := paired_len r
    match rest, l with
    | [a, b, c], _ => exact ⟨a, b, c, rfl⟩
  have e1 : r1 = v1 := Option.some.inj (Option.some.inj hv1)
  subst e1
  refine ⟨H, Lc, _, p, {}, _, fun b => b = true, E0, ⟨rfl, rfl⟩, fun b H1 hb s1 o1 => ?_⟩
  subst hb
  rw [if_pos rfl]
  refine ⟨r1, rfl, ?_⟩
  have E1 := E0.step s1 o1
  rw [ls_none] at s1
  have x1 := (s1.loose x lx np).trans hx
  obtain ⟨w1', hw1, rw1⟩ := E1.val 1 (.ob "Form" (formF s0 d0 at_ cs)) rfl
  have e1 : r1 = w1' := Option.some.inj (Option.some.inj hw1)
  subst e1
  have E2 := E1.put (i := 4) (v := r1) (e := .ob "Form" (formF s0 d0 at_ cs)) (by show 4 < 5; decide) rw1
  rw [drop_none] at E2
  refine ⟨H, Lc, _, p, {}, _, fun e => e = .py (.int (at_.length : Nat)), E2, ⟨rfl, _, rfl, at_.length, rfl, rfl⟩, fun e H2 v he s2 o2 r2 => ?_⟩
  subst he
  obtain rfl := Res.int r2
  have E3 := E2.step s2 o2
  rw [ls_none] at s2
  have x2 := (s2.loose x lx np).trans x1
  refine ⟨.ref x, rfl, x, _, dx, [], .int 10, _, rfl, x2, C.clQ, cA, rfl, ?_⟩
  refine ⟨_, _, rfl, rfl, _, rfl, ?_⟩
  rw [show decide ((10 : Int) < (at_.length : Nat)) = false from by simp; omega]
  refine iteF ?_
  refine ⟨H, Lc, _, p, {}, _, fun e => e = .py (.int (cs.length : Nat)), E3, ⟨rfl, _, rfl, cs.length, by simp [lenD], rfl⟩, fun e H3 v he s3 o3 r3 => ?_⟩
  subst he
  obtain rfl := Res.int r3
  have E4 := E3.step s3 o3
  rw [ls_none] at s3
  have x3 := (s3.loose x lx np).trans x2
  refine ⟨.ref x, rfl, x, _, dx, [], .int 10, _, rfl, x3, C.clQ, cC, rfl, ?_⟩
  refine ⟨_, _, rfl, rfl, _, rfl, ?_⟩
  rw [show decide ((10 : Int) < (cs.length : Nat)) = false from by simp; omega]
  refine iteF ?_
  refine ⟨H, Lc, _, p, {}, _, P', x, dx, [], [], E4, rfl, lx, np, x3, rfl, .nil, wQIni_ok hP, fun fs' vs' He' H' hP' hb E' h1 h2 h3 => ?_⟩
  rw [ls_none] at h3
  refine kk fs' vs' H' hP' h1 h2 h3 ?_ E'.lok
  have e : He' = upd H x (.ins (ga K "Query") dx vs') := funext fun b => by
    by_cases e : b = x
    · subst e
      rw [upd_same, ← E'.stp.loose b lx np]
      exact h1
    · rw [upd_ne e]
      exact hb b e
  rw [← e]
  exact E'.stp
def dQIni1 : WI := fun es P => ∃ s d at_ cs, es = [.ob "Form" (formF s d at_ cs)] ∧ at_.length ≤ 10 ∧ cs.length ≤ 10 ∧ P (queryF s d at_ cs)
theorem ok_QIni {f b : Addr} {fd : FuncData} {dv : V} (F : FunD K "__init__" "Query.__init__" (defArgs iQuery) (defBody iQuery) (defScope iQuery) [dv] [("down", V.ref b)] f fd) (T : TG K mg) (C : QC K) : FnR P w K mg base CX0 1 f (spI K "Query" dQIni1) := by
  refine (Mx.fn_kwd (ps := ["self", "shown", "down"]) (pd := "atoms") (n := 2) (k := 0) (sp := spI K "Query" dQIni) F scQIni StX.cxUp_none (by simp) (by simp) rfl (fun T D doc pm an cdv ct us its ks h1 h0 h2 => ?_) (fun cdv A outer s H vs Q E hr h => body_QIni T C hr h)).imp fun vs H Q E q => ?_
  · match us, its, ks, h1, h0, h2 with
    | [_, _], [_], [_], _, _, _ => exact ⟨_, rfl, _, _, _, _, _, _, rfl, rfl, rfl⟩
  · obtain ⟨Lc, p, x, dx, rest, es, P', rfl, hx, lx, np, o, r, ⟨s0, d0, at_, cs, rfl, ha, hc, hP⟩, kk⟩ := q
    obtain ⟨r1, rfl⟩ : ∃ a, rest = [a] := by
      have l := paired_len r
      match rest, l with
      | [a], _ => exact ⟨a, rfl⟩
    refine ⟨rfl, fun d hd => ?_⟩
    have st : Stp Lc p H (upd H d (.dK [])) := Stp.new o.ne hd
    have ne : x ≠ d := fun e => by
      rw [e, hd] at hx
      cases hx
    have hr1 : Rv K p (ctL Lc H) r1 (.ob "Form" (formF s0 d0 at_ cs)) := by
      cases r with
      | cons h _ => exact h.elim (fun z => nomatch z) id
    refine ⟨Lc, p, x, dx, [r1, .ref b, .ref d], _, P', rfl, (upd_ne ne).trans hx, lx, np, o.new hd, .cons (.inr (Rv.step hr1 o st)) (.cons (.inl rfl) (.cons (.inl rfl) .nil)), ⟨s0, d0, at_, cs, rfl, ha, hc, hP⟩, fun fs vs' H' hP' h1 h2 h3 s' o' => kk fs vs' H' hP' h1 h2 h3 ?_ o'⟩
    have hd2 : upd H x (.ins (ga K "Query") dx vs') d = none := by rw [upd_ne (Ne.symm ne)]; exact hd
    have s0 : Stp Lc p (upd H x (.ins (ga K "Query") dx vs')) (upd (upd H d (.dK [])) x (.ins (ga K "Query") dx vs')) := by
      rw [show upd (upd H d (.dK [])) x (.ins (ga K "Query") dx vs') = upd (upd H x (.ins (ga K "Query") dx vs')) d (.dK []) from funext fun c => by
        by_cases e1 : c = x
        · subst e1
          rw [upd_same, upd_ne ne, upd_same]
        · by_cases e2 : c = d
          · subst e2
            rw [upd_ne e1, upd_same, upd_same]
          · rw [upd_ne e1, upd_ne e2, upd_ne e2, upd_ne e1]]
      refine Stp.new (fun c l => ?_) hd2
      by_cases e : c = x
      · subst e
        rw [upd_same]
        simp
      · rw [upd_ne e]
        exact o.ne c l
    exact s0.trans s'
end
end K14

/-! Query.of; how of and with_shown_of are bound. -/
namespace K14
open PySem PySem.Spec PyProof.Rows L2 Dr Rp Dw
open He (ga ma)
open He5 (wf)
def dOf : WD := fun es P => ∃ a b c, es = [.py a, .py b, .py c] ∧ dCkForm [.py a, .py b, .py c] fun e => ∃ s d at_ cs, e = .ob "Form" (formF s d at_ cs) ∧ at_.length ≤ 10 ∧ cs.length ≤ 10 ∧ P (.ob "Query" (queryF s d at_ cs))
abbrev nOf : List Str := ["cls", "shown", "atoms", "down"]
theorem scOf : FnScope nOf ["cls", "shown", "atoms", "down"] (defScope iOf) := ⟨rfl, rfl, rfl, by decide +kernel, rfl, by decide +kernel, by decide +kernel⟩
section
variable {P : Program} {w : World} {K : PySem.W.Frag} {mg : Str → Option Value} {base : Heap}
theorem ok_Of {k : Nat} {f b g : Addr} {fd : FuncData} (F : FunD K "of" "Query.of" (defArgs iOf) (defBody iOf) (defScope iOf) [] [("down", V.ref b)] f fd) (T : TG K mg) (M : Mk K (ga K "Query") g) (G_init : FnR P w K mg base CX0 1 g (spI K "Query" dQIni1)) (hk : 2 ≤ k)
    {fd_ck : FuncData} (F_ck : FnP K "checked_form" sCkForm (ga K "checked_form") fd_ck) (G_ck : FnOk P w K mg base CX0 k (ga K "checked_form") fd_ck ["shown", "atoms", "down"] (spW K .data dCkForm)) : FnOk P w K mg base CX0 (k + 1) f fd ["cls", "shown", "atoms", "down"] (spC K "Query" .data dOf) := by
  have g_ck := T.g "checked_form" (by decide +kernel)
  have b_ck : Binds K fd_ck ["shown", "atoms", "down"] [] := F_ck.bindsN fun _ _ _ _ _ _ us hl => match us, hl with | [_, _, _], _ => rfl
  refine F.ok scOf (fun vs H Q E h => ?_) (fun cdv A outer s H vs Q E hr h => ?_)
  · obtain ⟨rest, rfl, Lc, p, es, P, o, r, ⟨a, b, c, rfl, _⟩, _⟩ := h
    rw [List.length_cons, paired_len r]
    rfl
  · obtain ⟨rest, rfl, Lc, p, es, P', o, r, ⟨a, b, c, rfl, hg⟩, kk⟩ := h
    refine ⟨_, PSs.nox (pss_one (ps_ret (Mx.pe_makeL (i := 0) M G_init (hr.mono hk) rfl (by first | exact Or.inl rfl | exact Or.inr (Or.inl rfl) | exact Or.inr (Or.inr rfl)) pass0 (dacons (m := .data) (dcall G_ck hr rfl g_ck F_ck.kp b_ck pass0 (dacons (dv 1) (dacons (dv 2) (dacons (dv 3) danil)))) danil)))), ?_⟩
    have E0 : EnvOk K H Lc (fun _ => none) p {} H (L2.start nOf (V.ref (ga K "Query") :: rest)) [.no, .py a, .py b, .py c] := start_okN (N := nOf) o (.cons (.inl rfl) (Paired.mapP r fun v e h => .inr h) : Paired _ (V.ref (ga K "Query") :: rest) [EV.no, .py a, .py b, .py c]) (by show 4 ≤ 4; decide)
    refine ⟨rfl, H, Lc, _, p, {}, _, fun es => ∃ s d at_ cs, es = [.ob "Form" (formF s d at_ cs)] ∧ at_.length ≤ 10 ∧ cs.length ≤ 10 ∧ P' (.ob "Query" (queryF s d at_ cs)), E0, ?_, fun es1 H1 vs1 hes s1 o1 r1 x dx h1 h2 h3 => ?_⟩
    · show dCkForm [.py a, .py b, .py c] _
      have z : (fun e => ∃ s d at_ cs, e = EV.ob "Form" (formF s d at_ cs) ∧ at_.length ≤ 10 ∧ cs.length ≤ 10 ∧ P' (.ob "Query" (queryF s d at_ cs))) = fun e => ∃ s d at_ cs, [e] = [EV.ob "Form" (formF s d at_ cs)] ∧ at_.length ≤ 10 ∧ cs.length ≤ 10 ∧ P' (.ob "Query" (queryF s d at_ cs)) := by
        funext e
        simp
      show dCkForm [.py a, .py b, .py c] fun e => ∃ s d at_ cs, [e] = [EV.ob "Form" (formF s d at_ cs)] ∧ at_.length ≤ 10 ∧ cs.length ≤ 10 ∧ P' (.ob "Query" (queryF s d at_ cs))
      rw [← z]
      exact hg
    · obtain ⟨s0, d0, at_, cs, rfl, ha, hc, hP⟩ := hes
      rw [ls_none] at s1 o1 r1
      exact make_ini (P := P') o1 (Paired.mapP r1 fun v e h => .inr h) ⟨s0, d0, at_, cs, rfl, ha, hc, hP⟩ h1 h2 h3 fun e H' v hP s' o' r' => kk e H' v hP (s1.trans s') o' r'
/-- all is written, the keyword-only ones by name -/
theorem kb_all {x qual : Str} {params : Arguments} {body : List Stmt} {scope : Scope} {kws : List (Str × V)} {f : Addr} {fd : FuncData} {ps ks : List Str} (F : FunD K x qual params body scope [] kws f fd) (n : Nat)
    (h : ∀ (kV doc pm : Value) (an : Option Addr) (cdv ct : Value) (us ws : List Value), us.length = n → ws.length = ks.length → bindArgs (PySem.W.fnOf x qual params body scope .none kV doc pm an cdv ct) ⟨us, ks.zip ws⟩ = pure (ps.zip (us ++ ws))) : KBn K fd ps n ks (fun us ws => us ++ ws) (fun vs zs => vs ++ zs) := by
  obtain ⟨oc, od, dV, kV, doc, pm, an, cdv, ct, osl, rfl, lk, hcd, hD, hK⟩ := F.ex
  rcases hD with ⟨_, rfl⟩ | ⟨e, _⟩
  · exact ⟨fun s us ws X l1 l2 => BindsTo.of_eq (h kV doc pm an cdv ct us ws l1 l2), fun r1 r2 => r1.append r2⟩
  · exact absurd rfl e
theorem kb_of {f b : Addr} {fd : FuncData} (F : FunD K "of" "Query.of" (defArgs iOf) (defBody iOf) (defScope iOf) [] [("down", V.ref b)] f fd) : KBn K fd ["cls", "shown", "atoms", "down"] 3 ["down"] (fun us ws => us ++ ws) (fun vs zs => vs ++ zs) :=
  kb_all F 3 fun _ _ _ _ _ _ us ws h1 h2 => match us, ws, h1, h2 with | [_, _, _], [_], _, _ => rfl
theorem kb_with {f b : Addr} {fd : FuncData} (F : FunD K "with_shown_of" "Query.with_shown_of" (defArgs iWith) (defBody iWith) (defScope iWith) [] [("down", V.ref b)] f fd) : KBn K fd ["self", "columns", "down"] 2 ["down"] (fun us ws => us ++ ws) (fun vs zs => vs ++ zs) :=
  kb_all F 2 fun _ _ _ _ _ _ us ws h1 h2 => match us, ws, h1, h2 with | [_, _], [_], _, _ => rfl
end
end K14

/-! law_k14: the defs whose derivations tools/dk14.py prints. -/
namespace K14
open PySem PySem.Spec PyProof.Rows L2 Dr Rp Dw
open He (ga ma)
open He5 (wf)
abbrev sWithQ : Stmt := iWith
abbrev sBuiltQ : Stmt := sBuilt
abbrev sRightQ : Stmt := sRight

abbrev nWithQ : List Str := ["self", "columns", "down"]
theorem scWithQ : FnScope nWithQ ["self", "columns", "down"] (defScope sWithQ) := ⟨rfl, rfl, rfl, by decide +kernel, rfl, by decide +kernel, by decide +kernel⟩
def wWithQ : WS :=
  (wRet (wCMethK dOf 2 1 (wCons (wVar .data 1) (wCons (w1 (wVar .data 0) (wFld "Query" "_atoms")) wNil)) (wCons (wVar .data 2) wNil)))
def dWithQ : WD := wDef 3 3 wWithQ
section
variable {P : Program} {w : World} {K : PySem.W.Frag} {mg : Str → Option Value} {base : Heap}
theorem ok_WithQ {f : Addr} {fd : FuncData} {b : Addr} (F : FunD K "with_shown_of" "Query.with_shown_of" (defArgs sWithQ) (defBody sWithQ) (defScope sWithQ) [] [("down", V.ref b)] f fd) (T : TG K mg) (cl_Query : Cls K (ga K "Query")) (na_Query__atoms : NoAttr K (ga K "Query") "_atoms") {fd_Query_of : FuncData} {mc_Query : Value} (kC_Query : PySem.W.keepIn K (.ref (ga K "Query")) = true) (cr_Query : ClX.CRead K (ga K "Query") mc_Query) (cm_Query_of : ClX.CMet K (ga K "Query") mc_Query "of" (ma K (ga K "Query") "of") (wf K (ga K "Query") "classmethod" "of")) (G_Query_of : FnOk P w K mg base CX0 5 (wf K (ga K "Query") "classmethod" "of") fd_Query_of ["cls", "shown", "atoms", "down"] (spC K "Query" .data dOf)) {gg_Query_of_k1 : List Value → List Value → List Value} (b_Query_of_k1 : KBn K fd_Query_of ["cls", "shown", "atoms", "down"] 3 ["down"] gg_Query_of_k1 (fun vs zs => vs ++ zs)) : FnOk P w K mg base CX0 6 f fd ["self", "columns", "down"] (spW K .data dWithQ) := by
  have gC_Query := T.g "Query" (by decide +kernel)
  refine fn_W F scWithQ (by decide) (fun cdv A outer s H E hr => ?_)
  have hu : (A.deeper (envOfC "Query.with_shown_of" (defScope sWithQ) s.heap.objs.size f cdv)).units + 64 < cLine := hr.units
  have hu1 : (A.deeper (envOfC "Query.with_shown_of" (defScope sWithQ) s.heap.objs.size f cdv)).units + 1 < cLine := hu_of hr
  have hu2 : (A.deeper (envOfC "Query.with_shown_of" (defScope sWithQ) s.heap.objs.size f cdv)).units + 66 < cLine := by
    have := hr.un
    omega
  have r_Query_of : Room 5 (A.deeper (envOfC "Query.with_shown_of" (defScope sWithQ) s.heap.objs.size f cdv)) := hr.mono (by decide)
  exact (dss_one (ds_ret (dcmethK (n := 2) (C := "Query") rfl gC_Query kC_Query cr_Query cm_Query_of G_Query_of r_Query_of b_Query_of_k1 pass0 (dacons (dv 1) (dacons (dfld (C := "Query") cl_Query na_Query__atoms (dv 0)) danil)) (dpk_cons (dv 2) dpk_nil))))
end

abbrev nBuiltQ : List Str := ["_law_stream_here", "_law_plain", "_law_atoms", "_law_low"]
theorem scBuiltQ : FnScope nBuiltQ ["_law_stream_here", "_law_plain"] (defScope sBuiltQ) := ⟨rfl, rfl, rfl, by decide +kernel, rfl, by decide +kernel, by decide +kernel⟩
def wBuiltQ : WS :=
  (wSeq (wPar 2 3 (wCallA wDictA (wCons (wCallA dMixed (wCons (wVar .data 0) (wCons (w2 (wVar .read 1) (wC (.int 2)) wIx) wNil))) wNil)) (wCallA wTupleOf (wCons (wCallA dMixed (wCons (wVar .data 0) (wCons (w2 (wVar .read 1) (wC (.int 1)) wIx) wNil))) wNil)))
  (wRet (wCMethK dOf 2 1 (wCons (w2 (wVar .read 1) (wC (.int 0)) wIx) (wCons (wVar .data 2) wNil)) (wCons (wVar .data 3) wNil))))
def dBuiltQ : WD := wDef 4 2 wBuiltQ
section
variable {P : Program} {w : World} {K : PySem.W.Frag} {mg : Str → Option Value} {base : Heap}
theorem ok_BuiltQ {f : Addr} {fd : FuncData}  (F : FnP K "_law_built" sBuiltQ f fd) (T : TG K mg) {fd__law_mixed : FuncData} (F__law_mixed : FnP K "_law_mixed" sMixed (ga K "_law_mixed") fd__law_mixed) (G__law_mixed : FnOk P w K mg base CX0 2 (ga K "_law_mixed") fd__law_mixed ["_law_stream_here", "_law_items"] (spW K .fresh dMixed)) {fd_Query_of : FuncData} {mc_Query : Value} (kC_Query : PySem.W.keepIn K (.ref (ga K "Query")) = true) (cr_Query : ClX.CRead K (ga K "Query") mc_Query) (cm_Query_of : ClX.CMet K (ga K "Query") mc_Query "of" (ma K (ga K "Query") "of") (wf K (ga K "Query") "classmethod" "of")) (G_Query_of : FnOk P w K mg base CX0 5 (wf K (ga K "Query") "classmethod" "of") fd_Query_of ["cls", "shown", "atoms", "down"] (spC K "Query" .data dOf)) {gg_Query_of_k1 : List Value → List Value → List Value} (b_Query_of_k1 : KBn K fd_Query_of ["cls", "shown", "atoms", "down"] 3 ["down"] gg_Query_of_k1 (fun vs zs => vs ++ zs)) : FnOk P w K mg base CX0 6 f fd ["_law_stream_here", "_law_plain"] (spW K .data dBuiltQ) := by
  have b_dict := T.f "dict" (by decide +kernel)
  have b_tuple := T.f "tuple" (by decide +kernel)
  have gC_Query := T.g "Query" (by decide +kernel)
  have g__law_mixed := T.g "_law_mixed" (by decide +kernel)
  have b__law_mixed : Binds K fd__law_mixed ["_law_stream_here", "_law_items"] [] := F__law_mixed.bindsN fun _ _ _ _ _ _ us hl => match us, hl with | [_, _], _ => rfl
  refine fn_W F scBuiltQ (by decide) (fun cdv A outer s H E hr => ?_)
  have hu : (A.deeper (envOfC "_law_built" (defScope sBuiltQ) s.heap.objs.size f cdv)).units + 64 < cLine := hr.units
  have hu1 : (A.deeper (envOfC "_law_built" (defScope sBuiltQ) s.heap.objs.size f cdv)).units + 1 < cLine := hu_of hr
  have hu2 : (A.deeper (envOfC "_law_built" (defScope sBuiltQ) s.heap.objs.size f cdv)).units + 66 < cLine := by
    have := hr.un
    omega
  have r_Query_of : Room 5 (A.deeper (envOfC "_law_built" (defScope sBuiltQ) s.heap.objs.size f cdv)) := hr.mono (by decide)
  have r__law_mixed : Room 2 (A.deeper (envOfC "_law_built" (defScope sBuiltQ) s.heap.objs.size f cdv)) := hr.mono (by decide)
  exact (dss_cons (ds_par (i := 2) (j := 3) rfl scBuiltQ.nd rfl rfl (by decide) rfl rfl (dbt (brDictA rfl) (by decide +kernel) rfl b_dict (dacons (dcall G__law_mixed r__law_mixed rfl g__law_mixed F__law_mixed.kp b__law_mixed pass0 (dacons (dv 0) (dacons (dix hu1 (dv 1) dint) danil))) danil)) (dbt (brTuple (by decide)) (by decide +kernel) rfl b_tuple (dacons (dcall G__law_mixed r__law_mixed rfl g__law_mixed F__law_mixed.kp b__law_mixed pass0 (dacons (dv 0) (dacons (dix hu1 (dv 1) dint) danil))) danil)) rfl)
      (dss_one (ds_ret (dcmethK (n := 2) (C := "Query") rfl gC_Query kC_Query cr_Query cm_Query_of G_Query_of r_Query_of b_Query_of_k1 pass0 (dacons (dix hu1 (dv 1) dint) (dacons (dv 2) danil)) (dpk_cons (dv 3) dpk_nil)))))
end

abbrev nRightQ : List Str := ["_law_stream_here", "_law_plain", "_law_due", "_law_seen", "_law_other", "_law_turn", "_law_one", "_law_known", "_law_thing", "_law_some_here", "_law_found", "_law_two"]
theorem scRightQ : FnScope nRightQ ["_law_stream_here", "_law_plain"] (defScope sRightQ) := ⟨rfl, rfl, rfl, by decide +kernel, rfl, by decide +kernel, by decide +kernel⟩
def wRightQ : WS :=
  (wSeq (wPar 7 8 (wCallA dCols (wCons (wVar .data 1) wNil)) (wCallA dBuiltQ (wCons (wVar .data 0) (wCons (wVar .data 1) wNil))))
  (wSeq (wSet 2 (wLc (wSeqI (wVar .read 7)) (gN 6) wYes (wCallA wTup (wCons (wVar .data 6) (wCons (wCallA wTupleOf (wCons (wLc (wSeqI (wVar .read 7)) (gN 4) (wT1 (wCallA dIsNear (wCons (wVar .data 1) (wCons (wVar .data 6) (wCons (wVar .data 4) wNil)))) wTB) (wVar .data 4) [4]) wNil)) wNil))) [6]))
  (wSeq (wIfS (wT1 (w2 (wCallA wRepr (wCons (w1 (wCallA dNear (wCons (wVar .data 8) wNil)) wItemsL) wNil)) (wCallA wRepr (wCons (wVar .read 2) wNil)) (wEqS true)) wTB) (wRet (wC (.bool false))) wNext)
  (wSeq (wSet 3 (wCallA wTupleOf (wCons (wCallA dSome (wCons (wVar .data 0) (wCons (wVar .data 7) (wCons (wC (.int 0)) wNil)))) wNil)))
  (wSeq (wSet 4 (wMethK "Query" "with_shown_of" dWithQ 1 1 (wVar .data 8) (wCons (wVar .data 3) wNil) (wCons (wCut cutA (wVar .read 3) wNoP (wPart (wCallA dDraw (wCons (wVar .data 0) (wCons (w2 (wCallA wLen (wCons (wVar .read 3) wNil)) (wC (.int 1)) wAdd) wNil))))) wNil)))
  (wSeq (wIfS (wT1 (w2 (wCallA dNear (wCons (wVar .data 4) wNil)) (wCallA wDictA (wCons (wVar .read 2) wNil)) (wEqDD true)) wTB) (wRet (wC (.bool false))) wNext)
  (wSeq (wFor (wRng1 (wC (.int 8))) (gN 5) (wSeq (wSet 9 (wCallA wTupleOf (wCons (wCut cutA (wCallA dSome (wCons (wVar .data 0) (wCons (wVar .data 7) (wCons (wC (.int 0)) wNil)))) wNoP (wPart (wCallA dDraw (wCons (wVar .data 0) (wCons (wC (.int 5)) wNil))))) wNil)))
  (wSeq (wSet 10 (w2 (w2 (wCallA dHave (wCons (wVar .data 1) (wCons (wVar .data 9) wNil))) (wCallA wLst (wCons (wC .none) wNil)) wAdd) (wC (.int 0)) wIx))
  (wIfS (wTOr (wT1 (w2 (wCallA dHomeOf (wCons (wVar .data 8) (wCons (wVar .data 9) wNil))) (wVar .read 10) (wEq true)) wTB) (wT1 (w2 (wCallA dHomeOf (wCons (wVar .data 4) (wCons (w2 (wVar .read 9) (wVar .read 9) wAdd) wNil))) (wVar .read 10) (wEq true)) wTB)) (wRet (wC (.bool false))) wNext))))
  (wSeq (wFor (wSeqI (wVar .data 7)) (gN 6) (wIfS (wT1 (w2 (wCallA dHomeS (wCons (wVar .data 8) (wCons (wVar .data 6) wNil))) (w2 (wCallA dHave (wCons (wVar .data 1) (wCons (wCallA wLst (wCons (wVar .data 6) wNil)) wNil))) (wC (.int 0)) wIx) (wEq true)) wTB) (wRet (wC (.bool false))) wNext))
  (wSeq (wPar 6 11 (wCallA dPick (wCons (wVar .data 0) (wCons (wVar .data 7) wNil))) (wCallA dPick (wCons (wVar .data 0) (wCons (wVar .data 7) wNil))))
  (wRet (wAndV (w2 (wCallA dHomeS (wCons (wVar .data 8) (wCons (wVar .data 6) (wCons (wVar .data 11) wNil)))) (w2 (w2 (wCallA dHave (wCons (wVar .data 1) (wCons (wCallA wLst (wCons (wVar .data 6) (wCons (wVar .data 11) wNil))) wNil))) (wCallA wLst (wCons (wC .none) wNil)) wAdd) (wC (.int 0)) wIx) (wEq false)) (w2 (wCallA dHomeS (wCons (wVar .data 8) wNil)) (w2 (w2 (w2 (wVar .read 1) (wC (.int 2)) wIx) (wC (.int 0)) wIx) (wC (.int 0)) wIx) (wEq false)))))))))))))
def dRightQ : WD := wDef 12 2 wRightQ
section
variable {P : Program} {w : World} {K : PySem.W.Frag} {mg : Str → Option Value} {base : Heap}
theorem ok_RightQ {f : Addr} {fd : FuncData}  (F : FnP K "_law_right" sRightQ f fd) (T : TG K mg) {fd__law_columns : FuncData} (F__law_columns : FnP K "_law_columns" sCols (ga K "_law_columns") fd__law_columns) (G__law_columns : FnOk P w K mg base CX0 1 (ga K "_law_columns") fd__law_columns ["_law_plain"] (spW K .fresh dCols)) {fd__law_built : FuncData} (F__law_built : FnP K "_law_built" sBuiltQ (ga K "_law_built") fd__law_built) (G__law_built : FnOk P w K mg base CX0 6 (ga K "_law_built") fd__law_built ["_law_stream_here", "_law_plain"] (spW K .data dBuiltQ)) {fd__law_is_near : FuncData} (F__law_is_near : FnP K "_law_is_near" sIsNear (ga K "_law_is_near") fd__law_is_near) (G__law_is_near : FnOk P w K mg base CX0 1 (ga K "_law_is_near") fd__law_is_near ["_law_plain", "_law_one", "_law_other"] (spW K .data dIsNear)) {fd_neighbours : FuncData} (F_neighbours : FnP K "neighbours" sNear (ga K "neighbours") fd_neighbours) (G_neighbours : FnOk P w K mg base CX0 3 (ga K "neighbours") fd_neighbours ["query"] (spW K .fresh dNear)) {fd__law_some : FuncData} (F__law_some : FnP K "_law_some" sSome (ga K "_law_some") fd__law_some) (G__law_some : FnOk P w K mg base CX0 3 (ga K "_law_some") fd__law_some ["_law_stream_here", "_law_items", "_law_least"] (spW K .fresh dSome)) {fd__law_draw : FuncData} (F__law_draw : FnP K "_law_draw" sDraw (ga K "_law_draw") fd__law_draw) (G__law_draw : FnOk P w K mg base CX0 1 (ga K "_law_draw") fd__law_draw ["_law_stream_here", "_law_high"] (spW K .data dDraw)) {fd__law_have : FuncData} (F__law_have : FnP K "_law_have" sHave (ga K "_law_have") fd__law_have) (G__law_have : FnOk P w K mg base CX0 1 (ga K "_law_have") fd__law_have ["_law_plain", "_law_some_here"] (spW K .fresh dHave)) {fd_home_of : FuncData} (F_home_of : FnP K "home_of" sHomeOf (ga K "home_of") fd_home_of) (G_home_of : FnOk P w K mg base CX0 3 (ga K "home_of") fd_home_of ["query", "columns"] (spW K .data dHomeOf)) {fd_home : FuncData} (F_home : FnP K "home" sHomeS (ga K "home") fd_home) (G_home : FnR P w K mg base CX0 4 (ga K "home") (spW K .data dHomeS)) {fd__law_pick : FuncData} (F__law_pick : FnP K "_law_pick" sPick (ga K "_law_pick") fd__law_pick) (G__law_pick : FnOk P w K mg base CX0 2 (ga K "_law_pick") fd__law_pick ["_law_stream_here", "_law_items"] (spW K .data dPick)) (cl_Query : Cls K (ga K "Query")) {fd_with_shown_of : FuncData} (me_with_shown_of : Meth K (ga K "Query") "with_shown_of" (ma K (ga K "Query") "with_shown_of")) (G_with_shown_of : FnOk P w K mg base CX0 6 (ma K (ga K "Query") "with_shown_of") fd_with_shown_of ["self", "columns", "down"] (spW K .data dWithQ)) {gg_with_shown_of : List Value → List Value → List Value} (b_with_shown_of : KBn K fd_with_shown_of ["self", "columns", "down"] 2 ["down"] gg_with_shown_of (fun vs zs => vs ++ zs)) (hk : SysD K) : FnG P w K mg base CX0 7 f fd ["_law_stream_here", "_law_plain"] (spW K .data dRightQ) := by
  have b_dict := T.f "dict" (by decide +kernel)
  have b_len := T.f "len" (by decide +kernel)
  have b_list := T.f "list" (by decide +kernel)
  have b_range := T.f "range" (by decide +kernel)
  have b_repr := T.f "repr" (by decide +kernel)
  have b_tuple := T.f "tuple" (by decide +kernel)
  have g__law_columns := T.g "_law_columns" (by decide +kernel)
  have b__law_columns : Binds K fd__law_columns ["_law_plain"] [] := F__law_columns.bindsN fun _ _ _ _ _ _ us hl => match us, hl with | [_], _ => rfl
  have g__law_built := T.g "_law_built" (by decide +kernel)
  have b__law_built : Binds K fd__law_built ["_law_stream_here", "_law_plain"] [] := F__law_built.bindsN fun _ _ _ _ _ _ us hl => match us, hl with | [_, _], _ => rfl
  have g__law_is_near := T.g "_law_is_near" (by decide +kernel)
  have b__law_is_near : Binds K fd__law_is_near ["_law_plain", "_law_one", "_law_other"] [] := F__law_is_near.bindsN fun _ _ _ _ _ _ us hl => match us, hl with | [_, _, _], _ => rfl
  have g_neighbours := T.g "neighbours" (by decide +kernel)
  have b_neighbours : Binds K fd_neighbours ["query"] [] := F_neighbours.bindsN fun _ _ _ _ _ _ us hl => match us, hl with | [_], _ => rfl
  have g__law_some := T.g "_law_some" (by decide +kernel)
  have b__law_some : Binds K fd__law_some ["_law_stream_here", "_law_items", "_law_least"] [] := F__law_some.bindsN fun _ _ _ _ _ _ us hl => match us, hl with | [_, _, _], _ => rfl
  have g__law_draw := T.g "_law_draw" (by decide +kernel)
  have b__law_draw : Binds K fd__law_draw ["_law_stream_here", "_law_high"] [] := F__law_draw.bindsN fun _ _ _ _ _ _ us hl => match us, hl with | [_, _], _ => rfl
  have g__law_have := T.g "_law_have" (by decide +kernel)
  have b__law_have : Binds K fd__law_have ["_law_plain", "_law_some_here"] [] := F__law_have.bindsN fun _ _ _ _ _ _ us hl => match us, hl with | [_, _], _ => rfl
  have g_home_of := T.g "home_of" (by decide +kernel)
  have b_home_of : Binds K fd_home_of ["query", "columns"] [] := F_home_of.bindsN fun _ _ _ _ _ _ us hl => match us, hl with | [_, _], _ => rfl
  have g_home := T.g "home" (by decide +kernel)
  have g__law_pick := T.g "_law_pick" (by decide +kernel)
  have b__law_pick : Binds K fd__law_pick ["_law_stream_here", "_law_items"] [] := F__law_pick.bindsN fun _ _ _ _ _ _ us hl => match us, hl with | [_, _], _ => rfl
  refine fn_WG F scRightQ (by decide) (fun cdv A outer s H E hr hgd => ?_)
  have hu : (A.deeper (envOfC "_law_right" (defScope sRightQ) s.heap.objs.size f cdv)).units + 64 < cLine := hr.units
  have hu1 : (A.deeper (envOfC "_law_right" (defScope sRightQ) s.heap.objs.size f cdv)).units + 1 < cLine := hu_of hr
  have hu2 : (A.deeper (envOfC "_law_right" (defScope sRightQ) s.heap.objs.size f cdv)).units + 66 < cLine := by
    have := hr.un
    omega
  have r_with_shown_of : Room 6 (A.deeper (envOfC "_law_right" (defScope sRightQ) s.heap.objs.size f cdv)) := hr.mono (by decide)
  have r__law_columns : Room 1 (A.deeper (envOfC "_law_right" (defScope sRightQ) s.heap.objs.size f cdv)) := hr.mono (by decide)
  have r__law_built : Room 6 (A.deeper (envOfC "_law_right" (defScope sRightQ) s.heap.objs.size f cdv)) := hr.mono (by decide)
  have r__law_is_near : Room 1 (A.deeper (envOfC "_law_right" (defScope sRightQ) s.heap.objs.size f cdv)) := hr.mono (by decide)
  have r_neighbours : Room 3 (A.deeper (envOfC "_law_right" (defScope sRightQ) s.heap.objs.size f cdv)) := hr.mono (by decide)
  have r__law_some : Room 3 (A.deeper (envOfC "_law_right" (defScope sRightQ) s.heap.objs.size f cdv)) := hr.mono (by decide)
  have r__law_draw : Room 1 (A.deeper (envOfC "_law_right" (defScope sRightQ) s.heap.objs.size f cdv)) := hr.mono (by decide)
  have r__law_have : Room 1 (A.deeper (envOfC "_law_right" (defScope sRightQ) s.heap.objs.size f cdv)) := hr.mono (by decide)
  have r_home_of : Room 3 (A.deeper (envOfC "_law_right" (defScope sRightQ) s.heap.objs.size f cdv)) := hr.mono (by decide)
  have r_home : Room 4 (A.deeper (envOfC "_law_right" (defScope sRightQ) s.heap.objs.size f cdv)) := hr.mono (by decide)
  have r__law_pick : Room 2 (A.deeper (envOfC "_law_right" (defScope sRightQ) s.heap.objs.size f cdv)) := hr.mono (by decide)
  exact (dss_cons (ds_par2 (i := 7) (j := 8) rfl scRightQ.nd rfl rfl (by first | exact Or.inl rfl | exact Or.inr rfl) (by first | exact Or.inl rfl | exact Or.inr rfl) (dcall G__law_columns r__law_columns rfl g__law_columns F__law_columns.kp b__law_columns pass0 (dacons (dv 1) danil)) (dcall G__law_built r__law_built rfl g__law_built F__law_built.kp b__law_built pass0 (dacons (dv 0) (dacons (dv 1) danil))))
      (dss_cons (ds_setLc 2 [("_law_one", 6)] rfl scRightQ.nd rfl rfl (sw_true rfl rfl rfl (by decide +kernel)) (di_seq (dv 7)) (blkOk_by (own := [("_law_one", 6)]) (N := nRightQ) (sc := defScope sRightQ) (by decide +kernel)) (fun _ _ _ _ _ => (dg 6 scRightQ.nd rfl (by first | exact Or.inl rfl | exact Or.inr rfl))) (fun _ _ _ _ _ => dts_nil) (fun _ _ _ _ _ => (dtup (dacons (dv 6) (dacons (dbt (brTuple (by decide)) (by decide +kernel) rfl b_tuple (dacons (dlc [("_law_other", 4)] rfl scRightQ.nd (di_seq (dv 7)) (blkOk_by (by rfl)) (fun _ _ _ _ _ => (dg 4 scRightQ.nd rfl (by first | exact Or.inl rfl | exact Or.inr rfl))) (fun _ _ _ _ _ => (dts_one (dtest (dcall G__law_is_near r__law_is_near rfl g__law_is_near F__law_is_near.kp b__law_is_near pass0 (dacons (dv 1) (dacons (dv 6) (dacons (dv 4) danil))))))) (fun _ _ _ _ _ => (dv 4))) danil)) danil)))))
      (dss_cons (ds_if (tneS (dbf (brRepr hk hgd hu (by decide)) (by decide +kernel) rfl b_repr (dacons (dlistItems rfl (dcall G_neighbours r_neighbours rfl g_neighbours F_neighbours.kp b_neighbours pass0 (dacons (dv 8) danil)) rfl b_list (by decide +kernel)) danil)) (dbf (brRepr hk hgd hu (by decide)) (by decide +kernel) rfl b_repr (dacons (dv 2) danil))) (dss_one (ds_ret dbl)) dss_nil)
      (dss_cons (ds_set 3 scRightQ.nd rfl (by first | exact Or.inl rfl | exact Or.inr rfl) (dbt (brTuple (by decide)) (by decide +kernel) rfl b_tuple (dacons (dcall G__law_some r__law_some rfl g__law_some F__law_some.kp b__law_some pass0 (dacons (dv 0) (dacons (dv 7) (dacons dint danil)))) danil)))
      (dss_cons (ds_set 4 scRightQ.nd rfl (by first | exact Or.inl rfl | exact Or.inr rfl) (dmethK (n := 1) (C := "Query") cl_Query me_with_shown_of G_with_shown_of r_with_shown_of b_with_shown_of pass0 (dv 8) (dacons (dv 3) danil) (dpk_cons (dslice (dv 3) dno (dso (dcall G__law_draw r__law_draw rfl g__law_draw F__law_draw.kp b__law_draw pass0 (dacons (dv 0) (dacons (dadd (dbf (brLen (by decide)) (by decide +kernel) rfl b_len (dacons (dv 3) danil)) dint) danil))))) dpk_nil)))
      (dss_cons (ds_if (tneDD hu2 (dcall G_neighbours r_neighbours rfl g_neighbours F_neighbours.kp b_neighbours pass0 (dacons (dv 4) danil)) (dbt (brDictA rfl) (by decide +kernel) rfl b_dict (dacons (dv 2) danil))) (dss_one (ds_ret dbl)) dss_nil)
      (dss_cons (ds_for [5] rfl PassesOwn.never rfl (di_rng1 rfl b_range dint) (dg 5 scRightQ.nd rfl (by first | exact Or.inl rfl | exact Or.inr rfl)) (dss_cons (ds_set 9 scRightQ.nd rfl (by first | exact Or.inl rfl | exact Or.inr rfl) (dbt (brTuple (by decide)) (by decide +kernel) rfl b_tuple (dacons (dslice (dcall G__law_some r__law_some rfl g__law_some F__law_some.kp b__law_some pass0 (dacons (dv 0) (dacons (dv 7) (dacons dint danil)))) dno (dso (dcall G__law_draw r__law_draw rfl g__law_draw F__law_draw.kp b__law_draw pass0 (dacons (dv 0) (dacons dint danil))))) danil)))
      (dss_cons (ds_set 10 scRightQ.nd rfl (by first | exact Or.inl rfl | exact Or.inr rfl) (dix hu1 (dadd (dcall G__law_have r__law_have rfl g__law_have F__law_have.kp b__law_have pass0 (dacons (dv 1) (dacons (dv 9) danil))) (dlst (dacons dnon danil))) dint))
      (dss_one (ds_if (PW.pt (dw_or (tne hu (dcall G_home_of r_home_of rfl g_home_of F_home_of.kp b_home_of pass0 (dacons (dv 8) (dacons (dv 9) danil))) (dv 10)) (dw_or1 (tne hu (dcall G_home_of r_home_of rfl g_home_of F_home_of.kp b_home_of pass0 (dacons (dv 4) (dacons (dadd (dv 9) (dv 9)) danil))) (dv 10))))) (dss_one (ds_ret dbl)) dss_nil)))))
      (dss_cons (ds_for [6] rfl PassesOwn.never rfl (di_seq (dv 7)) (dg 6 scRightQ.nd rfl (by first | exact Or.inl rfl | exact Or.inr rfl)) (dss_one (ds_if (tne hu (dcallR G_home r_home rfl g_home F_home.kp pass0 (dacons (dv 8) (dacons (dv 6) danil))) (dix hu1 (dcall G__law_have r__law_have rfl g__law_have F__law_have.kp b__law_have pass0 (dacons (dv 1) (dacons (dlst (dacons (dv 6) danil)) danil))) dint)) (dss_one (ds_ret dbl)) dss_nil)))
      (dss_cons (ds_par (i := 6) (j := 11) rfl scRightQ.nd rfl rfl (by decide) rfl rfl (dcall G__law_pick r__law_pick rfl g__law_pick F__law_pick.kp b__law_pick pass0 (dacons (dv 0) (dacons (dv 7) danil))) (dcall G__law_pick r__law_pick rfl g__law_pick F__law_pick.kp b__law_pick pass0 (dacons (dv 0) (dacons (dv 7) danil))) rfl)
      (dss_one (ds_ret (dand (deq hu (dcallR G_home r_home rfl g_home F_home.kp pass0 (dacons (dv 8) (dacons (dv 6) (dacons (dv 11) danil)))) (dix hu1 (dadd (dcall G__law_have r__law_have rfl g__law_have F__law_have.kp b__law_have pass0 (dacons (dv 1) (dacons (dlst (dacons (dv 6) (dacons (dv 11) danil))) danil))) (dlst (dacons dnon danil))) dint)) (pe_one (deq hu (dcallR G_home r_home rfl g_home F_home.kp pass0 (dacons (dv 8) danil)) (dix hu1 (dix hu1 (dix hu1 (dv 1) dint) dint) dint)))))))))))))))
end

end K14

/-! Meanings over data: what comprehensions and loops come to. -/
namespace Dw
open PySem PySem.Spec PySem.W PySem.Calls PyProof.Rows L2 Dr Rp
/-- one turn of a comprehension -/
def lstep (g : WGt) (t : WT) (f : WF) (ρ : EnvD) (x : EV) (acc : List PyData) (k : List PyData → Prop) : Prop :=
  g x ρ fun ρ' => t ρ' fun b => if b = true then f ρ' fun e => match e with
    | .py d => acc.length < sizeLine ∧ k (acc ++ [d])
    | _ => False
    else k acc
theorem lc_go {g : WGt} {t : WT} {f : WF} {ρ : EnvD} {P : List PyData → Prop} (h : EV → List PyData) {n : Nat} : ∀ (xs : List EV) (acc : List PyData), acc.length + (xs.flatMap h).length ≤ n →
    (∀ x ∈ xs, ∀ (acc' : List PyData) (k : List PyData → Prop), acc'.length + (h x).length ≤ n → k (acc' ++ h x) → lstep g t f ρ x acc' k) → P (acc ++ xs.flatMap h) → wLcGo g t f ρ xs acc P
  | [], acc, _, _, p => by simpa [wLcGo] using p
  | x :: r, acc, hn, hs, p => by
    rw [List.flatMap_cons, List.length_append] at hn
    refine hs x List.mem_cons_self acc (fun acc' => wLcGo g t f ρ r acc' P) (by omega) ?_
    refine lc_go h r (acc ++ h x) (by rw [List.length_append]; omega) (fun y hy => hs y (List.mem_cons_of_mem _ hy)) ?_
    rw [List.flatMap_cons, ← List.append_assoc] at p
    exact p
/-- a comprehension that takes each -/
theorem lc_map {g : WGt} {t : WT} {f : WF} {ρ : EnvD} {P : List PyData → Prop} (h : EV → PyData) (xs : List EV) (hn : xs.length < sizeLine)
    (hs : ∀ x ∈ xs, ∀ (K : PyData → Prop), K (h x) → g x ρ fun ρ' => t ρ' fun b => b = true ∧ f ρ' fun e => match e with | .py d => K d | _ => False) (p : P (xs.map h))
    (mono : True := trivial) : True := trivial
def sstep (g : WGt) (t : WT) (f : WF) (ρ : EnvD) (x : EV) (acc : List Str) (k : List Str → Prop) : Prop :=
  g x ρ fun ρ' => t ρ' fun b => if b = true then f ρ' fun e => match e with
    | .py (.str s) => acc.length + 1 < scanBound ∧ k (acc ++ [s])
    | _ => False
    else k acc
theorem sg_go {g : WGt} {t : WT} {f : WF} {ρ : EnvD} {P : List Str → Prop} (h : EV → List Str) {n : Nat} : ∀ (xs : List EV) (acc : List Str), acc.length + (xs.flatMap h).length ≤ n →
    (∀ x ∈ xs, ∀ (acc' : List Str) (k : List Str → Prop), acc'.length + (h x).length ≤ n → k (acc' ++ h x) → sstep g t f ρ x acc' k) → P (acc ++ xs.flatMap h) → wSgGo g t f ρ xs acc P
  | [], acc, _, _, p => by simpa [wSgGo] using p
  | x :: r, acc, hn, hs, p => by
    rw [List.flatMap_cons, List.length_append] at hn
    refine hs x List.mem_cons_self acc (fun acc' => wSgGo g t f ρ r acc' P) (by omega) ?_
    refine sg_go h r (acc ++ h x) (by rw [List.length_append]; omega) (fun y hy => hs y (List.mem_cons_of_mem _ hy)) ?_
    rw [List.flatMap_cons, ← List.append_assoc] at p
    exact p
def sstep2 (g : WGt) (t : WT) (fi1 : WA) (g1 : WGt) (t1 : WT) (f : WF) (vs1 : List Nat) (ρ : EnvD) (x : EV) (acc : List Str) (k : List Str → Prop) : Prop :=
  g x ρ fun ρ2 => t ρ2 fun b => if b = true then noOwn ρ2 vs1 ∧ fi1 ρ2 fun ys => wSgGo g1 t1 f (wipeE ρ2 vs1) ys acc k else k acc
theorem sg2_go {g : WGt} {t : WT} {fi1 : WA} {g1 : WGt} {t1 : WT} {f : WF} {vs1 : List Nat} {ρ : EnvD} {P : List Str → Prop} (h : EV → List Str) {n : Nat} : ∀ (xs : List EV) (acc : List Str), acc.length + (xs.flatMap h).length ≤ n →
    (∀ x ∈ xs, ∀ (acc' : List Str) (k : List Str → Prop), acc'.length + (h x).length ≤ n → k (acc' ++ h x) → sstep2 g t fi1 g1 t1 f vs1 ρ x acc' k) → P (acc ++ xs.flatMap h) → wSg2Go g t fi1 g1 t1 f vs1 ρ xs acc P
  | [], acc, _, _, p => by simpa [wSg2Go] using p
  | x :: r, acc, hn, hs, p => by
    rw [List.flatMap_cons, List.length_append] at hn
    refine hs x List.mem_cons_self acc (fun acc' => wSg2Go g t fi1 g1 t1 f vs1 ρ r acc' P) (by omega) ?_
    refine sg2_go h r (acc ++ h x) (by rw [List.length_append]; omega) (fun y hy => hs y (List.mem_cons_of_mem _ hy)) ?_
    rw [List.flatMap_cons, ← List.append_assoc] at p
    exact p
def dstep (g : WGt) (t : WT) (fk fv : WF) (ρ : EnvD) (x : EV) (acc : List (PyData × PyData)) (k : List (PyData × PyData) → Prop) : Prop :=
  g x ρ fun ρ' => t ρ' fun b => if b = true then fk ρ' fun ek => fv ρ' fun ev => match ek, ev with
    | .py kd, .py d => ∃ key, keyD kd = some key ∧ acc.length < sizeLine ∧ k (putD acc key d)
    | _, _ => False
    else k acc
/-- a dict comprehension over different texts -/
theorem putD_new {acc : List (PyData × PyData)} {x : Str} {d : PyData} (h : ∀ q ∈ acc, q.1 ≠ .str x) (hk : ∀ q ∈ acc, ∃ y, q.1 = .str y) : putD acc (.inr x) d = acc ++ [(.str x, d)] := by
  unfold putD
  have : hasD acc (.inr x) = false := by
    unfold hasD
    rw [List.any_eq_false]
    intro q hq
    obtain ⟨y, e⟩ := hk q hq
    rw [e]
    simp only [keyD, decide_eq_true_eq]
    intro z
    have : y = x := Sum.inr.inj (Option.some.inj (of_decide_eq_true z))
    exact h q hq (by rw [e, this])
  rw [this]
  simp [kD, Rp.kD]
theorem dc_go {g : WGt} {t : WT} {fk fv : WF} {ρ : EnvD} {P : List (PyData × PyData) → Prop} (val : Str → PyData) : ∀ (xs : List Str) (done : List Str), (done ++ xs).Nodup → (done ++ xs).length < sizeLine →
    (∀ x ∈ xs, ∀ (acc' : List (PyData × PyData)) (k : List (PyData × PyData) → Prop), acc'.length < sizeLine → k (putD acc' (.inr x) (val x)) → dstep g t fk fv ρ (.py (.str x)) acc' k) →
    P ((done ++ xs).map fun x => (.str x, val x)) → wDcGo g t fk fv ρ (xs.map fun x => .py (.str x)) (done.map fun x => (.str x, val x)) P
  | [], done, _, _, _, p => by
    rw [List.append_nil] at p
    exact p
  | x :: r, done, nd, hn, hs, p => by
    have e : done ++ x :: r = (done ++ [x]) ++ r := by simp
    rw [List.map_cons]
    refine hs x List.mem_cons_self _ (fun acc' => wDcGo g t fk fv ρ (r.map fun x => .py (.str x)) acc' P) (by rw [List.length_map]; rw [List.length_append] at hn; omega) ?_
    have hx : x ∉ done := fun hx => by
      rw [List.nodup_append] at nd
      exact nd.2.2 x hx x List.mem_cons_self rfl
    rw [putD_new (fun q hq z => by
      obtain ⟨y, hy, rfl⟩ := List.mem_map.mp hq
      have : y = x := by injection z
      exact hx (this ▸ hy)) (fun q hq => by
      obtain ⟨y, hy, rfl⟩ := List.mem_map.mp hq
      exact ⟨y, rfl⟩)]
    have z := dc_go val r (done ++ [x]) (by rw [← e]; exact nd) (by rw [← e]; exact hn) (fun y hy => hs y (List.mem_cons_of_mem _ hy)) (P := P) (by rw [← e]; exact p)
    rw [List.map_append] at z
    exact z
/-! ### texts as data -/
def strsT (xs : List Str) : PyData := .tuple (xs.map .str)
def strsL (xs : List Str) : PyData := .list (xs.map .str)
theorem pys_strs (xs : List Str) : pys (xs.map fun x => .py (.str x)) = some (xs.map .str) := by
  induction xs with
  | nil => rfl
  | cons x r ih => rw [List.map_cons, List.map_cons, pys, ih] <;> rfl
theorem flat_strsD (xs : List Str) : (xs.map PyData.str).all flatD = true := by
  rw [List.all_eq_true]
  intro d hd
  obtain ⟨x, _, rfl⟩ := List.mem_map.mp hd
  rfl
theorem inD_strs (x : Str) (xs : List Str) : inD (.str x) (xs.map .str) = decide (x ∈ xs) := by
  unfold inD
  rw [List.any_map]
  induction xs with
  | nil => rfl
  | cons y r ih =>
    rw [List.any_cons, ih]
    by_cases e : y = x
    · subst e
      simp [PyData.eqv]
    · have e' : ¬ x = y := fun z => e z.symm
      simp [PyData.eqv, e, e']
theorem boolsD_map (bs : List Bool) : boolsD (bs.map .bool) = some bs := by
  induction bs with
  | nil => rfl
  | cons b r ih => rw [List.map_cons, boolsD, ih] <;> rfl
theorem map_py (ds : List PyData) : ds.map EV.py = ds.map fun d => .py d := rfl
end Dw

/-! law_k14: what the defs come to. -/
namespace K14
open PySem PySem.Spec PyProof.Rows L2 Dr Rp Dw
open He (ga ma)
def atD (ats : List (Str × List Str)) : List (PyData × PyData) := ats.map fun z => (.str z.1, strsT z.2)
def colsA (ats : List (Str × List Str)) : List Str := Sl.sSet (ats.flatMap (·.2))
def besS (r : List Str) (c : Str) : List Str := if c ∈ r then r.filter fun o => decide (o ≠ c) else []
def besideS (rows : List (List Str)) (c : Str) : List Str := Sl.sSet (rows.flatMap fun r => besS r c)
theorem eqv_str (x y : Str) : PyData.eqv (.str x) (.str y) = decide (x = y) := by
  rw [Bool.eq_iff_iff]
  simp [PyData.eqv]
theorem eqOk_str {x : Str} (h : PyData.strOk x = true) : eqOk (.str x) = true := by simp [eqOk, noDict, SeqAt.shaped, PyData.canLay0, PyData.depth, h]
def plainE (ρ : EnvD) : Bool := ρ.all fun e => match e with
  | .own _ => false
  | _ => true
theorem no_own {ρ : EnvD} {vs : List Nat} (h : plainE ρ = true) : noOwn ρ vs := fun i _ d e => by
  have := List.all_eq_true.mp h _ (List.mem_of_getElem? e)
  cases this
theorem flat_congr {α β : Type} {f g : α → List β} (h : ∀ x, f x = g x) (L : List α) : L.flatMap f = L.flatMap g := by rw [show f = g from funext h]
theorem besS_len (r : List Str) (c : Str) : (besS r c).length ≤ r.length := by
  unfold besS
  split
  · exact List.length_filter_le _ _
  · exact Nat.zero_le _
theorem m_beside {P : EV → Prop} {rows : List (List Str)} {c : Str} (hn : (rows.flatMap id).length + 1 < scanBound) (ok : ∀ r ∈ rows, ∀ o ∈ r, PyData.strOk o = true) (okc : PyData.strOk c = true) (h : P (.py (strsT (besideS rows c)))) : dBeside [.py (.list (rows.map strsT)), .py (.str c)] P := by
  refine ⟨rfl, ?_⟩
  refine ⟨no_own rfl, rows.map strsT, rfl, ?_⟩
  have hl : ∀ L : List (List Str), (L.flatMap fun r => besS r c).length ≤ (L.flatMap id).length := fun L => by
    induction L with
    | nil => exact Nat.le_refl _
    | cons r t ih =>
      rw [List.flatMap_cons, List.flatMap_cons, List.length_append, List.length_append]
      have := besS_len r c
      show (besS r c).length + _ ≤ r.length + _
      omega
  let hh : EV → List Str := fun e => match e with
    | .py (.tuple ds) => besS (ds.map wordD) c
    | _ => []
  have hh_ok : ∀ r : List Str, hh (.py (strsT r)) = besS r c := fun r => by
    show besS ((r.map PyData.str).map wordD) c = _
    rw [List.map_map]
    congr 1
    exact List.map_id'' (fun _ => rfl) r
  have hfl : (((rows.map strsT).map EV.py).flatMap hh) = rows.flatMap fun r => besS r c := by
    rw [List.map_map, List.flatMap_map]
    exact flat_congr hh_ok _
  refine sg2_go hh (n := (rows.flatMap id).length) _ _ (by rw [hfl]; simpa using hl rows) (fun x hx acc k hl2 hk => ?_) (by rw [hfl]; exact h)
  rw [List.map_map] at hx
  obtain ⟨r, hr, rfl⟩ := List.mem_map.mp hx
  have e1 : hh ((EV.py ∘ strsT) r) = besS r c := hh_ok r
  rw [e1] at hl2 hk
  refine ⟨r.map .str, rfl, rfl, flat_strsD r, ?_⟩
  show (if inD (.str c) (r.map .str) = true then _ else _)
  rw [inD_strs]
  by_cases hc : c ∈ r
  · rw [if_pos (by simpa using hc)]
    refine ⟨no_own rfl, r.map .str, rfl, ?_⟩
    unfold besS at hk hl2
    rw [if_pos hc] at hk hl2
    let h1 : EV → List Str := fun e => match e with
      | .py (.str o) => if o ≠ c then [o] else []
      | _ => []
    have hf1 : (((r.map PyData.str).map EV.py).flatMap h1) = r.filter fun o => decide (o ≠ c) := by
      rw [List.map_map, List.flatMap_map]
      clear hl2 hk hr hx hc e1
      induction r with
      | nil => rfl
      | cons o t ih =>
        rw [List.flatMap_cons, List.filter_cons, ih]
        show (if o ≠ c then [o] else []) ++ _ = _
        by_cases q : o = c <;> simp [q]
    refine sg_go h1 (n := (rows.flatMap id).length) _ _ (by rw [hf1]; exact hl2) (fun y hy acc2 k2 hl3 hk2 => ?_) (by rw [hf1]; exact hk)
    rw [List.map_map] at hy
    obtain ⟨o, ho, rfl⟩ := List.mem_map.mp hy
    refine ⟨⟨eqOk_str (ok r hr o ho), eqOk_str okc⟩, ?_⟩
    show (if (!PyData.eqv (.str o) (.str c)) = true then _ else _)
    rw [eqv_str]
    have e2 : h1 ((EV.py ∘ PyData.str) o) = if o ≠ c then [o] else [] := rfl
    rw [e2] at hk2 hl3
    by_cases q : o = c
    · rw [if_neg (by simp [q])]
      rw [if_neg (by simp [q])] at hk2
      simpa using hk2
    · rw [if_pos (by simp [q])]
      rw [if_pos q] at hk2 hl3
      refine ⟨?_, hk2⟩
      simp only [List.length_singleton] at hl3
      omega
  · rw [if_neg (by simpa using hc)]
    unfold besS at hk
    rw [if_neg hc, List.append_nil] at hk
    exact hk
theorem m_colsOf {P : EV → Prop} {ats : List (Str × List Str)} (hn : (ats.flatMap (·.2)).length + 1 < scanBound) (h : P (.py (strsT (colsA ats)))) : dColsOfQ [.py (.dict (atD ats))] P := by
  refine ⟨rfl, no_own rfl, ?_⟩
  let hh : EV → List Str := fun e => match e with
    | .py (.tuple ds) => ds.map wordD
    | _ => []
  have hh_ok : ∀ z : Str × List Str, hh (.py (strsT z.2)) = z.2 := fun z => by
    show ((z.2.map PyData.str).map wordD) = _
    rw [List.map_map]
    exact List.map_id'' (fun _ => rfl) z.2
  have he : ((atD ats).map fun q => EV.py q.2) = ats.map fun z => EV.py (strsT z.2) := by
    unfold atD
    rw [List.map_map]
    rfl
  have hfl : ((ats.map fun z => EV.py (strsT z.2)).flatMap hh) = ats.flatMap (·.2) := by
    rw [List.flatMap_map]
    exact flat_congr hh_ok _
  show wSg2Go _ _ _ _ _ _ _ _ ((atD ats).map fun q => EV.py q.2) [] _
  rw [he]
  refine sg2_go hh (n := (ats.flatMap (·.2)).length) _ _ (by rw [hfl]; simp) (fun x hx acc k hl2 hk => ?_) (by rw [hfl]; exact h)
  obtain ⟨z, hz, rfl⟩ := List.mem_map.mp hx
  rw [hh_ok] at hl2 hk
  refine ⟨no_own rfl, z.2.map .str, rfl, ?_⟩
  let h1 : EV → List Str := fun e => match e with
    | .py (.str o) => [o]
    | _ => []
  have hf1 : (((z.2.map PyData.str).map EV.py).flatMap h1) = z.2 := by
    rw [List.map_map, List.flatMap_map]
    generalize z.2 = r
    induction r with
    | nil => rfl
    | cons o t ih =>
      rw [List.flatMap_cons, ih]
      rfl
  refine sg_go h1 (n := (ats.flatMap (·.2)).length) _ _ (by rw [hf1]; exact hl2) (fun y hy acc2 k2 hl3 hk2 => ?_) (by rw [hf1]; exact hk)
  rw [List.map_map] at hy
  obtain ⟨o, ho, rfl⟩ := List.mem_map.mp hy
  have e2 : h1 ((EV.py ∘ PyData.str) o) = [o] := rfl
  rw [e2] at hk2 hl3
  refine ⟨?_, hk2⟩
  simp only [List.length_singleton] at hl3
  omega
theorem vals_atD (ats : List (Str × List Str)) : (atD ats).map (·.2) = (ats.map (·.2)).map strsT := by
  unfold atD
  rw [List.map_map, List.map_map]
  rfl
theorem flat_snd (ats : List (Str × List Str)) : (ats.map (·.2)).flatMap id = ats.flatMap (·.2) := by
  rw [List.flatMap_map]
  rfl
/-- a query whose rows are ats -/
structure QOk (ats : List (Str × List Str)) (cs : List Str) : Prop where
  few : (ats.flatMap (·.2)).length + 1 < scanBound
  ok : ∀ z ∈ ats, ∀ o ∈ z.2, PyData.strOk o = true
  okc : ∀ c ∈ cs, PyData.strOk c = true
  nd : cs.Nodup
  len : cs.length < sizeLine
theorem m_near {P : EV → Prop} {s d : List Str} {ats : List (Str × List Str)} {cs : List Str} (q : QOk ats cs) (h : P (.py (.dict (cs.map fun c => (.str c, strsT (besideS (ats.map (·.2)) c)))))) : dNear [.ob "Query" (queryF s d (atD ats) cs)] P := by
  refine ⟨rfl, rfl, rfl, by show 1 < 3; decide, rfl, rfl, rfl, _, rfl, ?_⟩
  refine ⟨no_own rfl, rfl, rfl, rfl, _, rfl, cs.map .str, rfl, ?_⟩
  show wDcGo _ _ _ _ _ ((cs.map PyData.str).map EV.py) [] _
  rw [List.map_map]
  refine dc_go (fun c => strsT (besideS (ats.map (·.2)) c)) cs [] q.nd q.len (fun c hc acc k hl hk => ?_) h
  show dBeside [.py (.list ((atD ats).map (·.2))), .py (.str c)] _
  rw [vals_atD]
  exact m_beside (by rw [flat_snd]; exact q.few) (fun r hr o ho => by obtain ⟨z, hz, rfl⟩ := List.mem_map.mp hr; exact q.ok z hz o ho) (q.okc c hc) ⟨.inr c, rfl, hl, hk⟩
/-- the first row that has all of ss -/
def homeD (ats : List (Str × List Str)) (ss : List Str) : PyData := match (ats.filter fun z => ss.all fun s => decide (s ∈ z.2)).map (·.1) with
  | [] => .none
  | a :: _ => .str a
theorem inv_for {g : WGt} {b : WS} {k : WK} (I : EnvD → Prop) : ∀ (xs : List EV) {ρ : EnvD}, I ρ → (∀ x ∈ xs, ∀ (ρ : EnvD) (k2 : WK), I ρ → k2.rt = k.rt → (∀ ρ', I ρ' → k2.nx ρ') → g x ρ fun ρ' => b ρ' k2) → (∀ ρ, I ρ → k.nx ρ) → wForGo g b xs ρ k
  | [], ρ, h, _, e => e ρ h
  | x :: r, ρ, h, s, e => s x List.mem_cons_self ρ { nx := fun ρ2 => wForGo g b r ρ2 k, ct := fun ρ2 => wForGo g b r ρ2 k, bk := k.nx, rt := k.rt } h rfl fun ρ' h' => inv_for I r h' (fun y hy => s y (List.mem_cons_of_mem _ hy)) e
/-- the rows one after another: the first that holds is handed back -/
theorem first_for {g : WGt} {b : WS} {k : WK} {α : Type} (enc : α → EV) (p : α → Bool) (out : α → EV) (I : EnvD → Prop) : ∀ (xs : List α) {ρ : EnvD}, I ρ →
    (∀ x ∈ xs, ∀ (ρ : EnvD) (k2 : WK), I ρ → (p x = true → k2.rt (out x)) → (p x = false → ∀ ρ', I ρ' → k2.nx ρ') → g (enc x) ρ fun ρ' => b ρ' k2) →
    (∀ x r, xs.filter p = x :: r → k.rt (out x)) → (xs.filter p = [] → ∀ ρ, I ρ → k.nx ρ) → wForGo g b (xs.map enc) ρ k
  | [], ρ, h, _, _, e => e rfl ρ h
  | x :: r, ρ, h, s, f, e => by
    rw [List.map_cons]
    refine s x List.mem_cons_self ρ { nx := fun ρ2 => wForGo g b (r.map enc) ρ2 k, ct := fun ρ2 => wForGo g b (r.map enc) ρ2 k, bk := k.nx, rt := k.rt } h (fun hp => f x (r.filter p) (by rw [List.filter_cons, if_pos hp])) fun hp ρ' h' => ?_
    have ef : (x :: r).filter p = r.filter p := by rw [List.filter_cons, if_neg (by simp [hp])]
    exact first_for enc p out I r h' (fun y hy => s y (List.mem_cons_of_mem _ hy)) (fun y t q => f y t (by rw [ef]; exact q)) fun q => e (by rw [ef]; exact q)
/-- a comprehension that takes each of xs -/
theorem lc_each {α : Type} {g : WGt} {t : WT} {f : WF} {ρ : EnvD} {P : List PyData → Prop} (enc : α → EV) (val : α → PyData) : ∀ (xs : List α) (acc : List PyData), acc.length + xs.length ≤ sizeLine →
    (∀ x ∈ xs, ∀ (acc' : List PyData) (k : List PyData → Prop), acc'.length < sizeLine → k (acc' ++ [val x]) → lstep g t f ρ (enc x) acc' k) → P (acc ++ xs.map val) → wLcGo g t f ρ (xs.map enc) acc P
  | [], acc, _, _, p => by simpa [wLcGo] using p
  | x :: r, acc, hn, hs, p => by
    rw [List.length_cons] at hn
    rw [List.map_cons]
    refine hs x List.mem_cons_self acc (fun acc' => wLcGo g t f ρ (r.map enc) acc' P) (by omega) ?_
    refine lc_each enc val r (acc ++ [val x]) (by rw [List.length_append, List.length_singleton]; omega) (fun y hy => hs y (List.mem_cons_of_mem _ hy)) ?_
    rw [List.map_cons, ← List.singleton_append, ← List.append_assoc] at p
    exact p
/-- a comprehension that takes those of xs that p likes -/
theorem lc_filter {α : Type} {g : WGt} {t : WT} {f : WF} {ρ : EnvD} {P : List PyData → Prop} (enc : α → EV) (val : α → PyData) (q : α → Bool) : ∀ (xs : List α) (acc : List PyData), acc.length + xs.length ≤ sizeLine →
    (∀ x ∈ xs, ∀ (acc' : List PyData) (k : List PyData → Prop), acc'.length < sizeLine → (q x = true → k (acc' ++ [val x])) → (q x = false → k acc') → lstep g t f ρ (enc x) acc' k) → P (acc ++ (xs.filter q).map val) → wLcGo g t f ρ (xs.map enc) acc P
  | [], acc, _, _, p => by simpa [wLcGo] using p
  | x :: r, acc, hn, hs, p => by
    rw [List.length_cons] at hn
    rw [List.map_cons]
    refine hs x List.mem_cons_self acc (fun acc' => wLcGo g t f ρ (r.map enc) acc' P) (by omega) (fun h => ?_) fun h => ?_
    · refine lc_filter enc val q r (acc ++ [val x]) (by rw [List.length_append, List.length_singleton]; omega) (fun y hy => hs y (List.mem_cons_of_mem _ hy)) ?_
      rw [List.filter_cons, if_pos h, List.map_cons, ← List.singleton_append, ← List.append_assoc] at p
      exact p
    · refine lc_filter enc val q r acc (by omega) (fun y hy => hs y (List.mem_cons_of_mem _ hy)) ?_
      rw [List.filter_cons, if_neg (by simp [h])] at p
      exact p
theorem strs_evs (xs : List Str) : (xs.map PyData.str).map EV.py = xs.map fun x => EV.py (.str x) := by
  rw [List.map_map]
  rfl
theorem plain_cons {e : EV} {ρ : EnvD} : plainE (e :: ρ) = true ↔ (∀ d, e ≠ .own d) ∧ plainE ρ = true := by
  unfold plainE
  rw [List.all_cons, Bool.and_eq_true]
  refine ⟨fun h => ⟨fun d q => ?_, h.2⟩, fun h => ⟨?_, h.2⟩⟩
  · subst q
    cases h.1
  · cases e with
    | own d => exact (h.1 d rfl).elim
    | _ => rfl
theorem gN_ok {i : Nat} {x e : EV} {ρ : EnvD} {P : EnvD → Prop} (h : ρ[i]? = some e) (n : ∀ d, e ≠ .own d) (p : P (ρ.set i x)) : gN i x ρ P := by
  unfold gN
  rw [h]
  cases e with
  | own d => exact (n d rfl).elim
  | _ => exact p
theorem not_own {ρ : EnvD} (h : plainE ρ = true) {e : EV} (he : e ∈ ρ) : ∀ d, e ≠ .own d := fun d q => by
  subst q
  have := List.all_eq_true.mp h _ he
  cases this
theorem plain_set {ρ : EnvD} {i : Nat} {e : EV} (h : plainE ρ = true) (he : ∀ d, e ≠ .own d) : plainE (ρ.set i e) = true := by
  unfold plainE at h ⊢
  rw [List.all_eq_true] at h ⊢
  intro x hx
  rcases List.mem_or_eq_of_mem_set hx with q | rfl
  · exact h x q
  · cases x with
    | own d => exact (he d rfl).elim
    | _ => rfl
theorem m_homeOf {P : EV → Prop} {s d : List Str} {ats : List (Str × List Str)} {cs ss : List Str} (hs : ∀ x ∈ ss, x ∈ cs) (hl : ss.length < sizeLine) (h : P (.py (homeD ats ss))) : dHomeOf [.ob "Query" (queryF s d (atD ats) cs), .py (strsT ss)] P := by
  refine ⟨rfl, rfl, rfl, true, by show kitB "tuple" "tuple" = some true; decide +kernel, ss.map .str, rfl, ?_⟩
  show wForGo _ _ ((ss.map PyData.str).map EV.py) _ _
  let I : EnvD → Prop := fun ρ => ∃ e2 e3 e4, ρ = [.ob "Query" (queryF s d (atD ats) cs), .py (strsT ss), e2, e3, e4] ∧ plainE [e2, e3, e4] = true
  rw [List.map_map]
  refine inv_for I _ (ρ := [_, _, .no, .no, .no]) ⟨.no, .no, .no, rfl, rfl⟩ (fun x hx ρ k2 ⟨e2, e3, e4, hρ, hp⟩ _ hk => ?_) fun ρ ⟨e2, e3, e4, hρ, hp⟩ => ?_
  · obtain ⟨c, hc, rfl⟩ := List.mem_map.mp hx
    subst hρ
    refine gN_ok (e := e2) rfl (not_own hp List.mem_cons_self) ?_
    refine ⟨rfl, rfl, rfl, rfl, _, rfl, cs.map .str, rfl, rfl, flat_strsD cs, ?_⟩
    show (if (!inD (.str c) (cs.map .str)) = true then False else k2.nx _)
    rw [inD_strs, if_neg (by simp [hs c hc])]
    exact hk _ ⟨_, e3, e4, rfl, plain_set (i := 0) hp (fun d q => nomatch q)⟩
  · subst hρ
    refine ⟨rfl, rfl, rfl, _, rfl, ?_⟩
    show wForGo _ _ (pairsD (atD ats)) _ _
    have he : pairsD (atD ats) = ats.map fun z => EV.py (.tuple [.str z.1, strsT z.2]) := by
      unfold pairsD atD
      rw [List.map_map]
      rfl
    rw [he]
    refine first_for (fun z : Str × List Str => EV.py (.tuple [.str z.1, strsT z.2])) (fun z => ss.all fun x => decide (x ∈ z.2)) (fun z => .py (.str z.1)) I ats ⟨e2, e3, e4, rfl, hp⟩ (fun z hz ρ k2 ⟨f2, f3, f4, hρ, hp2⟩ h1 h2 => ?_) (fun z r e => ?_) (fun e ρ ⟨f2, f3, f4, hρ, hp2⟩ => ?_)
    · subst hρ
      refine ⟨rfl, gN_ok (e := f3) rfl (not_own hp2 (by simp)) (gN_ok (e := f4) rfl (not_own hp2 (by simp)) ?_)⟩
      refine ⟨no_own (plain_cons.mpr ⟨(fun d q => nomatch q), plain_cons.mpr ⟨(fun d q => nomatch q), plain_cons.mpr ⟨(plain_cons.mp hp2).1, rfl⟩⟩⟩), ss.map .str, rfl, ?_⟩
      rw [strs_evs]
      refine lc_each (fun x => EV.py (.str x)) (fun x => .bool (decide (x ∈ z.2))) ss [] (by simp; omega) (fun x hx acc k3 hl3 hk3 => ?_) ?_
      · refine gN_ok (e := .no) rfl (fun d q => nomatch q) ⟨z.2.map .str, rfl, rfl, flat_strsD z.2, hl3, ?_⟩
        show k3 (acc ++ [.bool (inD (.str x) (z.2.map .str))])
        rw [inD_strs]
        exact hk3
      · rw [List.nil_append, show (ss.map fun x => PyData.bool (decide (x ∈ z.2))) = (ss.map fun x => decide (x ∈ z.2)).map .bool from by rw [List.map_map]; rfl]
        refine ⟨_, boolsD_map _, ?_⟩
        show (if ((ss.map fun x => decide (x ∈ z.2)).all id) = true then _ else _)
        rw [List.all_map]
        cases hq : ss.all fun x => decide (x ∈ z.2) with
        | true =>
          rw [if_pos (by simpa using hq)]
          exact h1 hq
        | false =>
          rw [if_neg (by simpa using hq)]
          exact h2 hq _ ⟨f2, .py (.str z.1), .py (strsT z.2), rfl, plain_cons.mpr ⟨(plain_cons.mp hp2).1, rfl⟩⟩
    · unfold homeD at h
      rw [e] at h
      exact h
    · unfold homeD at h
      rw [e] at h
      exact h
end K14

/-! law_k14: what a Form and a Query come to. -/
namespace K14
open PySem PySem.Spec PyProof.Rows L2 Dr Rp Dw
open He (ga ma)
def wk (x : Str) : Prop := isWord (.str x) = true ∧ PyData.strOk x = true ∧ x.length ≤ 8
structure AOk (ats : List (Str × List Str)) : Prop where
  one : ats ≠ []
  nm : ∀ z ∈ ats, wk z.1
  row : ∀ z ∈ ats, z.2 ≠ [] ∧ z.2.Nodup ∧ z.2.length ≤ 1000 ∧ ∀ o ∈ z.2, wk o
  nd : (ats.map (·.1)).Nodup
  few : (ats.flatMap (·.2)).length + 1 < scanBound
  len : ats.length < 64
theorem AOk.perm {a b : List (Str × List Str)} (h : AOk a) (p : b.Perm a) : AOk b := by
  refine ⟨fun e => h.one ?_, fun z hz => h.nm z (p.mem_iff.mp hz), fun z hz => h.row z (p.mem_iff.mp hz), (p.map _).nodup_iff.mpr h.nd, ?_, by rw [p.length_eq]; exact h.len⟩
  · subst e
    exact List.perm_nil.mp p.symm
  · rw [(p.flatMap_right _).length_eq]
    exact h.few
theorem namesOk_strs {xs : List Str} (nd : xs.Nodup) (w : ∀ o ∈ xs, wk o) : namesOk (strsT xs) = true := by
  unfold strsT namesOk
  rw [Bool.and_eq_true, List.all_map, List.map_map]
  refine ⟨List.all_eq_true.mpr fun o ho => (w o ho).1, ?_⟩
  rw [show xs.map (wordD ∘ PyData.str) = xs from List.map_id'' (fun _ => rfl) xs]
  exact decide_eq_true nd
theorem someOk_strs {xs cs : List Str} (nd : xs.Nodup) (w : ∀ o ∈ xs, wk o) (h : ∀ x ∈ xs, x ∈ cs) : someOk (strsT xs) cs = true := by
  unfold someOk
  rw [Bool.and_eq_true]
  refine ⟨namesOk_strs nd w, ?_⟩
  show (xs.map PyData.str).all _ = true
  rw [List.all_map, List.all_eq_true]
  exact fun x hx => decide_eq_true (h x hx)
theorem short_strs {xs : List Str} (w : ∀ o ∈ xs, wk o) : ∀ e ∈ itsD (strsT xs), shortS e := fun e he => by
  obtain ⟨o, ho, rfl⟩ := List.mem_map.mp (show e ∈ xs.map PyData.str from he)
  have := (w o ho).2.2
  show o.length ≤ 1000
  omega
theorem pairs_atD (ats : List (Str × List Str)) : pairsD (atD ats) = ats.map fun z => EV.py (.tuple [.str z.1, strsT z.2]) := by
  unfold pairsD atD
  rw [List.map_map]
  rfl
theorem m_areAt {P : EV → Prop} {ats : List (Str × List Str)} (A : AOk ats) (h : P (.py (.bool true))) : dAreAt [.py (.dict (atD ats))] P := by
  have e0 : (atD ats).isEmpty = false := by
    unfold atD
    rw [List.isEmpty_map]
    cases ats with
    | nil => exact (A.one rfl).elim
    | cons _ _ => rfl
  refine ⟨rfl, true, by show kitB "dict" "dict" = some true; decide +kernel, true, by show some (!(atD ats).isEmpty) = some true; rw [e0]; rfl, no_own rfl, ?_⟩
  show wLcGo _ _ _ _ (pairsD (atD ats)) [] _
  rw [pairs_atD]
  have hl := A.len
  refine lc_each (fun z : Str × List Str => EV.py (.tuple [.str z.1, strsT z.2])) (fun _ => .bool true) ats [] (by rw [List.length_nil]; exact Nat.le_trans (by omega) (show 64 ≤ sizeLine by decide)) (fun z hz acc k hl2 hk => ?_) ?_
  · have w := A.nm z hz
    obtain ⟨r1, r2, r3, r4⟩ := A.row z hz
    refine ⟨rfl, gN_ok (e := .no) rfl (fun d q => nomatch q) (gN_ok (e := .no) rfl (fun d q => nomatch q) ?_)⟩
    refine ⟨_, rfl, ?_, ?_⟩
    · have := w.2.2
      show z.1.length ≤ 1000
      omega
    · rw [w.1]
      refine ⟨_, rfl, short_strs r4, by show (z.2.map PyData.str).length ≤ 1000; rw [List.length_map]; exact r3, ?_⟩
      rw [namesOk_strs r2 r4]
      refine ⟨(z.2.map PyData.str).length, rfl, hl2, ?_⟩
      have : decide ((0 : Int) < ((z.2.map PyData.str).length : Nat)) = true := by
        rw [List.length_map]
        have := List.length_pos_iff.mpr r1
        simp
        omega
      show k (acc ++ [.bool (decide ((0 : Int) < ((z.2.map PyData.str).length : Nat)))])
      rw [this]
      exact hk
  · rw [List.nil_append, show (ats.map fun _ => PyData.bool true) = (ats.map fun _ => true).map .bool from by rw [List.map_map]; rfl]
    refine ⟨_, boolsD_map _, ?_⟩
    have : (ats.map fun _ => true).all id = true := by rw [List.all_map]; simp
    rw [this]
    exact h
theorem strs_sortD (d : List Str) : ∃ d' : List Str, sortD (d.map .str) = d'.map .str := by
  refine ⟨(sortD (d.map .str)).map wordD, ?_⟩
  have : ∀ {l : List PyData}, (∀ y ∈ l, y ∈ d.map PyData.str) → l = (l.map wordD).map PyData.str := fun {l} h => by
    induction l with
    | nil => rfl
    | cons y r ih =>
      obtain ⟨x, _, rfl⟩ := List.mem_map.mp (h y List.mem_cons_self)
      rw [List.map_cons, List.map_cons, ← ih fun z hz => h z (List.mem_cons_of_mem _ hz)] <;> rfl
  exact this fun y hy => (List.mergeSort_perm _ _).mem_iff.mp hy
theorem colsA_perm {a b : List (Str × List Str)} (p : b.Perm a) : colsA b = colsA a := by
  refine Sl.sSet_uniq (Sl.sSet_pair _) (Sl.sSet_nodup _) fun x => ?_
  show x ∈ Sl.sSet _ ↔ _
  rw [Sl.sSet_mem]
  exact (p.flatMap_right _).mem_iff
theorem noDicts_strs : ∀ l : List Str, noDict.noDicts (l.map PyData.str) = true
  | [] => rfl
  | x :: r => by
    rw [List.map_cons, noDict.noDicts, noDicts_strs r]
    rfl
theorem dGet_atD : ∀ {ats : List (Str × List Str)} {z : Str × List Str}, (ats.map (·.1)).Nodup → z ∈ ats → dGet (atD ats) (.inr z.1) = some (strsT z.2)
  | [], _, _, h => nomatch h
  | y :: r, z, nd, h => by
    show (if (some (Sum.inr y.1) : Option Key) = some (Sum.inr z.1) then some (strsT y.2) else dGet (atD r) (.inr z.1)) = _
    rcases List.mem_cons.mp h with rfl | h
    · rw [if_pos rfl]
    · rw [List.map_cons, List.nodup_cons] at nd
      rw [if_neg fun q => nd.1 (by
        have q : y.1 = z.1 := Sum.inr.inj (Option.some.inj q)
        rw [q]
        exact List.mem_map.mpr ⟨z, h, rfl⟩)]
      exact dGet_atD nd.2 h
/-- rows by their names, the names rising -/
def byNm (ats : List (Str × List Str)) : Prop := Sl.sSet (ats.map (·.1)) = ats.map (·.1)
theorem m_fini {P : List (Str × PyData) → Prop} {s d : List Str} {ats ats0 : List (Str × List Str)} (A : AOk ats) (p : ats0.Perm ats) (hb : byNm ats) (hd : d.length < 1000) (h : ∀ d' : List Str, P (formF s d' (atD ats) (colsA ats))) : dFIni [.py (strsT s), .py (.dict (atD ats0)), .py (strsT d)] P := by
  have A0 := A.perm p
  obtain ⟨d', hd'⟩ := strs_sortD d
  refine ⟨rfl, (fun q hq => nomatch hq), by simp, ?_⟩
  refine ⟨⟨?_, fun a ha b hb => ?_, .inr fun a ha => ?_, fun a ha => ?_⟩, fun q hq => ?_, by simp, ?_⟩
  · show noDict (.list (d.map .str)) = true
    rw [noDict]
    exact noDicts_strs d
  · obtain ⟨x, _, rfl⟩ := List.mem_map.mp ha
    obtain ⟨y, _, rfl⟩ := List.mem_map.mp hb
    rfl
  · obtain ⟨x, _, rfl⟩ := List.mem_map.mp ha
    exact ⟨(fun z => nomatch z), fun xs z => nomatch z⟩
  · obtain ⟨x, _, rfl⟩ := List.mem_map.mp ha
    exact Nat.zero_le _
  · rcases List.mem_cons.mp hq with rfl | hq
    · show ("shown_columns" : Str) ≠ "down_columns"
      decide
    · cases hq
  · refine ⟨no_own rfl, ats0.map (·.1), by unfold atD; rw [List.map_map, List.map_map]; rfl, A0.nd, by rw [List.length_map]; exact A0.len, _, rfl, ?_⟩
    have en : Sl.sSet (ats0.map (·.1)) = ats.map (·.1) := by
      rw [← hb]
      refine Sl.sSet_uniq (Sl.sSet_pair _) (Sl.sSet_nodup _) fun x => ?_
      rw [Sl.sSet_mem]
      exact (p.map _).mem_iff
    rw [en, strs_evs]
    let val : Str → PyData := fun x => (dGet (atD ats) (.inr x)).getD .none
    have hval : ∀ z ∈ ats, val z.1 = strsT z.2 := fun z hz => by
      show (dGet (atD ats) (.inr z.1)).getD .none = _
      rw [dGet_atD A.nd hz]
      rfl
    have hl := A.len
    refine dc_go val (ats.map (·.1)) [] (by rw [List.nil_append]; exact A.nd) (by rw [List.nil_append, List.length_map]; exact Nat.lt_trans hl (by decide)) (fun x hx acc k hl2 hk => ?_) ?_
    · obtain ⟨z, hz, rfl⟩ := List.mem_map.mp hx
      refine ⟨.inr z.1, strsT z.2, rfl, dGet_atD A0.nd (p.mem_iff.mpr hz), .inr z.1, rfl, hl2, ?_⟩
      rw [← hval z hz]
      exact hk
    · have ev : ((ats.map (·.1)).map fun x => (PyData.str x, val x)) = atD ats := by
        unfold atD
        rw [List.map_map]
        exact List.map_congr_left fun z hz => by
          show (PyData.str z.1, val z.1) = _
          rw [hval z hz]
      rw [show ((([] : List Str) ++ ats.map (·.1)).map fun x => (PyData.str x, val x)) = atD ats from by rw [List.nil_append]; exact ev]
      refine ⟨fun q hq => ?_, by simp, m_colsOf A0.few ⟨fun q hq => ?_, by simp, ?_⟩⟩
      · rcases List.mem_cons.mp hq with rfl | hq
        · show ("shown_columns" : Str) ≠ "atom_columns"
          decide
        · rcases List.mem_cons.mp hq with rfl | hq
          · show ("down_columns" : Str) ≠ "atom_columns"
            decide
          · cases hq
      · rcases List.mem_cons.mp hq with rfl | hq
        · show ("shown_columns" : Str) ≠ "all_columns"
          decide
        · rcases List.mem_cons.mp hq with rfl | hq
          · show ("down_columns" : Str) ≠ "all_columns"
            decide
          · rcases List.mem_cons.mp hq with rfl | hq
            · show ("atom_columns" : Str) ≠ "all_columns"
              decide
            · cases hq
      · rw [colsA_perm p, hd']
        exact h d'
/-- what is asked of the arguments of a query -/
structure SOk (s d : List Str) (ats : List (Str × List Str)) : Prop where
  s_nd : s.Nodup
  s_wk : ∀ o ∈ s, wk o
  s_in : ∀ o ∈ s, o ∈ colsA ats
  s_len : s.length < 1000
  d_nd : d.Nodup
  d_wk : ∀ o ∈ d, wk o
  d_in : ∀ o ∈ d, o ∈ s
  d_len : d.length < 1000
theorem m_ckForm {P : EV → Prop} {s d : List Str} {ats ats0 : List (Str × List Str)} (A : AOk ats) (p : ats0.Perm ats) (hb : byNm ats) (S : SOk s d ats) (h : ∀ d' : List Str, P (.ob "Form" (formF s d' (atD ats) (colsA ats)))) : dCkForm [.py (strsT s), .py (.dict (atD ats0)), .py (strsT d)] P := by
  have A0 := A.perm p
  have l1 := S.s_len
  have l2 := S.d_len
  refine ⟨rfl, m_areAt A0 ?_⟩
  refine m_colsOf A0.few ⟨_, colsA ats0, rfl, short_strs S.s_wk, by show (s.map PyData.str).length ≤ 1000; rw [List.length_map]; omega, ?_⟩
  rw [someOk_strs S.s_nd S.s_wk fun x hx => by rw [colsA_perm p]; exact S.s_in x hx]
  refine ⟨_, s, rfl, short_strs S.d_wk, by show (d.map PyData.str).length ≤ 1000; rw [List.length_map]; omega, ?_⟩
  rw [someOk_strs S.d_nd S.d_wk S.d_in]
  exact m_fini A p hb S.d_len h
theorem m_of {P : EV → Prop} {s d : List Str} {ats ats0 : List (Str × List Str)} (A : AOk ats) (p : ats0.Perm ats) (hb : byNm ats) (S : SOk s d ats) (h1 : ats.length ≤ 10) (h2 : (colsA ats).length ≤ 10) (h : ∀ d' : List Str, P (.ob "Query" (queryF s d' (atD ats) (colsA ats)))) : dOf [.py (strsT s), .py (.dict (atD ats0)), .py (strsT d)] P :=
  ⟨_, _, _, rfl, m_ckForm A p hb S fun d' => ⟨s, d', atD ats, colsA ats, rfl, by unfold atD; rw [List.length_map]; exact h1, h2, h d'⟩⟩
theorem m_with {P : EV → Prop} {s0 d0 s d : List Str} {ats : List (Str × List Str)} {cs : List Str} (A : AOk ats) (hb : byNm ats) (S : SOk s d ats) (h1 : ats.length ≤ 10) (h2 : (colsA ats).length ≤ 10) (h : ∀ d' : List Str, P (.ob "Query" (queryF s d' (atD ats) (colsA ats)))) : dWithQ [.ob "Query" (queryF s0 d0 (atD ats) cs), .py (strsT s), .py (strsT d)] P :=
  ⟨rfl, rfl, _, rfl, rfl, rfl, m_of A (.refl _) hb S h1 h2 h⟩
theorem m_home {P : EV → Prop} {s d : List Str} {ats : List (Str × List Str)} {cs ss : List Str} (hs : ∀ x ∈ ss, x ∈ cs) (hl : ss.length < sizeLine) (h : P (.py (homeD ats ss))) : dHomeS (.ob "Query" (queryF s d (atD ats) cs) :: ss.map fun x => EV.py (.str x)) P :=
  ⟨[.ob "Query" (queryF s d (atD ats) cs)], ss.map .str, by rw [strs_evs] <;> rfl, rfl, by rw [List.length_map]; omega, m_homeOf hs hl h⟩
def decA : PyData → Str × List Str
  | .tuple [.str n, .tuple ds] => (n, ds.map wordD)
  | _ => (Str.empty, [])
theorem dec_enc (z : Str × List Str) : decA (encA z) = z := by
  show (z.1, (z.2.map PyData.str).map wordD) = z
  rw [List.map_map, show z.2.map (wordD ∘ PyData.str) = z.2 from List.map_id'' (fun _ => rfl) z.2]
theorem perm_encA {ds : List PyData} {ats : List (Str × List Str)} (p : ds.Perm (ats.map encA)) : ∃ ats0 : List (Str × List Str), ds = ats0.map encA ∧ ats0.Perm ats := by
  have sd : ∀ {l : List PyData}, (∀ y ∈ l, y ∈ ats.map encA) → l = (l.map decA).map encA := fun {l} h => by
    induction l with
    | nil => rfl
    | cons y r ih =>
      obtain ⟨x, _, rfl⟩ := List.mem_map.mp (h y List.mem_cons_self)
      rw [List.map_cons, List.map_cons, ← ih fun z hz => h z (List.mem_cons_of_mem _ hz), dec_enc]
  refine ⟨ds.map decA, sd fun y hy => p.mem_iff.mp hy, ?_⟩
  have q := p.map decA
  rw [List.map_map, show ats.map (decA ∘ encA) = ats from List.map_id'' dec_enc ats] at q
  exact q
theorem pairsM_enc : ∀ ats : List (Str × List Str), pairsM (ats.map encA) = some (ats.map fun z => (.inr z.1, strsT z.2))
  | [] => rfl
  | z :: r => by
    rw [List.map_cons, List.map_cons]
    unfold encA pairsM
    rw [show pairsM (r.map fun a => PyData.tuple [.str a.1, .tuple (a.2.map .str)]) = some (r.map fun z => (.inr z.1, strsT z.2)) from pairsM_enc r]
    rfl
theorem merge_atD : ∀ (ats done : List (Str × List Str)), ((done ++ ats).map (·.1)).Nodup → mergeD (atD done) (ats.map fun z => ((Sum.inr z.1 : Key), strsT z.2)) = atD (done ++ ats)
  | [], done, _ => by
    rw [List.append_nil]
    rfl
  | z :: r, done, nd => by
    have e : done ++ z :: r = (done ++ [z]) ++ r := by simp
    have hz : ∀ y ∈ done, y.1 ≠ z.1 := fun y hy q => by
      rw [List.map_append, List.nodup_append] at nd
      exact nd.2.2 y.1 (List.mem_map.mpr ⟨y, hy, rfl⟩) z.1 (List.mem_map.mpr ⟨z, List.mem_cons_self, rfl⟩) q
    rw [List.map_cons]
    show mergeD (putD (atD done) (.inr z.1) (strsT z.2)) _ = _
    rw [putD_new (fun q hq => by
      obtain ⟨y, hy, rfl⟩ := List.mem_map.mp hq
      exact fun w => hz y hy (PyData.str.inj w)) (fun q hq => by
      obtain ⟨y, hy, rfl⟩ := List.mem_map.mp hq
      exact ⟨y.1, rfl⟩), e, ← merge_atD r (done ++ [z]) (by rw [← e]; exact nd)]
    congr 1
    unfold atD
    rw [List.map_append]
    rfl
theorem perm_strsD {ds : List PyData} {xs : List Str} (p : ds.Perm (xs.map .str)) : ∃ ys : List Str, ds = ys.map .str ∧ ys.Perm xs := by
  obtain ⟨ys, rfl, h⟩ := SubP.strsD (SubP.of_perm p)
  refine ⟨ys, rfl, ?_⟩
  have q := p.map wordD
  rw [List.map_map, List.map_map, show ys.map (wordD ∘ PyData.str) = ys from List.map_id'' (fun _ => rfl) ys, show xs.map (wordD ∘ PyData.str) = xs from List.map_id'' (fun _ => rfl) xs] at q
  exact q
theorem SOk.perm {s d d' : List Str} {ats : List (Str × List Str)} (S : SOk s d ats) (p : d'.Perm d) : SOk s d' ats :=
  ⟨S.s_nd, S.s_wk, S.s_in, S.s_len, p.nodup_iff.mpr S.d_nd, fun o h => S.d_wk o (p.mem_iff.mp h), fun o h => S.d_in o (p.mem_iff.mp h), by rw [p.length_eq]; exact S.d_len⟩
theorem m_built {P : EV → Prop} {x : Plain} (A : AOk x.ats) (hb : byNm x.ats) (S : SOk x.seen x.low x.ats) (h1 : x.ats.length ≤ 10) (h2 : (colsA x.ats).length ≤ 10) (h : ∀ d' : List Str, P (.ob "Query" (queryF x.seen d' (atD x.ats) (colsA x.ats)))) : dBuiltQ [.st, .py x.d] P := by
  have l2 := S.d_len
  refine ⟨rfl, by show 2 < 4; decide, by show 3 < 4; decide, _, rfl, _, _, rfl, rfl, by rw [List.length_map]; omega, fun ds' p => ?_⟩
  obtain ⟨ats0, rfl, p0⟩ := perm_encA p
  refine ⟨_, pairsM_enc ats0, ?_⟩
  rw [show mergeD [] (ats0.map fun z => ((Sum.inr z.1 : Key), strsT z.2)) = atD ats0 from merge_atD ats0 [] (by rw [List.nil_append]; exact (A.perm p0).nd)]
  refine ⟨_, rfl, _, _, rfl, rfl, by rw [List.length_map]; omega, fun ds2 p2 => ?_⟩
  obtain ⟨low0, rfl, q2⟩ := perm_strsD p2
  refine ⟨_, rfl, rfl, rfl, ?_⟩
  exact m_of A p0 hb (S.perm q2) h1 h2 h
end K14

/-! law_k14: a drawn plain query as rows. -/
namespace K14
open PySem PySem.Spec PySem.W PyProof.Rows L2 Dr Rp Dw
open He (ga ma)
theorem lex_head {a b : Int ⊕ List Nat} {r t : List (Int ⊕ List Nat)} (h : itemLt a b = true) : lexLt itemOrd (.inl 1 :: a :: r) (.inl 1 :: b :: t) = true := by
  have h1 : itemLt (.inl 1) (.inl 1) = false := by decide
  have h2 : itemOrd.blt a b = true := h
  have h3 : itemOrd.blt (.inl 1) (.inl 1) = false := h1
  rw [PyProof.Rows.lex_cons, PyProof.Rows.lex_cons, h2, h3]
  rfl
theorem le_names {a b : Str × List Str} (h : leA a b = true) : Sl.strLe a.1 b.1 = true := by
  have h : (!lexLt itemOrd (keyToks (encA b)) (keyToks (encA a))) = true := h
  show (!lexLt itemOrd (keyToks (.str b.1)) (keyToks (.str a.1))) = true
  cases q : itemLt (.inr b.1.cps.toList) (.inr a.1.cps.toList) with
  | true =>
    unfold encA at h
    simp only [keyToks, keyToksAll, List.singleton_append, List.cons_append, List.nil_append] at h
    rw [lex_head q] at h
    cases h
  | false =>
    have h3 : itemOrd.blt (.inr b.1.cps.toList) (.inr a.1.cps.toList) = false := q
    simp only [keyToks]
    rw [PyProof.Rows.lex_cons, h3, Bool.false_or, show PyProof.Rows.lexLt itemOrd [] [] = false from rfl, Bool.and_false]
    rfl
theorem words18 : ∀ x ∈ nm18, isWord (.str x) = true ∧ PyData.strOk x = true ∧ x.length ≤ 8 := by decide +kernel
theorem byNm_of {x : Plain} {cols : List Str} (h : x.Ok cols) : byNm x.ats := by
  refine (Sl.sSet_uniq ?_ h.names.1 fun _ => Iff.rfl).symm
  rw [List.pairwise_map]
  exact h.srt.imp fun {a b} h => le_names h
theorem flat_len {α : Type} {n : Nat} : ∀ {L : List (α × List Str)}, (∀ z ∈ L, z.2.length ≤ n) → (L.flatMap (·.2)).length ≤ n * L.length
  | [], _ => Nat.zero_le _
  | z :: r, h => by
    rw [List.flatMap_cons, List.length_append, List.length_cons, Nat.mul_succ]
    have h1 := h z List.mem_cons_self
    have h2 := flat_len (L := r) fun y hy => h y (List.mem_cons_of_mem _ hy)
    omega
theorem rows_of {x : Plain} {cols : List Str} (h : x.Ok cols) : ∀ z ∈ x.ats, z.2 ≠ [] ∧ z.2.Nodup ∧ ∀ c ∈ z.2, c ∈ cols := fun z hz => by
  have := h.rows.row z.2 (List.mem_map.mpr ⟨z, hz, rfl⟩)
  rw [List.drop_zero] at this
  exact this
theorem aok_of {x : Plain} {cols : List Str} (h : x.Ok cols) (hc : cols.length ≤ 18) (hl : x.ats.length ≤ 10) : AOk x.ats := by
  have r := rows_of h
  have rl : ∀ z ∈ x.ats, z.2.length ≤ 18 := fun z hz => Nat.le_trans (nodup_le z.2 cols (r z hz).2.1 (r z hz).2.2) hc
  refine ⟨fun e => ?_, fun z hz => words18 _ (h.names.2 _ (List.mem_map.mpr ⟨z, hz, rfl⟩)), fun z hz => ⟨(r z hz).1, (r z hz).2.1, Nat.le_trans (rl z hz) (by decide), fun o ho => words18 _ (h.nm _ ((r z hz).2.2 o ho))⟩, h.names.1, ?_, by omega⟩
  · exact h.rows.one (by rw [e]; rfl)
  · have := flat_len rl
    show _ < 4096
    omega
theorem cols_of {x : Plain} {cols : List Str} (h : x.Ok cols) : ∀ c, c ∈ colsA x.ats ↔ c ∈ cols := fun c => by
  show c ∈ Sl.sSet _ ↔ _
  rw [Sl.sSet_mem, List.mem_flatMap]
  refine ⟨fun ⟨z, hz, hc⟩ => (rows_of h z hz).2.2 c hc, fun hc => ?_⟩
  obtain ⟨r, hr, hcr⟩ := h.rows.all c (by rw [List.drop_zero]; exact hc)
  obtain ⟨z, hz, rfl⟩ := List.mem_map.mp hr
  exact ⟨z, hz, hcr⟩
theorem colsA_len {x : Plain} {cols : List Str} (h : x.Ok cols) : (colsA x.ats).length ≤ cols.length := nodup_le _ cols (Sl.sSet_nodup _) fun c hc => (cols_of h c).mp hc
theorem sok_of {x : Plain} {cols : List Str} (h : x.Ok cols) (hc : cols.length ≤ 18) : SOk x.seen x.low x.ats := by
  have m := h.seen.mem
  have n1 := h.seen.nodup h.nd
  have l1 := h.seen.len
  refine ⟨n1, fun o ho => words18 _ (h.nm _ (m o ho)), fun o ho => (cols_of h o).mpr (m o ho), by omega, h.low.2.1, fun o ho => words18 _ (h.nm _ (m o (h.low.1 o ho))), h.low.1, ?_⟩
  have := nodup_le x.low x.seen h.low.2.1 h.low.1
  omega
theorem qok_of {x : Plain} {cols : List Str} (h : x.Ok cols) (hc : cols.length ≤ 18) (hl : x.ats.length ≤ 10) : QOk x.ats (colsA x.ats) := by
  have A := aok_of h hc hl
  have l := colsA_len h
  exact ⟨A.few, fun z hz o ho => ((A.row z hz).2.2.2 o ho).2.1, fun c hcc => (words18 _ (h.nm _ ((cols_of h c).mp hcc))).2.1, Sl.sSet_nodup _, Nat.lt_of_le_of_lt (Nat.le_trans l hc) (by decide)⟩
theorem near_beside {x : Plain} {c : Str} : (x.cols.filter fun o => near x c o) = besideS (x.ats.map (·.2)) c := by
  refine Sl.sSet_uniq ((Sl.sSet_pair _).filter _) ((Sl.sSet_nodup _).filter _) fun o => ?_
  rw [List.mem_filter, List.mem_flatMap]
  show o ∈ Sl.sSet _ ∧ _ ↔ _
  rw [Sl.sSet_mem, List.mem_flatMap]
  unfold near besS
  constructor
  · rintro ⟨_, h⟩
    rw [Bool.and_eq_true, List.any_eq_true] at h
    obtain ⟨h1, z, hz, h2⟩ := h
    rw [Bool.and_eq_true] at h2
    refine ⟨z.2, List.mem_map.mpr ⟨z, hz, rfl⟩, ?_⟩
    rw [if_pos (of_decide_eq_true h2.1), List.mem_filter]
    exact ⟨of_decide_eq_true h2.2, decide_eq_true fun e => of_decide_eq_true h1 e.symm⟩
  · rintro ⟨r, hr, h⟩
    obtain ⟨z, hz, rfl⟩ := List.mem_map.mp hr
    split at h
    · rename_i hc
      obtain ⟨h1, h2⟩ := List.mem_filter.mp h
      refine ⟨⟨z, hz, h1⟩, ?_⟩
      rw [Bool.and_eq_true, List.any_eq_true]
      exact ⟨decide_eq_true fun e => of_decide_eq_true h2 e.symm, z, hz, by rw [Bool.and_eq_true]; exact ⟨decide_eq_true hc, decide_eq_true h1⟩⟩
    · cases h
theorem home_have {x : Plain} {ss : List Str} : ((have_ x ss).map PyData.str ++ [.none])[0]? = some (homeD x.ats ss) := by
  unfold have_ homeD
  cases q : (x.ats.filter fun z => ss.all fun s => decide (s ∈ z.2)).map (·.1) with
  | nil => rfl
  | cons a r => rfl
end K14

/-! law_k14: _law_right gives True. -/
namespace K14
open PySem PySem.Spec PyProof.Rows L2 Dr Rp Dw
open He (ga ma)
def dueD (x : Plain) : List PyData := x.cols.map fun c => .tuple [.str c, strsT (x.cols.filter fun o => near x c o)]
theorem due_near (x : Plain) : pairL ((colsA x.ats).map fun c => (.str c, strsT (besideS (x.ats.map (·.2)) c))) = dueD x := by
  unfold pairL dueD
  rw [List.map_map]
  show (colsA x.ats).map _ = (colsA x.ats).map _
  refine List.map_congr_left fun c _ => ?_
  rw [near_beside]
  rfl
theorem sz18 : ∀ c ∈ nm18, Rp.Sz 2 20 (.str c) := by
  have h : (nm18.all fun c => (PyData.str c).showable && (decide ((PyData.str c).depth ≤ 2) && decide ((PyData.str c).shown.length ≤ 20))) = true := by decide +kernel
  intro c hc
  have := List.all_eq_true.mp h c hc
  rw [Bool.and_eq_true, Bool.and_eq_true] at this
  exact ⟨this.1, of_decide_eq_true this.2.1, of_decide_eq_true this.2.2⟩
def dAts (x : Plain) : List (Str × List Str) := x.cols.map fun c => (c, x.cols.filter fun o => near x c o)
theorem due_enc (x : Plain) : dueD x = (dAts x).map encA := by
  unfold dueD dAts
  rw [List.map_map]
  rfl
theorem dAts_fst (x : Plain) : (dAts x).map (·.1) = x.cols := by
  unfold dAts
  rw [List.map_map]
  exact List.map_id'' (fun _ => rfl) _
theorem near_atD (x : Plain) : ((colsA x.ats).map fun c => (PyData.str c, strsT (besideS (x.ats.map (·.2)) c))) = atD (dAts x) := by
  unfold atD dAts
  rw [List.map_map]
  show (colsA x.ats).map _ = (colsA x.ats).map _
  refine List.map_congr_left fun c _ => ?_
  rw [← near_beside]
  rfl
theorem eqOk_strs {xs : List Str} (h : ∀ o ∈ xs, o ∈ nm18) : eqOk (strsT xs) = true := by
  unfold eqOk
  rw [Bool.and_eq_true]
  refine ⟨by unfold strsT; rw [noDict]; exact noDicts_strs xs, ?_⟩
  have z := shaped_strs xs h
  unfold SeqAt.shaped at z ⊢
  rw [Bool.and_eq_true] at z ⊢
  exact z
theorem eq_atD {es : List (Str × List Str)} (nd : (es.map (·.1)).Nodup) (ok : ∀ z ∈ es, ∀ o ∈ z.2, o ∈ nm18) : ∀ ds : List (Str × List Str), (∀ z ∈ ds, z ∈ es) → eqKv (atD es) (atD ds) = some true
  | [], _ => rfl
  | z :: r, h => by
    have hz := h z List.mem_cons_self
    have o := eqOk_strs (ok z hz)
    have e := Rp.eq_self (d := strsT z.2) (by unfold eqOk at o; rw [Bool.and_eq_true] at o; exact o.2)
    show (match dGet (atD es) (.inr z.1) with
      | none => some false
      | some d' => if (eqOk (strsT z.2) && eqOk d') = true then (eqKv (atD es) (atD r)).map fun b => PyData.eqv (strsT z.2) d' && b else none) = _
    rw [dGet_atD nd hz]
    dsimp only
    rw [o, eq_atD nd ok r fun y hy => h y (List.mem_cons_of_mem _ hy), e]
    rfl
theorem homeD_ok {x : Plain} {cols : List Str} (O : x.Ok cols) (ss : List Str) : eqOk (homeD x.ats ss) = true := by
  unfold homeD
  cases q : (x.ats.filter fun z => ss.all fun s => decide (s ∈ z.2)).map (·.1) with
  | nil => decide
  | cons a r =>
    have ha : a ∈ x.ats.map (·.1) := by
      have : a ∈ (x.ats.filter fun z => ss.all fun s => decide (s ∈ z.2)).map (·.1) := by rw [q]; exact List.mem_cons_self
      obtain ⟨z, hz, rfl⟩ := List.mem_map.mp this
      exact List.mem_map.mpr ⟨z, (List.mem_filter.mp hz).1, rfl⟩
    exact eqOk_str (words18 a (O.names.2 a ha)).2.1
theorem eqOk_self {d : PyData} (h : eqOk d = true) : PyData.eqv d d = true := Rp.eq_self (by unfold eqOk at h; rw [Bool.and_eq_true] at h; exact h.2)
theorem homeD_twice (ats : List (Str × List Str)) (ss : List Str) : homeD ats (ss ++ ss) = homeD ats ss := by
  unfold homeD
  rw [show (fun z : Str × List Str => (ss ++ ss).all fun s => decide (s ∈ z.2)) = fun z => ss.all fun s => decide (s ∈ z.2) from funext fun z => by rw [List.all_append, Bool.and_self]]
theorem atI_zero {α : Type} (xs : List α) : atI xs 0 = xs[0]? := by
  unfold atI ixN
  cases xs with
  | nil => rfl
  | cons a r => simp
theorem have_len (x : Plain) (ss : List Str) : (have_ x ss).length ≤ x.ats.length := by
  unfold have_
  rw [List.length_map]
  exact List.length_filter_le _ _
theorem home_at (x : Plain) (ss : List Str) : atI ((have_ x ss).map PyData.str ++ [.none]) 0 = some (homeD x.ats ss) := by
  rw [atI_zero]
  exact home_have
theorem home_at1 (x : Plain) (ss : List Str) (h : have_ x ss ≠ []) : atI ((have_ x ss).map PyData.str) 0 = some (homeD x.ats ss) := by
  rw [atI_zero]
  unfold have_ at h ⊢
  unfold homeD
  cases q : (x.ats.filter fun z => ss.all fun s => decide (s ∈ z.2)).map (·.1) with
  | nil => exact absurd q h
  | cons a r => rfl
theorem have_one {x : Plain} {cols : List Str} (O : x.Ok cols) {c : Str} (h : c ∈ x.cols) : have_ x [c] ≠ [] := fun e => by
  have hc : c ∈ Sl.sSet (x.ats.flatMap (·.2)) := h
  rw [Sl.sSet_mem, List.mem_flatMap] at hc
  obtain ⟨z, hz, hcz⟩ := hc
  have : z.1 ∈ have_ x [c] := List.mem_map.mpr ⟨z, List.mem_filter.mpr ⟨hz, by simpa using hcz⟩, rfl⟩
  rw [e] at this
  cases this
theorem m_right {P : EV → Prop} {x : Plain} {cols : List Str} (O : x.Ok cols) (hc : cols.length ≤ 10) (hne : cols ≠ []) (hl : x.ats.length ≤ 10) (h : P (.py (.bool true))) : dRightQ [.st, .py x.d] P := by
  have A := aok_of O (by omega) hl
  have hb := byNm_of O
  have S := sok_of O (by omega)
  have Qk := qok_of O (by omega) hl
  have lc : (colsA x.ats).length ≤ 10 := Nat.le_trans (colsA_len O) hc
  have lc' : x.cols.length ≤ 10 := lc
  have hbig : 1000 ≤ sizeLine := by decide
  have rl : ∀ z ∈ x.ats, z.2.length ≤ 100 := fun z hz => by
    have := nodup_le z.2 cols (rows_of O z hz).2.1 (rows_of O z hz).2.2
    omega
  refine ⟨rfl, by show 7 < 12; decide, by show 8 < 12; decide, x, rfl, by omega, rl, ?_⟩
  refine m_built A hb S hl lc fun d' => ?_
  refine ⟨by show 2 < 12; decide, no_own rfl, x.cols.map .str, rfl, ?_⟩
  rw [strs_evs]
  refine lc_each (fun c => EV.py (.str c)) (fun c => .tuple [.str c, strsT (x.cols.filter fun o => near x c o)]) x.cols [] (by rw [List.length_nil]; omega) (fun c hcc acc k hl2 hk => ?_) ?_
  · refine gN_ok (e := .no) rfl (fun d q => nomatch q) ⟨no_own rfl, x.cols.map .str, rfl, ?_⟩
    rw [strs_evs]
    refine lc_filter (fun o => EV.py (.str o)) (fun o => .str o) (fun o => near x c o) x.cols [] (by rw [List.length_nil]; omega) (fun o ho acc2 k2 hl3 h1 h2 => ?_) ?_
    · refine gN_ok (e := .no) rfl (fun d q => nomatch q) ⟨x, c, o, rfl, by omega, ?_⟩
      show (if near x c o = true then _ else _)
      cases q : near x c o with
      | true =>
        rw [if_pos rfl]
        exact ⟨hl3, h1 q⟩
      | false =>
        rw [if_neg (by decide)]
        exact h2 q
    · rw [List.nil_append]
      exact ⟨_, rfl, by show 2 ≤ sizeLine; decide, hl2, hk⟩
  · rw [List.nil_append]
    refine m_near Qk ?_
    have sz1 : ∀ xs : List Str, (∀ o ∈ xs, o ∈ nm18) → xs.length ≤ 10 → Rp.Sz 3 223 (strsT xs) := fun xs hx hl => Rp.sz_tuple (b := 20) (c := 10) (fun d hd => by
      obtain ⟨o, ho, rfl⟩ := List.mem_map.mp hd
      exact sz18 o (hx o ho)) (by rw [List.length_map]; exact hl)
    have mem18 : ∀ o ∈ x.cols, o ∈ nm18 := fun o ho => O.nm o ((cols_of O o).mp ho)
    have szc : Rp.Sz 50 10000 (.list (dueD x)) := by
      refine (Rp.sz_list (e := 4) (b := 453) (c := 10) (fun d hd => ?_) (by unfold dueD; rw [List.length_map]; exact lc')).mono (by decide) (by decide)
      obtain ⟨c, hcc, rfl⟩ := List.mem_map.mp hd
      refine Rp.sz_tuple (e := 3) (b := 223) (c := 2) (fun d hd => ?_) (by show 2 ≤ 2; decide)
      rcases List.mem_cons.mp hd with rfl | hd
      · exact (sz18 c (mem18 c hcc)).mono (by decide) (by decide)
      · rcases List.mem_cons.mp hd with rfl | hd
        · exact sz1 _ (fun o ho => mem18 o (List.mem_filter.mp ho).1) (Nat.le_trans (List.length_filter_le _ _) lc')
        · cases hd
    refine ⟨⟨?_, ?_, ?_⟩, ⟨?_, ?_, ?_⟩, ?_⟩
    · show PyData.showable (.list (pairL _)) = true
      rw [due_near]
      exact szc.1
    · show PyData.depth (.list (pairL _)) ≤ 60
      rw [due_near]
      exact Nat.le_trans szc.2.1 (by decide)
    · show (PyData.shown (.list (pairL _))).length ≤ sizeLine
      rw [due_near]
      exact Nat.le_trans szc.2.2 (by decide)
    · exact szc.1
    · exact Nat.le_trans szc.2.1 (by decide)
    · exact Nat.le_trans szc.2.2 (by decide)
    · show (if xor true (decide (PyData.shown (.list (pairL _)) = PyData.shown (.list (dueD x)))) = true then _ else _)
      rw [due_near, if_neg (by simp)]
      refine ⟨by show 3 < 12; decide, _, _, 0, rfl, rfl, by rw [List.length_map]; omega, Nat.zero_le _, fun ds' hsub _ => ?_⟩
      obtain ⟨seen, rfl, hs2⟩ := SubP.strsD hsub
      have sl : seen.length ≤ x.cols.length := hs2.len
      refine ⟨by show 4 < 12; decide, rfl, rfl, _, rfl, _, rfl, by rw [List.length_map]; omega, by rw [List.length_map]; omega, fun v v0 v1 => ?_⟩
      refine ⟨rfl, rfl, ?_⟩
      obtain ⟨low, hlow, hsubl⟩ : ∃ low : List Str, Dw.cutD (seen.map .str) none (some v) = low.map .str ∧ low.Sublist seen := by
        unfold Dw.cutD
        rw [← List.map_drop, ← List.map_take]
        exact ⟨_, rfl, (List.take_sublist _ _).trans (List.drop_sublist _ _)⟩
      show dWithQ [_, .py (strsT seen), .py (.tuple (Dw.cutD (seen.map .str) none (some v)))] _
      rw [hlow]
      have lowl := hsubl.length_le
      have snd : seen.Nodup := hs2.nodup (Sl.sSet_nodup _)
      have swk : ∀ o ∈ seen, wk o := fun o ho => words18 _ (mem18 o (hs2.mem o ho))
      have S2 : SOk seen low x.ats := ⟨snd, swk, fun o ho => hs2.mem o ho, by omega, hsubl.nodup snd, fun o ho => swk o (hsubl.subset ho), fun o ho => hsubl.subset ho, by omega⟩
      refine m_with A hb S2 hl lc fun d2 => ?_
      refine m_near Qk ?_
      refine ⟨(dAts x).map fun z => (.inr z.1, strsT z.2), by show pairsM (dueD x) = _; rw [due_enc]; exact pairsM_enc _, ?_⟩
      have ndA : ((dAts x).map (·.1)).Nodup := by rw [dAts_fst]; exact Sl.sSet_nodup _
      rw [show mergeD [] ((dAts x).map fun z => ((Sum.inr z.1 : Key), strsT z.2)) = atD (dAts x) from merge_atD (dAts x) [] (by rw [List.nil_append]; exact ndA), near_atD]
      refine ⟨true, eq_atD ndA (fun z hz => ?_) _ (fun z hz => hz), ?_⟩
      · obtain ⟨c, hcc, rfl⟩ := List.mem_map.mp hz
        exact fun o ho => mem18 o (List.mem_filter.mp ho).1
      show (if xor true ((atD (dAts x)).length == (atD (dAts x)).length && true) = true then _ else _)
      rw [if_neg (by simp)]
      let I : EnvD → Prop := fun ρ => ∃ e5 e6 e9 e10 e11, ρ = [.st, .py x.d, .py (.list (dueD x)), .py (strsT seen), .ob "Query" (queryF seen d2 (atD x.ats) (colsA x.ats)), e5, e6, .py (.list (x.cols.map .str)), .ob "Query" (queryF x.seen d' (atD x.ats) (colsA x.ats)), e9, e10, e11] ∧ plainE [e5, e6, e9, e10, e11] = true
      refine ⟨by decide, ?_⟩
      refine inv_for I _ ⟨.no, .no, .no, .no, .no, rfl, rfl⟩ (fun y hy ρ k2 ⟨e5, e6, e9, e10, e11, hρ, hp⟩ hrt hk => ?_) fun ρ ⟨e5, e6, e9, e10, e11, hρ, hp⟩ => ?_
      · subst hρ
        have y_own : ∀ d, y ≠ .own d := fun d q => by
          obtain ⟨i, _, e⟩ := List.mem_map.mp hy
          rw [q] at e
          cases e
        have hp' := plain_cons.mp hp
        refine gN_ok (e := e5) rfl hp'.1 ?_
        refine ⟨by show 9 < 12; decide, _, _, 0, rfl, rfl, by rw [List.length_map]; omega, Nat.zero_le _, fun ds3 hsub3 _ => ?_⟩
        obtain ⟨all3, rfl, hs3⟩ := SubP.strsD hsub3
        have l3 : all3.length ≤ x.cols.length := hs3.len
        refine ⟨_, rfl, by decide, by decide, fun v v0 v1 => ?_⟩
        obtain ⟨low, hlow, hsubl⟩ : ∃ low : List Str, Dw.cutD (all3.map .str) none (some v) = low.map .str ∧ low.Sublist all3 := by
          unfold Dw.cutD
          rw [← List.map_drop, ← List.map_take]
          exact ⟨_, rfl, (List.take_sublist _ _).trans (List.drop_sublist _ _)⟩
        have l4 := hsubl.length_le
        have hin : ∀ o ∈ low, o ∈ colsA x.ats := fun o ho => hs3.mem o (hsubl.subset ho)
        dsimp only [cutA, wTupleOf, wNil]
        rw [hlow]
        have hh := have_len x low
        refine ⟨by show 10 < 12; decide, x, _, low, rfl, rfl, by omega, by omega, _, rfl, by show 1 ≤ sizeLine; decide, by rw [List.length_map]; show _ + 1 ≤ sizeLine; omega, homeD x.ats low, home_at x low, ?_⟩
        have okh := homeD_ok O low
        refine m_homeOf hin (by omega) ⟨⟨okh, okh⟩, ?_⟩
        show (if (!PyData.eqv (homeD x.ats low) (homeD x.ats low)) = true then _ else _)
        rw [eqOk_self okh, if_neg (by decide)]
        refine ⟨by rw [List.length_map]; omega, ?_⟩
        rw [← List.map_append]
        refine m_homeOf (ss := low ++ low) (fun o ho => (List.mem_append.mp ho).elim (hin o) (hin o)) (by rw [List.length_append]; omega) ?_
        rw [homeD_twice]
        refine ⟨⟨okh, okh⟩, ?_⟩
        show (if (!PyData.eqv (homeD x.ats low) (homeD x.ats low)) = true then _ else _)
        rw [eqOk_self okh, if_neg (by decide)]
        have h6 := plain_cons.mp hp'.2
        have h9 := plain_cons.mp h6.2
        have h10 := plain_cons.mp h9.2
        exact hk _ ⟨y, e6, _, _, e11, rfl, plain_cons.mpr ⟨y_own, plain_cons.mpr ⟨h6.1, plain_cons.mpr ⟨(fun d q => nomatch q), plain_cons.mpr ⟨(fun d q => nomatch q), h10.2⟩⟩⟩⟩⟩
      · subst hρ
        refine ⟨x.cols.map .str, rfl, ?_⟩
        rw [strs_evs]
        refine inv_for I _ ⟨e5, e6, e9, e10, e11, rfl, hp⟩ (fun y hy ρ k2 ⟨e5, e6, e9, e10, e11, hρ, hp⟩ hrt hk => ?_) fun ρ ⟨e5, e6, e9, e10, e11, hρ, hp⟩ => ?_
        · obtain ⟨c, hcc, rfl⟩ := List.mem_map.mp hy
          subst hρ
          have h5 := plain_cons.mp hp
          have h6 := plain_cons.mp h5.2
          have okh := homeD_ok O [c]
          refine gN_ok (e := e6) rfl h6.1 ?_
          refine m_home (ss := [c]) (fun o ho => by rw [List.mem_singleton.mp ho]; exact hcc) (by show 1 < sizeLine; decide) ?_
          refine ⟨_, rfl, by show 1 ≤ sizeLine; decide, x, _, [c], rfl, rfl, by omega, by show 1 ≤ 100; decide, homeD x.ats [c], home_at1 x [c] (have_one O hcc), ⟨okh, okh⟩, ?_⟩
          show (if (!PyData.eqv (homeD x.ats [c]) (homeD x.ats [c])) = true then _ else _)
          rw [eqOk_self okh, if_neg (by decide)]
          exact hk _ ⟨e5, _, e9, e10, e11, rfl, plain_cons.mpr ⟨h5.1, plain_cons.mpr ⟨(fun d q => nomatch q), h6.2⟩⟩⟩
        · subst hρ
          have h5 := plain_cons.mp hp
          have h6 := plain_cons.mp h5.2
          have cpos : 0 < x.cols.length := by
            cases cols with
            | nil => exact (hne rfl).elim
            | cons c r => exact List.length_pos_of_mem ((cols_of O c).mpr List.mem_cons_self)
          have pick : ∀ (i : Nat) (d : PyData), (x.cols.map PyData.str)[i]? = some d → ∃ c ∈ x.cols, d = .str c := fun i d hd => by
            obtain ⟨c, hcc, rfl⟩ := List.mem_map.mp (List.mem_of_getElem? hd)
            exact ⟨c, hcc, rfl⟩
          refine ⟨by show 6 < 12; decide, by show 11 < 12; decide, _, rfl, by rw [List.length_map]; exact cpos, by rw [List.length_map]; omega, fun i1 d1 hd1 => ?_⟩
          obtain ⟨one, hone, rfl⟩ := pick i1 d1 hd1
          refine ⟨_, rfl, by rw [List.length_map]; exact cpos, by rw [List.length_map]; omega, fun i2 dd2 hd2 => ?_⟩
          obtain ⟨two, htwo, rfl⟩ := pick i2 dd2 hd2
          have okh := homeD_ok O [one, two]
          have hh := have_len x [one, two]
          refine m_home (ss := [one, two]) (fun o ho => ?_) (by show 2 < sizeLine; decide) ?_
          · rcases List.mem_cons.mp ho with rfl | ho
            · exact hone
            · rw [List.mem_singleton.mp ho]
              exact htwo
          refine ⟨_, rfl, by show 2 ≤ sizeLine; decide, x, _, [one, two], rfl, rfl, by omega, by show 2 ≤ 100; decide, _, rfl, by show 1 ≤ sizeLine; decide, by rw [List.length_map]; show _ + 1 ≤ sizeLine; omega, homeD x.ats [one, two], home_at x [one, two], ⟨okh, okh⟩, ?_⟩
          show (if PyData.eqv (homeD x.ats [one, two]) (homeD x.ats [one, two]) = true then _ else _)
          rw [eqOk_self okh, if_pos rfl]
          obtain ⟨z, r, hz⟩ : ∃ z r, x.ats = z :: r := by
            cases q : x.ats with
            | nil => exact (A.one q).elim
            | cons z r => exact ⟨z, r, rfl⟩
          have eh : homeD x.ats [] = .str z.1 := by
            unfold homeD
            rw [hz]
            rfl
          have ok0 := homeD_ok O []
          refine m_home (ss := []) (fun o ho => nomatch ho) (by show 0 < sizeLine; decide) ?_
          refine ⟨_, rfl, encA z, by rw [atI_zero, hz]; rfl, .str z.1, rfl, ⟨ok0, by rw [← eh]; exact ok0⟩, ?_⟩
          show P (.py (.bool (PyData.eqv (homeD x.ats []) (.str z.1))))
          rw [← eh, eqOk_self ok0]
          exact h
end K14

/-! Query.of without down. -/
namespace K14
open PySem PySem.Spec PySem.W PySem.Calls PyProof.Rows L2 Dr Rp Dw
open He (ga ma)
open He5 (wf)
section
variable {X : Cx} {m mr : Mode} {CX : CXT} {k : Nat} {g : WD} {fa : WA} {C : Str} {q pos apos : Pos} {e : Expr} {es : List Expr}
/-- C.m(e, ..), m a classmethod -/
theorem dcmethD {p g1 : Addr} {mc : Value} {nm : Str} {pl : Sem Bool} (hg : Gl X C) (hmg : X.mg C = some (.ref (ga X.K C))) (r : ClX.CRead X.K (ga X.K C) mc) (c : ClX.CMet X.K (ga X.K C) mc nm p g1) (F : FnR X.prog X.w X.K X.mg X.base CX k g1 (spC X.K C mr g)) (hr : Room k X.A) (hx : Passes CX X E0) (ha : PA X (e :: es) (tWA X.K .data fa)) (hm : mr = .fresh ∨ mr = .data ∧ m ≠ .fresh := by decide) (hdb : (C == ("__debug__" : Str)) = false := by decide)
    (hst : starEach (e :: es) X.env = (false, eval e X.env) :: starEach es X.env := by rfl) (hpl : (backTo pos (starEach es X.env)).any (·.1) = false := by rfl)
    (ht : eval (.Call (.Attribute (.Name C q) nm apos) (e :: es) [] pos) X.env = (do
      let ov ← eval (.Name C q) X.env
      standAt apos.atName
      let (f, first) ← holding [ov] (getMethod ov nm pl)
      callWith pos f first (backTo pos (starEach (e :: es) X.env)) (backToKw pos (keywordEach [] X.env))) := by rfl) : PE X (.Call (.Attribute (.Name C q) nm apos) (e :: es) [] pos) (tW X.K m (wCallA g fa)) := by
  refine pe_mono (ClX.pe_cmeth (pl := pl) (pe_glob hg hmg (show RelV (.ref (ga X.K C)) (Value.ref (ga X.K C)) from rfl) hdb) r c F hr hx ha hst hpl ht) fun σ H Q q => ?_
  obtain ⟨He, Lc, os, p, gs, ρ, P, E, hf, k⟩ := q
  exact ⟨rfl, He, Lc, os, p, gs, ρ, _, E, hf, fun es2 H2 vs2 hes s2 o2 r2 => ⟨vs2, rfl, Ls Lc os, p, _, P, o2, r2, hes, fun e H' v hP s' o' r' => k e H' v hP (s2.trans s') o' ((r'.to hm o2).base s2)⟩⟩
end
def dOfD : WD := fun es P => ∃ a b, es = [.py a, .py b] ∧ dOf [.py a, .py b, .py (strsT [])] P
theorem w_ofD {P : Program} {w : World} {K : PySem.W.Frag} {mg : Str → Option Value} {base : Heap} {k : Nat} {f b : Addr} {fd : FuncData} (F : FunD K "of" "Query.of" (defArgs iOf) (defBody iOf) (defScope iOf) [] [("down", V.ref b)] f fd) (he : ∀ H, SqT K H b []) (G : FnOk P w K mg base CX0 k f fd ["cls", "shown", "atoms", "down"] (spC K "Query" .data dOf)) :
    FnR P w K mg base CX0 k f (spC K "Query" .data dOfD) := by
  obtain ⟨ds, rd, bd⟩ := F.binds0 (ps := ["cls", "shown", "atoms", "down"]) 3 (by simp) rfl fun D doc pm an cdv ct us ks h1 h2 => match us, ks, h1, h2 with | [_, _, _], [_], _, _ => ⟨_, _, _, _, _, _, rfl, rfl, rfl⟩
  refine (G.raw bd rd).imp fun vs H Q E q => ?_
  obtain ⟨rest, rfl, Lc, p, es, P', o, r, ⟨a, c, rfl, hg⟩, kk⟩ := q
  refine ⟨rest ++ [.ref b], rfl, Lc, p, _, P', o, paired_app r (.cons (show Rv K p (ctL Lc H) (.ref b) (.py (strsT [])) from Dt.tup (he _) .nil) .nil), hg, kk⟩
end K14

/-! law_k14: the defs whose derivations tools/dk14.py prints. -/
namespace K14
open PySem PySem.Spec PyProof.Rows L2 Dr Rp Dw
open He (ga ma)
open He5 (wf)
abbrev sLawQ : Stmt := sLaw

abbrev nLawQ : List Str := ["_law_script", "_law_at", "_law_some_here", "_law_wide", "_law_lone", "_law_told", "_law_stream_here", "_law_turn", "_law_one"]
theorem scLawQ : FnScope nLawQ ["_law_script"] (defScope sLawQ) := ⟨rfl, rfl, rfl, by decide +kernel, rfl, by decide +kernel, by decide +kernel⟩
def wLawQ : WS :=
  (wSeq (wSet 2 (wCallA wTup (wCons (wC (.str "j")) (wCons (wC (.str "a")) (wCons (wC (.str "i")) (wCons (wC (.str "b")) (wCons (wC (.str "h")) (wCons (wC (.str "c")) (wCons (wC (.str "g")) (wCons (wC (.str "d")) (wCons (wC (.str "f")) (wCons (wC (.str "e")) wNil))))))))))))
  (wSeq (wSet 3 (wCallA dOfD (wCons (wCallA wTup wNil) (wCons (wDisp (wPcons (wC (.str "all")) (wVar .data 2) wPnil)) wNil))))
  (wSeq (wIfS (wTOr (wT1 (w2 (w2 (wCallA dNear (wCons (wVar .data 3) wNil)) (wC (.str "e")) wIx) (wCallA wTup (wCons (wC (.str "a")) (wCons (wC (.str "b")) (wCons (wC (.str "c")) (wCons (wC (.str "d")) (wCons (wC (.str "f")) (wCons (wC (.str "g")) (wCons (wC (.str "h")) (wCons (wC (.str "i")) (wCons (wC (.str "j")) wNil)))))))))) (wEq true)) wTB) (wT1 (w2 (wCallA dHomeOf (wCons (wVar .data 3) (wCons (wVar .data 2) wNil))) (wC (.str "all")) (wEq true)) wTB)) (wRet (wC (.bool false))) wNext)
  (wSeq (wSet 4 (wCallA dOfD (wCons (wCallA wTup (wCons (wC (.str "a")) wNil)) (wCons (wCallA wDictA (wCons (wLc (wSeqI (wVar .read 2)) (gN 8) wYes (wCallA wTup (wCons (w2 (wC (.str "t")) (wVar .read 8) wAdd) (wCons (wCallA wTup (wCons (wVar .data 8) wNil)) wNil))) [8]) wNil)) wNil))))
  (wSeq (wSet 5 (wCallA wLst (wCons (wCallA dHomeS (wCons (wVar .data 4) (wCons (wC (.str "c")) wNil))) (wCons (wCallA dHomeS (wCons (wVar .data 4) (wCons (wC (.str "c")) (wCons (wC (.str "a")) wNil)))) (wCons (wCallA dHomeS (wCons (wVar .data 4) (wCons (wC (.str "c")) (wCons (wC (.str "c")) wNil)))) (wCons (wCallA dHomeS (wCons (wVar .data 4) wNil)) wNil))))))
  (wRet (wAndV (w2 (wVar .read 5) (wCallA wLst (wCons (wC (.str "tc")) (wCons (wC .none) (wCons (wC (.str "tc")) (wCons (wC (.str "ta")) wNil))))) (wEq false)) (w2 (wLc (wDicI (fun ds => ds.map fun q => .py q.2) (wCallA dNear (wCons (wVar .data 4) wNil))) (gN 8) (wT1 (w2 (wVar .read 8) (wCallA wTup wNil) (wEq true)) wTB) (wVar .data 8) [8]) (wCallA wLst wNil) (wEq false)))))))))
section
variable {P : Program} {w : World} {K : PySem.W.Frag} {mg : Str → Option Value} {base : Heap}
theorem tail_LawQ {f : Addr} {fd : FuncData}  (F : FnP K "law" sLawQ f fd) (T : TG K mg) {fd_home_of : FuncData} (F_home_of : FnP K "home_of" sHomeOf (ga K "home_of") fd_home_of) (G_home_of : FnOk P w K mg base CX0 3 (ga K "home_of") fd_home_of ["query", "columns"] (spW K .data dHomeOf)) {fd_neighbours : FuncData} (F_neighbours : FnP K "neighbours" sNear (ga K "neighbours") fd_neighbours) (G_neighbours : FnOk P w K mg base CX0 3 (ga K "neighbours") fd_neighbours ["query"] (spW K .fresh dNear)) {fd_home : FuncData} (F_home : FnP K "home" sHomeS (ga K "home") fd_home) (G_home : FnR P w K mg base CX0 4 (ga K "home") (spW K .data dHomeS)) {fd_Query_of : FuncData} {mc_Query : Value} (kC_Query : PySem.W.keepIn K (.ref (ga K "Query")) = true) (cr_Query : ClX.CRead K (ga K "Query") mc_Query) (cm_Query_of : ClX.CMet K (ga K "Query") mc_Query "of" (ma K (ga K "Query") "of") (wf K (ga K "Query") "classmethod" "of")) (G_Query_of : FnOk P w K mg base CX0 5 (wf K (ga K "Query") "classmethod" "of") fd_Query_of ["cls", "shown", "atoms", "down"] (spC K "Query" .data dOf)) (G_Query_of_d : FnR P w K mg base CX0 5 (wf K (ga K "Query") "classmethod" "of") (spC K "Query" .data dOfD)) (cdv : Value) (A : Around) (outer : List Env) (s : Shared) (H : Hp) (E : XK) (hr : Room 7 (A.deeper (envOfC "law" (defScope sLawQ) s.heap.objs.size f cdv))) : PSs (cxOf CX0 P w K mg base nLawQ "law" (defScope sLawQ) f cdv A outer s H E).nox ((defBody sLawQ).drop 1) (tWS K .data wLawQ) := by
  have b_dict := T.f "dict" (by decide +kernel)
  have gC_Query := T.g "Query" (by decide +kernel)
  have g_home_of := T.g "home_of" (by decide +kernel)
  have b_home_of : Binds K fd_home_of ["query", "columns"] [] := F_home_of.bindsN fun _ _ _ _ _ _ us hl => match us, hl with | [_, _], _ => rfl
  have g_neighbours := T.g "neighbours" (by decide +kernel)
  have b_neighbours : Binds K fd_neighbours ["query"] [] := F_neighbours.bindsN fun _ _ _ _ _ _ us hl => match us, hl with | [_], _ => rfl
  have g_home := T.g "home" (by decide +kernel)
  have hu : (A.deeper (envOfC "law" (defScope sLawQ) s.heap.objs.size f cdv)).units + 64 < cLine := hr.units
  have hu1 : (A.deeper (envOfC "law" (defScope sLawQ) s.heap.objs.size f cdv)).units + 1 < cLine := hu_of hr
  have hu2 : (A.deeper (envOfC "law" (defScope sLawQ) s.heap.objs.size f cdv)).units + 66 < cLine := by
    have := hr.un
    omega
  have r_Query_of : Room 5 (A.deeper (envOfC "law" (defScope sLawQ) s.heap.objs.size f cdv)) := hr.mono (by decide)
  have r_home_of : Room 3 (A.deeper (envOfC "law" (defScope sLawQ) s.heap.objs.size f cdv)) := hr.mono (by decide)
  have r_neighbours : Room 3 (A.deeper (envOfC "law" (defScope sLawQ) s.heap.objs.size f cdv)) := hr.mono (by decide)
  have r_home : Room 4 (A.deeper (envOfC "law" (defScope sLawQ) s.heap.objs.size f cdv)) := hr.mono (by decide)
  exact (dss_cons (ds_set 2 scLawQ.nd rfl (by first | exact Or.inl rfl | exact Or.inr rfl) (dtup (dacons dstr (dacons dstr (dacons dstr (dacons dstr (dacons dstr (dacons dstr (dacons dstr (dacons dstr (dacons dstr (dacons dstr danil))))))))))))
      (dss_cons (ds_set 3 scLawQ.nd rfl (by first | exact Or.inl rfl | exact Or.inr rfl) (dcmethD (C := "Query") rfl gC_Query cr_Query cm_Query_of G_Query_of_d r_Query_of pass0 (dacons (dtup danil) (dacons (ddisp (dps_cons dstr (dv 2) dps_nil)) danil))))
      (dss_cons (ds_if (PW.pt (dw_or (tne hu (dix hu1 (dcall G_neighbours r_neighbours rfl g_neighbours F_neighbours.kp b_neighbours pass0 (dacons (dv 3) danil)) dstr) (dtup (dacons dstr (dacons dstr (dacons dstr (dacons dstr (dacons dstr (dacons dstr (dacons dstr (dacons dstr (dacons dstr danil))))))))))) (dw_or1 (tne hu (dcall G_home_of r_home_of rfl g_home_of F_home_of.kp b_home_of pass0 (dacons (dv 3) (dacons (dv 2) danil))) dstr)))) (dss_one (ds_ret dbl)) dss_nil)
      (dss_cons (ds_set 4 scLawQ.nd rfl (by first | exact Or.inl rfl | exact Or.inr rfl) (dcmethD (C := "Query") rfl gC_Query cr_Query cm_Query_of G_Query_of_d r_Query_of pass0 (dacons (dtup (dacons dstr danil)) (dacons (dbt (brDictA rfl) (by decide +kernel) rfl b_dict (dacons (dlc [("_law_one", 8)] rfl scLawQ.nd (di_seq (dv 2)) (blkOk_by (own := [("_law_one", 8)]) (N := nLawQ) (sc := defScope sLawQ) (by decide +kernel)) (fun _ _ _ _ _ => (dg 8 scLawQ.nd rfl (by first | exact Or.inl rfl | exact Or.inr rfl))) (fun _ _ _ _ _ => dts_nil) (fun _ _ _ _ _ => (dtup (dacons (dadd dstr (dv 8)) (dacons (dtup (dacons (dv 8) danil)) danil))))) danil)) danil))))
      (dss_cons (ds_set 5 scLawQ.nd rfl (by first | exact Or.inl rfl | exact Or.inr rfl) (dlst (dacons (dcallR G_home r_home rfl g_home F_home.kp pass0 (dacons (dv 4) (dacons dstr danil))) (dacons (dcallR G_home r_home rfl g_home F_home.kp pass0 (dacons (dv 4) (dacons dstr (dacons dstr danil)))) (dacons (dcallR G_home r_home rfl g_home F_home.kp pass0 (dacons (dv 4) (dacons dstr (dacons dstr danil)))) (dacons (dcallR G_home r_home rfl g_home F_home.kp pass0 (dacons (dv 4) danil)) danil))))))
      (dss_one (ds_ret (dand (deq hu (dv 5) (dlst (dacons dstr (dacons dnon (dacons dstr (dacons dstr danil)))))) (pe_one (deq hu (dlc [("_law_one", 8)] rfl scLawQ.nd (di_values (dcall G_neighbours r_neighbours rfl g_neighbours F_neighbours.kp b_neighbours pass0 (dacons (dv 4) danil))) (blkOk_by (own := [("_law_one", 8)]) (N := nLawQ) (sc := defScope sLawQ) (by decide +kernel)) (fun _ _ _ _ _ => (dg 8 scLawQ.nd rfl (by first | exact Or.inl rfl | exact Or.inr rfl))) (fun _ _ _ _ _ => (dts_one (tne hu (dv 8) (dtup danil)))) (fun _ _ _ _ _ => (dv 8))) (dlst danil)))))))))))
end

end K14

/-! law_k14: the written part of the law. -/
namespace K14
open PySem PySem.Spec PyProof.Rows L2 Dr Rp Dw
open He (ga ma)
instance (x : Str) : Decidable (wk x) := by unfold wk; infer_instance
def ten : List Str := ["j", "a", "i", "b", "h", "c", "g", "d", "f", "e"]
def az : List Str := ["a", "b", "c", "d", "e", "f", "g", "h", "i", "j"]
def atW : List (Str × List Str) := [("all", ten)]
def rowL (c : Str) : Str × List Str := (("t" : Str) ++ c, [c])
theorem sset_is {M L : List Str} (h1 : M.Pairwise (fun a b => Sl.strLe a b = true)) (h2 : M.Nodup) (h3 : (∀ x ∈ M, x ∈ L) ∧ ∀ x ∈ L, x ∈ M) : Sl.sSet L = M := (Sl.sSet_uniq h1 h2 fun x => ⟨h3.1 x, h3.2 x⟩).symm
theorem colsW : colsA atW = az := sset_is (by decide +kernel) (by decide +kernel) (by decide +kernel)
theorem besW : besideS [ten] "e" = (["a", "b", "c", "d", "f", "g", "h", "i", "j"] : List Str) := sset_is (by decide +kernel) (by decide +kernel) (by decide +kernel)
theorem byW : byNm atW := sset_is (by decide +kernel) (by decide +kernel) (by decide +kernel)
theorem aokW : AOk atW := ⟨by decide, by decide +kernel, by decide +kernel, by decide +kernel, by decide +kernel, by decide +kernel⟩
def atL : List (Str × List Str) := az.map rowL
theorem permL : (ten.map rowL).Perm atL := (show ten.Perm az by decide +kernel).map _
theorem colsL : colsA atL = az := sset_is (by decide +kernel) (by decide +kernel) (by decide +kernel)
theorem byL : byNm atL := sset_is (by decide +kernel) (by decide +kernel) (by decide +kernel)
theorem aokL : AOk atL := ⟨by decide, by decide +kernel, by decide +kernel, by decide +kernel, by decide +kernel, by decide +kernel⟩
theorem besL : ∀ c ∈ az, besideS (atL.map (·.2)) c = [] := fun c hc => by
  have h : ∀ c ∈ az, ((atL.map (·.2)).flatMap fun r => besS r c) = [] := by decide +kernel
  unfold besideS
  rw [h c hc]
  exact sset_is .nil .nil ⟨(fun _ h => nomatch h), fun _ h => nomatch h⟩
theorem qokW : QOk atW (colsA atW) := by
  rw [colsW]
  exact ⟨by decide +kernel, by decide +kernel, by decide +kernel, by decide +kernel, by decide +kernel⟩
theorem qokL : QOk atL (colsA atL) := by
  rw [colsL]
  exact ⟨by decide +kernel, by decide +kernel, by decide +kernel, by decide +kernel, by decide +kernel⟩
def hdN : List Str → PyData
  | [] => .none
  | a :: _ => .str a
theorem homeD_of {ats : List (Str × List Str)} {ss : List Str} {l : List Str} (h : (ats.filter fun z => ss.all fun s => decide (s ∈ z.2)).map (·.1) = l) : homeD ats ss = hdN l := by
  subst h
  rfl
theorem homeW : homeD atW ten = .str "all" := homeD_of (l := ["all"]) (by decide +kernel)
theorem homeL1 : homeD atL ["c"] = .str "tc" := homeD_of (l := ["tc"]) (by decide +kernel)
theorem homeL2 : homeD atL ["c", "a"] = .none := homeD_of (l := []) (by decide +kernel)
theorem homeL3 : homeD atL ["c", "c"] = .str "tc" := homeD_of (l := ["tc"]) (by decide +kernel)
theorem homeL4 : homeD atL [] = .str "ta" := homeD_of (l := ["ta", "tb", "tc", "td", "te", "tf", "tg", "th", "ti", "tj"]) (by decide +kernel)
theorem sokW : SOk [] [] atW := ⟨.nil, (fun _ h => nomatch h), (fun _ h => nomatch h), by decide, .nil, (fun _ h => nomatch h), (fun _ h => nomatch h), by decide⟩
theorem sokL : SOk ["a"] [] atL := ⟨by decide +kernel, by decide +kernel, by rw [colsL]; decide +kernel, by decide, .nil, (fun _ h => nomatch h), (fun _ h => nomatch h), by decide⟩
theorem eqOk_tel {xs : List Str} (h : ∀ x ∈ xs, PyData.strOk x = true) : eqOk (strsT xs) = true := by
  unfold eqOk strsT SeqAt.shaped
  rw [noDict, noDicts_strs, Bool.true_and, Bool.and_eq_true, decide_eq_true_eq]
  refine ⟨?_, ?_⟩
  · simp only [PyData.canLay0]
    induction xs with
    | nil => rfl
    | cons x r ih => simp only [List.map_cons, PyData.canLayAll0, PyData.canLay0, h x List.mem_cons_self, Bool.true_and]; exact ih fun y hy => h y (List.mem_cons_of_mem _ hy)
  · simp only [PyData.depth]
    have := dep_strs xs
    omega
theorem dGet_map {g : Str → PyData} : ∀ {cs : List Str} {c : Str}, c ∈ cs → dGet (cs.map fun c => (.str c, g c)) (.inr c) = some (g c)
  | y :: r, c, h => by
    show (if (some (Sum.inr y) : Option Key) = some (Sum.inr c) then some (g y) else dGet (r.map fun c => (.str c, g c)) (.inr c)) = _
    by_cases e : y = c
    · subst e
      rw [if_pos rfl]
    · rw [if_neg fun q => e (Sum.inr.inj (Option.some.inj q))]
      exact dGet_map ((List.mem_cons.mp h).resolve_left fun q => e q.symm)
theorem ne_same {d : PyData} (o : eqOk d = true) {K : Bool → Prop} (h : K false) : wEq true (.py d) (.py d) fun x => wTB x K := ⟨⟨o, o⟩, by
  show K (!PyData.eqv d d)
  rw [eqOk_self o]
  exact h⟩
theorem eq_same {d : PyData} (o : eqOk d = true) {K : EV → Prop} (h : K (.py (.bool true))) : wEq false (.py d) (.py d) K := ⟨⟨o, o⟩, by
  show K (.py (.bool (PyData.eqv d d)))
  rw [eqOk_self o]
  exact h⟩
theorem told_ok : eqOk (.list [.str "tc", .none, .str "tc", .str "ta"]) = true := by decide +kernel
theorem m_tail {k : WK} (h : k.rt (.py (.bool true))) : wLawQ [.no, .no, .no, .no, .no, .no, .no, .no, .no] k := by
  have lW : (colsA atW).length ≤ 10 := by rw [colsW]; decide
  have lL : (colsA atL).length ≤ 10 := by rw [colsL]; decide
  refine ⟨by decide, _, rfl, by decide, ?_⟩
  refine ⟨by show 3 < 9; decide, _, rfl, by decide, _, rfl, by decide, _, _, rfl, ?_⟩
  show dOf [.py (strsT []), .py (.dict (atD atW)), .py (strsT [])] _
  refine m_of aokW (.refl _) byW sokW (by decide) lW fun d' => ?_
  refine m_near qokW ?_
  refine ⟨.inr "e", _, rfl, dGet_map (c := "e") (by rw [colsW]; decide +kernel), _, rfl, by decide, ?_⟩
  have e1 : besideS (atW.map (·.2)) "e" = (["a", "b", "c", "d", "f", "g", "h", "i", "j"] : List Str) := besW
  have o1 : eqOk (strsT ["a", "b", "c", "d", "f", "g", "h", "i", "j"]) = true := eqOk_tel (by decide +kernel)
  rw [e1]
  refine ne_same o1 ?_
  refine m_homeOf (ss := ten) (by rw [colsW]; decide +kernel) (by decide +kernel) ?_
  rw [homeW]
  have o2 : eqOk (.str "all") = true := eqOk_str (by decide +kernel)
  refine ne_same o2 ?_
  refine ⟨by show 4 < 9; decide, _, rfl, by decide, no_own rfl, ten.map .str, rfl, ?_⟩
  rw [strs_evs]
  refine lc_each (fun c => EV.py (.str c)) (fun c => encA (rowL c)) ten [] (by decide +kernel) (fun c hc acc k2 hl hk => ?_) ?_
  · refine gN_ok (e := .no) rfl (fun d q => nomatch q) ⟨?_, _, rfl, by show 1 ≤ sizeLine; decide, _, rfl, by show 2 ≤ sizeLine; decide, hl, hk⟩
    have : ∀ c ∈ ten, (("t" : Str).length + c.length ≤ sizeLine) := by decide +kernel
    exact this c hc
  · rw [List.nil_append, show (ten.map fun c => encA (rowL c)) = (ten.map rowL).map encA from by rw [List.map_map]; rfl]
    refine ⟨_, pairsM_enc _, _, _, rfl, ?_⟩
    rw [show mergeD [] ((ten.map rowL).map fun z => ((Sum.inr z.1 : Key), strsT z.2)) = atD (ten.map rowL) from merge_atD (ten.map rowL) [] (by decide +kernel)]
    show dOf [.py (strsT ["a"]), .py (.dict (atD (ten.map rowL))), .py (strsT [])] _
    refine m_of aokL permL byL sokL (by decide) lL fun d2 => ?_
    refine ⟨by show 5 < 9; decide, ?_⟩
    refine m_home (ss := ["c"]) (by rw [colsL]; decide +kernel) (by decide) ?_
    rw [homeL1]
    refine m_home (ss := ["c", "a"]) (by rw [colsL]; decide +kernel) (by decide) ?_
    rw [homeL2]
    refine m_home (ss := ["c", "c"]) (by rw [colsL]; decide +kernel) (by decide) ?_
    rw [homeL3]
    refine m_home (ss := []) (by rw [colsL]; decide +kernel) (by decide) ?_
    rw [homeL4]
    refine ⟨_, rfl, by decide, ?_⟩
    refine ⟨_, rfl, by decide, eq_same told_ok ?_⟩
    refine ⟨no_own rfl, ?_⟩
    refine m_near qokL ?_
    have hit : (((colsA atL).map fun c => (PyData.str c, strsT (besideS (atL.map (·.2)) c))).map fun q => EV.py q.2) = az.map fun _ => EV.py (strsT []) := by
      rw [colsL, List.map_map]
      exact List.map_congr_left fun c hc => by
        show EV.py (strsT (besideS (atL.map (·.2)) c)) = _
        rw [besL c hc]
    show wLcGo _ _ _ _ (((colsA atL).map fun c => (PyData.str c, strsT (besideS (atL.map (·.2)) c))).map fun q => EV.py q.2) [] _
    rw [hit]
    have o3 : eqOk (strsT []) = true := eqOk_tel (by decide +kernel)
    refine lc_filter (fun _ : Str => EV.py (strsT [])) (fun _ => .none) (fun _ => false) az [] (by decide +kernel) (fun c hc acc k2 hl _ h2 => ?_) ?_
    · refine gN_ok (e := .no) rfl (fun d q => nomatch q) ⟨_, rfl, by show 0 ≤ sizeLine; decide, ne_same o3 ?_⟩
      exact h2 rfl
    · have o4 : eqOk (.list []) = true := by decide +kernel
      rw [show (([] : List PyData) ++ (az.filter fun _ => false).map fun _ => PyData.none) = [] from by decide +kernel]
      refine ⟨_, rfl, by decide, eq_same o4 ?_⟩
      exact h
end K14

/-! law_k14: the law. -/
namespace K14
open PySem PySem.Spec PyProof.Rows L2 Dr Rp Dw
open He (ga ma)
open He5 (wf)
def spLaw (K : PySem.W.Frag) : Sp := fun vs H Q _ => ∃ (a : Addr) (ns : List Int), vs = [.ref a] ∧ SqL K H a (ns.map V.int) ∧ ns.length ≤ 63 ∧ ∀ H', Q (.bl true) H'
theorem sql_freshQ {K : PySem.W.Frag} {A B : Hp} {a p : Addr} {xs : List V} (h : SqL K A a xs) (f : A p = none) (s : Same A B) : SqL K (ct p B) a xs := by
  rcases h with (h | ⟨ob, h⟩) | h
  · exact .inl (.inl (ct_at (s _ _ h) (ne_of_none h f) (fun ps z => by cases z)))
  · exact .inl (.inr ⟨ob, ct_at (s _ _ h) (ne_of_none h f) (fun ps z => by cases z)⟩)
  · exact .inr h
theorem ct_inv {p b : Addr} {H : Hp} {o : HO} (h : ct p H b = some o) : b ≠ p ∧ H b = some o ∧ ∀ ps, o ≠ .tbl ps := by
  unfold ct at h
  split at h
  · cases h
  · rename_i n
    split at h
    · cases h
    · rename_i hn
      exact ⟨n, h, fun ps e => hn ps (by rw [h, e])⟩
theorem sql_keep {K : PySem.W.Frag} {H H' : Hp} {a p : Addr} {xs : List V} (h : SqL K (ct p H) a xs) (s : ∀ b o, b ≠ p → (∀ ps, o ≠ .tbl ps) → H b = some o → ∃ o', H' b = some o' ∧ Lk o o') : SqL K (ct p H') a xs := by
  have go : ∀ {o : HO}, (∀ kvs, o ≠ .dK kvs) → ct p H a = some o → ct p H' a = some o := fun {o} nd h => by
    obtain ⟨n, e, t⟩ := ct_inv h
    obtain ⟨o', e', k⟩ := s a o n t e
    rcases k with rfl | ⟨kvs, q, rfl, _⟩
    · exact ct_at e' n t
    · exact (nd kvs rfl).elim
  rcases h with (h | ⟨ob, h⟩) | h
  · exact .inl (.inl (go (fun _ e => nomatch e) h))
  · exact .inl (.inr ⟨ob, go (fun _ e => nomatch e) h⟩)
  · exact .inr h
theorem sql_ct {K : PySem.W.Frag} {H : Hp} {a p : Addr} {xs : List V} (h : SqL K (ct p H) a xs) : SqL K H a xs := by
  rcases h with (h | ⟨ob, h⟩) | h
  · exact .inl (.inl (ct_inv h).2.1)
  · exact .inl (.inr ⟨ob, (ct_inv h).2.1⟩)
  · exact .inr h
section
variable {P : Program} {w : World} {K : PySem.W.Frag} {mg : Str → Option Value} {base : Heap}
theorem ok_law {f : Addr} {fd : FuncData} (F : FnP K "law" sLawQ f fd) (T : TG K mg)
    {fdS fdQ fdR : FuncData} (FS : FnP K "_law_stream" sStream (ga K "_law_stream") fdS) (GS : FnOk P w K mg base CX0 1 (ga K "_law_stream") fdS ["_law_script", "_law_at"] (spStream K))
    (FQ : FnP K "_law_query" sQuery (ga K "_law_query") fdQ) (GQ : FnOk P w K mg base CX0 5 (ga K "_law_query") fdQ ["_law_stream_here", "_law_most", "_law_most_atoms"] (spQuery K))
    (FR : FnP K "_law_right" sRightQ (ga K "_law_right") fdR) (GR : FnG P w K mg base CX0 7 (ga K "_law_right") fdR ["_law_stream_here", "_law_plain"] (spW K .data dRightQ))
    (TL : ∀ (cdv : Value) (A : Around) (outer : List Env) (s : Shared) (H : Hp) (E : XK), Room 7 (A.deeper (envOfC "law" (defScope sLawQ) s.heap.objs.size f cdv)) → PSs (cxOf CX0 P w K mg base nLawQ "law" (defScope sLawQ) f cdv A outer s H E).nox ((defBody sLawQ).drop 1) (tWS K .data wLawQ)) :
    FnG P w K mg base CX0 8 f fd ["_law_script"] (spLaw K) := by
  have gS := T.g "_law_stream" (by decide +kernel)
  have gQ := T.g "_law_query" (by decide +kernel)
  have gR := T.g "_law_right" (by decide +kernel)
  have tr := T.f "range" (by decide +kernel)
  have tx := T.f "max" (by decide +kernel)
  have tn := T.f "min" (by decide +kernel)
  have tl := T.f "len" (by decide +kernel)
  have bS : Binds K fdS ["_law_script", "_law_at"] [] := FS.bindsN fun _ _ _ _ _ _ us hl => match us, hl with | [_, _], _ => rfl
  have bQ : Binds K fdQ ["_law_stream_here", "_law_most", "_law_most_atoms"] [] := FQ.bindsN fun _ _ _ _ _ _ us hl => match us, hl with | [_, _, _], _ => rfl
  have bR : Binds K fdR ["_law_stream_here", "_law_plain"] [] := FR.bindsN fun _ _ _ _ _ _ us hl => match us, hl with | [_, _], _ => rfl
  refine Rp.FunD.okG F scLawQ (fun vs H Q E h => ?_) (fun cdv A outer s H vs Q E hr hg h => ?_)
  · obtain ⟨a, ns, rfl, _⟩ := h
    rfl
  · obtain ⟨a, ns, rfl, hS, hn, fin⟩ := h
    have hr1 : Room 1 (A.deeper (envOfC "law" (defScope sLawQ) s.heap.objs.size f cdv)) := hr.mono (by decide)
    have hr5 : Room 5 (A.deeper (envOfC "law" (defScope sLawQ) s.heap.objs.size f cdv)) := hr.mono (by decide)
    refine ⟨_, PSs.nox (pss_cons (ps_for PassesOwn.never rfl (pi_range1 rfl tr (pa_cons (pe_callB (call_max2 rfl) (by rfl) tx (by decide +kernel) (pa_cons pe_int (pa_cons (pe_callB (call_min2 rfl) (by rfl) tn (by decide +kernel) (pa_cons pe_int (pa_cons (pe_callB call_len_seq (by rfl) tl PySem.boot_len (pa_cons (pv 0) pa_nil)) pa_nil))) pa_nil))) pa_nil)) (pg_name (i := 1) scLawQ.nd rfl (Or.inl rfl))
        (pss_cons (ps_set (i := 6) scLawQ.nd rfl (Or.inl rfl) (pe_call GS hr1 rfl gS FS.kp bS .nil pass0 (pa_cons (pv 0) (pa_cons (pv 1) pa_nil))))
        (pss_one (ps_for PassesOwn.never rfl (pi_range1 rfl tr (pa_cons pe_int pa_nil)) (pg_name (i := 7) scLawQ.nd rfl (Or.inl rfl))
          (pss_one (ps_if (pt_not (pt_val (pe_callG GR hr hg rfl gR FR.kp bR .nil pass0 (pa_cons (pv 6) (pa_cons (pe_call GQ hr5 rfl gQ FQ.kp bQ .nil pass0 (pa_cons (pv 6) (pa_cons pe_int (pa_cons pe_int pa_nil)))) pa_nil))))) (pss_one (ps_ret pe_bl)) pss_nil))))))
      (TL cdv A outer s H E hr)), ?_⟩
    refine ⟨_, rfl, a, _, rfl, .inl hS, _, _, rfl, _, _, rfl, ?_⟩
    generalize hN : (if (if ((ns.map V.int).length : Int) < 5 then ((ns.map V.int).length : Int) else 5) > 1 then (if ((ns.map V.int).length : Int) < 5 then ((ns.map V.int).length : Int) else 5) else 1) = N
    have hN1 : 1 ≤ N ∧ N ≤ 5 := by
      rw [← hN]
      split
      · split at * <;> omega
      · omega
    refine ⟨_, rfl, by omega, by omega, for_range (lo := 0) (n := N.toNat) (fun i σ H' => ∃ x1 x6 x7 : Option V, σ = [some (.ref a), x1, none, none, none, none, x6, x7, none] ∧ SqL K H' a (ns.map V.int)) ⟨none, none, none, rfl, hS⟩ ?_ ?_⟩
    · rintro i σ H0 hi ⟨x1, x6, x7, rfl, hS0⟩
      refine ⟨_, rfl, _, rfl, a, ns, i, (by simp), hS0, hn, by omega, fun H1 p s1 hp0 st1 => ?_⟩
      have sq1 : SqL K (ct p H1) a (ns.map V.int) := sql_freshQ hS0 hp0 s1
      refine ⟨2, rfl, by decide, by decide, for_range (lo := 0) (n := (2 : Int).toNat) (fun j σ H' => ∃ y7 : Option V, σ = [some (.ref a), some (.int (0 + (i : Int))), none, none, none, none, some (.ref p), y7, none] ∧ SqL K (ct p H') a (ns.map V.int) ∧ StrAt H' p 0) ⟨_, rfl, sq1, st1⟩ ?_ ?_⟩
      · rintro j σ H2 hj ⟨y7, rfl, sj, tj⟩
        refine ⟨_, rfl, _, rfl, p, 7, 6, 0, rfl, tj, by decide, by decide, by decide, by decide, by decide, fun H3 r x cols b3 t3 hr0 hd O c1 c2 c3 => ?_⟩
        have t3 : StrAt H3 p 0 := t3
        have o3 : LOk (fun b => b = p) (some p) H3 := ⟨fun b e => by
          obtain ⟨x, y, z, h, _⟩ := t3
          exact ⟨_, by rw [e]; exact h, .lst⟩, fun q e => by cases e; exact ⟨rfl, t3⟩⟩
        have sr : SameR (ct p H3) H3 := fun b u h => ⟨u, (ct_inv h).2.1, .inl rfl⟩
        refine ⟨fun b => b = p, some p, [.st, .py x.d], fun e => e = .py (.bool true), o3, .cons ⟨p, rfl, rfl⟩ (.cons (tight o3 _ _ (noMut_plain x) (Dt.sameR sr _ _ hd)) .nil), m_right O (by omega) c2 (by omega) rfl, fun e H4 v he s4 o4 r4 => ?_⟩
        subst he
        have r4 : Dt K (ctL (fun b => b = p) H4) v (.bool true) := r4
        cases r4
        refine ⟨true, rfl, iteF ?_⟩
        refine ⟨_, rfl, sql_keep (sql_keep sj fun b o n _ h => ⟨o, b3 b o n h, .inl rfl⟩) fun b o n t h => s4.keep b o (fun e => n (Option.some.inj e).symm) t h, (o4.str p rfl).2⟩
      · rintro σ H2 ⟨y7, rfl, sj, tj⟩
        exact ⟨_, _, _, rfl, sql_ct sj⟩
    · rintro σ H0 ⟨x1, x6, x7, rfl, hS0⟩
      have E0 : EnvOk K H0 (fun _ => False) (fun _ => none) none {} H0 ([some (.ref a), x1, none, none, none, none, x6, x7, none] : L2.St) [.no, .no, .no, .no, .no, .no, .no, .no, .no] := by
        refine ⟨rfl, fun i e h => ?_, fun i a h => (by cases h), fun i j a h => (by cases h), fun i a h => (by cases h), ⟨(fun _ h => nomatch h), (fun _ h => nomatch h)⟩, ⟨(fun b h => h.elim), fun q e => nomatch e⟩, Stp.refl⟩
        have hm := List.mem_of_getElem? h
        have : e = .no := by simpa using hm
        subst this
        trivial
      refine ⟨H0, fun _ => False, fun _ => none, none, {}, _, { nx := fun _ => False, rt := fun e => e = .py (.bool true) }, E0, m_tail rfl, fun ρ' os' H' σ' hk E' => hk.elim, fun ρ' os' H' σ' hk E' => hk.elim, fun ρ' os' H' σ' hk E' => hk.elim, fun e v H' hk s' o' r' => ?_⟩
      have hk : e = .py (.bool true) := hk
      subst hk
      have r' : Dt K (ctL (fun _ => False) H') v (.bool true) := r'
      cases r'
      exact fin H'
end
end K14

/-! law_k14: the head's facts, the theorem. -/
namespace K14
open PySem PySem.Spec PyProof.Rows L2 Dr Rp Dw
open He (ga ma)
open He5 (DefA wf)
theorem facts {P : Program} {w : World} {K : PySem.W.Frag} {mg : Str → Option Value} {h : Heap} {f : Addr} (X : K.In h) (G : h.Ns mainGlobals mg) (hfa : mg ("law" : Str) = some (.ref f)) (c : Hy.SaysP ts fn K) :
    ∃ fd : FuncData, (∀ (s : Shared) (v : Value), BindsTo s fd ⟨[v], []⟩ [("_law_script", v)]) ∧ ∀ base : Heap, K.In base → base.Ns mainGlobals mg → FnG P w K mg base CX0 8 f fd ["_law_script"] (spLaw K) := by
  have c1 : ts K = true := c.test
  unfold ts at c1
  obtain ⟨h1, c1⟩ := He.ba c1
  obtain ⟨h2, c1⟩ := He.ba c1
  obtain ⟨h3, c1⟩ := He.ba c1
  obtain ⟨h4, c1⟩ := He.ba c1
  obtain ⟨h5, h6⟩ := He.ba c1
  unfold t1 at h1
  obtain ⟨h1a, h1b⟩ := He.ba h1
  obtain ⟨h1b, h1c⟩ := He.ba h1b
  have gAll : ∀ x, x ∈ (("law" : Str) :: gn) → mg x = some (.ref (ga K x)) := fun x hx => Hx.gloB_ok X G (xs := "law" :: gn) h1a hx
  have T : TG K mg := ⟨fun x hx => Hx.freeB_ok X G h1b hx, fun x hx => gAll x (List.mem_cons_of_mem _ hx), He.int_ok X G h1c⟩
  unfold t2 at h2
  obtain ⟨f1, h2⟩ := He.ba h2
  obtain ⟨f2, f3⟩ := He.ba h2
  unfold t3 at h3
  obtain ⟨q1, h3⟩ := He.ba h3
  obtain ⟨q2, q3⟩ := He.ba h3
  unfold t4 at h4
  obtain ⟨k1, h4⟩ := He.ba h4
  obtain ⟨k2, h4⟩ := He.ba h4
  obtain ⟨k3, h4⟩ := He.ba h4
  obtain ⟨k4, k5⟩ := He.ba h4
  unfold t5 at h5
  obtain ⟨_, h5⟩ := He.ba h5
  obtain ⟨_, h5⟩ := He.ba h5
  obtain ⟨e1, e2⟩ := He.ba h5
  have ic_Form := Hy.inB_ok f1
  have ic_Query := Hy.inB_ok q1
  have cl_Form := ic_Form.cl
  have cl_Query := ic_Query.cl
  have M_Form := Hy.mkB_ok f2
  have M_Query := Hy.mkB_ok q2
  have kC_Query := M_Query.kp
  have C : QC K := ⟨cl_Form, fun x hx => Hy.naB_ok f3 hx, ic_Form, cl_Query, fun x hx => Hy.naB_ok q3 hx, Hy.coB_ok k1, Hy.coB_ok k2⟩
  have me_Query_contains : Meth K (ga K "Query") "__contains__" (ma K (ga K "Query") "__contains__") := Hy.meB_ok k3 (by decide +kernel)
  have me_with_shown_of : Meth K (ga K "Query") "with_shown_of" (ma K (ga K "Query") "with_shown_of") := Hy.meB_ok k3 (by decide +kernel)
  have p_atoms : PropOf K (ga K "Query") "atoms" (ma K (ga K "Query") "atoms") (wf K (ga K "Query") "property" "atoms") := Hy.prB_ok k4 (by decide +kernel)
  have p_columns : PropOf K (ga K "Query") "columns" (ma K (ga K "Query") "columns") (wf K (ga K "Query") "property" "columns") := Hy.prB_ok k4 (by decide +kernel)
  obtain ⟨cr_Query, cm_Query_of⟩ := Hy.cmB_ok k5
  have eOf : ∀ H, SqT K H (kwO (aC "Query" "of") "down" K) [] := fun H => Hx.emB_ok e1 H
  have hk : SysD K := Hx.sysB_ok h6
  have na_Query__shown : NoAttr K (ga K "Query") "_shown" := C.naQ _ (by decide +kernel)
  have na_Query__down : NoAttr K (ga K "Query") "_down" := C.naQ _ (by decide +kernel)
  have na_Query__atoms : NoAttr K (ga K "Query") "_atoms" := C.naQ _ (by decide +kernel)
  have na_Query__columns : NoAttr K (ga K "Query") "_columns" := C.naQ _ (by decide +kernel)
  have na_Form_shown_columns : NoAttr K (ga K "Form") "shown_columns" := C.naF _ (by decide +kernel)
  have na_Form_down_columns : NoAttr K (ga K "Form") "down_columns" := C.naF _ (by decide +kernel)
  have na_Form_atom_columns : NoAttr K (ga K "Form") "atom_columns" := C.naF _ (by decide +kernel)
  have na_Form_all_columns : NoAttr K (ga K "Form") "all_columns" := C.naF _ (by decide +kernel)
  obtain ⟨fd_is_name, F_is_name⟩ : ∃ fd, FnP K "is_name" sIsName (ga K "is_name") fd := c.def_ 7 rfl
  obtain ⟨fd_checked_form, F_checked_form⟩ : ∃ fd, FnP K "checked_form" sCkForm (ga K "checked_form") fd := c.def_ 8 rfl
  obtain ⟨fd_columns_of, F_columns_of⟩ : ∃ fd, FnP K "columns_of" sColsOfQ (ga K "columns_of") fd := c.def_ 9 rfl
  obtain ⟨fd_are_atoms, F_are_atoms⟩ : ∃ fd, FnP K "are_atoms" sAreAt (ga K "are_atoms") fd := c.def_ 10 rfl
  obtain ⟨fd_are_names, F_are_names⟩ : ∃ fd, FnP K "are_names" sNames (ga K "are_names") fd := c.def_ 11 rfl
  obtain ⟨fd_are_some_of, F_are_some_of⟩ : ∃ fd, FnP K "are_some_of" sSomeOf (ga K "are_some_of") fd := c.def_ 12 rfl
  obtain ⟨fd_check_query, F_check_query⟩ : ∃ fd, FnP K "check_query" sChkQ (ga K "check_query") fd := c.def_ 13 rfl
  obtain ⟨fd_check_column, F_check_column⟩ : ∃ fd, FnP K "check_column" sChkC (ga K "check_column") fd := c.def_ 14 rfl
  obtain ⟨fd_neighbours, F_neighbours⟩ : ∃ fd, FnP K "neighbours" sNear (ga K "neighbours") fd := c.def_ 15 rfl
  obtain ⟨fd_home, F_home⟩ : ∃ fd, FnP K "home" sHomeS (ga K "home") fd := c.def_ 16 rfl
  obtain ⟨fd_home_of, F_home_of⟩ : ∃ fd, FnP K "home_of" sHomeOf (ga K "home_of") fd := c.def_ 17 rfl
  obtain ⟨fd_beside, F_beside⟩ : ∃ fd, FnP K "beside" sBeside (ga K "beside") fd := c.def_ 18 rfl
  obtain ⟨fd__law_stream, F__law_stream⟩ : ∃ fd, FnP K "_law_stream" sStream (ga K "_law_stream") fd := c.def_ 19 rfl
  obtain ⟨fd__law_draw, F__law_draw⟩ : ∃ fd, FnP K "_law_draw" sDraw (ga K "_law_draw") fd := c.def_ 20 rfl
  obtain ⟨fd__law_pick, F__law_pick⟩ : ∃ fd, FnP K "_law_pick" sPick (ga K "_law_pick") fd := c.def_ 21 rfl
  obtain ⟨fd__law_mixed, F__law_mixed⟩ : ∃ fd, FnP K "_law_mixed" sMixed (ga K "_law_mixed") fd := c.def_ 22 rfl
  obtain ⟨fd__law_some, F__law_some⟩ : ∃ fd, FnP K "_law_some" sSome (ga K "_law_some") fd := c.def_ 23 rfl
  obtain ⟨fd__law_names, F__law_names⟩ : ∃ fd, FnP K "_law_names" sNamesL (ga K "_law_names") fd := c.def_ 24 rfl
  obtain ⟨fd__law_tree_atoms, F__law_tree_atoms⟩ : ∃ fd, FnP K "_law_tree_atoms" sTree (ga K "_law_tree_atoms") fd := c.def_ 25 rfl
  obtain ⟨fd__law_any_atoms, F__law_any_atoms⟩ : ∃ fd, FnP K "_law_any_atoms" sAny (ga K "_law_any_atoms") fd := c.def_ 26 rfl
  obtain ⟨fd__law_round_atoms, F__law_round_atoms⟩ : ∃ fd, FnP K "_law_round_atoms" sRound (ga K "_law_round_atoms") fd := c.def_ 27 rfl
  obtain ⟨fd__law_query, F__law_query⟩ : ∃ fd, FnP K "_law_query" sQuery (ga K "_law_query") fd := c.def_ 28 rfl
  obtain ⟨fd__law_built, F__law_built⟩ : ∃ fd, FnP K "_law_built" sBuiltQ (ga K "_law_built") fd := c.def_ 29 rfl
  obtain ⟨fd__law_columns, F__law_columns⟩ : ∃ fd, FnP K "_law_columns" sCols (ga K "_law_columns") fd := c.def_ 30 rfl
  obtain ⟨fd__law_is_near, F__law_is_near⟩ : ∃ fd, FnP K "_law_is_near" sIsNear (ga K "_law_is_near") fd := c.def_ 31 rfl
  obtain ⟨fd__law_have, F__law_have⟩ : ∃ fd, FnP K "_law_have" sHave (ga K "_law_have") fd := c.def_ 32 rfl
  obtain ⟨fd__law_right, F__law_right⟩ : ∃ fd, FnP K "_law_right" sRightQ (ga K "_law_right") fd := c.def_ 33 rfl
  obtain ⟨fd_Form_init, F_Form_init⟩ : ∃ fd, FunD K "__init__" "Form.__init__" (defArgs sFIni) (defBody sFIni) (defScope sFIni) [] [] (ma K (ga K "Form") "__init__") fd := c.def_ 0 rfl
  obtain ⟨fd_Query_init, F_Query_init⟩ : ∃ fd, FunD K "__init__" "Query.__init__" (defArgs iQuery) (defBody iQuery) (defScope iQuery) [V.ref (dfA (aM "Query" "__init__") 0 K)] [("down", V.ref (kwO (aM "Query" "__init__") "down" K))] (ma K (ga K "Query") "__init__") fd := c.def_ 1 rfl
  obtain ⟨fd_Query_of, F_Query_of⟩ : ∃ fd, FunD K "of" "Query.of" (defArgs iOf) (defBody iOf) (defScope iOf) [] [("down", V.ref (kwO (aC "Query" "of") "down" K))] (wf K (ga K "Query") "classmethod" "of") fd := c.def_ 2 rfl
  obtain ⟨fd_atoms, F_atoms⟩ : ∃ fd, FunD K "atoms" "Query.atoms" (defArgs iAtoms) (defBody iAtoms) (defScope iAtoms) [] [] (wf K (ga K "Query") "property" "atoms") fd := c.def_ 3 rfl
  obtain ⟨fd_columns, F_columns⟩ : ∃ fd, FunD K "columns" "Query.columns" (defArgs iColumns) (defBody iColumns) (defScope iColumns) [] [] (wf K (ga K "Query") "property" "columns") fd := c.def_ 4 rfl
  obtain ⟨fd_with_shown_of, F_with_shown_of⟩ : ∃ fd, FunD K "with_shown_of" "Query.with_shown_of" (defArgs sWithQ) (defBody sWithQ) (defScope sWithQ) [] [("down", V.ref (kwO (aM "Query" "with_shown_of") "down" K))] (ma K (ga K "Query") "with_shown_of") fd := c.def_ 5 rfl
  obtain ⟨fd_Query_contains, F_Query_contains⟩ : ∃ fd, FunD K "__contains__" "Query.__contains__" (defArgs iHas) (defBody iHas) (defScope iHas) [] [] (ma K (ga K "Query") "__contains__") fd := c.def_ 6 rfl
  obtain ⟨fd, F⟩ : ∃ fd, FnP K "law" sLawQ (ga K "law") fd := c.def_ 34 rfl
  have gl := gAll "law" List.mem_cons_self
  have e := hfa.symm.trans gl
  cases e
  have b := FunD.bindsA (ps := ["_law_script"]) F fun _ _ _ _ _ _ us hl => match us, hl with | [_], _ => rfl
  have D : Dfs K mg := ⟨T, ⟨_, F__law_draw⟩, ⟨_, F__law_pick⟩, ⟨_, F__law_mixed⟩, ⟨_, F__law_some⟩, ⟨_, F__law_names⟩⟩
  have M : Mks K := ⟨⟨_, F__law_tree_atoms⟩, ⟨_, F__law_any_atoms⟩, ⟨_, F__law_round_atoms⟩⟩
  have g_draw := T.g "_law_draw" (by decide +kernel)
  have g_mixed := T.g "_law_mixed" (by decide +kernel)
  have g_name := T.g "is_name" (by decide +kernel)
  have g_names := T.g "are_names" (by decide +kernel)
  refine ⟨fd, fun s v => b s [v] rfl, fun base _ _ => ?_⟩
  have G_is_name : FnOk P w K mg base CX0 1 _ fd_is_name ["value"] (spW K .data dWord) := w_word (ok_name F_is_name T T.m)
  have G_are_names : FnOk P w K mg base CX0 2 _ fd_are_names ["value"] (spW K .data dNamesP) := w_namesP (ok_namesP F_are_names F_is_name T g_name)
  have G_are_some_of : FnOk P w K mg base CX0 3 _ fd_are_some_of ["value", "names"] (spW K .data dSomeOf) := w_someOf (ok_someOf F_are_some_of F_is_name F_are_names T g_name g_names)
  have G__law_draw : FnOk P w K mg base CX0 1 _ fd__law_draw ["_law_stream_here", "_law_high"] (spW K .data dDraw) := w_draw (ok_draw F__law_draw T)
  have G__law_pick : FnOk P w K mg base CX0 2 _ fd__law_pick ["_law_stream_here", "_law_items"] (spW K .data dPick) := w_pick (ok_pick F__law_pick F__law_draw T g_draw)
  have G__law_mixed : FnOk P w K mg base CX0 2 _ fd__law_mixed ["_law_stream_here", "_law_items"] (spW K .fresh dMixed) := w_mixed rfl (ok_mixed F__law_mixed F__law_draw T g_draw)
  have G__law_some : FnOk P w K mg base CX0 3 _ fd__law_some ["_law_stream_here", "_law_items", "_law_least"] (spW K .fresh dSome) := w_some rfl (ok_some F__law_some F__law_draw F__law_mixed T g_draw g_mixed)
  have G__law_columns : FnOk P w K mg base CX0 1 _ fd__law_columns ["_law_plain"] (spW K .fresh dCols) := w_cols (ok_cols F__law_columns T)
  have G__law_is_near : FnOk P w K mg base CX0 1 _ fd__law_is_near ["_law_plain", "_law_one", "_law_other"] (spW K .data dIsNear) := w_isNear (ok_isNear F__law_is_near)
  have G__law_have : FnOk P w K mg base CX0 1 _ fd__law_have ["_law_plain", "_law_some_here"] (spW K .fresh dHave) := w_have (ok_have F__law_have)
  have G_columns : FnOk P w K mg base CX0 1 _ fd_columns ["self"] (spW K .data dPCols) := ok_PCols F_columns T (cl_Query := cl_Query) (na_Query__columns := na_Query__columns)
  have G_atoms : FnOk P w K mg base CX0 1 _ fd_atoms ["self"] (spW K .fresh dPAtoms) := ok_PAtoms F_atoms T (cl_Query := cl_Query) (na_Query__atoms := na_Query__atoms)
  have G_Query_contains : FnOk P w K mg base CX0 1 _ fd_Query_contains ["self", "value"] (spW K .data dPHas) := ok_PHas F_Query_contains T (cl_Query := cl_Query) (na_Query__columns := na_Query__columns)
  have G_check_query : FnOk P w K mg base CX0 1 _ fd_check_query ["query"] (spW K .data dChkQ) := ok_ChkQ F_check_query T (ic_Query := ic_Query)
  have G_check_column : FnOk P w K mg base CX0 2 _ fd_check_column ["query", "column"] (spW K .data dChkC) := ok_ChkC F_check_column T (F_Query_contains := F_Query_contains) (me_Query_contains := me_Query_contains) (G_Query_contains := G_Query_contains)
  have G_beside : FnOk P w K mg base CX0 1 _ fd_beside ["atoms", "column"] (spW K .data dBeside) := ok_Beside F_beside T 
  have G_neighbours : FnOk P w K mg base CX0 3 _ fd_neighbours ["query"] (spW K .fresh dNear) := ok_Near F_neighbours T (F_check_query := F_check_query) (G_check_query := G_check_query) (F_beside := F_beside) (G_beside := G_beside) (F_atoms := F_atoms) (p_atoms := p_atoms) (G_atoms := G_atoms) (F_columns := F_columns) (p_columns := p_columns) (G_columns := G_columns) (cl_Query := cl_Query)
  have G_home_of : FnOk P w K mg base CX0 3 _ fd_home_of ["query", "columns"] (spW K .data dHomeOf) := ok_HomeOf F_home_of T (F_check_query := F_check_query) (G_check_query := G_check_query) (F_check_column := F_check_column) (G_check_column := G_check_column) (F_atoms := F_atoms) (p_atoms := p_atoms) (G_atoms := G_atoms) (cl_Query := cl_Query)
  have G_home : FnR P w K mg base CX0 4 _ (spW K .data dHomeS) := ok_HomeS F_home T (F_home_of := F_home_of) (G_home_of := G_home_of)
  have G_columns_of : FnOk P w K mg base CX0 1 _ fd_columns_of ["atoms"] (spW K .data dColsOfQ) := ok_ColsOfQ F_columns_of T 
  have G_are_atoms : FnOk P w K mg base CX0 3 _ fd_are_atoms ["value"] (spW K .data dAreAt) := ok_AreAt F_are_atoms T (F_are_names := F_are_names) (G_are_names := G_are_names) (F_is_name := F_is_name) (G_is_name := G_is_name)
  have G_Form_init : FnOk P w K mg base CX0 2 _ fd_Form_init ["self", "shown", "atoms", "down"] (spI K "Form" dFIni) := ok_FIni F_Form_init T (F_columns_of := F_columns_of) (G_columns_of := G_columns_of) (cl_Form := cl_Form) (na_Form_all_columns := na_Form_all_columns) (na_Form_atom_columns := na_Form_atom_columns) (na_Form_down_columns := na_Form_down_columns) (na_Form_shown_columns := na_Form_shown_columns)
  have G_checked_form : FnOk P w K mg base CX0 4 _ fd_checked_form ["shown", "atoms", "down"] (spW K .data dCkForm) := ok_CkForm F_checked_form T (F_are_atoms := F_are_atoms) (G_are_atoms := G_are_atoms) (F_columns_of := F_columns_of) (G_columns_of := G_columns_of) (F_are_some_of := F_are_some_of) (G_are_some_of := G_are_some_of) (F_Form_init := F_Form_init) (M_Form := M_Form) (G_Form_init := G_Form_init)
  have G_Query_init : FnR P w K mg base CX0 1 _ (spI K "Query" dQIni1) := ok_QIni F_Query_init T C
  have G_Query_of : FnOk P w K mg base CX0 5 _ fd_Query_of ["cls", "shown", "atoms", "down"] (spC K "Query" .data dOf) := ok_Of F_Query_of T M_Query G_Query_init (by decide) F_checked_form G_checked_form
  have G_Query_of_d : FnR P w K mg base CX0 5 _ (spC K "Query" .data dOfD) := w_ofD F_Query_of eOf G_Query_of
  have b_Query_of_k1 := kb_of F_Query_of
  have G_with_shown_of : FnOk P w K mg base CX0 6 _ fd_with_shown_of ["self", "columns", "down"] (spW K .data dWithQ) := ok_WithQ F_with_shown_of T (cl_Query := cl_Query) (na_Query__atoms := na_Query__atoms) (kC_Query := kC_Query) (cr_Query := cr_Query) (cm_Query_of := cm_Query_of) (G_Query_of := G_Query_of) (b_Query_of_k1 := b_Query_of_k1)
  have b_with_shown_of := kb_with F_with_shown_of
  have G__law_built : FnOk P w K mg base CX0 6 _ fd__law_built ["_law_stream_here", "_law_plain"] (spW K .data dBuiltQ) := ok_BuiltQ F__law_built T (F__law_mixed := F__law_mixed) (G__law_mixed := G__law_mixed) (kC_Query := kC_Query) (cr_Query := cr_Query) (cm_Query_of := cm_Query_of) (G_Query_of := G_Query_of) (b_Query_of_k1 := b_Query_of_k1)
  have G__law_right : FnG P w K mg base CX0 7 _ fd__law_right ["_law_stream_here", "_law_plain"] (spW K .data dRightQ) := ok_RightQ F__law_right T (F__law_columns := F__law_columns) (G__law_columns := G__law_columns) (F__law_built := F__law_built) (G__law_built := G__law_built) (F__law_is_near := F__law_is_near) (G__law_is_near := G__law_is_near) (F_neighbours := F_neighbours) (G_neighbours := G_neighbours) (F__law_some := F__law_some) (G__law_some := G__law_some) (F__law_draw := F__law_draw) (G__law_draw := G__law_draw) (F__law_have := F__law_have) (G__law_have := G__law_have) (F_home_of := F_home_of) (G_home_of := G_home_of) (F_home := F_home) (G_home := G_home) (F__law_pick := F__law_pick) (G__law_pick := G__law_pick) (cl_Query := cl_Query) (me_with_shown_of := me_with_shown_of) (G_with_shown_of := G_with_shown_of) (b_with_shown_of := b_with_shown_of) (hk := hk)
  exact ok_law F T F__law_stream (ok_stream F__law_stream T) F__law_query (ok_query F__law_query D M) F__law_right G__law_right (fun cdv A outer s H E hr => tail_LawQ F T (F_home_of := F_home_of) (G_home_of := G_home_of) (F_neighbours := F_neighbours) (G_neighbours := G_neighbours) (F_home := F_home) (G_home := G_home) (kC_Query := kC_Query) (cr_Query := cr_Query) (cm_Query_of := cm_Query_of) (G_Query_of := G_Query_of) (G_Query_of_d := G_Query_of_d) cdv A outer s H E hr)
end K14
open PySem PySem.W PySem.Calls PyProof.Rows
theorem PySem.Challenge.cw_pagewise_k14_neighbours_and_homes_holds : PySem.Challenge.rw_pagewise_k14_neighbours_and_homes.Holds := by
  w_on; o_law
  refine HandSHeadRun.head_any (r := OpenLaw.row PySem.Challenge.rw_pagewise_k14_neighbours_and_homes) (q := view (OpenLaw.row PySem.Challenge.rw_pagewise_k14_neighbours_and_homes).prog [42]) (H := K14.hk) (ob := K14.ob) (M := 4000) (loose := K14.loose)
    (d := HandSHeadRun.topDef (OpenLaw.row PySem.Challenge.rw_pagewise_k14_neighbours_and_homes).prog 42) (kwd := []) K14.ob_eq
    (by kernel_rfl) (fun s => by kernel_rfl) K14.run (by kernel_rfl) (by kernel_rfl) (by kernel_rfl) (by rfl) (by first | assumption | decide +kernel) (by decide +kernel) ⟨rfl, rfl, rfl, rfl, rfl, by decide +kernel⟩ ?hw ?hc
  case hw => w_witness2
  case hc =>
    refine Rp.walk_G (l := PySem.Challenge.rw_pagewise_k14_neighbours_and_homes) (n := 63) (k := 8) (x := "_law_script") (CX := L2.CX0) rfl (by decide) (by kernel_rfl) ⟨rfl, by decide, by decide⟩ ?F (fun _ _ _ _ z => z)
    intro w mg fa h Y G hmg0
    obtain ⟨K, KX, c⟩ := Y
    have hmg : mg ("law" : PySem.Str) = some (.ref fa) := by
      have e : (HandSHeadRun.topDef (OpenLaw.row PySem.Challenge.rw_pagewise_k14_neighbours_and_homes).prog 42).name = ("law" : PySem.Str) := by kernel_rfl
      rw [← e]
      exact hmg0
    obtain ⟨fd, hb, hF⟩ := K14.facts (P := (PySem.Challenge.rw_pagewise_k14_neighbours_and_homes).prog) (w := w) KX G hmg c
    exact ⟨K, fd, K14.spLaw K, KX, hb, fun H a ns hl _ hS => ⟨a, ns, rfl, hS, hl, fun _ => rfl⟩, hF⟩
