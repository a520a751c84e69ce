import PyProof.Rows.All
import Wide.All
import OpenK.AllK
import Wide.FinOn
import KE.KExcIs
import KE.KExcInit
import HandS.ForMost
import HandS.Exc
import HandS.ExcOwn
import HandS.ExcValue
import HandS.ExcInit
import HandS.IsInst
import PyProof.ReprRoads
import HandS.RaiseMore
import HandS.Defaults
import HandS.Ends
import HandS.HeadEnd
import KE.KStateDown
import HandS.Head0
import HandS.Head1
import HandS.Head2
import HandS.HeadHook1
import HandS.HeadHook2
import HandS.Wide
import PyProof.ReprLen
import HandS.WordsExc
import PySem.Challenge.RW_pagewise_k00_errors
set_option Elab.async false
set_option linter.all false
set_option maxRecDepth 100000
set_option maxHeartbeats 0
/-! Own exceptions over any built-in base, as values: made by their own __init__, their fields read, asked by isinstance. -/
namespace Ex
open PySem PySem.Spec PySem.Calls PyProof.Rows L2

/-- what a built-in base tells: its mro, who makes, who fills -/
structure Base (B nid iid : String) (ml : List Value) : Prop where
  mak : ∃ (Bn inN : String) (mN : List Value), ExcBaseFacts Bn nid inN mN ∧ ml.contains (.type Bn) = true
  noA : ml.contains (.type "AttributeError") = false
  noN : ml.contains (.type "NameError") = false
  hasB : ml.contains (.type B) = true
  hasO : ml.contains (.type "object") = true
  pass : ∀ self : Value, refuseLoop self "__setattr__" ml = pure ()
  iPlain : plainId iid = true
  iEntry : entryFor table iid = some Builtin.«BaseException.__init__»
  iSplit : splitId iid = some (B, "__init__")
  iKind : builtinKind iid = some .slot
  iRow : Manifest.signature? iid = some ⟨.positional, "*", B, .self, [⟨"args", .varPos, false⟩]⟩
  star : (B != "*") = true
theorem base_of {B nid iid : String} {ml : List Value} (F : ExcBaseFacts B nid iid ml) (ho : ml.contains (.type "object") = true) (hp : ∀ self : Value, refuseLoop self "__setattr__" ml = pure ()) : Base B nid iid ml where
  mak := ⟨B, iid, ml, F, F.hasB⟩
  noA := F.noAttr
  noN := F.noName
  hasB := F.hasB
  hasO := ho
  pass := hp
  iPlain := F.init.plain
  iEntry := F.initEntry
  iSplit := F.initSplit
  iKind := F.initKind
  iRow := F.initRow
  star := F.noStar

/-- an exception object, fresh -/
abbrev eob (C t : Addr) : Obj := { cls := .ref C, data := .fields #[.ref t, .none, .none, .none, .bool false, .none] }
section
variable {M : Model} {A : Around} {E : Value → Shared → Prop} {h : Heap} {g : Array GenState} {d : Drawn} {t : Nat} {os : OsState}
variable {nm q : Str} {C N : Addr} {bs ml : List Value} {hy : Bool} {sn : List Str} {sub : List Value} {ab : Bool} {col : Option Bool} {dd : Option Addr} {k0 k1 k2 k3 k5 : Option Value} {B nid iid Bn inN : String} {mN : List Value}
theorem look_new (F : ExcBaseFacts Bn nid inN mN) (hb : ml.contains (.type Bn) = true) {us : List Value} {Q : Unit → Shared → Prop}
    (oC : h.get? C = some (excClassObj nm q C N bs ml hy sn sub ab col dd k0 k1 k2 k3 k5 nid)) (hq : Q () ⟨h, g, d, t, os⟩) : wpAny M A (checkBuiltinCall nid ⟨.ref C :: us, []⟩) Q E ⟨h, g, d, t, os⟩ := by
  have c1 : (Value.ref C :: ml).contains (.type Bn) = true := by
    rw [List.contains_cons, hb, Bool.or_true]
  have c2 := F.noStar
  simp only [checkBuiltinCall, F.newKind, F.newSplit,
    F.newRow]
  repeat (first
    | refine wpAny_loadPart_at oC ?_
    | (refine wpAny_isSubtype_exc oC ?_; rw [c1])
    | refine wpAny_staticBase_exc oC ?_
    | refine wpAny_madeBy_exc oC ?_
    | simp only [bne_self_eq_false, Bool.false_eq_true, if_false]
    | wp_step)
  exact hq
theorem look_init (Y : Base B nid iid ml) {e : Addr} {oe : Obj} {us : List Value} {nw : String} {Q : Unit → Shared → Prop}
    (oC : h.get? C = some (excClassObj nm q C N bs ml hy sn sub ab col dd k0 k1 k2 k3 k5 nw)) (he : h.get? e = some oe) (hc : oe.cls = .ref C) (hq : Q () ⟨h, g, d, t, os⟩) :
    wpAny M A (checkBuiltinCall iid ⟨.ref e :: us, []⟩) Q E ⟨h, g, d, t, os⟩ := by
  have c1 : (Value.ref C :: ml).contains (.type B) = true := by
    rw [List.contains_cons, Y.hasB, Bool.or_true]
  have c2 := Y.star
  simp only [checkBuiltinCall, Y.iKind, Y.iSplit,
    Y.iRow]
  repeat (first
    | (with_reducible refine wpAny_loadPart_at he ?_; rw [hc])
    | with_reducible refine wpAny_loadPart_at oC ?_
    | (with_reducible refine wpAny_isSubtype_exc oC ?_; rw [c1])
    | wp_step)
  refine wpAny_onRaise ?_
  rw [show ∀ (x y : String) (n : Nat), Bind.check ⟨.positional, "*", B, .self, [⟨"args", .varPos, false⟩]⟩ x y n (List.map (fun z => z.fst) ({ pos := Value.ref e :: us } : Args).kw) = pure () from
    fun x y n => check_star_args _ _ _ _ _ _]
  exact wpAny_pure hq
end
section
variable {prog : Program} {w : World} {A : Around} {E : Value → Shared → Prop} {R : Result → Shared → Prop} {h : Heap} {g : Array GenState} {d : Drawn} {t : Nat} {os : OsState}
variable {nm q : Str} {C N : Addr} {bs ml : List Value} {hy : Bool} {sn : List Str} {sub : List Value} {ab : Bool} {col : Option Bool} {dd : Option Addr} {k0 k1 k2 k3 k5 : Option Value} {B nid iid Bn inN : String} {mN : List Value}
theorem run_new (F : ExcBaseFacts Bn nid inN mN) (hb : ml.contains (.type Bn) = true) (ha : ml.contains (.type "AttributeError") = false) (hn : ml.contains (.type "NameError") = false) {us : List Value}
    (oC : h.get? C = some (excClassObj nm q C N bs ml hy sn sub ab col dd k0 k1 k2 k3 k5 nid))
    (hq : R (.ok (.ret (.ref (h.objs.size + 1)))) ⟨(h.push { cls := .type "tuple", data := .seq us.toArray }).push (eob C h.objs.size), g, d, t, os⟩) (hl : us.length ≤ sizeLine) :
    codeAny (model prog w) A (.builtin nid ⟨.ref C :: us, []⟩) R ⟨h, g, d, t, os⟩ := by
  have c0 := F.ends
  have c1 : (Value.ref C :: ml).contains (.type Bn) = true := by
    rw [List.contains_cons, hb, Bool.or_true]
  have c2 : (Value.ref C :: ml).contains (.type "AttributeError") = false := by
    rw [List.contains_cons, ha]; rfl
  have c3 : (Value.ref C :: ml).contains (.type "NameError") = false := by
    rw [List.contains_cons, hn]; rfl
  have hrest : us.length ≤ sizeLine := hl
  refine codeAny_builtinAt F.entry ?_
  unfold Builtin.«BaseException.__new__»
  refine PySem.wpAt_bind ?_
  show PySem.wpAt _ _ _ (stack >>= _) _ _ _
  refine PySem.wpAt_bind (PySem.wpAt_stack fun p under => PySem.wpAt_of_wpAny ?_)
  wp_walk
  refine PySem.wpAt_of_wpAny ?_
  rw [F.owner]
  repeat (first
    | with_reducible refine wpAny_madeHere_exc F.canon oC ?_
    | with_reducible refine wpAny_loadPart_at oC ?_
    | (with_reducible refine wpAny_isSubtype_exc oC ?_; first | rw [c1] | rw [c2] | rw [c3])
    | wp_step)
  show R _ _
  rw [Heap.size_push]
  exact hq
theorem run_type_call (Y : Base B nid iid ml) {us : List Value} {fI : Addr} {Q : Fin → Shared → Prop}
    (oC : h.get? C = some (excClassObj nm q C N bs ml hy sn sub ab col dd k0 k1 k2 k3 k5 nid))
    (hi : W.Looks (model prog w) h (typeLookup (.ref C) "__init__") (some (.ref fI))) (hf : ∀ self, W.Looks (model prog w) h (bindSpecial (.ref fI) self) (.ref fI, [self])) (hl : us.length ≤ sizeLine)
    (hq : codeAny (model prog w) A (.call (.ref fI) ⟨.ref (h.objs.size + 1) :: us, []⟩)
      (fun r s' => match r with | .ok (.ret v) => v = .none ∧ Q (.done (.ret (.ref (h.objs.size + 1)))) s' | .ok _ => False | .error e => E e s')
      ⟨(h.push (W.kdv_tup us)).push (eob C h.objs.size), g, d, t, os⟩) :
    wpAny (model prog w) A (Builtin.«type.__call__» ⟨.ref C :: us, []⟩) Q E ⟨h, g, d, t, os⟩ := by
  obtain ⟨Bn, inN, mN, F, hb⟩ := Y.mak
  repeat (first
    | with_reducible refine wpAny_loadPart_at oC ?_
    | with_reducible refine wpAny_madeBy_exc oC ?_
    | wp_step)
  refine codeAny_call_builtin_code (Code.quiet_builtin _ F.quiet) (look_new F hb oC ?_)
  refine run_new F hb Y.noA Y.noN oC ?_ hl
  show wpAny _ _ _ _ _ _
  have k : ∀ b o, h.get? b = some o → ((h.push (W.kdv_tup us)).push (eob C h.objs.size)).get? b = some o :=
    fun b o e => Heap.get?_push_of_some _ (Heap.get?_push_of_some _ e)
  have oC1 := k _ _ oC
  have hg1 : ((h.push (W.kdv_tup us)).push (eob C h.objs.size)).get? (h.objs.size + 1) = some (eob C h.objs.size) := by
    heap_get
  have cC : (Value.ref C :: ml).contains (.ref C) = true := by simp
  have i1 := hi.keeps k
  have b1 := (hf (.ref (h.objs.size + 1))).keeps k
  unfold isInstance
  repeat (first
    | with_reducible refine wpAny_loadPart_at hg1 ?_
    | (with_reducible refine wpAny_isSubtype_exc oC1 ?_; rw [cC])
    | wp_step)
  show wpAny _ _ (typeLookup (.ref C) _) _ _ _
  refine i1.at ?_
  refine wpAny_holding (wpAny_bind (b1.at ?_))
  refine wpAny_bind (wpAny_call (codeAny_mono hq fun r s' z => ?_))
  rcases r with e | (v | _ | _ | _)
  all_goals first
    | exact z
    | exact z.elim
    | skip
  obtain ⟨rfl, z⟩ := z
  first
    | exact wpAny_pure (wpAny_pure z)
    | (wp_walk; exact z)
/-- C(..), C's own __init__ -/
theorem run_call (Y : Base B nid iid ml) {us : List Value} {fI : Addr}
    (oC : h.get? C = some (excClassObj nm q C N bs ml hy sn sub ab col dd k0 k1 k2 k3 k5 nid))
    (hi : W.Looks (model prog w) h (typeLookup (.ref C) "__init__") (some (.ref fI))) (hf : ∀ self, W.Looks (model prog w) h (bindSpecial (.ref fI) self) (.ref fI, [self])) (hl : us.length ≤ sizeLine)
    (hq : codeAny (model prog w) (A.under (.builtin "type.__call__" ⟨.ref C :: us, []⟩)) (.call (.ref fI) ⟨.ref (h.objs.size + 1) :: us, []⟩) (W.InitBack (h.objs.size + 1) R)
      ⟨(h.push (W.kdv_tup us)).push (eob C h.objs.size), g, d, t, os⟩) :
    codeAny (model prog w) A (.call (.ref C) ⟨us, []⟩) R ⟨h, g, d, t, os⟩ := by
  have f1 := tc_lookup
  have f2 := tc_bind (.ref C)
  have hTy : (⟨h, g, d, t, os⟩ : Shared).TypeIs (.ref C) "type" := ⟨_, oC, rfl⟩
  refine codeAny_of_tree ?_
  show wpAny _ _ (callAny (.ref C) _) _ _ _
  repeat (any_goals (first
    | assumption
    | with_reducible refine wpAny_loadPart_at oC ?_
    | wp_step))
  refine ⟨rfl, ?_⟩
  refine codeAny_call_builtin_at (Code.quiet_builtin _ (by decide +kernel)) entry_typeCall (wpAny_check_type_call_sub oC (run_type_call Y oC hi hf hl ?_))
  refine codeAny_mono hq fun r s' z => ?_
  rcases r with e | (v | _ | _ | _) <;> exact z
/-- B.__init__(e, ..) -/
theorem run_init (Y : Base B nid iid ml) {e t0 : Addr} {us : List Value} {nw : String}
    (oC : h.get? C = some (excClassObj nm q C N bs ml hy sn sub ab col dd k0 k1 k2 k3 k5 nw)) (he : h.get? e = some (eob C t0)) (hl : us.length ≤ sizeLine)
    (hq : ∀ h' t1, (∀ b o, b ≠ e → h.get? b = some o → h'.get? b = some o) → h'.get? e = some (eob C t1) → R (.ok (.ret .none)) ⟨h', g, d, t, os⟩) :
    codeAny (model prog w) A (.call (.builtin iid) ⟨.ref e :: us, []⟩) R ⟨h, g, d, t, os⟩ := by
  have hrest : us.length ≤ sizeLine := hl
  refine codeAny_call_builtin Y.iPlain Y.iEntry (look_init Y oC he rfl ?_)
  wp_walk
  refine hq _ h.objs.size (fun b o nb ho => ?_) ?_
  · rw [Heap.get?_update_other _ _ (Ne.symm nb)]
    exact Heap.get?_push_of_some _ ho
  · rw [Heap.get?_update_self _ (Heap.get?_push_of_some _ he) rfl]
    rfl
end
end Ex

namespace Ex
open PySem PySem.Spec PySem.Calls PyProof.Rows L2
/-! ### the five bases -/
abbrev mlI : List Value := [.type "IndexError", .type "LookupError", .type "Exception", .type "BaseException", .type "object"]
abbrev mlK : List Value := [.type "KeyError", .type "LookupError", .type "Exception", .type "BaseException", .type "object"]
abbrev mlO : List Value := [.type "OverflowError", .type "ArithmeticError", .type "Exception", .type "BaseException", .type "object"]
abbrev mlA : List Value := [.type "ArithmeticError", .type "Exception", .type "BaseException", .type "object"]
abbrev mlL : List Value := [.type "LookupError", .type "Exception", .type "BaseException", .type "object"]
theorem bI : Base "IndexError" "IndexError.__new__" "IndexError.__init__" mlI :=
  base_of F.excBase_IndexError (by decide +kernel) fun self => by kernel_rfl
theorem bO : Base "OverflowError" "OverflowError.__new__" "OverflowError.__init__" mlO :=
  base_of F.excBase_OverflowError (by decide +kernel) fun self => by kernel_rfl
theorem bA : Base "ArithmeticError" "ArithmeticError.__new__" "ArithmeticError.__init__" mlA :=
  base_of F.excBase_ArithmeticError (by decide +kernel) fun self => by kernel_rfl
theorem bL : Base "LookupError" "LookupError.__new__" "LookupError.__init__" mlL :=
  base_of F.excBase_LookupError (by decide +kernel) fun self => by kernel_rfl
theorem bK : Base "KeyError" "LookupError.__new__" "KeyError.__init__" mlK where
  mak := ⟨_, _, _, F.excBase_LookupError, by decide +kernel⟩
  noA := by decide +kernel
  noN := by decide +kernel
  hasB := by decide +kernel
  hasO := by decide +kernel
  pass := fun self => by kernel_rfl
  iPlain := by decide +kernel
  iEntry := excClass_KeyError.initEntry
  iSplit := by kernel_rfl
  iKind := by kernel_rfl
  iRow := by kernel_rfl
  star := by decide +kernel

section
open Builtin Builtin.ObjectAttr
variable {prog : Program} {w : World} {A : Around} {E : Value → Shared → Prop} {R : Result → Shared → Prop} {hp : Heap} {g : Array GenState} {d : Drawn} {t : Nat} {os : OsState}
/-- self.name = v on an exception without a dict -/
theorem osa_first {K : W.Frag} {name : Str} {tk : Tok} {v : Value} {x C : Addr} {fv : Array Value} {cd : ClassData} {B nid iid : String} {ml : List Value} (Y : Base B nid iid ml)
    (X : K.In hp) (hx : hp.get? x = some { cls := .ref C, data := .fields fv }) (hcd : W.clsIn K C = some cd) (hm : cd.mro = .ref C :: ml) (hh : cd.hasDict = true) (ha : W.findIn K (.ref C) name = some none)
    (hq : ∀ h' tk' dx, (∀ b o, b ≠ x → hp.get? b = some o → h'.get? b = some o) → hp.objs.size ≤ dx → dx ≠ x → h'.get? x = some { cls := .ref C, dict := some dx, data := .fields fv } →
      h'.Ns1 dx (fun y => if y = name then some v else none) → R (.ok (.ret .none)) ⟨h', g, d, tk', os⟩) :
    codeAny (model prog w) A (.call (.builtin "object.__setattr__") ⟨[.ref x, .str name tk, v], []⟩) R ⟨hp, g, d, t, os⟩ := by
  have J : W.InstAt hp x { cls := .ref C, data := .fields fv } C none := ⟨hx, rfl, rfl, trivial⟩
  have SF := F.store_object
  have ne : cd.mro.isEmpty = false := by rw [hm]; rfl
  have hob : cd.mro.contains (.type "object") = true := by
    rw [hm, List.contains_cons, Y.hasO, Bool.or_true]
  have hxs : x ≠ hp.objs.size := Nat.ne_of_lt (Heap.lt_size hx)
  have sub : W.Looks (model prog w) hp (isInstance (.ref x) (.type "object")) true :=
    J.type.andThen (W.looks_mroIn X (by unfold W.mroIn; rw [hcd, Option.bind_some, if_neg (by rw [ne]; decide), hob]))
  refine codeAny_call_builtin SF.slot.plain SF.entry
    (@W.check_slot (model prog w) _ _ ⟨hp, g, d, t, os⟩ "object.__setattr__" "object" "__setattr__" (.ref x) [.str name tk, v] [] _ SF.kind SF.split sub (SF.args (.ref x) (.str name tk) v) ?_)
  have l1 : W.Looks (model prog w) hp (mroOf (.ref C)) cd.mro := (W.looks_clsIn X hcd).andThen .now
  have l2 : W.Looks (model prog w) hp (storeTaker? none) none := .now
  have l3 : W.Looks (model prog w) hp (classData C) cd := W.looks_clsIn X hcd
  rw [W.osa_eq,
    refuse_eq]
  refine wpAny_bind (wpAny_bind (J.type.at (wpAny_bind (l1.at ?_))))
  rw [hm, refuseLoop_ref, Y.pass]
  refine wpAny_pure (wpAny_bind (J.type.at (wpAny_bind ((W.looks_findIn X ha).at (wpAny_bind (l2.at ?_))))))
  show wpAny _ _ (storeInOwnDict (.ref x) (.ref C) (.str name tk) name v false) _ _ _
  obtain ⟨nm, bs, mr, ns, qn, hd, sn, sb, ab, col, del⟩ := cd
  dsimp only at hh
  subst hh
  unfold storeInOwnDict ownDictForStores
  repeat (first
    | with_reducible refine HandSPX.store_in_new ?_ ?_
    | with_reducible refine wpAny_loadPart_at hx ?_
    | with_reducible refine l3.at ?_
    | wp_step)
  · exact ⟨_, #[], _, (Heap.get?_update_ne _ _ _ _ hxs.symm).trans (Heap.get?_push_at rfl rfl), rfl, fun e he => absurd he (by simp), fun _ => rfl⟩
  · intro h' tk' hn' hs
    have hx1 : (hp.push { cls := .type "dict", data := .dict #[] }).get? x = some { cls := .ref C, data := .fields fv } :=
      Heap.get?_push_of_some _ hx
    refine hq h' tk' hp.objs.size (fun b o hb ho => ?_) (Nat.le_refl _) hxs.symm ?_ hn'
    · exact (hs.2 b (Nat.ne_of_lt (Heap.lt_size ho))).trans
        ((Heap.get?_update_ne _ _ _ _ hb).trans (Heap.get?_push_of_some _ ho))
    · exact (hs.2 x hxs).trans (Heap.get?_update_self _ hx1 rfl)
end

/-! ### what the written part says of a class with its own __init__ that keeps one field f -/
structure XC (K : PySem.W.Frag) (C : Addr) (nid : String) (ml : List Value) (f : Str) (fI : Addr) : Prop where
  cls : ∃ nm q N bs sn sub ab col dd k0 k1 k2 k3 k5, K.lookup C = some (excClassObj nm q C N bs ml true sn sub ab col dd k0 k1 k2 k3 k5 nid)
  sa : PySem.W.findIn K (.ref C) "__setattr__" = some (some (.builtin "object.__setattr__"))
  ga : PySem.W.findIn K (.ref C) "__getattribute__" = some (some (.builtin "BaseException.__getattribute__"))
  gg : PySem.W.findIn K (.ref C) "__getattr__" = some none
  noF : PySem.W.findIn K (.ref C) f = some none
  iC : PySem.W.findIn K (.ref C) "__init__" = some (some (.ref fI))
  tI : PySem.W.typeIn K (.ref fI) = some (.type "function")
  kC : PySem.W.keepIn K (.ref C) = true
  exC : PySem.W.subIn K (.ref C) (.type "BaseException") = some true
  tyC : PySem.W.typeIn K (.ref C) = some (.type "type")
  hdC : PySem.W.hasDictIn K C = true
/-- what isinstance asks of an exception class -/
structure IC (K : PySem.W.Frag) (C : Addr) : Prop where
  cl : (PySem.W.clsIn K C).isSome = true
  ga : PySem.W.findIn K (.ref C) "__getattribute__" = some (some (.builtin "BaseException.__getattribute__"))
  gg : PySem.W.findIn K (.ref C) "__getattr__" = some none
  sub : PySem.W.subIn K (.ref C) (.type "BaseException") = some true
  kl : PySem.W.findIn K (.ref C) "__class__" = some (some (.builtin "object.__class__"))
  gt : PySem.W.specialIn K (.builtin "object.__class__") "__get__" = some (some (.builtin "getset_descriptor.__get__"))
  tk : PySem.W.takesIn K (.builtin "object.__class__") = some true
  mo : PySem.W.mroIn K C (.type "object") = some true

/-- at e: an exception of the class at C that keeps v as f -/
def ExcAt (H : Hp) (e C : Addr) (f : Str) (v : V) : Prop := ∃ dx, H e = some (exo e C (some dx)) ∧ H dx = some (exd dx [(f, v)])

section
variable {X : Cx} {pins : List (Addr × Obj)} {σ : L2.St} {H : Hp} {s : Shared} {a C dx fI : Addr} {f : Str} {y : V} {u : Value} {Q : Unit → Shared → Prop} {E : Value → Shared → Prop} {A : Around} {B nid iid : String} {ml : List Value}
theorem cls_data (T : XC X.K C nid ml f fI) : ∃ cd, PySem.W.clsIn X.K C = some cd ∧ cd.mro = .ref C :: ml ∧ cd.hasDict = true := by
  obtain ⟨nm, q, N, bs, sn, sub, ab, col, dd, k0, k1, k2, k3, k5, hC⟩ := T.cls
  have e : PySem.W.clsIn X.K C = some { name := nm, bases := bs, mro := .ref C :: ml, ns := N, qualname := q, hasDict := true, slotNames := sn, subclasses := sub, abstract := ab, collection := col, hasDel := false } := by
    unfold PySem.W.clsIn
    rw [hC] <;> rfl
  exact ⟨_, e, rfl, rfl⟩
/-- self.f = y, the first one -/
theorem ost_first (Y : Base B nid iid ml) (T : XC X.K C nid ml f fI) (I : Inv X pins σ H s) (e : H a = some (exo a C none)) (ry : RelV y u)
    (h : ∀ dx s', H dx = none → dx ≠ a → Inv X pins σ (upd (upd H dx (exd dx [(f, y)])) a (exo a C (some dx))) s' → Q () s') : wpAny (model X.prog X.w) A (setAttr (.ref a) f u) Q E s := by
  obtain ⟨cd, hcl, hm, hh⟩ := cls_data T
  obtain ⟨t1, ho⟩ := exo_at I.hok e
  obtain ⟨hp, g, d, t, os⟩ := s
  refine PySem.W.set_plain I.kIn (ox := { cls := .ref C, dict := none, data := .fields #[.ref t1, .none, .none, .none, .bool false, .none] }) (od := none) ⟨ho, rfl, rfl, trivial⟩ T.sa ?_
  refine osa_first Y I.kIn ho hcl hm hh T.noF (fun h' tk' dx k dn dne hx hn => ?_)
  have hnd : H dx = none := I.hok.fresh dn
  have nd : ∀ {b : Addr} {o : Obj}, hp.get? b = some o → b ≠ dx :=
    fun {b o} q => Nat.ne_of_lt (Nat.lt_of_lt_of_le (Heap.lt_size q) dn)
  have na : ∀ {b : Addr}, H b = none → b ≠ a := fun {b} n z => by
    rw [z, e] at n
    cases n
  have U1 : Un X.fs [] H (upd (upd H dx (exd dx [(f, y)])) a (exo a C (some dx))) hp h' := {
    keep := fun b o q n _ _ => k b o (na n) q
    slot := fun b o q n _ _ => ⟨o.slots, k b o (na n) q⟩
    free := fun b o q n _ => by
      rw [upd_ne (na n), upd_ne (nd q)]
      exact n
    there := fun b o q _ => by
      by_cases hb : b = a
      · exact ⟨_, by rw [hb]; exact hx⟩
      · exact ⟨o, k b o hb q⟩
    tups := fun b xs q => by
      rw [upd_ne (at_ne e q exo_tup), upd_ne (ne_of_none q hnd)]
      exact q
    frzs := fun b o v q => by
      rw [upd_ne (at_ne e q exo_frz), upd_ne (ne_of_none q hnd)]
      exact q
    tbls := fun b ps q => ⟨#[], by
      rw [upd_ne (at_ne e q exo_tbl), upd_ne (ne_of_none q hnd), q]
      simp⟩ }
  refine h dx _ hnd dne (I.un (t' := tk') U1 fun b o q => ?_)
  by_cases hb : b = a
  · subst hb
    rw [upd_same] at q
    cases q
    exact exo_ok hx
  · rw [upd_ne hb] at q
    by_cases hd : b = dx
    · subst hd
      rw [upd_same] at q
      cases q
      exact exd_ok hn (relO_put (fs := []) ry fun g => True.intro)
    · rw [upd_ne hd] at q
      refine (I.hok b o q).stay (fun c v hc r => k c v ?_ r) (fun c hc => ?_) fun c xs hc => ?_
      · rcases hc with z | z
        · rw [z]
          exact hb
        · exact at_ne e z exo_own
      · rw [upd_ne (at_ne e hc exo_own), upd_ne (ne_of_none hc hnd)]
        exact hc
      · rw [upd_ne (at_ne e hc exo_tup), upd_ne (ne_of_none hc hnd)]
        exact hc
/-- B.__init__(self, ..): the args are laid anew, nothing else -/
theorem binit_ok {us : List Value} {Q : Value → Shared → Prop} (Y : Base B nid iid ml) (T : XC X.K C nid ml f fI) (I : Inv X pins σ H s) (e : H a = some (exo a C none)) (hl : us.length ≤ sizeLine) (h : ∀ s', Inv X pins σ H s' → Q .none s') :
    wpAny (model X.prog X.w) A (call (.builtin iid) (.ref a :: us)) Q E s := by
  obtain ⟨nm, q, N, bs, sn, sub, ab, col, dd, k0, k1, k2, k3, k5, hC⟩ := T.cls
  obtain ⟨t1, ho⟩ := exo_at I.hok e
  obtain ⟨hp, g, d, t, os⟩ := s
  refine wpAny_call (run_init Y (I.kIn _ _ hC) ho hl fun h' t2 k hx => ?_)
  have J := I.write (t' := t) (x := a) (e := a) (o := exo a C none) (by rw [e]; exact True.intro) (.inl rfl) k ⟨_, hx⟩ (exo_ok hx)
  have eu : upd H a (exo a C none) = H := by
    funext b
    by_cases hb : b = a
    · rw [hb, upd_same, e]
    · rw [upd_ne hb]
  rw [eu] at J
  exact h _ J
end
end Ex

namespace Ex
open PySem PySem.Spec PySem.Calls PyProof.Rows L2
/-! ### readings -/
/-- B.__init__(self, ..) -/
def tBI (C : Addr) (ta : TA) : TE := fun σ H Q => ta σ H fun vs H1 => ∃ (a : Addr) (ws : List V), vs = .ref a :: ws ∧ ws.length ≤ 1000 ∧ H1 a = some (exo a C none) ∧ Q .non H1
/-- self.f = e -/
def tXst (C : Addr) (f : Str) (to te : TE) : TS := fun D σ H => te σ H fun y H1 => to σ H1 fun x H2 => ∃ a : Addr, x = .ref a ∧ H2 a = some (exo a C none) ∧
  ∀ dx, H2 dx = none → dx ≠ a → D.nx σ (upd (upd H2 dx (exd dx [(f, y)])) a (exo a C (some dx)))
/-- C(e, ..), a value -/
def tXmk (C : Addr) (sp : Sp) (ta : TA) : TE := fun σ H Q => ta σ H fun vs H1 => vs.length ≤ 1000 ∧ ∀ a, H1 a = none → sp (.ref a :: vs) (upd H1 a (exo a C none)) (fun v H2 => v = .non ∧ Q (.ref a) H2) (fun _ _ _ => False)
/-- o.f of such an exception -/
def tXfld (C : Addr) (f : Str) (to : TE) : TE := fun σ H Q => to σ H fun x H1 => ∃ (a : Addr) (v : V), x = .ref a ∧ ExcAt H1 a C f v ∧ Q v H1
/-- isinstance(e, c), e an exception that is tracked -/
inductive IsEx (K : PySem.W.Frag) (H : Hp) : Addr → Addr → Prop where
  | own {a C dx : Addr} {fs : List (Str × V)} (h : H a = some (exo a C (some dx))) (hd : H dx = some (exd dx fs)) : IsEx K H a C
  | msg {a C : Addr} (h : H a = some (ExO (.ref C) a)) : IsEx K H a C
def rIE (K : PySem.W.Frag) : List V → Hp → VK → Prop := fun xs H Q => ∃ (a C : Addr) (c : V) (u : Value) (b : Bool), xs = [.ref a, c] ∧ ClsV c u ∧ IC K C ∧ IsEx K H a C ∧ PySem.W.kitOne K (.ref C) u = some b ∧ Q (.bl b) H
section
variable {X : Cx} {o e : Expr} {es : List Expr} {to te : TE} {ta : TA} {f : Str} {p p' p1 p2 pos : Pos} {C fI : Addr} {B nid iid : String} {ml : List Value}
theorem pe_binit {pl : Sem Bool} {n : Str} (Y : Base B nid iid ml) (T : XC X.K C nid ml f fI) (hg : Gl X n) (hm : X.mg n = none) (hv : bootBuiltins n = some (.type B)) (ht : typeOf (.type B) = pure (.type "type")) (hs : Manifest.isStub B = false) (hh : PySem.W.handedIn (.builtin iid) = true)
    (vV : PySem.W.findCls X.K (.type B) (.type "type") "__init__" = some (.val (.builtin iid))) (ha : PA X (e :: es) ta)
    (hn : n ≠ "__name__" := by decide) (hd : (n == ("__debug__" : Str)) = false := by decide)
    (hc : eval (.Call (.Attribute (.Name n p1) "__init__" p2) (e :: es) [] pos) X.env = (do
      let ov ← eval (.Name n p1) X.env
      standAt p2.atName
      let (f, first) ← holding [ov] (getMethod ov "__init__" pl)
      callWith pos f first (backTo pos (starEach (e :: es) X.env)) (backToKw pos (keywordEach [] X.env))) := by rfl)
    (he : starEach (e :: es) X.env = (false, eval e X.env) :: starEach es X.env := by rfl) (hpl : (backTo pos (starEach es X.env)).any (·.1) = false := by rfl) :
    PE X (.Call (.Attribute (.Name n p1) "__init__" p2) (e :: es) [] pos) (tBI C ta) := by
  refine ⟨fun pins s σ H Q I h => ?_⟩
  refine PySem.W.methodCall_KW (ld_blt I hg hm hv ?_ hn hd) hc
  obtain ⟨m, fr⟩ := I.fr
  refine PySem.W.method_type fr I.ok.mod.kin ht hs vV hh ?_
  show wpAny _ _ (callWith pos (Value.builtin iid) [] (backTo pos (starEach (e :: es) X.env)) []) _ _ _
  refine PyProof.Rows.callWith_method1 (thn (ha.run pos pins _ σ H _ (I.tok _) h) fun us s1 hx => ?_) he hpl
  obtain ⟨vs, H1, I1, r1, a, ws, ev, hl, ea, q⟩ := hx
  subst ev
  cases r1 with
  | @cons _ u0 _ ur ra rw' =>
    obtain rfl : u0 = Value.ref a := ra
    have hlen : ur.length ≤ sizeLine := by
      rw [← Paired.length rw', sizeLine_eq]
      omega
    exact binit_ok Y T I1 ea hlen fun s' J => ⟨.non, H1, J, rfl, q⟩
theorem ps_xst (Y : Base B nid iid ml) (T : XC X.K C nid ml f fI) (ho : PE X o to) (he : PE X e te) (hs : swapsWith e (some (.Attribute o f p')) pos.line X.env = pure false := by rfl) : PS X (.Assign [.Attribute o f p'] e pos) (tXst C f to te) := by
  refine ⟨fun pins s σ H D I h => ?_⟩
  refine plainObj_wpAny_Assign_Attribute (thn (he.run pins s σ H _ I h) fun v s1 h1 => ?_) hs
  obtain ⟨y, H1, I1, r1, q1⟩ := h1
  refine thn (ho.run pins s1 σ H1 _ I1 q1) fun u s2 h2 => ?_
  obtain ⟨x, H2, I2, r2, a, ex, ea, q⟩ := h2
  subst ex
  obtain rfl : u = Value.ref a := r2
  exact ost_first Y T I2 ea r1 fun dx s' n ne J => ⟨σ, _, J, q dx n ne⟩
theorem pe_xmk {x : Str} {CX : CXT} {k : Nat} {fd : FuncData} {ps : List Str} {sp : Sp} (Y : Base B nid iid ml) (T : XC X.K C nid ml f fI) (F : FnOk X.prog X.w X.K X.mg X.base CX k fI fd ps sp) (hr : Room (k + 1) X.A) (hb : Binds X.K fd ps []) (hx : Passes CX X (fun _ _ _ => False))
    (hg : Gl X x) (hm : X.mg x = some (.ref C)) (ha : PA X (e :: es) ta)
    (hdb : (x == ("__debug__" : Str)) = false := by decide) (he : starEach (e :: es) X.env = (false, eval e X.env) :: starEach es X.env := by rfl) (hpl : (backTo pos (starEach es X.env)).any (·.1) = false := by rfl) :
    PE X (.Call (.Name x p) (e :: es) [] pos) (tXmk C sp ta) := by
  refine ⟨fun pins s σ H Q I h => ?_⟩
  obtain ⟨nm, q, N, bs, sn, sub, ab, col, dd, k0, k1, k2, k3, k5, hC⟩ := T.cls
  refine wpAny_Call_Name_kw (ld_glob I hg hm ?_ hdb)
  refine PySem.W.callWith_K (h₀ := X.base) I.ok.mod.kin T.kC (thn (ha.run pos pins s σ H _ I h) fun us s1 h1 => ?_) he hpl
  obtain ⟨vs, H1, I1, r1, hz, q1⟩ := h1
  refine ⟨I1.kIn, ?_⟩
  show wpAny _ _ (call (.ref C) us) _ _ _
  obtain ⟨hp, g, dr, tk, os⟩ := s1
  have hsz : hp.objs.size ≤ hp.objs.size + 1 := Nat.le_succ _
  have hn : H1 (hp.objs.size + 1) = none := I1.hok.fresh hsz
  have hq := q1 (hp.objs.size + 1) hn
  have kk : ∀ b o, hp.get? b = some o → ((hp.push (PySem.W.kdv_tup us)).push (eob C hp.objs.size)).get? b = some o :=
    fun b o e => Heap.get?_push_of_some _ (Heap.get?_push_of_some _ e)
  have hget : ((hp.push (PySem.W.kdv_tup us)).push (eob C hp.objs.size)).get? (hp.objs.size + 1) = some (eob C hp.objs.size) := by
    heap_get
  have I2 : Inv X pins σ (upd H1 (hp.objs.size + 1) (exo (hp.objs.size + 1) C none)) ⟨(hp.push (PySem.W.kdv_tup us)).push (eob C hp.objs.size), g, dr, tk, os⟩ :=
    I1.laid (t' := tk) (a := hp.objs.size + 1) (o := exo (hp.objs.size + 1) C none) (h' := (hp.push (PySem.W.kdv_tup us)).push (eob C hp.objs.size)) kk hsz (exo_ok hget)
  have r2 : Vals (V.ref (hp.objs.size + 1) :: vs) (Value.ref (hp.objs.size + 1) :: us) := .cons rfl r1
  have hl : (Value.ref (hp.objs.size + 1) :: us).length = ps.length := by
    have e := r2.length
    rw [F.len _ _ _ _ hq] at e
    exact e.symm
  have hus : us.length ≤ sizeLine := by
    rw [← Paired.length r1, sizeLine_eq]
    omega
  have hbb := hb (⟨(hp.push (PySem.W.kdv_tup us)).push (eob C hp.objs.size), g, dr, tk, os⟩ : Shared) (Value.ref (hp.objs.size + 1) :: us) I2.kIn (by rw [List.append_nil]; exact hl)
  rw [List.append_nil] at hbb
  refine wpAny_call (run_call Y (I1.kIn _ _ hC) (PySem.W.looks_findIn I1.kIn T.iC) (fun self => PySem.W.bind_fn I1.kIn self T.tI) hus
    (codeAny_mono (F.run _ X.stack _ _ ⟨Value.ref (hp.objs.size + 1) :: us, []⟩ (Value.ref (hp.objs.size + 1) :: us) _ _ (fun _ _ _ => False) (hr.make C us []) (I2.env0.make C us []) hbb r2 hq) fun r s' hq' => ?_))
  cases r with
  | error er => exact hx pins σ _ _ er s' I2 hq'
  | ok fl =>
    cases fl with
    | ret u =>
      obtain ⟨v, H2, I3, rv, ev, q3⟩ := I2.after hq'
      subst ev
      exact ⟨rv, ⟨V.ref (hp.objs.size + 1), H2, I3, rfl, q3⟩⟩
    | next => exact False.elim hq'
    | brk => exact False.elim hq'
    | cont => exact False.elim hq'
theorem pe_xfld (T : XC X.K C nid ml f fI) (ho : PE X o to) (hb : attributeBase o f X.env (eval o X.env) = eval o X.env := by rfl) : PE X (.Attribute o f pos) (tXfld C f to) := by
  refine ⟨fun pins s σ H Q I h => ?_⟩
  refine attr_of hb (thn (ho.run pins s σ H _ I h) fun u s1 hh => ?_)
  obtain ⟨x, H1, I1, rx, a, v, ex, ⟨dx, ea, ed⟩, q⟩ := hh
  subst ex
  obtain rfl : u = Value.ref a := rx
  obtain ⟨t1, hx⟩ := exo_at I1.hok ea
  obtain ⟨mA, hns, rel⟩ := exd_at I1.hok ed
  obtain ⟨od, hod, hl⟩ := lookIn_ns hns
  have l : List.lookup f [(f, v)] = some v := by simp [List.lookup]
  obtain ⟨u, hu, ru⟩ := RelO.some_of (v := v) (o := mA f) (by rw [← l]; exact rel f)
  have J : PySem.W.InstAt s1.heap a { cls := .ref C, dict := some dx, data := .fields #[.ref t1, .none, .none, .none, .bool false, .none] } C (some od) := ⟨hx, rfl, rfl, hod⟩
  exact HandSPX.exc_get I1.kIn J T.ga T.gg T.exC (PySem.W.findObj_own T.hdC T.noF rfl (by rw [hl, hu])) (handed_of ru) ⟨v, H1, I1.tok _, ru, q⟩
theorem call_isX : CallR X (.builtin "isinstance") (rIE X.K) := by
  intro pins s σ H xs us Q I r h
  obtain ⟨a, C, c, cv, b, rfl, hc, T, hx, e, q⟩ := h
  obtain ⟨u1, u2, rfl, r1, r2⟩ := vals2 r
  have e2 := hc.eq r2
  subst e2
  obtain rfl : u1 = Value.ref a := r1
  have fin : ∀ {ox : Obj} {od : Option Obj}, PySem.W.InstAt s.heap a ox C od → wpAny (model X.prog X.w) X.A (call (.builtin "isinstance") [.ref a, u2]) (EP X pins σ Q) X.xe s := fun J =>
    PySem.W.kia_one (PySem.W.kitx_exc T.cl T.ga T.gg T.sub T.kl T.gt T.tk T.mo) I.kIn J e (fun z => nomatch z) fun tk => ⟨.bl b, H, I.tok tk, rfl, q⟩
  cases hx with
  | @own dx fs ea ed =>
    obtain ⟨t1, ho⟩ := exo_at I.hok ea
    obtain ⟨mA, hns, rel⟩ := exd_at I.hok ed
    obtain ⟨od, hod, hl⟩ := lookIn_ns hns
    exact fin (ox := { cls := .ref C, dict := some dx, data := .fields #[.ref t1, .none, .none, .none, .bool false, .none] }) (od := some od) ⟨ho, rfl, rfl, hod⟩
  | msg ea =>
    have z : ObjOk X.prog X.w H s.heap a (ExO (.ref C) a) := I.hok a _ ea
    obtain ⟨⟨oe, vs, ho, hz, hd, _⟩, _⟩ := z
    have J : PySem.W.InstAt s.heap a oe C none := by
      obtain ⟨oc, od, oda, osl⟩ := oe
      obtain ⟨h1, h2⟩ := hz
      dsimp only at h1 h2 hd
      subst h1 h2 hd
      exact ⟨ho, rfl, rfl, trivial⟩
    exact fin J
end
end Ex

/-! repr of data at any depth; defs that are called where no repr runs. -/
namespace Rp
open PySem PySem.Spec PySem.Calls PyProof.Rows L2
def kD : Key → PyData
  | .inl i => .int i
  | .inr x => .str x
mutual
/-- v is data, told by d: lists, tuples, dicts with int and text keys -/
inductive Dt (K : PySem.W.Frag) (H : Hp) : V → PyData → Prop
  | non : Dt K H .non .none
  | bl (b : Bool) : Dt K H (.bl b) (.bool b)
  | int (i : Int) : Dt K H (.int i) (.int i)
  | str (x : Str) : Dt K H (.str x) (.str x)
  | lst {a : Addr} {xs : List V} {ds : List PyData} : SqL K H a xs → DtAll K H xs ds → Dt K H (.ref a) (.list ds)
  | tup {a : Addr} {xs : List V} {ds : List PyData} : SqT K H a xs → DtAll K H xs ds → Dt K H (.ref a) (.tuple ds)
  | dic {a : Addr} {kvs : List (Key × V)} {ds : List (PyData × PyData)} : H a = some (.dK kvs) → DtKv K H kvs ds → Dt K H (.ref a) (.dict ds)
inductive DtAll (K : PySem.W.Frag) (H : Hp) : List V → List PyData → Prop
  | nil : DtAll K H [] []
  | cons {v : V} {vs : List V} {d : PyData} {ds : List PyData} : Dt K H v d → DtAll K H vs ds → DtAll K H (v :: vs) (d :: ds)
inductive DtKv (K : PySem.W.Frag) (H : Hp) : List (Key × V) → List (PyData × PyData) → Prop
  | nil : DtKv K H [] []
  | cons {k : Key} {v : V} {kvs : List (Key × V)} {d : PyData} {ds : List (PyData × PyData)} : Dt K H v d → DtKv K H kvs ds → DtKv K H ((k, v) :: kvs) ((kD k, d) :: ds)
end
/-- the written part shows the dict of the modules -/
def SysD (K : PySem.W.Frag) : Prop := ∃ o, K.lookup sysModules = some o ∧ o.cls = .type "dict"
section
variable {X : Cx} {pins : List (Addr × Obj)} {σ : L2.St} {H : Hp} {s : Shared}
theorem key_reads {h : Heap} {P : Program} {w : World} {k : Key} {v : Value} (e : (mixKind P w).is k v = true) : Reads h v (kD k) [] := by
  rcases keyIs_shape (k := k) (v := v) e with ⟨i, t, rfl, rfl⟩ | ⟨x, t, rfl, rfl⟩
  · exact Reads.int i t
  · exact Reads.str x t
mutual
theorem Dt.reads (hk : SysD X.K) (I : Inv X pins σ H s) : ∀ (d : PyData) (v : V) (u : Value), Dt X.K H v d → RelV v u → ∃ as, Reads s.heap u d as ∧ sysModules ∉ as
  | .none, _, _, h, r => by
    cases h
    cases r
    exact ⟨_, Reads.none, by simp⟩
  | .bool b, _, _, h, r => by
    cases h
    cases r
    exact ⟨_, Reads.bool b, by simp⟩
  | .int i, _, _, h, r => by
    cases h
    obtain ⟨t, rfl⟩ := r
    exact ⟨_, Reads.int i t, by simp⟩
  | .str x, _, _, h, r => by
    cases h
    obtain ⟨t, rfl⟩ := r
    exact ⟨_, Reads.str x t, by simp⟩
  | .list ds, _, _, h, r => by
    cases h with
    | lst hs ha =>
      cases r
      obtain ⟨its, rv, ⟨o, n, ho, hc, _, hd⟩, _⟩ := I.list hs
      obtain ⟨as, hr, hn⟩ := Dt.readsAll hk I ds _ its ha rv
      refine ⟨_, Reads.list ho hc hd hr, fun z => ?_⟩
      rcases List.mem_cons.mp z with z | z
      · obtain ⟨ob, lk, oc⟩ := hk
        have e1 := I.kIn _ _ lk
        rw [z, ho] at e1
        cases e1
        rw [hc] at oc
        exact absurd (Value.type.inj oc) (by decide)
      · exact hn z
  | .tuple ds, _, _, h, r => by
    cases h with
    | tup hs ha =>
      cases r
      obtain ⟨its, rv, ⟨o, ho, hc, n, hd⟩, _⟩ := I.tuple hs
      obtain ⟨as, hr, hn⟩ := Dt.readsAll hk I ds _ its ha rv
      exact ⟨_, Reads.tuple ho hc hd hr, hn⟩
  | .dict ds, _, _, h, r => by
    cases h with
    | @dic a kvs _ hs ha =>
      cases r
      obtain ⟨_, hsy, vs, rk, o, es, ep, ho, hx, hd, _, hp, _⟩ := dk_of I.hok hs
      obtain ⟨as, bs, h1, h2, n1, n2⟩ := Dt.readsKv hk I ds kvs vs es.toList ha rk hp
      refine ⟨_, Reads.dict ho hx.1 hd h1 h2, fun z => ?_⟩
      rcases List.mem_append.mp z with z | z
      · rcases List.mem_cons.mp z with z | z
        · rw [← z] at hsy
          simp at hsy
        · exact n1 z
      · exact n2 z
theorem Dt.readsAll (hk : SysD X.K) (I : Inv X pins σ H s) : ∀ (ds : List PyData) (vs : List V) (us : List Value), DtAll X.K H vs ds → Vals vs us → ∃ as, ReadsAll s.heap us ds as ∧ sysModules ∉ as
  | [], _, _, h, r => by
    cases h
    cases r
    exact ⟨_, ReadsAll.nil, by simp⟩
  | d :: ds, _, _, h, r => by
    cases h with
    | cons h1 h2 =>
      cases r with
      | cons r1 r2 =>
        obtain ⟨as, q1, n1⟩ := Dt.reads hk I d _ _ h1 r1
        obtain ⟨bs, q2, n2⟩ := Dt.readsAll hk I ds _ _ h2 r2
        exact ⟨_, ReadsAll.cons q1 q2, fun z => (List.mem_append.mp z).elim n1 n2⟩
theorem Dt.readsKv (hk : SysD X.K) (I : Inv X pins σ H s) : ∀ (ds : List (PyData × PyData)) (kvs : List (Key × V)) (vs : List (Key × Value)) (es : List DictEntry), DtKv X.K H kvs ds → KV kvs vs → Pairs (mixKind X.prog X.w) es vs →
    ∃ as bs, ReadsAll s.heap (es.map (·.key)) (ds.map (·.1)) as ∧ ReadsAll s.heap (es.map (·.val)) (ds.map (·.2)) bs ∧ sysModules ∉ as ∧ sysModules ∉ bs
  | [], _, _, _, h, r, p => by
    cases h
    cases r
    cases p
    exact ⟨_, _, ReadsAll.nil, ReadsAll.nil, by simp, by simp⟩
  | (kd, d) :: ds, _, _, _, h, r, p => by
    cases h with
    | cons h1 h2 =>
      cases r with
      | cons r1 r2 =>
        cases p with
        | cons p1 p2 p3 =>
          obtain ⟨e1, rv⟩ := r1
          obtain ⟨as, q1, n1⟩ := Dt.reads hk I d _ _ h1 rv
          obtain ⟨as', bs', q2, q3, n2, n3⟩ := Dt.readsKv hk I ds _ _ _ h2 r2 p3
          rw [← p2] at q1
          have e1' := e1
          dsimp only at e1'
          rw [← e1'] at p1
          exact ⟨_, _, ReadsAll.cons (key_reads p1) q2, ReadsAll.cons q1 q3, fun z => (List.mem_append.mp z).elim (by simp) n2, fun z => (List.mem_append.mp z).elim n1 n3⟩
end
/-- repr(x), x a list, a tuple or a dict -/
def rRep (K : PySem.W.Frag) : List V → Hp → VK → Prop := fun xs H Q => ∃ (a : Addr) (d : PyData), xs = [.ref a] ∧ Dt K H (.ref a) d ∧ d.showable = true ∧ d.depth ≤ 60 ∧ d.shown.length ≤ sizeLine ∧ Q (.str d.shown) H
theorem call_repr_data (hk : SysD X.K) (hg : X.A.guards = some []) (hu : X.A.units + 64 < cLine) : CallR X (.builtin "repr") (rRep X.K) := by
  intro pins s σ H xs us Q I r h
  obtain ⟨a, d, rfl, hd, hs, hdep, hz, q⟩ := h
  obtain ⟨u, rfl, hr⟩ := vals1 r
  obtain rfl : u = Value.ref a := hr
  obtain ⟨as, rd, hn⟩ := Dt.reads hk I d _ _ hd rfl
  exact repr_of_reads' rd hs (fun _ => hn) hg (by omega) (fun _ _ e => e) (fun h' u tk k => ⟨.str _, H, I.kept (t' := tk) k, ⟨u, rfl⟩, q⟩) hz
end
end Rp

namespace Rp
open PySem PySem.Spec PySem.Calls PyProof.Rows L2
/-- a def's promise, where no repr runs around the call -/
structure FnG (P : Program) (w : World) (K : PySem.W.Frag) (mg : Str → Option Value) (base : Heap) (CX : CXT) (k : Nat) (f : Addr) (fd : FuncData) (ps : List Str) (sp : Sp) : Prop where
  len : ∀ vs H Q E, sp vs H Q E → vs.length = ps.length
  run : ∀ (A : Around) (outer : List Env) (s : Shared) (H : Hp) (args : Args) (us : List Value) (vs : List V) (Q : VK) (E : XK), Room k A → A.guards = some [] →
    Env0 P w K mg base A outer s H → BindsTo s fd args (ps.zip us) → Vals vs us → sp vs H Q E → codeAny (model P w) A (.call (.ref f) args) (CR CX outer P w H s Q E) s
theorem FnG.of {P : Program} {w : World} {K : PySem.W.Frag} {mg : Str → Option Value} {base : Heap} {CX : CXT} {k : Nat} {f : Addr} {fd : FuncData} {ps : List Str} {sp : Sp} (F : FnOk P w K mg base CX k f fd ps sp) : FnG P w K mg base CX k f fd ps sp :=
  ⟨F.len, fun A outer s H args us vs Q E hr _ => F.run A outer s H args us vs Q E hr⟩
theorem fng_of {CX : CXT} {P : Program} {w : World} {K : PySem.W.Frag} {mg : Str → Option Value} {base : Heap} {k : Nat} {f : Addr} {name qual : Str} {params : Arguments} {body : List Stmt} {scope : Scope} {dV kV doc pm cdv ct oc : Value} {an od : Option Addr}
    {osl : Array (Option Value)} {N ps : List Str} {sp : Sp} (lk : K.lookup f = some ⟨oc, od, .func (PySem.W.fnOf name qual params body scope dV kV doc pm an cdv ct), osl⟩) (hcd : PySem.W.codeIn K cdv qual = true) (S : FnScope N ps scope)
    (len : ∀ vs H Q E, sp vs H Q E → vs.length = ps.length)
    (hb : ∀ (A : Around) (outer : List Env) (s : Shared) (H : Hp) (vs : List V) (Q : VK) (E : XK), Room k (A.deeper (envOfC qual scope s.heap.objs.size f cdv)) → (A.deeper (envOfC qual scope s.heap.objs.size f cdv)).guards = some [] → sp vs H Q E →
      ∃ t, PSs (cxOf CX P w K mg base N qual scope f cdv A outer s H E) body t ∧ t { nx := fun _ H' => Q .non H', rt := Q } (start N vs) H) :
    FnG P w K mg base CX (k + 1) f (PySem.W.fnOf name qual params body scope dV kV doc pm an cdv ct) ps sp := by
  refine ⟨len, fun A outer s H args us vs Q E hr hgd e0 bd r hsp => ?_⟩
  have hl := len _ _ _ _ hsp
  have kx : K.In s.heap := e0.mod.kin.keeps fun b o e => (e0.bs b o e).1
  have nl : s.heap.NoLimit := e0.mod.nolimit.keeps fun b o e => (e0.bs b o e).1
  have kd : ∀ y ∈ ps.zip us, scope.names.lookup y.1 = some .local ∨ (scope.names.lookup y.1 = some .cell ∧ ((cellsFrom (s.heap.objs.size + 1) scope.names []).lookup y.1).isSome = true) := by
    intro ⟨n, v⟩ hy
    rcases S.par n (List.of_mem_zip hy).1 with q | q
    · exact .inl q
    · exact .inr ⟨q, PySem.W.cellsFrom_some _ _ _ (.inl q)⟩
  refine codeAny_call_function hr.depth (kx _ _ lk) rfl S.co S.gen rfl (PySem.W.codeRec_of kx hcd) (bd _ _ _ _ ?_)
  refine wpAny_newFunctionEnv_cells S.kind kd fun env he s1 x => ?_
  subst he
  refine ⟨nl.keeps x.toInCall.keep, codeAny_func ?_⟩
  obtain ⟨t, ht, hq⟩ := hb A outer s H vs Q E (hr.deeper _) hgd hsp
  have I : Inv (cxOf CX P w K mg base N qual scope f cdv A outer s H E) [] (start N vs) H s1 := inv_start S hr.hd e0 hl r x
  refine wpAny_mono (ht.run [] s1 (start N vs) H _ I hq) (fun fl s' hs => ?_) fun e s' hs => hs
  have out : ∀ {σ' : L2.St} {H' : Hp} {v : V} {u : Value}, Inv (cxOf CX P w K mg base N qual scope f cdv A outer s H E) [] σ' H' s' → RelV v u → Q v H' → CE outer P w H s Q u s' :=
    fun {σ' H' v u} J rv q => ⟨v, H', J.os, J.bare, J.base, J.hok, rv, q⟩
  cases fl with
  | ret u =>
    obtain ⟨v, σ', H', J, rv, q⟩ := hs
    exact out J rv q
  | next =>
    obtain ⟨σ', H', J, q⟩ := hs
    exact out (v := V.non) (u := Value.none) J rfl q
  | brk =>
    obtain ⟨_, _, _, q⟩ := hs
    exact q.elim
  | cont =>
    obtain ⟨_, _, _, q⟩ := hs
    exact q.elim
section
variable {P : Program} {w : World} {K : PySem.W.Frag} {mg : Str → Option Value} {base : Heap} {x qual : Str} {params : Arguments} {body : List Stmt} {scope : Scope} {dvs : List V} {kws : List (Str × V)} {f : Addr} {fd : FuncData}
theorem FunD.okG {CX : CXT} {N ps : List Str} {k : Nat} {sp : Sp} (F : FunD K x qual params body scope dvs kws f fd) (S : FnScope N ps scope) (len : ∀ vs H Q E, sp vs H Q E → vs.length = ps.length)
    (hb : ∀ (cdv : Value) (A : Around) (outer : List Env) (s : Shared) (H : Hp) (vs : List V) (Q : VK) (E : XK), Room k (A.deeper (envOfC qual scope s.heap.objs.size f cdv)) → (A.deeper (envOfC qual scope s.heap.objs.size f cdv)).guards = some [] → sp vs H Q E →
      ∃ t, PSs (cxOf CX P w K mg base N qual scope f cdv A outer s H E) body t ∧ t { nx := fun _ H' => Q .non H', rt := Q } (start N vs) H) : FnG P w K mg base CX (k + 1) f fd ps sp := by
  obtain ⟨oc, od, dV, kV, doc, pm, an, cdv, ct, osl, rfl, lk, hcd, _, _⟩ := F.ex
  exact fng_of lk hcd S len fun A outer s H vs Q E hr hg hsp => hb cdv A outer s H vs Q E hr hg hsp
end
section
variable {X : Cx} {pins : List (Addr × Obj)} {σ : L2.St} {H : Hp} {s : Shared} {CX : CXT} {k : Nat} {f : Addr} {fd : FuncData} {ps : List Str} {sp : Sp} {E : XK} {x : Str} {p pos : Pos} {e : Expr} {es : List Expr} {t : TA} {ds : List Value} {dvs : List V}
theorem run_fng {Q : VK} {us : List Value} {vs : List V} (F : FnG X.prog X.w X.K X.mg X.base CX k f fd ps sp) (hr : Room k X.A) (hg : X.A.guards = some []) (hb : Binds X.K fd ps ds) (hd : Vals dvs ds) (hx : Passes CX X E)
    (I : Inv X pins σ H s) (r : Vals vs us) (h : sp (vs ++ dvs) H Q E) : wpAny (model X.prog X.w) X.A (call (.ref f) us) (EP X pins σ Q) X.xe s := by
  have r2 : Vals (vs ++ dvs) (us ++ ds) := r.append hd
  have hl : (us ++ ds).length = ps.length := by
    rw [← r2.length]
    exact F.len _ _ _ _ h
  refine wpAny_call (codeAny_mono (F.run X.A X.stack s H ⟨us, []⟩ (us ++ ds) (vs ++ dvs) Q E hr hg I.env0 (hb s us I.kIn hl) r2 h) fun r s' hq => ?_)
  cases r with
  | error e => exact hx pins σ H s e s' I hq
  | ok fl =>
    cases fl with
    | ret u => exact I.after hq
    | next => exact hq.elim
    | brk => exact hq.elim
    | cont => exact hq.elim
theorem pe_callG (F : FnG X.prog X.w X.K X.mg X.base CX k f fd ps sp) (hr : Room k X.A) (hgd : X.A.guards = some []) (hg : Gl X x) (hm : X.mg x = some (.ref f)) (hk : PySem.W.keepIn X.K (.ref f) = true) (hb : Binds X.K fd ps ds) (hd : Vals dvs ds) (hx : Passes CX X E)
    (ha : PA X (e :: es) t) (hdb : (x == ("__debug__" : Str)) = false := by decide) (he : starEach (e :: es) X.env = (false, eval e X.env) :: starEach es X.env := by rfl) (hpl : (backTo pos (starEach es X.env)).any (·.1) = false := by rfl) :
    PE X (.Call (.Name x p) (e :: es) [] pos) (tCall sp dvs E t) := by
  refine ⟨fun pins s σ H Q I h => ?_⟩
  refine wpAny_Call_Name_kw (ld_glob I hg hm ?_ hdb)
  refine PySem.W.callWith_K (h₀ := X.base) I.ok.mod.kin hk (thn (ha.run pos pins s σ H _ I h) fun us s1 h1 => ?_) he hpl
  obtain ⟨vs, H1, I1, r, q⟩ := h1
  exact ⟨I1.kIn, run_fng F hr hgd hb hd hx I1 r q⟩
end
end Rp

namespace Rp
open PySem PySem.Spec PySem.Calls PyProof.Rows L2
/-- the law's call, from a promise that wants no repr around -/
theorem law_callG {P : Program} {w : World} {K : PySem.W.Frag} {mg mb : Str → Option Value} {CX : CXT} {k : Nat} {fa a : Addr} {fd : FuncData} {x : Str} {sp : Sp} {s1 : Shared} {vs : List Value} {ns : List Int}
    (kx : K.In s1.heap) (hns : s1.heap.Ns mainGlobals mg) (hb : s1.heap.Ns builtinsNs mb) (hbb : ∀ x : Str, x ≠ "__name__" → mb x = bootBuiltins x) (nl : s1.heap.NoLimit) (hg : s1.gens = #[])
    (ha : s1.heap.get? a = some { cls := .type "list", data := .seq vs.toArray }) (hi : IntsAre vs ns) (hl : ns.length ≤ sizeLine) (hr : Room k callerA)
    (F : ∀ base : Heap, K.In base → base.Ns mainGlobals mg → FnG P w K mg base CX k fa fd [x] sp) (bd : ∀ (s : Shared) (u : Value), BindsTo s fd ⟨[u], []⟩ [(x, u)])
    (hsp : ∀ H : Hp, Only H → SqL K H a (ns.map V.int) → sp [.ref a] H (fun v _ => v = .bl true) fun _ _ _ => False)
    (hx : ∀ H e s', CX [] H s1 (fun _ _ _ => False) e s' → False) :
    codeAny (model P w) callerA (.call (.ref fa) ⟨[.ref a], []⟩) (fun r s' => r = .ok (.ret (.bool true)) ∧ OldK s1.heap s'.heap ∧ s'.os = s1.os ∧ AllBare s'.gens) s1 := by
  have rv := vals_ints hi
  have ln := hi.length
  have core : ∀ H : Hp, Only H → SqL K H a (ns.map V.int) → HOk P w H s1.heap → (∀ b, H b ≠ none → b = a) → (H a ≠ none → K.lookup a = none) →
      codeAny (model P w) callerA (.call (.ref fa) ⟨[.ref a], []⟩) (fun r s' => r = .ok (.ret (.bool true)) ∧ OldK s1.heap s'.heap ∧ s'.os = s1.os ∧ AllBare s'.gens) s1 := by
    intro H hO hS hok hA hK
    have base_of : ∀ {b : Addr} {o : Obj}, s1.heap.get? b = some o → H b = none → (hidT s1.heap H).get? b = some o :=
      fun e n => hidT_get e n
    have noA : ∀ {b : Addr} {o : Obj} {es : Array DictEntry} {ep : Nat}, s1.heap.get? b = some o → o.data = .dict es ep → H b = none := by
      intro b o es ep e d
      cases q : H b with
      | none => rfl
      | some u =>
        have e' : b = a := hA b (by rw [q]; simp)
        subst e'
        rw [ha] at e
        cases e
        have d' : Data.seq vs.toArray _ = Data.dict es ep := d
        cases d'
    have nsK : ∀ {b : Addr} {m : Str → Option Value}, s1.heap.Ns b m → (hidT s1.heap H).Ns b m := by
      rintro b m ⟨o, es, ep, e, d, r⟩
      exact ⟨o, es, ep, base_of e (noA e d), d, r⟩
    have hKb : K.In (hidT s1.heap H) := by
      intro b o e
      refine base_of (kx b o e) ?_
      cases q : H b with
      | none => rfl
      | some u =>
        have e' : b = a := hA b (by rw [q]; simp)
        subst e'
        rw [hK (by rw [q]; simp)] at e
        cases e
    have hM : Mod K mg (hidT s1.heap H) := by
      obtain ⟨mc, h1, h2⟩ := nl
      exact ⟨hKb, nsK hns, ⟨mb, nsK hb, hbb⟩, ⟨mc, nsK h1, h2⟩⟩
    have e0 : Env0 P w K mg (hidT s1.heap H) callerA [] s1 H :=
      ⟨rfl, hM, fun b o e => of_hidT e, Nat.le_of_eq (hidT_size _ _), trivial, fun b hb => absurd (show b ∈ ([] : List Addr) from hb) (by simp), hok, .of_eq hg⟩
    refine codeAny_mono ((F _ hKb (nsK hns)).run callerA [] s1 H ⟨[.ref a], []⟩ [.ref a] [.ref a] _ _ hr rfl e0 (bd s1 (.ref a)) (.cons rfl .nil) (hsp H hO hS)) fun r s' h => ?_
    cases r with
    | error e => exact (hx H e s' h).elim
    | ok fl =>
      cases fl with
      | next => exact h.elim
      | brk => exact h.elim
      | cont => exact h.elim
      | ret u =>
        obtain ⟨v, H', os, bare, un, hok', r', q⟩ := h
        have q' : v = .bl true := q
        subst q'
        obtain rfl : u = Value.bool true := r'
        refine ⟨rfl, OldK.of_keep fun b o e => ?_, os, bare⟩
        cases q : H b with
        | none => exact un.keep b o e q (by intro z; exact absurd (show b ∈ ([] : List Addr) from z) (by simp)) (by simp)
        | some u =>
          rcases hO b with z | ⟨ob, xs, z⟩
          · rw [q] at z
            cases z
          · have z2 := un.frzs b ob _ z
            obtain ⟨e1, _⟩ := hok b _ z
            obtain ⟨e2, _⟩ := hok' b _ z2
            rw [e] at e1
            cases e1
            exact e2
  cases hk : K.lookup a with
  | some o =>
    have e := kx a o hk
    rw [ha] at e
    cases e
    refine core (fun _ => none) (fun _ => .inl rfl) ?_ (fun b u z => ?_) (fun b z => absurd rfl z) fun z => absurd rfl z
    · exact .inr ⟨_, vs.toArray, _, hk, rfl, rfl, rfl, by rw [List.size_toArray, ln]; exact hl, by simpa using rv⟩
    · have z' : (none : Option HO) = some u := z
      cases z'
  | none =>
    refine core (fun b => if b = a then some (.frz { cls := .type "list", data := .seq vs.toArray } (.lst (ns.map V.int))) else none)
      (fun b => ?_) (.inl (.inr ⟨{ cls := .type "list", data := .seq vs.toArray }, if_pos rfl⟩)) (fun b u z => ?_) (fun b z => ?_) fun _ => hk
    · by_cases hb : b = a
      · exact .inr ⟨_, _, if_pos hb⟩
      · exact .inl (if_neg hb)
    · by_cases hb : b = a
      · have z' := (if_pos hb).symm.trans z
        cases z'
        subst hb
        exact ⟨ha, by rw [List.length_map]; exact hl, vs, _, rv, ha⟩
      · have z' := (if_neg hb).symm.trans z
        cases z'
    · by_cases hb : b = a
      · exact hb
      · exact absurd (if_neg hb) z
/-- a law over a head by facts, its promise wanting no repr around -/
theorem walk_G {l : PySem.W.OpenLaw} {n k : Nat} {q : Program} {loose : List Str} {XP : (Str → Option Value) → Heap → Prop} {YP : World → Heap → Prop} {d : DefRec} {CX : CXT} {x : Str}
    (hn : l.most = some n) (hn2 : n ≤ sizeLine) (hdf : d.params.defaults = []) (hr : Room k callerA)
    (F : ∀ (w : World) (mg : Str → Option Value) (fa : Addr) (h : Heap), YP w h → h.Ns mainGlobals mg → mg d.name = some (.ref fa) →
      ∃ (K : PySem.W.Frag) (fd : FuncData) (sp : Sp), K.In h ∧ (∀ (s : Shared) (u : Value), BindsTo s fd ⟨[u], []⟩ [(x, u)]) ∧
        (∀ (H : Hp) (a : Addr) (ns : List Int), ns.length ≤ n → Only H → SqL K H a (ns.map V.int) → sp [.ref a] H (fun v _ => v = .bl true) fun _ _ _ => False) ∧
        ∀ base : Heap, K.In base → base.Ns mainGlobals mg → FnG l.prog w K mg base CX k fa fd [x] sp)
    (hx : ∀ (H : Hp) (s : Shared) (e : Value) (s' : Shared), CX [] H s (fun _ _ _ => False) e s' → False) :
    PySem.W.WalkO q loose XP YP l.row.toRowW d [] (fun f vs => PySem.call f vs) := by
  refine Att.attach_call hn hdf fun w s₀ s1 mg mb fa o pm cd doc a vs ns G Y ho hd hcd hmg hobj hints hlen hg => ?_
  obtain ⟨K, fd, sp, kx, hb, hsp, hF⟩ := F w mg fa _ Y G.T.g hmg
  exact law_callG kx G.T.g G.T.b G.T.builtins G.T.nolimit hg hobj hints (Nat.le_trans hlen hn2) hr hF hb
    (fun H hO hS => hsp H a ns hlen hO hS) fun H e s' => hx H s1 e s'
end Rp

/-! The head's facts by tests of one's own. -/
namespace Hx
open PySem PySem.Spec PyProof.Rows L2
open He (ga ma)
/-- from the module's names and the dict of the modules -/
def asX (g : Addr → Option Obj) : Nat → List Addr
  | 0 => [mainGlobals, sysModules]
  | n + 1 => He.growD g (asX g n)
def obsX (ts : PySem.W.Frag → Bool) (fn : List He.DefD) (K : PySem.W.Frag) : He.AlD := (ts K && fn.all fun d => d.ok K, fn.map fun d => He.fnW K d.at_)
def SaysX (ts : PySem.W.Frag → Bool) (fn : List He.DefD) (K : PySem.W.Frag) : Prop := obsX ts fn K = He.valD fn
def obsXG (n : Nat) (ts : PySem.W.Frag → Bool) (fn : List He.DefD) (g : Addr → Option Obj) : He.AlD := obsX ts fn (He.frG g (asX g n))
def hookX (n : Nat) (ts : PySem.W.Frag → Bool) (fn : List He.DefD) : PySem.W.Hook where
  α := He.AlD
  obs := fun s => obsXG n ts fn s.heap.get?
  val := fun _ => He.valD fn
  says := fun _ h => ∃ K : PySem.W.Frag, K.In h ∧ SaysX ts fn K
  of := fun _ _ e => ⟨_, He.frG_in, e⟩
  keeps := fun _ _ _ ⟨K, hK, c⟩ k => ⟨K, PySem.W.Frag.In.keeps hK k, c⟩
theorem obsXG_eq {n : Nat} {ts : PySem.W.Frag → Bool} {fn : List He.DefD} {g : Addr → Option Obj} {s : Shared} (h : ∀ a, g a = s.heap.get? a) : obsXG n ts fn g = (hookX n ts fn).obs s := by
  have e : g = s.heap.get? := funext h
  rw [e] <;> rfl
section
variable {ts : PySem.W.Frag → Bool} {fn : List He.DefD} {K : PySem.W.Frag}
theorem SaysX.test (c : SaysX ts fn K) : ts K = true :=
  (He.ba (show (ts K && fn.all fun d => d.ok K) = true from congrArg (fun z : He.AlD => z.1) c)).1
theorem SaysX.def_ (c : SaysX ts fn K) (i : Nat) {d : He.DefD} (h : fn[i]? = some d := by rfl) : ∃ fd, FunD K d.name d.qual d.params d.body d.scope (d.dvs K) (d.kws K) (He.fAd K d.at_) fd := by
  have c2 := (He.ba (show (ts K && fn.all fun d => d.ok K) = true from congrArg (fun z : He.AlD => z.1) c)).2
  have e : fn.map (fun d => He.fnW K d.at_) = fn.map He.DefD.val := congrArg (fun z : He.AlD => z.2) c
  have e2 : (fn.map fun d => He.fnW K d.at_)[i]? = (fn.map He.DefD.val)[i]? := by
    rw [e]
  rw [List.getElem?_map, List.getElem?_map, h] at e2
  exact He.DefD.funD (Option.some.inj e2) (List.all_eq_true.mp c2 d (List.mem_of_getElem? h))
end
/-! ### tests -/
def eqF (K : PySem.W.Frag) (C : Addr) (f : Str) (v : Option Value) : Bool := decide (PySem.W.findIn K (.ref C) f = some v)
/-- the class named x: an exception class whose instances isinstance may be asked of -/
def icB (K : PySem.W.Frag) (x : Str) : Bool :=
  (PySem.W.clsIn K (ga K x)).isSome && (eqF K (ga K x) "__getattribute__" (some (.builtin "BaseException.__getattribute__")) && (eqF K (ga K x) "__getattr__" none && (decide (PySem.W.subIn K (.ref (ga K x)) (.type "BaseException") = some true) &&
    (eqF K (ga K x) "__class__" (some (.builtin "object.__class__")) && (decide (PySem.W.specialIn K (.builtin "object.__class__") "__get__" = some (some (.builtin "getset_descriptor.__get__"))) &&
      (decide (PySem.W.takesIn K (.builtin "object.__class__") = some true) && decide (PySem.W.mroIn K (ga K x) (.type "object") = some true)))))))
theorem icB_ok {K : PySem.W.Frag} {x : Str} (h : icB K x = true) : Ex.IC K (ga K x) := by
  obtain ⟨h1, h⟩ := He.ba h
  obtain ⟨h2, h⟩ := He.ba h
  obtain ⟨h3, h⟩ := He.ba h
  obtain ⟨h4, h⟩ := He.ba h
  obtain ⟨h5, h⟩ := He.ba h
  obtain ⟨h6, h⟩ := He.ba h
  obtain ⟨h7, h8⟩ := He.ba h
  exact ⟨h1, of_decide_eq_true h2, of_decide_eq_true h3, of_decide_eq_true h4, of_decide_eq_true h5, of_decide_eq_true h6, of_decide_eq_true h7, of_decide_eq_true h8⟩
/-- the class object at C: its mro, its maker -/
def clsB (K : PySem.W.Frag) (C : Addr) (nid : String) (ml : List Value) : Bool := match K.lookup C with
  | some ⟨.type "type", _, .cls cd, sl⟩ => (match sl.toList with
    | [_, _, _, _, some (.builtin n), _] => decide (cd.mro = .ref C :: ml) && (n == nid && (!cd.hasDel && cd.hasDict))
    | _ => false)
  | _ => false
theorem clsB_ok {K : PySem.W.Frag} {C : Addr} {nid : String} {ml : List Value} (q : clsB K C nid ml = true) :
    ∃ nm qn N bs sn sub ab col dd k0 k1 k2 k3 k5, K.lookup C = some (excClassObj nm qn C N bs ml true sn sub ab col dd k0 k1 k2 k3 k5 nid) := by
  unfold clsB at q
  split at q
  · rename_i dd cd sl ho
    split at q
    · rename_i k0 k1 k2 k3 n k5 hs
      obtain ⟨h1, q⟩ := He.ba q
      obtain ⟨h2, q⟩ := He.ba q
      obtain ⟨h3, h4⟩ := He.ba q
      obtain ⟨nm, bs, mro, ns, qn, hd, sn, sub, ab, col, del⟩ := cd
      have hm := of_decide_eq_true h1
      have hn := beq_iff_eq.mp h2
      have hdel : del = false := by simpa using h3
      dsimp only at hm h4
      subst hm hn hdel h4
      have hsl : sl = #[k0, k1, k2, k3, some (.builtin n), k5] := by
        obtain ⟨l⟩ := sl
        simp only at hs
        rw [hs]
      subst hsl
      exact ⟨nm, qn, ns, bs, sn, sub, ab, col, dd, k0, k1, k2, k3, k5, ho⟩
    · cases q
  · cases q
/-- the class named x, with its own __init__, that keeps f -/
def xcB (K : PySem.W.Frag) (x : Str) (nid : String) (ml : List Value) (f : Str) : Bool :=
  clsB K (ga K x) nid ml && (eqF K (ga K x) "__setattr__" (some (.builtin "object.__setattr__")) && (eqF K (ga K x) "__getattribute__" (some (.builtin "BaseException.__getattribute__")) && (eqF K (ga K x) "__getattr__" none && (eqF K (ga K x) f none &&
    (eqF K (ga K x) "__init__" (some (.ref (ma K (ga K x) "__init__"))) && (decide (PySem.W.typeIn K (.ref (ma K (ga K x) "__init__")) = some (.type "function")) && (PySem.W.keepIn K (.ref (ga K x)) &&
      (decide (PySem.W.subIn K (.ref (ga K x)) (.type "BaseException") = some true) && (decide (PySem.W.typeIn K (.ref (ga K x)) = some (.type "type")) && PySem.W.hasDictIn K (ga K x))))))))))
theorem xcB_ok {K : PySem.W.Frag} {x f : Str} {nid : String} {ml : List Value} (h : xcB K x nid ml f = true) : Ex.XC K (ga K x) nid ml f (ma K (ga K x) "__init__") := by
  obtain ⟨h1, h⟩ := He.ba h
  obtain ⟨h2, h⟩ := He.ba h
  obtain ⟨h3, h⟩ := He.ba h
  obtain ⟨h4, h⟩ := He.ba h
  obtain ⟨h5, h⟩ := He.ba h
  obtain ⟨h6, h⟩ := He.ba h
  obtain ⟨h7, h⟩ := He.ba h
  obtain ⟨h8, h⟩ := He.ba h
  obtain ⟨h9, h⟩ := He.ba h
  obtain ⟨h10, h11⟩ := He.ba h
  exact ⟨clsB_ok h1, of_decide_eq_true h2, of_decide_eq_true h3, of_decide_eq_true h4, of_decide_eq_true h5, of_decide_eq_true h6, of_decide_eq_true h7, h8, of_decide_eq_true h9, of_decide_eq_true h10, h11⟩
def gloB (K : PySem.W.Frag) (xs : List Str) : Bool := xs.all fun x => (He.Fa.glo x).ok K
def freeB (K : PySem.W.Frag) (xs : List Str) : Bool := xs.all fun x => (He.Fa.free x).ok K
theorem gloB_ok {K : PySem.W.Frag} {h : Heap} {mg : Str → Option Value} (X : K.In h) (G : h.Ns mainGlobals mg) {xs : List Str} (c : gloB K xs = true) {x : Str} (hx : x ∈ xs) : mg x = some (.ref (ga K x)) :=
  He.glo_ok X G (List.all_eq_true.mp c x hx)
theorem freeB_ok {K : PySem.W.Frag} {h : Heap} {mg : Str → Option Value} (X : K.In h) (G : h.Ns mainGlobals mg) {xs : List Str} (c : freeB K xs = true) {x : Str} (hx : x ∈ xs) : mg x = none :=
  He.free_ok X G (List.all_eq_true.mp c x hx)
def sysB (K : PySem.W.Frag) : Bool := match K.lookup sysModules with
  | some o => decide (o.cls = .type "dict")
  | none => false
theorem sysB_ok {K : PySem.W.Frag} (h : sysB K = true) : Rp.SysD K := by
  unfold sysB at h
  split at h
  · rename_i o ho
    exact ⟨o, ho, of_decide_eq_true h⟩
  · cases h
end Hx

/-! The streams of draws: what a stream holds, what each draw leaves. -/
namespace Dr
open PySem PySem.Spec PyProof.Rows L2
/-- a power whose size stays below the line -/
theorem op_powW {X : Cx} : OpR X (binaryOp .Pow) (rI (fun i j => 0 ≤ j ∧ (Builtin.Int.intBits i : Int) * j ≤ 2 ^ 27) fun i j => .int (i ^ j.toNat)) :=
  opI fun _ _ _ _ _ _ _ hc q => pow_int hc.1 hc.2 q
/-- all but p is as it was -/
def But (p : Addr) (H H' : Hp) : Prop := ∀ b o, b ≠ p → H b = some o → H' b = some o
theorem But.refl (p : Addr) (H : Hp) : But p H H := fun _ _ _ h => h
theorem But.trans {p : Addr} {H H1 H2 : Hp} (a : But p H H1) (b : But p H1 H2) : But p H H2 := fun c o n h => b c o n (a c o n h)
theorem But.upd (p : Addr) (H : Hp) (o : HO) : But p H (upd H p o) := fun b u n h => by
  rw [upd_ne n]
  exact h
theorem But.new {p q : Addr} {H H1 : Hp} {o : HO} (a : But p H H1) (hq : H1 q = none) : But p H (L2.upd H1 q o) := fun b u n h => by
  have h1 := a b u n h
  rw [upd_ne (ne_of_none h1 hq)]
  exact h1
theorem But.same {p : Addr} {H H1 H2 : Hp} (a : But p H H1) (b : Same H1 H2) : But p H H2 := fun c o n h => b c o (a c o n h)
theorem But.free {p q : Addr} {H H1 : Hp} (a : But p H H1) (n : q ≠ p) (h : H1 q = none) : H q = none := by
  cases e : H q with
  | none => rfl
  | some o =>
    rw [a q o n e] at h
    cases h
/-- at p: a stream, at most m draws behind its first digits -/
def StrAt (H : Hp) (p : Addr) (m : Nat) : Prop := ∃ a b c : Int, H p = some (.lst [.int a, .int b, .int c]) ∧ 0 ≤ a ∧ a.natAbs < 2 ^ 2000 ∧ 0 ≤ b ∧ b < 2147483648 ∧ 0 ≤ c ∧ c ≤ m
theorem StrAt.mono {H : Hp} {p : Addr} {m n : Nat} (s : StrAt H p m) (h : m ≤ n) : StrAt H p n := by
  obtain ⟨a, b, c, h1, h2, h3, h4, h5, h6, h7⟩ := s
  exact ⟨a, b, c, h1, h2, h3, h4, h5, h6, by omega⟩
theorem StrAt.keep {H H' : Hp} {p : Addr} {m : Nat} (s : StrAt H p m) (h : ∀ o, H p = some o → H' p = some o) : StrAt H' p m := by
  obtain ⟨a, b, c, h1, r⟩ := s
  exact ⟨a, b, c, h _ h1, r⟩
theorem StrAt.same {H H' : Hp} {p : Addr} {m : Nat} (s : StrAt H p m) (h : Same H H') : StrAt H' p m := s.keep fun o => h p o
theorem StrAt.some {H : Hp} {p : Addr} {m : Nat} (s : StrAt H p m) : ∃ xs, H p = some (.lst xs) := by
  obtain ⟨a, b, c, h1, _⟩ := s
  exact ⟨_, h1⟩
/-- _law_stream(script, at) -/
def spStream (K : PySem.W.Frag) : Sp := fun vs H Q _ => ∃ (a : Addr) (ns : List Int) (i : Nat), vs = [.ref a, .int i] ∧ SqL K H a (ns.map V.int) ∧ ns.length ≤ 63 ∧ i ≤ 100 ∧
  ∀ H' p, Same H H' → H p = none → StrAt H' p 0 → Q (.ref p) H'
/-- _law_draw(stream, high) -/
def spDraw : Sp := fun vs H Q _ => ∃ (p : Addr) (n : Int) (m : Nat), vs = [.ref p, .int n] ∧ StrAt H p m ∧ m ≤ 100000 ∧ 0 < n ∧ n < 1000000 ∧
  ∀ H' v, 0 ≤ v → v < n → But p H H' → StrAt H' p (m + 1) → Q (.int v) H'
/-- _law_pick(stream, items), items a list -/
def spPick (K : PySem.W.Frag) : Sp := fun vs H Q _ => ∃ (p q : Addr) (xs : List V) (m : Nat), vs = [.ref p, .ref q] ∧ StrAt H p m ∧ m ≤ 100000 ∧ p ≠ q ∧ SqL K H q xs ∧ 0 < xs.length ∧ xs.length < 1000000 ∧
  ∀ H' (i : Nat) x, xs[i]? = some x → But p H H' → StrAt H' p (m + 1) → Q x H'
end Dr

namespace Rp
open PySem PySem.Spec PyProof.Rows L2
/-- for i, x in enumerate(list) -/
theorem for_enum {K : PySem.W.Frag} {a : Addr} {xs : List V} {g : TG} {tb : TS} {D : Ends} {σ : L2.St} {H : Hp} (Pv : Nat → L2.St → Hp → Prop) (h0 : Pv 0 σ H) (hl : ∀ i σ H, i ≤ xs.length → Pv i σ H → SqL K H a xs)
    (hs : ∀ i x σ H T, xs[i]? = some x → Pv i σ H → H T = none → g (.ref T) σ (upd H T (.tup [.int (i : Nat), x])) fun σ2 H2 => tb { D with nx := Pv (i + 1), ct := Pv (i + 1), bk := D.nx } σ2 H2) (hd : ∀ σ H, Pv xs.length σ H → D.nx σ H) :
    ∃ W : Nat → Nat → L2.St → Hp → Prop, (∃ m, W 0 m σ H) ∧ ∀ i m σ H, W i m σ H →
      ((Ite K a).stop i H ∧ D.nx σ H) ∨ ((Ite K a).go i H ∧ ∃ N : L2.St → Hp → Prop, (∀ σ' H', N σ' H' → ∃ m', m' < m ∧ W (i + 1) m' σ' H') ∧ ∀ x H', (Ite K a).yld i H x H' → g x σ H' fun σ2 H2 => tb { D with nx := N, ct := N, bk := D.nx } σ2 H2) := by
  refine ⟨fun i m σ H => m = xs.length - i ∧ i ≤ xs.length ∧ Pv i σ H, ⟨xs.length, by simp, Nat.zero_le _, h0⟩, ?_⟩
  rintro i m σ H ⟨rfl, hi, p⟩
  have q := hl i σ H hi p
  by_cases hlt : i < xs.length
  · refine .inr ⟨⟨xs, xs[i], q, by simp [hlt]⟩, Pv (i + 1), fun σ' H' p' => ⟨xs.length - (i + 1), by omega, rfl, hlt, p'⟩, fun x H' y => ?_⟩
    obtain ⟨T, z, rfl, hT, rfl, hz⟩ := y
    exact hs i z σ H T (hz xs q) p hT
  · refine .inl ⟨⟨xs, q, by omega⟩, hd σ H ?_⟩
    have e : i = xs.length := by omega
    rw [← e]
    exact p
/-- lists of truths as data -/
theorem dp_bools {K : PySem.W.Frag} {H : Hp} : ∀ bs : List Bool, DpAll K H (bs.map V.bl) (bs.map PyData.bool)
  | [] => .nil
  | b :: r => .cons (.bl b) (dp_bools r)
theorem ite_f {c : Bool} {A B : Prop} (hc : c = false) (h : B) : if c = true then A else B := by
  rw [hc, if_neg Bool.false_ne_true]
  exact h
theorem ite_t {c : Bool} {A B : Prop} (hc : c = true) (h : A) : if c = true then A else B := by
  rw [if_pos hc]
  exact h
theorem ne_self {d : PyData} (h : SeqAt.shaped d = true) : (!PyData.eqv d d) = false := by
  rw [SeqAt.eqv_refl d (SeqAt.canLay_of_shaped h)]
  rfl
theorem eq_self {d : PyData} (h : SeqAt.shaped d = true) : PyData.eqv d d = true := SeqAt.eqv_refl d (SeqAt.canLay_of_shaped h)
end Rp

namespace Rp
open PySem PySem.Spec PyProof.Rows L2 Ex
theorem sqt_same {K : PySem.W.Frag} {H H' : Hp} {a : Addr} {xs : List V} (e : Same H H') (h : SqT K H a xs) : SqT K H' a xs := by
  rcases h with (h | ⟨o, h⟩) | h
  · exact .inl (.inl (e _ _ h))
  · exact .inl (.inr ⟨o, e _ _ h⟩)
  · exact .inr h
mutual
/-- data stays data where nothing tracked is lost -/
theorem Dt.same {K : PySem.W.Frag} {H H' : Hp} (s : Same H H') : ∀ (d : PyData) (v : V), Dt K H v d → Dt K H' v d
  | .none, _, h => by cases h; exact .non
  | .bool b, _, h => by cases h; exact .bl b
  | .int i, _, h => by cases h; exact .int i
  | .str x, _, h => by cases h; exact .str x
  | .list ds, _, h => by
    cases h with
    | lst h1 h2 => exact .lst (s.seq h1) (Dt.sameAll s ds _ h2)
  | .tuple ds, _, h => by
    cases h with
    | tup h1 h2 => exact .tup (sqt_same s h1) (Dt.sameAll s ds _ h2)
  | .dict ds, _, h => by
    cases h with
    | dic h1 h2 => exact .dic (s _ _ h1) (Dt.sameKv s ds _ h2)
theorem Dt.sameAll {K : PySem.W.Frag} {H H' : Hp} (s : Same H H') : ∀ (ds : List PyData) (vs : List V), DtAll K H vs ds → DtAll K H' vs ds
  | [], _, h => by cases h; exact .nil
  | d :: ds, _, h => by
    cases h with
    | cons h1 h2 => exact .cons (Dt.same s d _ h1) (Dt.sameAll s ds _ h2)
theorem Dt.sameKv {K : PySem.W.Frag} {H H' : Hp} (s : Same H H') : ∀ (ds : List (PyData × PyData)) (kvs : List (Key × V)), DtKv K H kvs ds → DtKv K H' kvs ds
  | [], _, h => by cases h; exact .nil
  | (k, d) :: ds, _, h => by
    cases h with
    | cons h1 h2 => exact .cons (Dt.same s d _ h1) (Dt.sameKv s ds _ h2)
end
theorem ExcAt.same {H H' : Hp} {e C : Addr} {f : Str} {v : V} (h : ExcAt H e C f v) (s : Same H H') : ExcAt H' e C f v := by
  obtain ⟨dx, h1, h2⟩ := h
  exact ⟨dx, s _ _ h1, s _ _ h2⟩
theorem ExcAt.is {K : PySem.W.Frag} {H : Hp} {e C : Addr} {f : Str} {v : V} (h : ExcAt H e C f v) : IsEx K H e C := by
  obtain ⟨dx, h1, h2⟩ := h
  exact .own h1 h2
/-- the heap behind C(v) -/
theorem made {H : Hp} {a dx C : Addr} {f : Str} {v : V} (ha : H a = none) (hd : upd H a (exo a C none) dx = none) (ne : dx ≠ a) :
    Same H (upd (upd (upd H a (exo a C none)) dx (exd dx [(f, v)])) a (exo a C (some dx))) ∧ ExcAt (upd (upd (upd H a (exo a C none)) dx (exd dx [(f, v)])) a (exo a C (some dx))) a C f v := by
  have hd' : H dx = none := by
    rw [upd_ne ne] at hd
    exact hd
  refine ⟨fun b o e => ?_, dx, upd_same, ?_⟩
  · rw [upd_ne (ne_of_none e ha), upd_ne (ne_of_none e hd'), upd_ne (ne_of_none e ha)]
    exact e
  · rw [upd_ne ne, upd_same]
end Rp

/-! Data that does not reach some addresses; small data. -/
namespace Rp
open PySem PySem.Spec PyProof.Rows L2 Ex Dr
/-- the abstract heap without some addresses -/
def cut (ex : List Addr) (H : Hp) : Hp := fun b => if b ∈ ex then none else H b
theorem cut_at {ex : List Addr} {H : Hp} {b : Addr} {o : HO} (h : H b = some o) (n : b ∉ ex) : cut ex H b = some o := by
  unfold cut
  rw [if_neg n]
  exact h
theorem cut_of {ex : List Addr} {H : Hp} {b : Addr} {o : HO} (h : cut ex H b = some o) : b ∉ ex ∧ H b = some o := by
  unfold cut at h
  by_cases n : b ∈ ex
  · rw [if_pos n] at h
    cases h
  · rw [if_neg n] at h
    exact ⟨n, h⟩
theorem cut_same {ex ex' : List Addr} {H H' : Hp} (k : ∀ b o, b ∉ ex → H b = some o → b ∉ ex' ∧ H' b = some o) : Same (cut ex H) (cut ex' H') := fun b o e => by
  obtain ⟨n, h⟩ := cut_of e
  obtain ⟨n', h'⟩ := k b o n h
  exact cut_at h' n'
theorem cut_all {ex : List Addr} {H : Hp} : Same (cut ex H) H := fun b o e => (cut_of e).2
/-- small data -/
def Sm (d : PyData) : Prop := d.showable = true ∧ d.depth ≤ 5 ∧ d.shown.length ≤ 1000
theorem smAll : ∀ ds : List PyData, (∀ d, d ∈ ds → Sm d) → PyData.showableAll ds = true ∧ PyData.depthAll ds ≤ 5 ∧ ((PyData.shownAll ds).map (·.length)).sum ≤ 1000 * ds.length ∧ (PyData.shownAll ds).length = ds.length
  | [], _ => ⟨rfl, Nat.zero_le _, Nat.le_refl _, rfl⟩
  | d :: r, h => by
    obtain ⟨h1, h2, h3⟩ := h d List.mem_cons_self
    obtain ⟨r1, r2, r3, r4⟩ := smAll r fun x hx => h x (List.mem_cons_of_mem _ hx)
    refine ⟨?_, ?_, ?_, ?_⟩
    · simp only [PyData.showableAll, h1, r1, Bool.and_self]
    · simp only [PyData.depthAll]
      omega
    · simp only [PyData.shownAll, List.map_cons, List.sum_cons, List.length_cons]
      omega
    · simp only [PyData.shownAll, List.length_cons, r4]
theorem sm_list {ds : List PyData} (h : ∀ d, d ∈ ds → Sm d) (hl : ds.length ≤ 100) : (PyData.list ds).showable = true ∧ (PyData.list ds).depth ≤ 60 ∧ (PyData.list ds).shown.length ≤ sizeLine := by
  obtain ⟨r1, r2, r3, r4⟩ := smAll ds h
  refine ⟨?_, ?_, ?_⟩
  · simp only [PyData.showable, r1]
  · simp only [PyData.depth]
    omega
  · have z := listText_len_le (PyData.shownAll ds)
    have e : (PyData.list ds).shown = listText (PyData.shownAll ds) := by simp only [PyData.shown]
    rw [e, sizeLine_eq]
    omega
/-- an item of a menu of small data -/
theorem DtAll.get {K : PySem.W.Frag} {H : Hp} : ∀ {xs : List V} {ds : List PyData} {i : Nat} {x : V}, DtAll K H xs ds → (∀ d, d ∈ ds → Sm d) → xs[i]? = some x → ∃ d, Dt K H x d ∧ Sm d
  | _, _, _, _, .nil, _, e => by simp at e
  | _, _, 0, _, .cons h _, s, e => by
    simp at e
    subst e
    exact ⟨_, h, s _ List.mem_cons_self⟩
  | _, _, i + 1, _, .cons _ t, s, e => DtAll.get (i := i) t (fun d hd => s d (List.mem_cons_of_mem _ hd)) (by simpa using e)
theorem DtAll.len {K : PySem.W.Frag} {H : Hp} : ∀ {xs : List V} {ds : List PyData}, DtAll K H xs ds → ds.length = xs.length
  | _, _, .nil => rfl
  | _, _, .cons _ t => by rw [List.length_cons, List.length_cons, DtAll.len t]
theorem dt_strs {K : PySem.W.Frag} {H : Hp} : ∀ xs : List Str, DtAll K H (xs.map V.str) (xs.map PyData.str)
  | [] => .nil
  | x :: r => .cons (.str x) (dt_strs r)
theorem dt_ints {K : PySem.W.Frag} {H : Hp} : ∀ xs : List Int, DtAll K H (xs.map V.int) (xs.map PyData.int)
  | [] => .nil
  | x :: r => .cons (.int x) (dt_ints r)
theorem str_item {zs : List Str} {j : Nat} {x : V} (h : (zs.map V.str)[j]? = some x) : ∃ z, z ∈ zs ∧ x = .str z := by
  rw [List.getElem?_map] at h
  cases e : zs[j]? with
  | none =>
    rw [e] at h
    cases h
  | some z =>
    rw [e] at h
    exact ⟨z, List.mem_of_getElem? e, (Option.some.inj h).symm⟩
theorem int_item {zs : List Int} {j : Nat} {x : V} (h : (zs.map V.int)[j]? = some x) : ∃ z, z ∈ zs ∧ x = .int z := by
  rw [List.getElem?_map] at h
  cases e : zs[j]? with
  | none =>
    rw [e] at h
    cases h
  | some z =>
    rw [e] at h
    exact ⟨z, List.mem_of_getElem? e, (Option.some.inj h).symm⟩
/-- all but p and f is as it was -/
def By (p f : Addr) (A B : Hp) : Prop := ∀ b o, b ≠ p → b ≠ f → A b = some o → B b = some o
theorem By.of {p f : Addr} {A B : Hp} (h : But p A B) : By p f A B := fun b o n _ e => h b o n e
theorem By.sm {p f : Addr} {A B : Hp} (h : Same A B) : By p f A B := fun b o _ _ e => h b o e
theorem By.trans {p f : Addr} {A B C : Hp} (h : By p f A B) (g : By p f B C) : By p f A C := fun b o n m e => g b o n m (h b o n m e)
theorem By.upd (p f : Addr) (A : Hp) (o : HO) : By p f A (L2.upd A f o) := fun b u _ m e => by
  rw [upd_ne m]
  exact e
theorem But.sm {p : Addr} {A B : Hp} (h : Same A B) : But p A B := fun b o _ e => h b o e
/-- data of a tuple of small names -/
theorem sm_names {zs : List Str} (h : ∀ z, z ∈ zs → z = "a" ∨ z = "b" ∨ z = "xx") (hl : zs.length ≤ 5) : (PyData.tuple (zs.map PyData.str)).showable = true ∧ (PyData.tuple (zs.map PyData.str)).depth ≤ 1 ∧ (PyData.tuple (zs.map PyData.str)).shown.length ≤ 300 := by
  have hz : ∀ d, d ∈ zs.map PyData.str → d.showable = true ∧ d.depth = 0 ∧ d.shown.length ≤ 10 := by
    intro d hd
    obtain ⟨z, hz, rfl⟩ := List.mem_map.mp hd
    rcases h z hz with rfl | rfl | rfl <;> exact ⟨rfl, rfl, by decide +kernel⟩
  have all : ∀ ds : List PyData, (∀ d, d ∈ ds → d.showable = true ∧ d.depth = 0 ∧ d.shown.length ≤ 10) → PyData.showableAll ds = true ∧ PyData.depthAll ds = 0 ∧ ((PyData.shownAll ds).map (·.length)).sum ≤ 10 * ds.length ∧ (PyData.shownAll ds).length = ds.length := by
    intro ds
    induction ds with
    | nil => intro _; exact ⟨rfl, rfl, Nat.le_refl _, rfl⟩
    | cons d r ih =>
      intro q
      obtain ⟨h1, h2, h3⟩ := q d List.mem_cons_self
      obtain ⟨r1, r2, r3, r4⟩ := ih fun x hx => q x (List.mem_cons_of_mem _ hx)
      refine ⟨?_, ?_, ?_, ?_⟩
      · simp only [PyData.showableAll, h1, r1, Bool.and_self]
      · simp only [PyData.depthAll, h2, r2]
        rfl
      · simp only [PyData.shownAll, List.map_cons, List.sum_cons, List.length_cons]
        omega
      · simp only [PyData.shownAll, List.length_cons, r4]
  obtain ⟨r1, r2, r3, r4⟩ := all _ hz
  rw [List.length_map] at r3 r4
  refine ⟨?_, ?_, ?_⟩
  · simp only [PyData.showable, r1]
  · simp only [PyData.depth, r2]
    omega
  · have z := tupleText_len_le (PyData.shownAll (zs.map PyData.str))
    have e : (PyData.tuple (zs.map PyData.str)).shown = tupleText (PyData.shownAll (zs.map PyData.str)) := by simp only [PyData.shown]
    rw [e]
    omega
/-- a pair of a short text and small data -/
theorem sm_pair {x : Str} {d : PyData} (hx : (PyData.str x).shown.length ≤ 50) (h : d.showable = true ∧ d.depth ≤ 1 ∧ d.shown.length ≤ 300) : Sm (.tuple [.str x, d]) := by
  obtain ⟨h1, h2, h3⟩ := h
  refine ⟨?_, ?_, ?_⟩
  · simp only [PyData.showable, PyData.showableAll, h1, Bool.and_self]
  · simp only [PyData.depth, PyData.depthAll]
    omega
  · have z := tupleText_len_le (PyData.shownAll [.str x, d])
    have e : (PyData.tuple [.str x, d]).shown = tupleText (PyData.shownAll [.str x, d]) := by simp only [PyData.shown]
    rw [e]
    simp only [PyData.shownAll, List.map_cons, List.map_nil, List.sum_cons, List.sum_nil, List.length_cons, List.length_nil] at z ⊢
    omega
end Rp

/-! Such exceptions raised and caught in one def. -/
namespace Ex
open PySem PySem.Spec PySem.Calls PyProof.Rows L2
section
variable {X : Cx} {e : Expr} {te : TE} {f : Str} {pos : Pos} {C fI : Addr} {nid : String} {ml : List Value}
/-- raise e, e a new exception of such a class -/
theorem pmk_val (T : XC X.K C nid ml f fI) (hx : X.ex = []) (he : PE X e te) :
    PMk X e (fun σ H Q => te σ H fun x H1 => ∃ (a dx : Addr) (v : V), x = .ref a ∧ H1 a = some (exo a C (some dx)) ∧ H1 dx = some (exd dx [(f, v)]) ∧ Fr0 X.H_0 a ∧ Q (.ref C) (some dx) (delH H1 a)) := by
  intro pins s σ H Q I h
  refine wpAny_mono (he.run pins s σ H _ I h) (fun u s1 hu => ?_) fun _ _ x => x
  obtain ⟨v, H1, I1, r1, a, dx, y, rfl, ha, hd, h0, q⟩ := hu
  cases r1
  obtain ⟨t1, ho⟩ := exo_at I1.hok ha
  obtain ⟨G, gs, gn, J⟩ := I1.untrack ha h0 hx
  exact ⟨a, _, _, { s1 with heap := G }, delH H1 a, .ref C, some dx, rfl, J, gs, gn, ho, ⟨rfl, rfl⟩, rfl, rfl, delH_same, rfl, I1.bare, raises_own T.exC T.tyC, q⟩
/-- n.f, n the exception that the suite holds -/
def tSfld (C a : Addr) (f : Str) (cls : Value) (d : Option Addr) (te : TE) : TE := fun σ H Q => te σ H fun x H1 => x = .ref a ∧ cls = .ref C ∧ ∃ (dd : Addr) (v : V), d = some dd ∧ H1 dd = some (exd dd [(f, v)]) ∧ Q v H1
theorem pe_sfld {a : Addr} {oe : Obj} {cls : Value} {d : Option Addr} {pn : List (Addr × Obj)} (T : XC X.K C nid ml f fI) (hz : Zc cls d oe) (hf : ∃ vs, oe.data = .fields vs) (he : PE (X.suite a ((a, oe) :: pn)) e te)
    (hb : attributeBase e f X.env (eval e X.env) = eval e X.env := by rfl) : PE (X.suite a ((a, oe) :: pn)) (.Attribute e f pos) (tSfld C a f cls d te) := by
  refine ⟨fun pins s σ H Q I h => ?_⟩
  refine attr_of hb (thn (he.run pins s σ H _ I h) fun u s1 hh => ?_)
  obtain ⟨x, H1, I1, rx, ex, ec, dd, v, ed, ea, q⟩ := hh
  subst ex
  obtain rfl : u = Value.ref a := rx
  subst ec
  subst ed
  obtain ⟨ha, _⟩ := I1.pin (a, oe) (List.mem_append_left _ List.mem_cons_self)
  obtain ⟨vs, hd⟩ := hf
  obtain ⟨mA, hns, rel⟩ := exd_at I1.hok ea
  obtain ⟨od, hod, hl⟩ := lookIn_ns hns
  have l : List.lookup f [(f, v)] = some v := by simp [List.lookup]
  obtain ⟨w, hw, rw'⟩ := RelO.some_of (v := v) (o := mA f) (by rw [← l]; exact rel f)
  have J : PySem.W.InstAt s1.heap a oe C (some od) := by
    refine ⟨ha, hz.1, ?_, ?_⟩
    · unfold PySem.W.notCls
      rw [hd] <;> rfl
    · rw [hz.2]
      exact hod
  exact HandSPX.exc_get I1.kIn J T.ga T.gg T.exC (PySem.W.findObj_own T.hdC T.noF rfl (by rw [hl, hw])) (handed_of rw') ⟨v, H1, I1.tok _, rw', q⟩
/-- isinstance(n, c), n the exception that the suite holds, without a dict -/
def rIS (K : PySem.W.Frag) (a : Addr) (cls : Value) (d : Option Addr) : List V → Hp → VK → Prop := fun xs H Q => ∃ (c : V) (u : Value) (D : Addr) (b : Bool), xs = [.ref a, c] ∧ ClsV c u ∧ cls = .ref D ∧ d = none ∧ IC K D ∧ PySem.W.kitOne K (.ref D) u = some b ∧ Q (.bl b) H
theorem call_isS {a : Addr} {oe : Obj} {cls : Value} {d : Option Addr} {pn : List (Addr × Obj)} (hz : Zc cls d oe) (hf : ∃ vs, oe.data = .fields vs) : CallR (X.suite a ((a, oe) :: pn)) (.builtin "isinstance") (rIS X.K a cls d) := by
  intro pins s σ H xs us Q I r h
  obtain ⟨c, cv, D, b, rfl, hc, ec, ed, T, e, q⟩ := h
  subst ec
  subst ed
  obtain ⟨u1, u2, rfl, r1, r2⟩ := vals2 r
  have e2 := hc.eq r2
  subst e2
  obtain rfl : u1 = Value.ref a := r1
  obtain ⟨hget, _⟩ := I.pin (a, oe) (List.mem_append.mpr (.inl List.mem_cons_self))
  obtain ⟨vs, hv⟩ := hf
  have J : PySem.W.InstAt s.heap a oe D none := by
    obtain ⟨oc, od, oda, osl⟩ := oe
    obtain ⟨h1, h2⟩ := hz
    dsimp only at h1 h2 hv
    subst h1 h2 hv
    exact ⟨hget, rfl, rfl, trivial⟩
  exact PySem.W.kia_one (PySem.W.kitx_exc T.cl T.ga T.gg T.sub T.kl T.gt T.tk T.mo) I.kIn J e (fun z => nomatch z) fun tk => ⟨.bl b, H, I.tok tk, rfl, q⟩
end
end Ex

namespace K00
open PySem PySem.Spec PyProof.Rows L2
open He (ga ma)
def top (i : Nat) : Stmt := PySem.Challenge.pw_pagewise_k00_errors.main.body.getD i (.Pass ⟨0, 0, 0, 0⟩)
abbrev iN : Stmt := inClass (top 11) 0
abbrev iU : Stmt := inClass (top 12) 0
abbrev iT : Stmt := inClass (top 13) 0
abbrev iS : Stmt := inClass (top 14) 0
abbrev iD : Stmt := inClass (top 15) 0
abbrev sStream : Stmt := top 17
abbrev sDraw : Stmt := top 18
abbrev sPick : Stmt := top 19
abbrev sThings : Stmt := top 20
abbrev sFlags : Stmt := top 21
abbrev sBases : Stmt := top 22
abbrev sTruths : Stmt := top 23
abbrev sMsgs : Stmt := top 24
abbrev sVals : Stmt := top 25
abbrev sCaught : Stmt := top 26
abbrev sLaw : Stmt := top 27
def dM (x : Str) (q : Str) (st : Stmt) : He.DefD := ⟨(x, some "__init__"), "__init__", q, defArgs st, defBody st, defScope st, [], []⟩
def dF (x : Str) (st : Stmt) : He.DefD := ⟨(x, none), x, x, defArgs st, defBody st, defScope st, [], []⟩
def fn : List He.DefD := [dM "InvalidNumber" "InvalidNumber.__init__" iN, dM "UnknownName" "UnknownName.__init__" iU, dM "TooMany" "TooMany.__init__" iT, dM "Unsorted" "Unsorted.__init__" iS, dM "NothingToUndo" "NothingToUndo.__init__" iD,
  dF "_law_stream" sStream, dF "_law_draw" sDraw, dF "_law_pick" sPick, dF "_law_things" sThings, dF "_law_flags" sFlags, dF "_law_bases" sBases, dF "_law_truths" sTruths, dF "_law_messages_right" sMsgs, dF "_law_values_right" sVals, dF "_law_caught" sCaught, dF "law" sLaw]
/-- the classes of the package, in the order of the text -/
def cn : List Str := ["PageError", "InvalidQuery", "InvalidTables", "InvalidOrder", "InvalidRow", "InvalidKey", "InvalidOperation", "InvalidEdit", "ParseError", "InvalidCommand", "InvalidNumber", "UnknownName", "TooMany", "Unsorted", "NothingToUndo"]
def mn : List Str := ["PageError", "InvalidQuery", "InvalidTables", "InvalidOrder", "InvalidRow", "InvalidKey", "InvalidOperation", "InvalidEdit", "ParseError", "InvalidCommand"]
def ln : List Str := ["_law_stream", "_law_draw", "_law_pick", "_law_things", "_law_flags", "_law_bases", "_law_truths", "_law_messages_right", "_law_values_right", "_law_caught"]
def bn : List Str := ["IndexError", "KeyError", "LookupError", "OverflowError", "ArithmeticError", "ValueError", "isinstance", "len", "int", "abs", "max", "min", "range", "tuple", "enumerate", "repr"]
/-- whom _law_flags, _law_bases ask about -/
def flT (K : PySem.W.Frag) : List Value := (["InvalidQuery", "InvalidTables", "InvalidOrder", "InvalidRow", "InvalidKey", "InvalidOperation", "InvalidEdit", "ParseError", "InvalidCommand"] : List Str).map fun x => Value.ref (ga K x)
def bsT (K : PySem.W.Frag) : List Value := [.type "IndexError", .type "KeyError", .type "LookupError", .type "OverflowError", .type "ArithmeticError", .type "ValueError"] ++
  (["PageError", "InvalidNumber", "UnknownName", "TooMany", "Unsorted", "NothingToUndo"] : List Str).map fun x => Value.ref (ga K x)
def kits (K : PySem.W.Frag) (C : Addr) (ts : List Value) : List (Option Bool) := ts.map fun t => PySem.W.kitOne K (.ref C) t
/-- so many truths, True at these numbers -/
def tru (n : Nat) (at_ : List Nat) : List Bool := (List.range n).map fun i => at_.contains i
def kitB (K : PySem.W.Frag) (x : Str) (f b : List Nat) : Bool := decide (kits K (ga K x) (flT K) = (tru 9 f).map some) && decide (kits K (ga K x) (bsT K) = (tru 12 b).map some)
def kall : List (Str × List Nat × List Nat) := [("PageError", [], [5, 6]), ("InvalidQuery", [0], [5, 6]), ("InvalidTables", [1], [5, 6]), ("InvalidOrder", [2], [5, 6]), ("InvalidRow", [3], [5, 6]), ("InvalidKey", [4], [5, 6]), ("InvalidOperation", [5], [5, 6]),
  ("InvalidEdit", [6], [5, 6]), ("ParseError", [7], [5, 6]), ("InvalidCommand", [8], [5, 6]), ("InvalidNumber", [], [0, 2, 7]), ("UnknownName", [], [1, 2, 8]), ("TooMany", [], [3, 4, 9]), ("Unsorted", [], [4, 10]), ("NothingToUndo", [], [2, 11])]
def msgB (K : PySem.W.Frag) (x : Str) : Bool := PySem.W.excIn K (ga K x) He.veBase "ValueError.__new__" && PySem.W.keepIn K (.ref (ga K x))
def iniB (K : PySem.W.Frag) (b i : String) : Bool := match PySem.W.findCls K (.type b) (.type "type") "__init__" with
  | some (.val (.builtin j)) => j == i
  | _ => false
def t1 (K : PySem.W.Frag) : Bool := gloAll K && freeAll K where
  gloAll (K : PySem.W.Frag) : Bool := Hx.gloB K ("law" :: (cn ++ ln))
  freeAll (K : PySem.W.Frag) : Bool := Hx.freeB K bn
def t2 (K : PySem.W.Frag) : Bool := cn.all fun x => Hx.icB K x
def t3 (K : PySem.W.Frag) : Bool := mn.all fun x => msgB K x
def t4 (K : PySem.W.Frag) : Bool := kall.all fun q => kitB K q.1 q.2.1 q.2.2
def t5 (K : PySem.W.Frag) : Bool := Hx.xcB K "InvalidNumber" "IndexError.__new__" Ex.mlI "value" && (Hx.xcB K "UnknownName" "LookupError.__new__" Ex.mlK "name" && (Hx.xcB K "TooMany" "OverflowError.__new__" Ex.mlO "limit" &&
  (Hx.xcB K "Unsorted" "ArithmeticError.__new__" Ex.mlA "witness" && Hx.xcB K "NothingToUndo" "LookupError.__new__" Ex.mlL "many")))
def t6 (K : PySem.W.Frag) : Bool := iniB K "IndexError" "IndexError.__init__" && (iniB K "KeyError" "KeyError.__init__" && (iniB K "OverflowError" "OverflowError.__init__" && (iniB K "ArithmeticError" "ArithmeticError.__init__" && iniB K "LookupError" "LookupError.__init__")))
def exB (K : PySem.W.Frag) (x y : Str) : Bool := decide (PySem.W.exmOne K (.ref (ga K x)) (.ref (ga K y)) = some true)
def t7 (K : PySem.W.Frag) : Bool := exB K "Unsorted" "Unsorted" && (exB K "NothingToUndo" "NothingToUndo" && (exB K "InvalidEdit" "PageError" && (exB K "TooMany" "TooMany" && decide (PySem.W.typeIn K (.ref (ga K "InvalidEdit")) = some (.type "type")))))
def ts (K : PySem.W.Frag) : Bool := t1 K && (t2 K && (t3 K && (t4 K && (t5 K && (t6 K && (t7 K && Hx.sysB K))))))
abbrev R : PySem.W.OpenRow := PySem.W.OpenLaw.row PySem.Challenge.rw_pagewise_k00_errors
abbrev hk : PySem.W.Hook := Hx.hookX 5 ts fn
def ob (s : PySem.W.SharedT) : He.AlD := Hx.obsXG 5 ts fn (HandSHeadRun.getT s)
theorem ob_eq (s : PySem.W.SharedT) : ob s = hk.obs s.abs := Hx.obsXG_eq (HandSHeadRun.getT_eq s)
def loose : List Str := cn ++ ln
theorem run (w : World) : HandSHeadRun.RunEq R (PySem.W.view R.prog [27]) hk ob 4000 loose w := by
  intro os
  kernel_rfl
end K00

namespace K00
open PySem PySem.Spec PyProof.Rows L2 Dr
open He (ga ma)
abbrev FnP (K : PySem.W.Frag) (x : Str) (st : Stmt) (f : Addr) (fd : FuncData) : Prop := FunD K x x (defArgs st) (defBody st) (defScope st) [] [] f fd
structure TF (mg : Str → Option Value) : Prop where
  f : ∀ x, x ∈ bn → mg x = none
abbrev nStream : List Str := ["_law_script", "_law_at", "_law_cell", "_law_great", "_law_mixed"]
theorem scStream : FnScope nStream ["_law_script", "_law_at"] (defScope sStream) := ⟨rfl, rfl, rfl, by decide +kernel, rfl, by decide +kernel, by decide +kernel⟩
section
variable {P : Program} {w : World} {K : PySem.W.Frag} {mg : Str → Option Value} {base : Heap}
theorem ok_stream {f : Addr} {fd : FuncData} (F : FnP K "_law_stream" sStream f fd) (T : TF mg) : FnOk P w K mg base CX0 1 f fd ["_law_script", "_law_at"] (spStream K) := by
  have tl := T.f "len" (by decide +kernel)
  have ti := T.f "int" (by decide +kernel)
  have ta := T.f "abs" (by decide +kernel)
  have tm := T.f "max" (by decide +kernel)
  refine F.ok scStream (fun vs H Q E h => ?_) (fun cdv A outer s H vs Q E hr h => ?_)
  · obtain ⟨a, ns, i, rfl, _⟩ := h
    rfl
  · obtain ⟨a, ns, i, rfl, hS, hlen, hi1, k⟩ := h
    refine ⟨_, PSs.nox (pss_cons (ps_set (i := 2) scStream.nd rfl (Or.inl rfl) (pe_op op_add (pe_op op_mul pe_int (pv 1)) pe_int))
      (pss_cons (ps_if (pt_cmpR op_lt (pv 1) (pe_callB call_len_seq (by rfl) tl PySem.boot_len (pa_cons (pv 0) pa_nil)) (nomark _)) (pss_one (ps_set (i := 2) scStream.nd rfl (Or.inl rfl) (pe_ix ix_list (pv 0) (pv 1) (fun _ _ => rfl)))) pss_nil)
      (pss_cons (ps_set (i := 3) scStream.nd rfl (Or.inl rfl) (pe_op op_modN (pe_callTy call_int1 (by rfl) ti (by decide +kernel) (pa_cons (pe_callB call_abs (by rfl) ta (by decide +kernel) (pa_cons (pv 2) pa_nil)) pa_nil)) (pe_op op_powW (pe_op op_pow pe_int pe_int) pe_int)))
      (pss_cons (ps_set (i := 4) scStream.nd rfl (Or.inl rfl) (pe_op op_add (pe_op op_add (pe_op op_add (pe_op op_mul (pe_op op_mod (pe_callTy call_int1 (by rfl) ti (by decide +kernel) (pa_cons (pv 3) pa_nil)) pe_int) pe_int) (pe_op op_mul pe_int (pv 1)))
        (pe_op op_mul pe_int (pe_callTy call_int1 (by rfl) ti (by decide +kernel) (pa_cons (pe_cmpR op_lt (pv 2) pe_int (nomark _)) pa_nil)))) pe_int))
      (pss_one (ps_ret (pe_lst (pa_cons (pe_callB (call_max2 rfl) (by rfl) tm (by decide +kernel) (pa_cons pe_int (pa_cons (pe_op op_sub (pv 3) (pe_op op_pow pe_int pe_int)) pa_nil)))
        (pa_cons (pe_op op_mod (pe_callTy call_int1 (by rfl) ti (by decide +kernel) (pa_cons (pv 4) pa_nil)) pe_int) (pa_cons pe_int pa_nil)))))))))), ?_⟩
    refine ⟨_, rfl, _, _, rfl, rfl, .inl ⟨by decide, by decide⟩, _, _, rfl, rfl, ?_⟩
    refine ⟨_, rfl, _, rfl, a, _, rfl, .inl hS, _, _, rfl, rfl, _, rfl, ?_⟩
    have g0 : (0 : Int) < (10 ^ Int.toNat 60) ^ Int.toNat 10 := by decide +kernel
    have g1 : ((10 ^ Int.toNat 60 : Int) ^ Int.toNat 10).natAbs < 2 ^ 2000 := by decide +kernel
    have g2 : (0 : Int) ≤ 10 ∧ (Builtin.Int.intBits (10 ^ Int.toNat 60) : Int) * 10 ≤ 2 ^ 27 := by decide +kernel
    have g3 : (0 : Int) < 10 ^ Int.toNat 18 := by decide +kernel
    have hgr : ∀ c : Int, 0 ≤ c.fmod ((10 ^ Int.toNat 60) ^ Int.toNat 10) ∧ c.fmod ((10 ^ Int.toNat 60) ^ Int.toNat 10) < (10 ^ Int.toNat 60) ^ Int.toNat 10 := by
      intro c
      rw [Int.fmod_eq_emod_of_nonneg _ (Int.le_of_lt g0)]
      exact ⟨Int.emod_nonneg _ (by omega), Int.emod_lt_of_pos _ g0⟩
    refine ite2 (fun hc => ?b1) (fun _ => ?b2)
    case' b2 =>
      refine ⟨_, rfl, _, rfl, .inl ⟨_, rfl, _, _, rfl, rfl, ⟨by decide, by decide, by decide⟩, ?_⟩⟩
    case' b1 =>
      have hlt : i < ns.length := by
        have := of_decide_eq_true hc
        rw [List.length_map] at this
        omega
      refine ⟨_, rfl, _, rfl, a, _, _, V.int ns[i], rfl, rfl, hS, atI_nat (j := i) (by rw [List.getElem?_map, List.getElem?_eq_getElem hlt]; rfl), ?_⟩
      refine ⟨_, rfl, _, rfl, .inl ⟨_, rfl, _, _, rfl, rfl, ⟨by decide, by decide, by decide⟩, ?_⟩⟩
    all_goals
      refine ⟨_, _, rfl, rfl, g2, _, _, rfl, rfl, by (intro z; rw [z] at g0; exact absurd g0 (by decide)), ?_⟩
      refine ⟨_, rfl, .inl ⟨_, rfl, ?_⟩⟩
      refine ⟨_, _, rfl, rfl, (by show (0 : Int) < 2147483543; decide), ?_⟩
      refine ⟨_, _, rfl, rfl, .inr ⟨by decide, by decide⟩, ?_⟩
      refine ⟨_, rfl, _, _, rfl, rfl, .inl ⟨by decide, by decide⟩, ?_⟩
      refine ⟨_, _, rfl, rfl, ?_⟩
      refine ⟨_, rfl, _, _, rfl, rfl, .inr ⟨_, rfl, ?_⟩⟩
      refine ⟨_, _, rfl, rfl, .inl ⟨by decide, by decide⟩, ?_⟩
      refine ⟨_, _, rfl, rfl, ?_⟩
      refine ⟨_, _, rfl, rfl, ?_⟩
      refine ⟨_, rfl, _, _, rfl, rfl, ⟨by decide, by decide, by decide⟩, _, _, rfl, rfl, _, _, rfl, ?_⟩
      refine ⟨_, rfl, .inl ⟨_, rfl, _, _, rfl, rfl, (by show (0 : Int) < 2147483399; decide), ?_⟩⟩
      refine ⟨(by show 3 ≤ sizeLine; decide), fun p hp => ?_⟩
      refine k _ p (fun b o e => by rw [upd_ne (ne_of_none e hp)]; exact e) hp ⟨_, _, 0, upd_same, ?_, ?_, Int.emod_nonneg _ (by decide), ?_, Int.le_refl _, Int.le_refl _⟩
      rotate_right
      · exact Int.lt_trans (Int.emod_lt_of_pos _ (by decide)) (by decide)
      all_goals
        have q := hgr
        generalize (10 ^ Int.toNat 60 : Int) ^ Int.toNat 10 = G at q g0 g1
        generalize (10 : Int) ^ Int.toNat 18 = D at g3
        first
          | (have q1 := q (if (ns[i] : Int) < 0 then -ns[i] else ns[i])
             generalize Int.fmod _ G = z at q1
             split <;> omega)
          | (have q1 := q (if (19 * (i : Int) + 5) < 0 then -(19 * (i : Int) + 5) else 19 * (i : Int) + 5)
             generalize Int.fmod _ G = z at q1
             split <;> omega)
end
end K00

namespace K00
open PySem PySem.Spec PyProof.Rows L2 Dr
open He (ga ma)
abbrev nDraw : List Str := ["_law_stream_here", "_law_high", "_law_found", "_law_one", "_law_two"]
theorem scDraw : FnScope nDraw ["_law_stream_here", "_law_high"] (defScope sDraw) := ⟨rfl, rfl, rfl, by decide +kernel, rfl, by decide +kernel, by decide +kernel⟩
section
variable {P : Program} {w : World} {K : PySem.W.Frag} {mg : Str → Option Value} {base : Heap}
theorem ok_draw {f : Addr} {fd : FuncData} (F : FnP K "_law_draw" sDraw f fd) (T : TF mg) : FnOk P w K mg base CX0 1 f fd ["_law_stream_here", "_law_high"] spDraw := by
  have ti := T.f "int" (by decide +kernel)
  refine F.ok scDraw (fun vs H Q E h => ?_) (fun cdv A outer s H vs Q E hr h => ?_)
  · obtain ⟨p, n, m, rfl, _⟩ := h
    rfl
  · obtain ⟨p, n, m, rfl, ⟨a, b, c, hp, a0, a1, b0, b1, c0, c1⟩, hm, n0, n1, k⟩ := h
    refine ⟨_, PSs.nox (pss_cons (ps_if (pt_cmpR op_gt (pe_ix ix_list (pv 0) pe_int (fun _ _ => rfl)) pe_int (nomark _))
        (pss_cons (ps_set (i := 2) scDraw.nd rfl (Or.inl rfl) (pe_op op_modN (pe_callTy call_int1 (by rfl) ti (by decide +kernel) (pa_cons (pe_ix ix_list (pv 0) pe_int (fun _ _ => rfl)) pa_nil)) (pv 1)))
          (pss_cons (ps_asg (pe_op op_fdivW (pe_ix ix_list (pv 0) pe_int (fun _ _ => rfl)) (pv 1)) (pg_sub (pv 0) pe_int set_list)) (pss_one (ps_ret (pv 2))))) pss_nil)
      (pss_cons (ps_asg (pe_op op_add (pe_ix ix_list (pv 0) pe_int (fun _ _ => rfl)) pe_int) (pg_sub (pv 0) pe_int set_list))
      (pss_cons (ps_set (i := 3) scDraw.nd rfl (Or.inl rfl) (pe_op op_mod (pe_callTy call_int1 (by rfl) ti (by decide +kernel) (pa_cons (pe_op op_add (pe_ix ix_list (pv 0) pe_int (fun _ _ => rfl)) (pe_op op_mul pe_int (pe_ix ix_list (pv 0) pe_int (fun _ _ => rfl)))) pa_nil)) pe_int))
      (pss_cons (ps_set (i := 4) scDraw.nd rfl (Or.inl rfl) (pe_op op_add (pe_op op_mul (pe_op op_mod (pe_callTy call_int1 (by rfl) ti (by decide +kernel) (pa_cons (pe_op op_mul (pv 3) (pv 3)) pa_nil)) pe_int) (pv 3)) (pe_op op_mul pe_int (pe_ix ix_list (pv 0) pe_int (fun _ _ => rfl)))))
      (pss_cons (ps_set (i := 4) scDraw.nd rfl (Or.inl rfl) (pe_op op_mod (pe_callTy call_int1 (by rfl) ti (by decide +kernel) (pa_cons (pv 4) pa_nil)) pe_int))
      (pss_one (ps_ret (pe_op op_modN (pe_callTy call_int1 (by rfl) ti (by decide +kernel) (pa_cons (pe_op op_fdiv (pv 4) pe_int) pa_nil)) (pv 1))))))))), ?_⟩
    have hS := SqL.of (K := K) hp
    refine ⟨_, rfl, p, _, _, V.int a, rfl, rfl, hS, atI_nat (j := 0) rfl, _, _, rfl, rfl, _, rfl, ?_⟩
    refine ite2 (fun hc => ?_) (fun _ => ?_)
    · refine ⟨_, rfl, p, _, _, V.int a, rfl, rfl, hS, atI_nat (j := 0) rfl, .inl ⟨_, rfl, _, rfl, _, _, rfl, rfl, (by omega), ?_⟩⟩
      refine ⟨_, rfl, p, _, _, V.int a, rfl, rfl, hS, atI_nat (j := 0) rfl, _, rfl, _, _, rfl, rfl, wide_div n0 (b := 20) (by omega) (by decide) (by decide), ?_⟩
      refine ⟨_, rfl, p, _, _, 0, rfl, rfl, hp, rfl, _, rfl, ?_⟩
      have q : a.fmod n = a % n := Int.fmod_eq_emod_of_nonneg _ (by omega)
      refine k _ _ ?_ ?_ (But.upd _ _ _) ⟨_, b, c, upd_same, ?_, ?_, b0, b1, c0, ?_⟩
      · show 0 ≤ a.fmod n
        rw [q]
        exact Int.emod_nonneg _ (by omega)
      · show a.fmod n < n
        rw [q]
        exact Int.emod_lt_of_pos _ n0
      · exact Int.ediv_nonneg a0 (by omega)
      · have h1 : a / n ≤ a := Int.ediv_le_self _ a0
        have h2 : 0 ≤ a / n := Int.ediv_nonneg a0 (by omega)
        exact wide_le h2 h1 a1
      · omega
    · refine ⟨_, rfl, p, _, _, V.int c, rfl, rfl, hS, atI_nat (j := 2) rfl, _, _, rfl, rfl, ?_⟩
      refine ⟨_, rfl, p, _, _, 2, rfl, rfl, hp, rfl, ?_⟩
      have hp2 : SqL K (upd H p (.lst [.int a, .int b, .int (c + 1)])) p [.int a, .int b, .int (c + 1)] := SqL.of upd_same
      refine ⟨_, rfl, p, _, _, V.int b, rfl, rfl, hp2, atI_nat (j := 1) rfl, _, rfl, p, _, _, V.int (c + 1), rfl, rfl, hp2, atI_nat (j := 2) rfl, _, _, rfl, rfl, .inl ⟨by decide, by decide⟩, _, _, rfl, rfl, .inl ⟨_, rfl, ?_⟩⟩
      refine ⟨_, _, rfl, rfl, (by show (0 : Int) < 2305843009213693951; decide), ?_⟩
      have x0 : 0 ≤ (b + 1000117 * (c + 1)) % 2305843009213693951 := Int.emod_nonneg _ (by decide)
      have x1 : (b + 1000117 * (c + 1)) % 2305843009213693951 < 2305843009213693951 := Int.emod_lt_of_pos _ (by decide)
      have y0 : ∀ z : Int, 0 ≤ z % 2305843009213693921 := fun z => Int.emod_nonneg _ (by decide)
      have y1 : ∀ z : Int, z % 2305843009213693921 < 2305843009213693921 := fun z => Int.emod_lt_of_pos _ (by decide)
      refine ⟨_, rfl, _, rfl, _, _, rfl, rfl, .inl ⟨?u1, ?u2⟩, .inl ⟨_, rfl, _, _, rfl, rfl, (by show (0 : Int) < 2305843009213693921; decide), _, rfl, _, _, rfl, rfl, .inl ⟨?u3, ?u4⟩, ?rest⟩⟩
      case u1 => exact Int.lt_of_lt_of_le (by decide) x0
      case u2 => exact Int.lt_trans x1 (by decide)
      case u3 => exact Int.lt_of_lt_of_le (by decide) (y0 _)
      case u4 => exact Int.lt_trans (y1 _) (by decide)
      refine ⟨_, rfl, p, _, _, V.int (c + 1), rfl, rfl, hp2, atI_nat (j := 2) rfl, _, _, rfl, rfl, .inl ⟨by decide, by decide⟩, _, _, rfl, rfl, ?_⟩
      refine ⟨_, rfl, .inl ⟨_, rfl, _, _, rfl, rfl, (by show (0 : Int) < 2305843009213693907; decide), ?_⟩⟩
      refine ⟨_, rfl, _, _, rfl, rfl, ⟨by decide, by decide⟩, .inl ⟨_, rfl, _, rfl, _, _, rfl, rfl, (by omega), ?_⟩⟩
      refine k _ _ ?_ ?_ (But.upd _ _ _) ⟨a, b, c + 1, upd_same, a0, a1, b0, b1, by omega, by omega⟩
      · rw [Int.fmod_eq_emod_of_nonneg _ (by omega)]
        exact Int.emod_nonneg _ (by omega)
      · rw [Int.fmod_eq_emod_of_nonneg _ (by omega)]
        exact Int.emod_lt_of_pos _ n0
abbrev nPick : List Str := ["_law_stream_here", "_law_items"]
theorem scPick : FnScope nPick ["_law_stream_here", "_law_items"] (defScope sPick) := ⟨rfl, rfl, rfl, by decide +kernel, rfl, by decide +kernel, by decide +kernel⟩
theorem ok_pick {f fD : Addr} {fd fdD : FuncData} (F : FnP K "_law_pick" sPick f fd) (FD : FnP K "_law_draw" sDraw fD fdD) (T : TF mg) (gD : mg "_law_draw" = some (.ref fD)) : FnOk P w K mg base CX0 2 f fd ["_law_stream_here", "_law_items"] (spPick K) := by
  have tl := T.f "len" (by decide +kernel)
  have G : FnOk P w K mg base CX0 1 fD fdD ["_law_stream_here", "_law_high"] spDraw := ok_draw FD T
  have bD : Binds K fdD ["_law_stream_here", "_law_high"] [] := FD.bindsN fun _ _ _ _ _ _ us hl => match us, hl with | [_, _], _ => rfl
  refine F.ok scPick (fun vs H Q E h => ?_) (fun cdv A outer s H vs Q E hr h => ?_)
  · obtain ⟨p, q, xs, m, rfl, _⟩ := h
    rfl
  · obtain ⟨p, q, xs, m, rfl, hS, hm, npq, hq, l0, l1, k⟩ := h
    refine ⟨_, PSs.nox (pss_one (ps_ret (pe_ix ix_list (pv 1) (pe_call G hr rfl gD FD.kp bD .nil pass0 (pa_cons (pv 0) (pa_cons (pe_callB call_len_seq (by rfl) tl PySem.boot_len (pa_cons (pv 1) pa_nil)) pa_nil))) (fun _ _ => rfl)))), ?_⟩
    refine ⟨_, rfl, _, rfl, _, rfl, q, _, rfl, .inl hq, p, _, m, rfl, hS, hm, (by omega), (by omega), fun H' v v0 v1 hb hs => ?_⟩
    have hq' : SqL K H' q xs := by
      rcases hq with (h | ⟨o, h⟩) | h
      · exact .inl (.inl (hb _ _ (Ne.symm npq) h))
      · exact .inl (.inr ⟨o, hb _ _ (Ne.symm npq) h⟩)
      · exact .inr h
    have hv : v.toNat < xs.length := by omega
    have ev : ((v.toNat : Nat) : Int) = v := by omega
    refine ⟨q, _, _, xs[v.toNat], rfl, rfl, hq', ?_, ?_⟩
    · have z := atI_nat (xs := xs) (j := v.toNat) (List.getElem?_eq_getElem hv)
      rw [ev] at z
      exact z
    · exact k H' v.toNat _ (List.getElem?_eq_getElem hv) hb hs
end
end K00

namespace K00
open PySem PySem.Spec PyProof.Rows L2 Dr Ex
open He (ga ma)
/-- what the module's names hold -/
structure TG (K : PySem.W.Frag) (mg : Str → Option Value) : Prop where
  f : TF mg
  g : ∀ x, x ∈ cn ++ ln → mg x = some (.ref (ga K x))
theorem same_upd {H : Hp} {p : Addr} {o : HO} (h : H p = none) : Same H (upd H p o) := fun b u e => by
  rw [upd_ne (ne_of_none e h)]
  exact e
theorem IsEx.same {K : PySem.W.Frag} {H H' : Hp} {a C : Addr} (h : IsEx K H a C) (s : Same H H') : IsEx K H' a C := by
  cases h with
  | own h hd => exact .own (s _ _ h) (s _ _ hd)
  | msg h => exact .msg (s _ _ h)
/-- _law_flags(e) | _law_bases(e): the truths bs, that isinstance gives of the classes ts K -/
def spAsk (K : PySem.W.Frag) (ts : PySem.W.Frag → List Value) : Sp := fun vs H Q _ => ∃ (a C : Addr) (bs : List Bool), vs = [.ref a] ∧ IC K C ∧ IsEx K H a C ∧ kits K C (ts K) = bs.map some ∧
  ∀ H' p, Same H H' → H p = none → H' p = some (.lst (bs.map V.bl)) → Q (.ref p) H'
section
variable {X : Cx} {x : Str} {a : Addr} {n : String} {pos : Pos}
/-- a class of the text, as a value -/
theorem p_cls (hm : X.mg x = some (.ref a)) (hg : Gl X x := by rfl) (hd : (x == ("__debug__" : Str)) = false := by decide) : PE X (.Name x pos) (tC (.ref a)) := pe_glob hg hm rfl hd
theorem p_bty (hm : X.mg x = none) (hv : bootBuiltins x = some (.type n)) (hg : Gl X x := by rfl) (hn : x ≠ "__name__" := by decide) (hd : (x == ("__debug__" : Str)) = false := by decide) : PE X (.Name x pos) (tC (.ty n)) := pe_bltn hg hm hv rfl hn hd
end
abbrev nAsk : List Str := ["_law_e", "_law_some"]
theorem scFlags : FnScope nAsk ["_law_e"] (defScope sFlags) := ⟨rfl, rfl, rfl, by decide +kernel, rfl, by decide +kernel, by decide +kernel⟩
theorem scBases : FnScope nAsk ["_law_e"] (defScope sBases) := ⟨rfl, rfl, rfl, by decide +kernel, rfl, by decide +kernel, by decide +kernel⟩
section
variable {P : Program} {w : World} {K : PySem.W.Frag} {mg : Str → Option Value} {base : Heap}
theorem ok_flags {f : Addr} {fd : FuncData} (F : FnP K "_law_flags" sFlags f fd) (T : TG K mg) : FnOk P w K mg base CX0 1 f fd ["_law_e"] (spAsk K flT) := by
  have ti := T.f.f "isinstance" (by decide +kernel)
  refine F.ok scFlags (fun vs H Q E h => ?_) (fun cdv A outer s H vs Q E hr h => ?_)
  · obtain ⟨a, C, bs, rfl, _⟩ := h
    rfl
  · obtain ⟨a, C, bs, rfl, hI, hx, hk, k⟩ := h
    have hl : bs.length = 9 := by
      have e := congrArg List.length hk
      rw [List.length_map] at e
      exact e.symm
    obtain ⟨b0, b1, b2, b3, b4, b5, b6, b7, b8, rfl⟩ : ∃ b0 b1 b2 b3 b4 b5 b6 b7 b8, bs = [b0, b1, b2, b3, b4, b5, b6, b7, b8] :=
      match bs, hl with | [b0, b1, b2, b3, b4, b5, b6, b7, b8], _ => ⟨_, _, _, _, _, _, _, _, _, rfl⟩
    simp only [kits, flT, List.map_cons, List.map_nil, List.cons.injEq, and_true] at hk
    obtain ⟨e0, e1, e2, e3, e4, e5, e6, e7, e8⟩ := hk
    refine ⟨_, PSs.nox (pss_cons (ps_set (i := 1) scFlags.nd rfl (Or.inl rfl) (pe_lst
        (pa_cons (pe_callB call_isX (by rfl) ti (by decide +kernel) (pa_cons (pv 0) (pa_cons (p_cls (T.g "InvalidQuery" (by decide +kernel))) pa_nil)))
        (pa_cons (pe_callB call_isX (by rfl) ti (by decide +kernel) (pa_cons (pv 0) (pa_cons (p_cls (T.g "InvalidTables" (by decide +kernel))) pa_nil)))
        (pa_cons (pe_callB call_isX (by rfl) ti (by decide +kernel) (pa_cons (pv 0) (pa_cons (p_cls (T.g "InvalidOrder" (by decide +kernel))) pa_nil))) pa_nil)))))
      (pss_cons (ps_set (i := 1) scFlags.nd rfl (Or.inl rfl) (pe_op op_cat (pv 1) (pe_lst
        (pa_cons (pe_callB call_isX (by rfl) ti (by decide +kernel) (pa_cons (pv 0) (pa_cons (p_cls (T.g "InvalidRow" (by decide +kernel))) pa_nil)))
        (pa_cons (pe_callB call_isX (by rfl) ti (by decide +kernel) (pa_cons (pv 0) (pa_cons (p_cls (T.g "InvalidKey" (by decide +kernel))) pa_nil)))
        (pa_cons (pe_callB call_isX (by rfl) ti (by decide +kernel) (pa_cons (pv 0) (pa_cons (p_cls (T.g "InvalidOperation" (by decide +kernel))) pa_nil))) pa_nil))))))
      (pss_one (ps_ret (pe_op op_cat (pv 1) (pe_lst
        (pa_cons (pe_callB call_isX (by rfl) ti (by decide +kernel) (pa_cons (pv 0) (pa_cons (p_cls (T.g "InvalidEdit" (by decide +kernel))) pa_nil)))
        (pa_cons (pe_callB call_isX (by rfl) ti (by decide +kernel) (pa_cons (pv 0) (pa_cons (p_cls (T.g "ParseError" (by decide +kernel))) pa_nil)))
        (pa_cons (pe_callB call_isX (by rfl) ti (by decide +kernel) (pa_cons (pv 0) (pa_cons (p_cls (T.g "InvalidCommand" (by decide +kernel))) pa_nil))) pa_nil))))))))), ?_⟩
    refine ⟨_, rfl, a, C, _, _, b0, rfl, ClsV.own _, hI, hx, e0, ?_⟩
    refine ⟨_, rfl, a, C, _, _, b1, rfl, ClsV.own _, hI, hx, e1, ?_⟩
    refine ⟨_, rfl, a, C, _, _, b2, rfl, ClsV.own _, hI, hx, e2, (by show 3 ≤ sizeLine; decide), fun l1 hl1 => ?_⟩
    have x1 := IsEx.same hx (same_upd (o := .lst [.bl b0, .bl b1, .bl b2]) hl1)
    refine ⟨_, rfl, ?_⟩
    refine ⟨_, rfl, a, C, _, _, b3, rfl, ClsV.own _, hI, x1, e3, ?_⟩
    refine ⟨_, rfl, a, C, _, _, b4, rfl, ClsV.own _, hI, x1, e4, ?_⟩
    refine ⟨_, rfl, a, C, _, _, b5, rfl, ClsV.own _, hI, x1, e5, (by show 3 ≤ sizeLine; decide), fun l2 hl2 => ?_⟩
    refine ⟨_, _, _, _, rfl, rfl, (by rw [upd_ne (ne_of_none upd_same hl2)]; exact upd_same), upd_same, (by show 3 + 3 ≤ sizeLine; decide), fun l3 hl3 => ?_⟩
    have s1 := same_upd (o := .lst [.bl b0, .bl b1, .bl b2]) hl1
    have s2 := same_upd (o := .lst [.bl b3, .bl b4, .bl b5]) hl2
    have s3 := same_upd (o := .lst ([V.bl b0, .bl b1, .bl b2] ++ [.bl b3, .bl b4, .bl b5])) hl3
    have x3 := IsEx.same (IsEx.same x1 s2) s3
    refine ⟨_, rfl, ?_⟩
    refine ⟨_, rfl, a, C, _, _, b6, rfl, ClsV.own _, hI, x3, e6, ?_⟩
    refine ⟨_, rfl, a, C, _, _, b7, rfl, ClsV.own _, hI, x3, e7, ?_⟩
    refine ⟨_, rfl, a, C, _, _, b8, rfl, ClsV.own _, hI, x3, e8, (by show 3 ≤ sizeLine; decide), fun l4 hl4 => ?_⟩
    have s4 := same_upd (o := .lst [.bl b6, .bl b7, .bl b8]) hl4
    refine ⟨_, _, _, _, rfl, rfl, s4 _ _ upd_same, upd_same, (by show 6 + 3 ≤ sizeLine; decide), fun l5 hl5 => ?_⟩
    have s5 := same_upd (o := .lst (([V.bl b0, .bl b1, .bl b2] ++ [.bl b3, .bl b4, .bl b5]) ++ [.bl b6, .bl b7, .bl b8])) hl5
    have st := (((s1.trans s2).trans s3).trans s4).trans s5
    exact k _ l5 st ((((s1.trans s2).trans s3).trans s4).free hl5) upd_same
theorem ok_bases {f : Addr} {fd : FuncData} (F : FnP K "_law_bases" sBases f fd) (T : TG K mg) : FnOk P w K mg base CX0 1 f fd ["_law_e"] (spAsk K bsT) := by
  have ti := T.f.f "isinstance" (by decide +kernel)
  refine F.ok scBases (fun vs H Q E h => ?_) (fun cdv A outer s H vs Q E hr h => ?_)
  · obtain ⟨a, C, bs, rfl, _⟩ := h
    rfl
  · obtain ⟨a, C, bs, rfl, hI, hx, hk, k⟩ := h
    have hl : bs.length = 12 := by
      have e := congrArg List.length hk
      rw [List.length_map] at e
      exact e.symm
    obtain ⟨b0, b1, b2, b3, b4, b5, b6, b7, b8, b9, b10, b11, rfl⟩ : ∃ b0 b1 b2 b3 b4 b5 b6 b7 b8 b9 b10 b11, bs = [b0, b1, b2, b3, b4, b5, b6, b7, b8, b9, b10, b11] :=
      match bs, hl with | [b0, b1, b2, b3, b4, b5, b6, b7, b8, b9, b10, b11], _ => ⟨_, _, _, _, _, _, _, _, _, _, _, _, rfl⟩
    simp only [kits, bsT, List.map_cons, List.map_nil, List.cons_append, List.nil_append, List.cons.injEq, and_true] at hk
    obtain ⟨e0, e1, e2, e3, e4, e5, e6, e7, e8, e9, e10, e11⟩ := hk
    refine ⟨_, PSs.nox (pss_cons (ps_set (i := 1) scBases.nd rfl (Or.inl rfl) (pe_lst
        (pa_cons (pe_callB call_isX (by rfl) ti (by decide +kernel) (pa_cons (pv 0) (pa_cons (p_bty (n := "IndexError") (T.f.f "IndexError" (by decide +kernel)) (by decide +kernel)) pa_nil)))
        (pa_cons (pe_callB call_isX (by rfl) ti (by decide +kernel) (pa_cons (pv 0) (pa_cons (p_bty (n := "KeyError") (T.f.f "KeyError" (by decide +kernel)) (by decide +kernel)) pa_nil)))
        (pa_cons (pe_callB call_isX (by rfl) ti (by decide +kernel) (pa_cons (pv 0) (pa_cons (p_bty (n := "LookupError") (T.f.f "LookupError" (by decide +kernel)) (by decide +kernel)) pa_nil))) pa_nil)))))
      (pss_cons (ps_set (i := 1) scBases.nd rfl (Or.inl rfl) (pe_op op_cat (pv 1) (pe_lst
        (pa_cons (pe_callB call_isX (by rfl) ti (by decide +kernel) (pa_cons (pv 0) (pa_cons (p_bty (n := "OverflowError") (T.f.f "OverflowError" (by decide +kernel)) (by decide +kernel)) pa_nil)))
        (pa_cons (pe_callB call_isX (by rfl) ti (by decide +kernel) (pa_cons (pv 0) (pa_cons (p_bty (n := "ArithmeticError") (T.f.f "ArithmeticError" (by decide +kernel)) (by decide +kernel)) pa_nil)))
        (pa_cons (pe_callB call_isX (by rfl) ti (by decide +kernel) (pa_cons (pv 0) (pa_cons (p_bty (n := "ValueError") (T.f.f "ValueError" (by decide +kernel)) (by decide +kernel)) pa_nil))) pa_nil))))))
      (pss_cons (ps_set (i := 1) scBases.nd rfl (Or.inl rfl) (pe_op op_cat (pv 1) (pe_lst
        (pa_cons (pe_callB call_isX (by rfl) ti (by decide +kernel) (pa_cons (pv 0) (pa_cons (p_cls (T.g "PageError" (by decide +kernel))) pa_nil)))
        (pa_cons (pe_callB call_isX (by rfl) ti (by decide +kernel) (pa_cons (pv 0) (pa_cons (p_cls (T.g "InvalidNumber" (by decide +kernel))) pa_nil)))
        (pa_cons (pe_callB call_isX (by rfl) ti (by decide +kernel) (pa_cons (pv 0) (pa_cons (p_cls (T.g "UnknownName" (by decide +kernel))) pa_nil))) pa_nil))))))
      (pss_one (ps_ret (pe_op op_cat (pv 1) (pe_lst
        (pa_cons (pe_callB call_isX (by rfl) ti (by decide +kernel) (pa_cons (pv 0) (pa_cons (p_cls (T.g "TooMany" (by decide +kernel))) pa_nil)))
        (pa_cons (pe_callB call_isX (by rfl) ti (by decide +kernel) (pa_cons (pv 0) (pa_cons (p_cls (T.g "Unsorted" (by decide +kernel))) pa_nil)))
        (pa_cons (pe_callB call_isX (by rfl) ti (by decide +kernel) (pa_cons (pv 0) (pa_cons (p_cls (T.g "NothingToUndo" (by decide +kernel))) pa_nil))) pa_nil)))))))))), ?_⟩
    refine ⟨_, rfl, a, C, _, _, b0, rfl, ClsV.ty _, hI, hx, e0, ?_⟩
    refine ⟨_, rfl, a, C, _, _, b1, rfl, ClsV.ty _, hI, hx, e1, ?_⟩
    refine ⟨_, rfl, a, C, _, _, b2, rfl, ClsV.ty _, hI, hx, e2, (by show 3 ≤ sizeLine; decide), fun l1 hl1 => ?_⟩
    have s1 := same_upd (o := .lst [.bl b0, .bl b1, .bl b2]) hl1
    have x1 := IsEx.same hx s1
    refine ⟨_, rfl, ?_⟩
    refine ⟨_, rfl, a, C, _, _, b3, rfl, ClsV.ty _, hI, x1, e3, ?_⟩
    refine ⟨_, rfl, a, C, _, _, b4, rfl, ClsV.ty _, hI, x1, e4, ?_⟩
    refine ⟨_, rfl, a, C, _, _, b5, rfl, ClsV.ty _, hI, x1, e5, (by show 3 ≤ sizeLine; decide), fun l2 hl2 => ?_⟩
    have s2 := same_upd (o := .lst [.bl b3, .bl b4, .bl b5]) hl2
    refine ⟨_, _, _, _, rfl, rfl, s2 _ _ upd_same, upd_same, (by show 3 + 3 ≤ sizeLine; decide), fun l3 hl3 => ?_⟩
    have s3 := same_upd (o := .lst ([V.bl b0, .bl b1, .bl b2] ++ [.bl b3, .bl b4, .bl b5])) hl3
    have x3 := IsEx.same (IsEx.same x1 s2) s3
    refine ⟨_, rfl, ?_⟩
    refine ⟨_, rfl, a, C, _, _, b6, rfl, ClsV.own _, hI, x3, e6, ?_⟩
    refine ⟨_, rfl, a, C, _, _, b7, rfl, ClsV.own _, hI, x3, e7, ?_⟩
    refine ⟨_, rfl, a, C, _, _, b8, rfl, ClsV.own _, hI, x3, e8, (by show 3 ≤ sizeLine; decide), fun l4 hl4 => ?_⟩
    have s4 := same_upd (o := .lst [.bl b6, .bl b7, .bl b8]) hl4
    refine ⟨_, _, _, _, rfl, rfl, s4 _ _ upd_same, upd_same, (by show 6 + 3 ≤ sizeLine; decide), fun l5 hl5 => ?_⟩
    have s5 := same_upd (o := .lst (([V.bl b0, .bl b1, .bl b2] ++ [.bl b3, .bl b4, .bl b5]) ++ [.bl b6, .bl b7, .bl b8])) hl5
    have x5 := IsEx.same (IsEx.same x3 s4) s5
    refine ⟨_, rfl, ?_⟩
    refine ⟨_, rfl, a, C, _, _, b9, rfl, ClsV.own _, hI, x5, e9, ?_⟩
    refine ⟨_, rfl, a, C, _, _, b10, rfl, ClsV.own _, hI, x5, e10, ?_⟩
    refine ⟨_, rfl, a, C, _, _, b11, rfl, ClsV.own _, hI, x5, e11, (by show 3 ≤ sizeLine; decide), fun l6 hl6 => ?_⟩
    have s6 := same_upd (o := .lst [.bl b9, .bl b10, .bl b11]) hl6
    refine ⟨_, _, _, _, rfl, rfl, s6 _ _ upd_same, upd_same, (by show 9 + 3 ≤ sizeLine; decide), fun l7 hl7 => ?_⟩
    have sa := (((((s1.trans s2).trans s3).trans s4).trans s5).trans s6)
    have s7 := same_upd (o := .lst ((([V.bl b0, .bl b1, .bl b2] ++ [.bl b3, .bl b4, .bl b5]) ++ [.bl b6, .bl b7, .bl b8]) ++ [.bl b9, .bl b10, .bl b11])) hl7
    exact k _ l7 (sa.trans s7) (sa.free hl7) upd_same
end
end K00

namespace K00
open PySem PySem.Spec PyProof.Rows L2 Dr Ex
open He (ga ma)
def spTruths (K : PySem.W.Frag) : Sp := fun vs H Q _ => ∃ (n : Nat) (q : Addr) (ns : List Nat), vs = [.int n, .ref q] ∧ n ≤ 12 ∧ SqL K H q (ns.map fun (i : Nat) => V.int (i : Int)) ∧
  ∀ H' p, Same H H' → H p = none → H' p = some (.lst ((tru n ns).map V.bl)) → Q (.ref p) H'
theorem tru_succ (i : Nat) (ns : List Nat) : tru (i + 1) ns = tru i ns ++ [ns.contains i] := by
  unfold tru
  rw [List.range_succ, List.map_append]
  rfl
theorem tru_len (i : Nat) (ns : List Nat) : (tru i ns).length = i := by
  unfold tru
  rw [List.length_map, List.length_range]
theorem inV_nat (i : Nat) (ns : List Nat) : inV (.int (0 + (i : Int))) (ns.map fun (k : Nat) => V.int (k : Int)) = ns.contains i := by
  unfold inV
  induction ns with
  | nil => rfl
  | cons a r ih =>
    rw [List.map_cons, List.any_cons, ih, List.contains_cons]
    congr 1
    show ((a : Int) == 0 + (i : Int)) = (i == a)
    by_cases e : i = a
    · subst e
      simp
    · rw [beq_eq_false_iff_ne.mpr e]
      exact beq_eq_false_iff_ne.mpr (by omega)
theorem flat_nat (ns : List Nat) : (ns.map fun (k : Nat) => V.int (k : Int)).all flatV = true := by
  rw [List.all_map]
  exact List.all_eq_true.mpr fun _ _ => rfl
theorem yes_in {σ : L2.St} {H : Hp} {A B : Hp → Prop} (h : A H) : tYes σ H (fun b H3 => if b = true then A H3 else B H3) := iteT (B := B H) h
abbrev nTruths : List Str := ["_law_high", "_law_numbers", "_law_at"]
theorem scTruths : FnScope nTruths ["_law_high", "_law_numbers"] (defScope sTruths) := ⟨rfl, rfl, rfl, by decide +kernel, rfl, by decide +kernel, by decide +kernel⟩
section
variable {P : Program} {w : World} {K : PySem.W.Frag} {mg : Str → Option Value} {base : Heap}
theorem ok_truths {f : Addr} {fd : FuncData} (F : FnP K "_law_truths" sTruths f fd) (T : TG K mg) : FnOk P w K mg base CX0 1 f fd ["_law_high", "_law_numbers"] (spTruths K) := by
  have tr := T.f.f "range" (by decide +kernel)
  refine F.ok scTruths (fun vs H Q E h => ?_) (fun cdv A outer s H vs Q E hr h => ?_)
  · obtain ⟨n, q, ns, rfl, _⟩ := h
    rfl
  · obtain ⟨n, q, ns, rfl, hn, hS, k⟩ := h
    refine ⟨_, PSs.nox (pss_one (ps_ret (pe_lc (own := [("_law_at", 2)]) (g := gName 2) (tt := tYes) rfl scTruths.nd (pi_range1 rfl tr (pa_cons (pv 0) pa_nil)) (blkOk_by (own := [("_law_at", 2)]) (N := nTruths) (sc := defScope sTruths) (by decide +kernel))
      (fun _ _ _ _ _ => pg_name (i := 2) scTruths.nd rfl (Or.inl rfl)) (fun _ _ _ _ _ => pts_nil) (fun _ _ _ _ _ => pe_cmpR (show OpR _ _ (rIn K false) from op_in_seq) (pv 2) (pv 1) (by rfl))))), ?_⟩
    refine ⟨_, rfl, _, rfl, by omega, by omega, fun D hD => lc_range (lo := 0) (n := n) (fun i H' => Same H H' ∧ H' D = some (.lst ((tru i ns).map V.bl))) ?_ ?_ ?_⟩
    · exact ⟨same_upd hD, upd_same⟩
    · rintro i H' hi ⟨s1, h1⟩
      refine ⟨rfl, yes_in ?_⟩
      refine ⟨_, rfl, _, rfl, q, _, rfl, .inl (s1.seq hS), rfl, flat_nat ns, _, h1, ?_, ?_, ?_⟩
      · rw [List.length_map, tru_len]
        exact small1000 (by omega)
      · intro b o e
        rw [upd_ne (ne_of_none e hD)]
        exact s1 b o e
      · rw [upd_same, tru_succ, List.map_append, inV_nat]
        rfl
    · rintro H' ⟨s1, h1⟩
      exact k H' D s1 hD h1
end
end K00

namespace K00
open PySem PySem.Spec PyProof.Rows L2 Dr Ex
open He (ga ma)
/-- an own __init__: the first field is stored -/
def spIni (C : Addr) (f : Str) : Sp := fun vs H Q _ => ∃ (a : Addr) (v : V), vs = [.ref a, v] ∧ H a = some (exo a C none) ∧ ∀ dx, H dx = none → dx ≠ a → Q .non (upd (upd H dx (exd dx [(f, v)])) a (exo a C (some dx)))
theorem iniB_ok {K : PySem.W.Frag} {b i : String} (h : iniB K b i = true) : PySem.W.findCls K (.type b) (.type "type") "__init__" = some (.val (.builtin i)) := by
  unfold iniB at h
  split at h
  · rename_i j e
    rw [e, beq_iff_eq.mp h]
  · cases h
abbrev FnM (K : PySem.W.Frag) (q : Str) (st : Stmt) (f : Addr) (fd : FuncData) : Prop := FunD K "__init__" q (defArgs st) (defBody st) (defScope st) [] [] f fd
section
variable {P : Program} {w : World} {K : PySem.W.Frag} {mg : Str → Option Value} {base : Heap}
theorem scN : FnScope ["self", "value"] ["self", "value"] (defScope iN) := ⟨rfl, rfl, rfl, by decide +kernel, rfl, by decide +kernel, by decide +kernel⟩
theorem ok_iN {fI C : Addr} {fd : FuncData} (F : FnM K "InvalidNumber.__init__" iN fI fd) (T : TG K mg) (M : XC K C "IndexError.__new__" mlI "value" fI) (v : iniB K "IndexError" "IndexError.__init__" = true) : FnOk P w K mg base CX0 1 fI fd ["self", "value"] (spIni C "value") := by
  have tb := T.f.f "IndexError" (by decide +kernel)
  refine F.ok scN (fun vs H Q E h => ?_) (fun cdv A outer s H vs Q E hr h => ?_)
  · obtain ⟨a, v, rfl, _⟩ := h
    rfl
  · obtain ⟨a, y, rfl, ha, k⟩ := h
    refine ⟨_, PSs.nox (pss_cons (ps_expr (pe_binit bI M rfl tb (by decide +kernel) (by kernel_rfl) (by decide +kernel) (by decide +kernel) (iniB_ok v) (pa_cons (pv 0) (pa_cons pe_str pa_nil))))
      (pss_one (ps_xst bI M (pv 0) (pv 1)))), ?_⟩
    exact ⟨_, rfl, a, _, rfl, (by show 1 ≤ 1000; decide), ha, _, rfl, _, rfl, a, rfl, ha, fun dx n ne => k dx n ne⟩
theorem scU : FnScope ["self", "name"] ["self", "name"] (defScope iU) := ⟨rfl, rfl, rfl, by decide +kernel, rfl, by decide +kernel, by decide +kernel⟩
theorem ok_iU {fI C : Addr} {fd : FuncData} (F : FnM K "UnknownName.__init__" iU fI fd) (T : TG K mg) (M : XC K C "LookupError.__new__" mlK "name" fI) (v : iniB K "KeyError" "KeyError.__init__" = true) : FnOk P w K mg base CX0 1 fI fd ["self", "name"] (spIni C "name") := by
  have tb := T.f.f "KeyError" (by decide +kernel)
  refine F.ok scU (fun vs H Q E h => ?_) (fun cdv A outer s H vs Q E hr h => ?_)
  · obtain ⟨a, v, rfl, _⟩ := h
    rfl
  · obtain ⟨a, y, rfl, ha, k⟩ := h
    refine ⟨_, PSs.nox (pss_cons (ps_expr (pe_binit bK M rfl tb (by decide +kernel) (by kernel_rfl) (by decide +kernel) (by decide +kernel) (iniB_ok v) (pa_cons (pv 0) (pa_cons pe_str pa_nil))))
      (pss_one (ps_xst bK M (pv 0) (pv 1)))), ?_⟩
    exact ⟨_, rfl, a, _, rfl, (by show 1 ≤ 1000; decide), ha, _, rfl, _, rfl, a, rfl, ha, fun dx n ne => k dx n ne⟩
theorem scT : FnScope ["self", "limit"] ["self", "limit"] (defScope iT) := ⟨rfl, rfl, rfl, by decide +kernel, rfl, by decide +kernel, by decide +kernel⟩
theorem ok_iT {fI C : Addr} {fd : FuncData} (F : FnM K "TooMany.__init__" iT fI fd) (T : TG K mg) (M : XC K C "OverflowError.__new__" mlO "limit" fI) (v : iniB K "OverflowError" "OverflowError.__init__" = true) : FnOk P w K mg base CX0 1 fI fd ["self", "limit"] (spIni C "limit") := by
  have tb := T.f.f "OverflowError" (by decide +kernel)
  refine F.ok scT (fun vs H Q E h => ?_) (fun cdv A outer s H vs Q E hr h => ?_)
  · obtain ⟨a, v, rfl, _⟩ := h
    rfl
  · obtain ⟨a, y, rfl, ha, k⟩ := h
    refine ⟨_, PSs.nox (pss_cons (ps_expr (pe_binit bO M rfl tb (by decide +kernel) (by kernel_rfl) (by decide +kernel) (by decide +kernel) (iniB_ok v) (pa_cons (pv 0) (pa_cons pe_str pa_nil))))
      (pss_one (ps_xst bO M (pv 0) (pv 1)))), ?_⟩
    exact ⟨_, rfl, a, _, rfl, (by show 1 ≤ 1000; decide), ha, _, rfl, _, rfl, a, rfl, ha, fun dx n ne => k dx n ne⟩
theorem scS : FnScope ["self", "witness"] ["self", "witness"] (defScope iS) := ⟨rfl, rfl, rfl, by decide +kernel, rfl, by decide +kernel, by decide +kernel⟩
theorem ok_iS {fI C : Addr} {fd : FuncData} (F : FnM K "Unsorted.__init__" iS fI fd) (T : TG K mg) (M : XC K C "ArithmeticError.__new__" mlA "witness" fI) (v : iniB K "ArithmeticError" "ArithmeticError.__init__" = true) : FnOk P w K mg base CX0 1 fI fd ["self", "witness"] (spIni C "witness") := by
  have tb := T.f.f "ArithmeticError" (by decide +kernel)
  refine F.ok scS (fun vs H Q E h => ?_) (fun cdv A outer s H vs Q E hr h => ?_)
  · obtain ⟨a, v, rfl, _⟩ := h
    rfl
  · obtain ⟨a, y, rfl, ha, k⟩ := h
    refine ⟨_, PSs.nox (pss_cons (ps_expr (pe_binit bA M rfl tb (by decide +kernel) (by kernel_rfl) (by decide +kernel) (by decide +kernel) (iniB_ok v) (pa_cons (pv 0) (pa_cons pe_str pa_nil))))
      (pss_one (ps_xst bA M (pv 0) (pv 1)))), ?_⟩
    exact ⟨_, rfl, a, _, rfl, (by show 1 ≤ 1000; decide), ha, _, rfl, _, rfl, a, rfl, ha, fun dx n ne => k dx n ne⟩
theorem scD : FnScope ["self", "many"] ["self", "many"] (defScope iD) := ⟨rfl, rfl, rfl, by decide +kernel, rfl, by decide +kernel, by decide +kernel⟩
theorem ok_iD {fI C : Addr} {fd : FuncData} (F : FnM K "NothingToUndo.__init__" iD fI fd) (T : TG K mg) (M : XC K C "LookupError.__new__" mlL "many" fI) (v : iniB K "LookupError" "LookupError.__init__" = true) : FnOk P w K mg base CX0 1 fI fd ["self", "many"] (spIni C "many") := by
  have tb := T.f.f "LookupError" (by decide +kernel)
  refine F.ok scD (fun vs H Q E h => ?_) (fun cdv A outer s H vs Q E hr h => ?_)
  · obtain ⟨a, v, rfl, _⟩ := h
    rfl
  · obtain ⟨a, y, rfl, ha, k⟩ := h
    refine ⟨_, PSs.nox (pss_cons (ps_expr (pe_binit bL M rfl tb (by decide +kernel) (by kernel_rfl) (by decide +kernel) (by decide +kernel) (iniB_ok v) (pa_cons (pv 0) (pa_cons pe_str pa_nil))))
      (pss_one (ps_xst bL M (pv 0) (pv 1)))), ?_⟩
    exact ⟨_, rfl, a, _, rfl, (by show 1 ≤ 1000; decide), ha, _, rfl, _, rfl, a, rfl, ha, fun dx n ne => k dx n ne⟩
end
end K00

namespace K00
open PySem PySem.Spec PyProof.Rows L2 Dr Ex Rp
open He (ga ma)
/-- what the tests tell of the classes -/
structure TC (K : PySem.W.Frag) : Prop where
  ic : ∀ x, x ∈ cn → IC K (ga K x)
  ms : ∀ x, x ∈ mn → PySem.W.excIn K (ga K x) He.veBase "ValueError.__new__" = true ∧ PySem.W.keepIn K (.ref (ga K x)) = true
  ki : ∀ q, q ∈ kall → kits K (ga K q.1) (flT K) = (tru 9 q.2.1).map some ∧ kits K (ga K q.1) (bsT K) = (tru 12 q.2.2).map some
/-- the i-th error with a message stands at a -/
def Good (K : PySem.W.Frag) (H : Hp) (i : Nat) (v : V) : Prop := ∃ a C, v = .ref a ∧ IC K C ∧ IsEx K H a C ∧ kits K C (flT K) = (tru 9 [i]).map some ∧ kits K C (bsT K) = (tru 12 [5, 6]).map some
theorem Good.same {K : PySem.W.Frag} {H H' : Hp} {i : Nat} {v : V} (h : Good K H i v) (s : Same H H') : Good K H' i v := by
  obtain ⟨a, C, e, h1, h2, h3, h4⟩ := h
  exact ⟨a, C, e, h1, IsEx.same h2 s, h3, h4⟩
theorem good_of {K : PySem.W.Frag} (C : TC K) {H : Hp} {i : Nat} {a : Addr} {x : Str} (hx : x ∈ cn) (hq : (x, [i], [5, 6]) ∈ kall) (h : H a = some (ExO (.ref (ga K x)) a)) : Good K H i (.ref a) :=
  ⟨a, _, rfl, C.ic x hx, .msg h, (C.ki _ hq).1, (C.ki _ hq).2⟩
theorem shp1 : ∀ i, i < 9 → SeqAt.shaped (.list ((tru 9 [i]).map PyData.bool)) = true := by decide +kernel
theorem shp2 : SeqAt.shaped (.list ((tru 12 [5, 6]).map PyData.bool)) = true := by decide +kernel
abbrev nMsgs : List Str := ["_law_words", "_law_some", "_law_at", "_law_e", "_law_whole"]
theorem scMsgs : FnScope nMsgs ["_law_words"] (defScope sMsgs) := ⟨rfl, rfl, rfl, by decide +kernel, rfl, by decide +kernel, by decide +kernel⟩
def spMsgs : Sp := fun vs H Q _ => ∃ v : V, vs = [v] ∧ ∀ H', Same H H' → Q (.bl true) H'
section
variable {P : Program} {w : World} {K : PySem.W.Frag} {mg : Str → Option Value} {base : Heap}
theorem ok_msgs {f fF fB fT : Addr} {fd fdF fdB fdT : FuncData} (F : FnP K "_law_messages_right" sMsgs f fd) (FF : FnP K "_law_flags" sFlags fF fdF) (FB : FnP K "_law_bases" sBases fB fdB) (FT : FnP K "_law_truths" sTruths fT fdT)
    (T : TG K mg) (C : TC K) (gF : mg "_law_flags" = some (.ref fF)) (gB : mg "_law_bases" = some (.ref fB)) (gT : mg "_law_truths" = some (.ref fT)) : FnOk P w K mg base CX0 2 f fd ["_law_words"] spMsgs := by
  have te := T.f.f "enumerate" (by decide +kernel)
  have GF : FnOk P w K mg base CX0 1 fF fdF ["_law_e"] (spAsk K flT) := ok_flags FF T
  have GB : FnOk P w K mg base CX0 1 fB fdB ["_law_e"] (spAsk K bsT) := ok_bases FB T
  have GT : FnOk P w K mg base CX0 1 fT fdT ["_law_high", "_law_numbers"] (spTruths K) := ok_truths FT T
  have bF : Binds K fdF ["_law_e"] [] := FF.bindsN fun _ _ _ _ _ _ us hl => match us, hl with | [_], _ => rfl
  have bB : Binds K fdB ["_law_e"] [] := FB.bindsN fun _ _ _ _ _ _ us hl => match us, hl with | [_], _ => rfl
  have bT : Binds K fdT ["_law_high", "_law_numbers"] [] := FT.bindsN fun _ _ _ _ _ _ us hl => match us, hl with | [_, _], _ => rfl
  refine F.ok scMsgs (fun vs H Q E h => ?_) (fun cdv A outer s H vs Q E hr h => ?_)
  · obtain ⟨v, rfl, _⟩ := h
    rfl
  · obtain ⟨v, rfl, k⟩ := h
    refine ⟨_, PSs.nox (pss_cons (ps_set (i := 1) scMsgs.nd rfl (Or.inl rfl) (pe_lst (pa_cons (pe_exc1 PySem.F.excBase_ValueError (C.ms "InvalidQuery" (by decide +kernel)).1 (T.g "InvalidQuery" (by decide +kernel)) (C.ms "InvalidQuery" (by decide +kernel)).2 rfl (pv 0))
        (pa_cons (pe_exc1 PySem.F.excBase_ValueError (C.ms "InvalidTables" (by decide +kernel)).1 (T.g "InvalidTables" (by decide +kernel)) (C.ms "InvalidTables" (by decide +kernel)).2 rfl (pv 0))
        (pa_cons (pe_exc1 PySem.F.excBase_ValueError (C.ms "InvalidOrder" (by decide +kernel)).1 (T.g "InvalidOrder" (by decide +kernel)) (C.ms "InvalidOrder" (by decide +kernel)).2 rfl (pv 0))
        (pa_cons (pe_exc1 PySem.F.excBase_ValueError (C.ms "InvalidRow" (by decide +kernel)).1 (T.g "InvalidRow" (by decide +kernel)) (C.ms "InvalidRow" (by decide +kernel)).2 rfl (pv 0))
        (pa_cons (pe_exc1 PySem.F.excBase_ValueError (C.ms "InvalidKey" (by decide +kernel)).1 (T.g "InvalidKey" (by decide +kernel)) (C.ms "InvalidKey" (by decide +kernel)).2 rfl (pv 0))
        pa_nil)))))))
      (pss_cons (ps_set (i := 1) scMsgs.nd rfl (Or.inl rfl) (pe_op op_cat (pv 1) (pe_lst (pa_cons (pe_exc1 PySem.F.excBase_ValueError (C.ms "InvalidOperation" (by decide +kernel)).1 (T.g "InvalidOperation" (by decide +kernel)) (C.ms "InvalidOperation" (by decide +kernel)).2 rfl (pv 0))
        (pa_cons (pe_exc1 PySem.F.excBase_ValueError (C.ms "InvalidEdit" (by decide +kernel)).1 (T.g "InvalidEdit" (by decide +kernel)) (C.ms "InvalidEdit" (by decide +kernel)).2 rfl (pv 0))
        (pa_cons (pe_exc1 PySem.F.excBase_ValueError (C.ms "ParseError" (by decide +kernel)).1 (T.g "ParseError" (by decide +kernel)) (C.ms "ParseError" (by decide +kernel)).2 rfl (pv 0))
        (pa_cons (pe_exc1 PySem.F.excBase_ValueError (C.ms "InvalidCommand" (by decide +kernel)).1 (T.g "InvalidCommand" (by decide +kernel)) (C.ms "InvalidCommand" (by decide +kernel)).2 rfl (pv 0))
        pa_nil)))))))
      (pss_cons (ps_for PassesOwn.never rfl (pi_enum rfl te (pa_cons (pv 1) pa_nil)) (pg_tup rfl (pgs_cons (pg_name (i := 2) scMsgs.nd rfl (Or.inl rfl)) (pgs_cons (pg_name (i := 3) scMsgs.nd rfl (Or.inl rfl)) pgs_nil)))
        (pss_one (ps_if (PW.pt (pw_or (pt_cmpR (op_neD hr.units) (pe_call GF hr rfl gF FF.kp bF .nil pass0 (pa_cons (pv 3) pa_nil)) (pe_call GT hr rfl gT FT.kp bT .nil pass0 (pa_cons pe_int (pa_cons (pe_lst (pa_cons (pv 2) pa_nil)) pa_nil))) (nomark _))
          (pw_or1 (pt_cmpR (op_neD hr.units) (pe_call GB hr rfl gB FB.kp bB .nil pass0 (pa_cons (pv 3) pa_nil)) (pe_call GT hr rfl gT FT.kp bT .nil pass0 (pa_cons pe_int (pa_cons (pe_lst (pa_cons pe_int (pa_cons pe_int pa_nil))) pa_nil))) (nomark _)))))
          (pss_one (ps_ret pe_bl)) pss_nil)))
      (pss_cons (ps_set (i := 4) scMsgs.nd rfl (Or.inl rfl) (pe_exc1 PySem.F.excBase_ValueError (C.ms "PageError" (by decide +kernel)).1 (T.g "PageError" (by decide +kernel)) (C.ms "PageError" (by decide +kernel)).2 rfl (pv 0)))
      (pss_one (ps_ret (pe_and (pe_cmpR (op_eqD hr.units) (pe_call GF hr rfl gF FF.kp bF .nil pass0 (pa_cons (pv 4) pa_nil)) (pe_op op_rep (pe_lst (pa_cons pe_bl pa_nil)) pe_int) (nomark _))
        (pe_one (pe_cmpR (op_eqD hr.units) (pe_call GB hr rfl gB FB.kp bB .nil pass0 (pa_cons (pv 4) pa_nil)) (pe_call GT hr rfl gT FT.kp bT .nil pass0 (pa_cons pe_int (pa_cons (pe_lst (pa_cons pe_int (pa_cons pe_int pa_nil))) pa_nil))) (nomark _)))))))))), ?_⟩
    refine ⟨_, rfl, fun a0 n0 => ?_⟩
    have s0 := same_upd (o := ExO (.ref (ga K "InvalidQuery")) a0) n0
    have m0 := upd_same (H := H) (a := a0) (o := ExO (.ref (ga K "InvalidQuery")) a0)
    generalize upd H a0 (ExO (.ref (ga K "InvalidQuery")) a0) = H0 at s0 m0 ⊢
    refine ⟨_, rfl, fun a1 n1 => ?_⟩
    have s1 := same_upd (o := ExO (.ref (ga K "InvalidTables")) a1) n1
    have m1 := upd_same (H := H0) (a := a1) (o := ExO (.ref (ga K "InvalidTables")) a1)
    generalize upd H0 a1 (ExO (.ref (ga K "InvalidTables")) a1) = H1 at s1 m1 ⊢
    refine ⟨_, rfl, fun a2 n2 => ?_⟩
    have s2 := same_upd (o := ExO (.ref (ga K "InvalidOrder")) a2) n2
    have m2 := upd_same (H := H1) (a := a2) (o := ExO (.ref (ga K "InvalidOrder")) a2)
    generalize upd H1 a2 (ExO (.ref (ga K "InvalidOrder")) a2) = H2 at s2 m2 ⊢
    refine ⟨_, rfl, fun a3 n3 => ?_⟩
    have s3 := same_upd (o := ExO (.ref (ga K "InvalidRow")) a3) n3
    have m3 := upd_same (H := H2) (a := a3) (o := ExO (.ref (ga K "InvalidRow")) a3)
    generalize upd H2 a3 (ExO (.ref (ga K "InvalidRow")) a3) = H3 at s3 m3 ⊢
    refine ⟨_, rfl, fun a4 n4 => ?_⟩
    have s4 := same_upd (o := ExO (.ref (ga K "InvalidKey")) a4) n4
    have m4 := upd_same (H := H3) (a := a4) (o := ExO (.ref (ga K "InvalidKey")) a4)
    generalize upd H3 a4 (ExO (.ref (ga K "InvalidKey")) a4) = H4 at s4 m4 ⊢
    refine ⟨(by show 5 ≤ sizeLine; decide), fun l1 nl1 => ?_⟩
    have sl1 := same_upd (o := .lst [V.ref a0, V.ref a1, V.ref a2, V.ref a3, V.ref a4]) nl1
    have ml1 := upd_same (H := H4) (a := l1) (o := .lst [V.ref a0, V.ref a1, V.ref a2, V.ref a3, V.ref a4])
    generalize upd H4 l1 (.lst [V.ref a0, V.ref a1, V.ref a2, V.ref a3, V.ref a4]) = J1 at sl1 ml1 ⊢
    refine ⟨_, rfl, ?_⟩
    refine ⟨_, rfl, fun a5 n5 => ?_⟩
    have s5 := same_upd (o := ExO (.ref (ga K "InvalidOperation")) a5) n5
    have m5 := upd_same (H := J1) (a := a5) (o := ExO (.ref (ga K "InvalidOperation")) a5)
    generalize upd J1 a5 (ExO (.ref (ga K "InvalidOperation")) a5) = H5 at s5 m5 ⊢
    refine ⟨_, rfl, fun a6 n6 => ?_⟩
    have s6 := same_upd (o := ExO (.ref (ga K "InvalidEdit")) a6) n6
    have m6 := upd_same (H := H5) (a := a6) (o := ExO (.ref (ga K "InvalidEdit")) a6)
    generalize upd H5 a6 (ExO (.ref (ga K "InvalidEdit")) a6) = H6 at s6 m6 ⊢
    refine ⟨_, rfl, fun a7 n7 => ?_⟩
    have s7 := same_upd (o := ExO (.ref (ga K "ParseError")) a7) n7
    have m7 := upd_same (H := H6) (a := a7) (o := ExO (.ref (ga K "ParseError")) a7)
    generalize upd H6 a7 (ExO (.ref (ga K "ParseError")) a7) = H7 at s7 m7 ⊢
    refine ⟨_, rfl, fun a8 n8 => ?_⟩
    have s8 := same_upd (o := ExO (.ref (ga K "InvalidCommand")) a8) n8
    have m8 := upd_same (H := H7) (a := a8) (o := ExO (.ref (ga K "InvalidCommand")) a8)
    generalize upd H7 a8 (ExO (.ref (ga K "InvalidCommand")) a8) = H8 at s8 m8 ⊢
    refine ⟨(by show 4 ≤ sizeLine; decide), fun l2 nl2 => ?_⟩
    have sl2 := same_upd (o := .lst [V.ref a5, V.ref a6, V.ref a7, V.ref a8]) nl2
    have ml2 := upd_same (H := H8) (a := l2) (o := .lst [V.ref a5, V.ref a6, V.ref a7, V.ref a8])
    generalize upd H8 l2 (.lst [V.ref a5, V.ref a6, V.ref a7, V.ref a8]) = J2 at sl2 ml2 ⊢
    have t1 := (((s5.trans s6).trans s7).trans s8).trans sl2
    refine ⟨_, _, _, _, rfl, rfl, t1 _ _ ml1, ml2, (by show 5 + 4 ≤ sizeLine; decide), fun l3 nl3 => ?_⟩
    have sl3 := same_upd (o := .lst ([V.ref a0, V.ref a1, V.ref a2, V.ref a3, V.ref a4] ++ [V.ref a5, V.ref a6, V.ref a7, V.ref a8])) nl3
    have ml3 := upd_same (H := J2) (a := l3) (o := .lst ([V.ref a0, V.ref a1, V.ref a2, V.ref a3, V.ref a4] ++ [V.ref a5, V.ref a6, V.ref a7, V.ref a8]))
    generalize upd J2 l3 (.lst ([V.ref a0, V.ref a1, V.ref a2, V.ref a3, V.ref a4] ++ [V.ref a5, V.ref a6, V.ref a7, V.ref a8])) = J3 at sl3 ml3 ⊢
    have q8 := (sl2.trans sl3)
    have q7 := s8.trans q8
    have q6 := s7.trans q7
    have q5 := s6.trans q6
    have qj := s5.trans q5
    have q4 := sl1.trans qj
    have q3 := s4.trans q4
    have q2 := s3.trans q3
    have q1 := s2.trans q2
    have q0 := s1.trans q1
    have qh := s0.trans q0
    have good : ∀ (i : Nat) (x : V), [V.ref a0, V.ref a1, V.ref a2, V.ref a3, V.ref a4, V.ref a5, V.ref a6, V.ref a7, V.ref a8][i]? = some x → i < 9 ∧ Good K J3 i x := by
      intro i x hx
      match i, hx with
      | 0, hx => cases hx; exact ⟨by decide, good_of C (x := "InvalidQuery") (by decide +kernel) (by decide +kernel) (q0 _ _ m0)⟩
      | 1, hx => cases hx; exact ⟨by decide, good_of C (x := "InvalidTables") (by decide +kernel) (by decide +kernel) (q1 _ _ m1)⟩
      | 2, hx => cases hx; exact ⟨by decide, good_of C (x := "InvalidOrder") (by decide +kernel) (by decide +kernel) (q2 _ _ m2)⟩
      | 3, hx => cases hx; exact ⟨by decide, good_of C (x := "InvalidRow") (by decide +kernel) (by decide +kernel) (q3 _ _ m3)⟩
      | 4, hx => cases hx; exact ⟨by decide, good_of C (x := "InvalidKey") (by decide +kernel) (by decide +kernel) (q4 _ _ m4)⟩
      | 5, hx => cases hx; exact ⟨by decide, good_of C (x := "InvalidOperation") (by decide +kernel) (by decide +kernel) (q5 _ _ m5)⟩
      | 6, hx => cases hx; exact ⟨by decide, good_of C (x := "InvalidEdit") (by decide +kernel) (by decide +kernel) (q6 _ _ m6)⟩
      | 7, hx => cases hx; exact ⟨by decide, good_of C (x := "ParseError") (by decide +kernel) (by decide +kernel) (q7 _ _ m7)⟩
      | 8, hx => cases hx; exact ⟨by decide, good_of C (x := "InvalidCommand") (by decide +kernel) (by decide +kernel) (q8 _ _ m8)⟩
      | n + 9, hx => cases hx
    refine ⟨_, rfl, l3, _, rfl, SqL.of ml3, for_enum (K := K) (a := l3) (xs := [V.ref a0, V.ref a1, V.ref a2, V.ref a3, V.ref a4, V.ref a5, V.ref a6, V.ref a7, V.ref a8]) (fun i σ H' => ∃ x y : Option V, σ = [some v, some (.ref l3), x, y, none] ∧ Same J3 H')
      ⟨none, none, rfl, Same.refl _⟩ (fun i σ H' _ hP => ?_) ?_ ?_⟩
    · obtain ⟨_, _, _, s⟩ := hP
      exact SqL.of (s _ _ ml3)
    · rintro i x σ H' z hx ⟨x', y', rfl, sH⟩ hz
      obtain ⟨hi, a, C1, rfl, g1, g2, g3, g4⟩ := good i x hx
      have sz := same_upd (o := .tup [.int (i : Nat), .ref a]) hz
      have mz := upd_same (H := H') (a := z) (o := .tup [.int (i : Nat), .ref a])
      generalize upd H' z (.tup [.int (i : Nat), .ref a]) = Z at sz mz ⊢
      have sJ := sH.trans sz
      refine ⟨z, _, rfl, SqT.of mz, rfl, _, _, rfl, _, _, rfl, rfl, ?_⟩
      refine ⟨_, rfl, a, C1, _, rfl, g1, IsEx.same g2 sJ, g3, fun F1 p1 r1 v1 w1 => ?_⟩
      refine ⟨_, rfl, (by show 1 ≤ sizeLine; decide), fun q1 u1 => ?_⟩
      have r2 := same_upd (o := .lst [.int (i : Nat)]) u1
      refine ⟨9, q1, [i], rfl, by decide, SqL.of upd_same, fun F2 p2 r3 v2 w2 => ?_⟩
      refine ⟨_, _, .lst (SqL.of ((r2.trans r3) _ _ w1)) (dp_bools _), .lst (SqL.of w2) (dp_bools _), shp1 i hi, shp1 i hi, _, rfl, ite_f (ne_self (shp1 i hi)) ?_⟩
      have rA := ((sJ.trans r1).trans r2).trans r3
      refine ⟨_, rfl, a, C1, _, rfl, g1, IsEx.same g2 rA, g4, fun F3 p3 r4 v3 w3 => ?_⟩
      refine ⟨(by show 2 ≤ sizeLine; decide), fun q2 u2 => ?_⟩
      have r5 := same_upd (o := .lst [.int 5, .int 6]) u2
      refine ⟨12, q2, [5, 6], rfl, by decide, SqL.of upd_same, fun F4 p4 r6 v4 w4 => ?_⟩
      refine ⟨_, _, .lst (SqL.of ((r5.trans r6) _ _ w3)) (dp_bools _), .lst (SqL.of w4) (dp_bools _), shp2, shp2, _, rfl, ite_f (ne_self shp2) ?_⟩
      exact ⟨_, _, rfl, ((rA.trans r4).trans r5).trans r6⟩
    · rintro σ H' ⟨x', y', rfl, sH⟩
      refine ⟨_, rfl, fun a n => ?_⟩
      have s := same_upd (o := ExO (.ref (ga K "PageError")) a) n
      have m := upd_same (H := H') (a := a) (o := ExO (.ref (ga K "PageError")) a)
      generalize upd H' a (ExO (.ref (ga K "PageError")) a) = HP at s m ⊢
      have kp := C.ki ("PageError", [], [5, 6]) (by decide +kernel)
      have ip := C.ic "PageError" (by decide +kernel)
      refine ⟨_, rfl, a, _, _, rfl, ip, .msg m, kp.1, fun F1 p1 r1 v1 w1 => ?_⟩
      refine ⟨(by show 1 ≤ sizeLine; decide), fun q1 u1 => ?_⟩
      have r2 := same_upd (o := .lst [.bl false]) u1
      refine ⟨q1, 9, _, rfl, rfl, upd_same, by decide, by decide, by decide, fun q2 u2 => ?_⟩
      have r3 := same_upd (o := .lst (List.replicate (Int.toNat 9) [V.bl false]).flatten) u2
      refine ⟨_, _, .lst (SqL.of ((r2.trans r3) _ _ w1)) (dp_bools _), .lst (ds := List.replicate 9 (.bool false)) (SqL.of upd_same) (dp_bools (List.replicate 9 false)), by decide +kernel, by decide +kernel, true, (by decide +kernel), ?_⟩
      refine ite_t rfl ?_
      have rA := (r1.trans r2).trans r3
      refine ⟨_, rfl, a, _, _, rfl, ip, IsEx.same (.msg m) rA, kp.2, fun F3 p3 r4 v3 w3 => ?_⟩
      refine ⟨(by show 2 ≤ sizeLine; decide), fun q3 u3 => ?_⟩
      have r5 := same_upd (o := .lst [.int 5, .int 6]) u3
      refine ⟨12, q3, [5, 6], rfl, by decide, SqL.of upd_same, fun F4 p4 r6 v4 w4 => ?_⟩
      refine ⟨_, _, .lst (SqL.of ((r5.trans r6) _ _ w3)) (dp_bools _), .lst (SqL.of w4) (dp_bools _), shp2, shp2, ?_⟩
      have e : PyData.eqv (.list ((tru 12 [5, 6]).map PyData.bool)) (.list ((tru 12 [5, 6]).map PyData.bool)) = true := eq_self shp2
      refine (show Q (.bl (PyData.eqv (.list ((tru 12 [5, 6]).map PyData.bool)) (.list ((tru 12 [5, 6]).map PyData.bool)))) F4 from ?_)
      rw [e]
      exact k F4 (qh.trans ((((sH.trans s).trans rA).trans r4).trans (r5.trans r6)))
end
end K00

namespace K00
open PySem PySem.Spec PyProof.Rows L2 Dr Ex Rp
open He (ga ma)
/-- the classes with an own __init__ -/
structure TX (K : PySem.W.Frag) : Prop where
  n : XC K (ga K "InvalidNumber") "IndexError.__new__" mlI "value" (ma K (ga K "InvalidNumber") "__init__")
  u : XC K (ga K "UnknownName") "LookupError.__new__" mlK "name" (ma K (ga K "UnknownName") "__init__")
  t : XC K (ga K "TooMany") "OverflowError.__new__" mlO "limit" (ma K (ga K "TooMany") "__init__")
  s : XC K (ga K "Unsorted") "ArithmeticError.__new__" mlA "witness" (ma K (ga K "Unsorted") "__init__")
  d : XC K (ga K "NothingToUndo") "LookupError.__new__" mlL "many" (ma K (ga K "NothingToUndo") "__init__")
  vn : iniB K "IndexError" "IndexError.__init__" = true
  vu : iniB K "KeyError" "KeyError.__init__" = true
  vt : iniB K "OverflowError" "OverflowError.__init__" = true
  vs : iniB K "ArithmeticError" "ArithmeticError.__init__" = true
  vd : iniB K "LookupError" "LookupError.__init__" = true
  sys : SysD K
/-- the law's things: five data -/
def Things (K : PySem.W.Frag) (H : Hp) (p : Addr) (v0 v1 v2 v3 v4 : V) : Prop := H p = some (.lst [v0, v1, v2, v3, v4]) ∧
  ∃ ds : List PyData, DtAll K H [v0, v1, v2, v3, v4] ds ∧ ∀ d, d ∈ ds → Sm d
def spVals (K : PySem.W.Frag) : Sp := fun vs H Q _ => ∃ (p : Addr) (v0 v1 v2 v3 v4 : V), vs = [.ref p] ∧ Things K H p v0 v1 v2 v3 v4 ∧ ∀ H', Same H H' → Q (.bl true) H'
abbrev nVals : List Str := ["_law_things_here", "_law_one", "_law_two", "_law_three", "_law_four", "_law_five", "_law_e"]
theorem scVals : FnScope nVals ["_law_things_here"] (defScope sVals) := ⟨rfl, rfl, rfl, by decide +kernel, rfl, by decide +kernel, by decide +kernel⟩
section
variable {P : Program} {w : World} {K : PySem.W.Frag} {mg : Str → Option Value} {base : Heap}
theorem ok_vals {f fF fB fT : Addr} {fd fdF fdB fdT fdn fdu fdt fds fdd : FuncData} (F : FnP K "_law_values_right" sVals f fd) (FF : FnP K "_law_flags" sFlags fF fdF) (FB : FnP K "_law_bases" sBases fB fdB) (FT : FnP K "_law_truths" sTruths fT fdT)
    (Fn : FnM K "InvalidNumber.__init__" iN (ma K (ga K "InvalidNumber") "__init__") fdn) (Fu : FnM K "UnknownName.__init__" iU (ma K (ga K "UnknownName") "__init__") fdu) (Ft : FnM K "TooMany.__init__" iT (ma K (ga K "TooMany") "__init__") fdt)
    (Fs : FnM K "Unsorted.__init__" iS (ma K (ga K "Unsorted") "__init__") fds) (Fd : FnM K "NothingToUndo.__init__" iD (ma K (ga K "NothingToUndo") "__init__") fdd)
    (T : TG K mg) (C : TC K) (M : TX K) (gF : mg "_law_flags" = some (.ref fF)) (gB : mg "_law_bases" = some (.ref fB)) (gT : mg "_law_truths" = some (.ref fT)) : FnG P w K mg base CX0 3 f fd ["_law_things_here"] (spVals K) := by
  have tr := T.f.f "repr" (by decide +kernel)
  have GF : FnOk P w K mg base CX0 1 fF fdF ["_law_e"] (spAsk K flT) := ok_flags FF T
  have GB : FnOk P w K mg base CX0 1 fB fdB ["_law_e"] (spAsk K bsT) := ok_bases FB T
  have GT : FnOk P w K mg base CX0 1 fT fdT ["_law_high", "_law_numbers"] (spTruths K) := ok_truths FT T
  have Gn : FnOk P w K mg base CX0 1 _ fdn ["self", "value"] (spIni (ga K "InvalidNumber") "value") := ok_iN Fn T M.n M.vn
  have Gu : FnOk P w K mg base CX0 1 _ fdu ["self", "name"] (spIni (ga K "UnknownName") "name") := ok_iU Fu T M.u M.vu
  have Gt : FnOk P w K mg base CX0 1 _ fdt ["self", "limit"] (spIni (ga K "TooMany") "limit") := ok_iT Ft T M.t M.vt
  have Gs : FnOk P w K mg base CX0 1 _ fds ["self", "witness"] (spIni (ga K "Unsorted") "witness") := ok_iS Fs T M.s M.vs
  have Gd : FnOk P w K mg base CX0 1 _ fdd ["self", "many"] (spIni (ga K "NothingToUndo") "many") := ok_iD Fd T M.d M.vd
  have bF : Binds K fdF ["_law_e"] [] := FF.bindsN fun _ _ _ _ _ _ us hl => match us, hl with | [_], _ => rfl
  have bB : Binds K fdB ["_law_e"] [] := FB.bindsN fun _ _ _ _ _ _ us hl => match us, hl with | [_], _ => rfl
  have bT : Binds K fdT ["_law_high", "_law_numbers"] [] := FT.bindsN fun _ _ _ _ _ _ us hl => match us, hl with | [_, _], _ => rfl
  have bn : Binds K fdn ["self", "value"] [] := Fn.bindsN fun _ _ _ _ _ _ us hl => match us, hl with | [_, _], _ => rfl
  have bu : Binds K fdu ["self", "name"] [] := Fu.bindsN fun _ _ _ _ _ _ us hl => match us, hl with | [_, _], _ => rfl
  have bt : Binds K fdt ["self", "limit"] [] := Ft.bindsN fun _ _ _ _ _ _ us hl => match us, hl with | [_, _], _ => rfl
  have bs : Binds K fds ["self", "witness"] [] := Fs.bindsN fun _ _ _ _ _ _ us hl => match us, hl with | [_, _], _ => rfl
  have bd : Binds K fdd ["self", "many"] [] := Fd.bindsN fun _ _ _ _ _ _ us hl => match us, hl with | [_, _], _ => rfl
  refine FunD.okG F scVals (fun vs H Q E h => ?_) (fun cdv A outer s H vs Q E hr hg h => ?_)
  · obtain ⟨p, v0, v1, v2, v3, v4, rfl, _⟩ := h
    rfl
  · obtain ⟨p, v0, v1, v2, v3, v4, rfl, ⟨hp, ds, hd, hsm⟩, k⟩ := h
    obtain ⟨hsh, hdp, hsz⟩ := sm_list hsm (by rw [DtAll.len hd]; show 5 ≤ 100; decide)
    have hr1 : Room 1 (A.deeper (envOfC "_law_values_right" (defScope sVals) s.heap.objs.size f cdv)) := hr.mono (by decide)
    refine ⟨_, PSs.nox (pss_cons (ps_par (i := 1) (j := 2) rfl scVals.nd rfl rfl (by decide) rfl rfl (pa_cons (pe_xmk bI M.n Gn hr bn pass0 rfl (T.g "InvalidNumber" (by decide +kernel)) (pa_cons (pe_ix ix_list (pv 0) pe_int (fun _ _ => rfl)) pa_nil))
        (pa_cons (pe_xmk bK M.u Gu hr bu pass0 rfl (T.g "UnknownName" (by decide +kernel)) (pa_cons (pe_ix ix_list (pv 0) pe_int (fun _ _ => rfl)) pa_nil)) pa_nil)) (by rfl))
      (pss_cons (ps_par (i := 3) (j := 4) rfl scVals.nd rfl rfl (by decide) rfl rfl (pa_cons (pe_xmk bO M.t Gt hr bt pass0 rfl (T.g "TooMany" (by decide +kernel)) (pa_cons (pe_ix ix_list (pv 0) pe_int (fun _ _ => rfl)) pa_nil))
        (pa_cons (pe_xmk bA M.s Gs hr bs pass0 rfl (T.g "Unsorted" (by decide +kernel)) (pa_cons (pe_ix ix_list (pv 0) pe_int (fun _ _ => rfl)) pa_nil)) pa_nil)) (by rfl))
      (pss_cons (ps_set (i := 5) scVals.nd rfl (Or.inl rfl) (pe_xmk bL M.d Gd hr bd pass0 rfl (T.g "NothingToUndo" (by decide +kernel)) (pa_cons (pe_ix ix_list (pv 0) pe_int (fun _ _ => rfl)) pa_nil)))
      (pss_cons (ps_if (pt_cmpR op_ne (pe_callB (call_repr_data M.sys hg hr.units) (by rfl) tr (by decide +kernel) (pa_cons (pe_lst (pa_cons (pe_xfld M.n (pv 1)) (pa_cons (pe_xfld M.u (pv 2)) (pa_cons (pe_xfld M.t (pv 3)) (pa_cons (pe_xfld M.s (pv 4)) (pa_cons (pe_xfld M.d (pv 5)) pa_nil)))))) pa_nil))
          (pe_callB (call_repr_data M.sys hg hr.units) (by rfl) tr (by decide +kernel) (pa_cons (pv 0) pa_nil)) (nomark _)) (pss_one (ps_ret pe_bl)) pss_nil)
      (pss_cons (ps_if (pt_cmpR (op_neD hr.units) (pe_lc (own := [("_law_e", 6)]) (g := gName 6) rfl scVals.nd (pi_tup (pe_tup (pa_cons (pv 1) (pa_cons (pv 2) (pa_cons (pv 3) (pa_cons (pv 4) (pa_cons (pv 5) pa_nil))))))) (blkOk_by (own := [("_law_e", 6)]) (N := nVals) (sc := defScope sVals) (by decide +kernel))
          (fun _ _ _ _ _ => pg_name (i := 6) scVals.nd rfl (Or.inl rfl)) (fun _ _ _ _ _ => pts_one (pt_cmpR (show OpR _ _ (rNeD K) from op_neD hr.units) (pe_call GF hr1 rfl gF FF.kp bF .nil pass0 (pa_cons (pv 6) pa_nil)) (pe_op op_rep (pe_lst (pa_cons pe_bl pa_nil)) pe_int) (nomark _))) (fun _ _ _ _ _ => pv 6))
          (pe_lst pa_nil) (nomark _)) (pss_one (ps_ret pe_bl)) pss_nil)
      (pss_cons (ps_if (PW.pt (pw_or (pt_cmpR (op_neD hr.units) (pe_call GB hr1 rfl gB FB.kp bB .nil pass0 (pa_cons (pv 1) pa_nil)) (pe_call GT hr1 rfl gT FT.kp bT .nil pass0 (pa_cons pe_int (pa_cons (pe_lst (pa_cons pe_int (pa_cons pe_int (pa_cons pe_int pa_nil)))) pa_nil))) (nomark _))
          (pw_or1 (pt_cmpR (op_neD hr.units) (pe_call GB hr1 rfl gB FB.kp bB .nil pass0 (pa_cons (pv 2) pa_nil)) (pe_call GT hr1 rfl gT FT.kp bT .nil pass0 (pa_cons pe_int (pa_cons (pe_lst (pa_cons pe_int (pa_cons pe_int (pa_cons pe_int pa_nil)))) pa_nil))) (nomark _)))))
          (pss_one (ps_ret pe_bl)) pss_nil)
      (pss_cons (ps_if (PW.pt (pw_or (pt_cmpR (op_neD hr.units) (pe_call GB hr1 rfl gB FB.kp bB .nil pass0 (pa_cons (pv 3) pa_nil)) (pe_call GT hr1 rfl gT FT.kp bT .nil pass0 (pa_cons pe_int (pa_cons (pe_lst (pa_cons pe_int (pa_cons pe_int (pa_cons pe_int pa_nil)))) pa_nil))) (nomark _))
          (pw_or1 (pt_cmpR (op_neD hr.units) (pe_call GB hr1 rfl gB FB.kp bB .nil pass0 (pa_cons (pv 4) pa_nil)) (pe_call GT hr1 rfl gT FT.kp bT .nil pass0 (pa_cons pe_int (pa_cons (pe_lst (pa_cons pe_int (pa_cons pe_int pa_nil))) pa_nil))) (nomark _)))))
          (pss_one (ps_ret pe_bl)) pss_nil)
      (pss_one (ps_ret (pe_cmpR (op_eqD hr.units) (pe_call GB hr1 rfl gB FB.kp bB .nil pass0 (pa_cons (pv 5) pa_nil)) (pe_call GT hr1 rfl gT FT.kp bT .nil pass0 (pa_cons pe_int (pa_cons (pe_lst (pa_cons pe_int (pa_cons pe_int pa_nil))) pa_nil))) (nomark _))))))))))), ?_⟩
    refine ⟨_, rfl, p, _, _, v0, rfl, rfl, SqL.of hp, atI_nat (j := 0) rfl, (by show 1 ≤ 1000; decide), fun a0 na0 => ⟨a0, v0, rfl, upd_same, fun d0 nd0 ne0 => ⟨rfl, ?_⟩⟩⟩
    obtain ⟨s0, x0⟩ := made (f := "value") (v := v0) na0 nd0 ne0
    generalize upd (upd (upd H a0 (exo a0 (ga K "InvalidNumber") none)) d0 (exd d0 [("value", v0)])) a0 (exo a0 (ga K "InvalidNumber") (some d0)) = H0 at s0 x0 ⊢
    have hp0 := s0 _ _ hp
    refine ⟨_, rfl, p, _, _, v1, rfl, rfl, SqL.of hp0, atI_nat (j := 1) rfl, (by show 1 ≤ 1000; decide), fun a1 na1 => ⟨a1, v1, rfl, upd_same, fun d1 nd1 ne1 => ⟨rfl, ?_⟩⟩⟩
    obtain ⟨s1, x1⟩ := made (f := "name") (v := v1) na1 nd1 ne1
    generalize upd (upd (upd H0 a1 (exo a1 (ga K "UnknownName") none)) d1 (exd d1 [("name", v1)])) a1 (exo a1 (ga K "UnknownName") (some d1)) = H1 at s1 x1 ⊢
    have hp1 := s1 _ _ hp0
    refine ⟨_, _, rfl, ?_⟩
    refine ⟨_, rfl, p, _, _, v2, rfl, rfl, SqL.of hp1, atI_nat (j := 2) rfl, (by show 1 ≤ 1000; decide), fun a2 na2 => ⟨a2, v2, rfl, upd_same, fun d2 nd2 ne2 => ⟨rfl, ?_⟩⟩⟩
    obtain ⟨s2, x2⟩ := made (f := "limit") (v := v2) na2 nd2 ne2
    generalize upd (upd (upd H1 a2 (exo a2 (ga K "TooMany") none)) d2 (exd d2 [("limit", v2)])) a2 (exo a2 (ga K "TooMany") (some d2)) = H2 at s2 x2 ⊢
    have hp2 := s2 _ _ hp1
    refine ⟨_, rfl, p, _, _, v3, rfl, rfl, SqL.of hp2, atI_nat (j := 3) rfl, (by show 1 ≤ 1000; decide), fun a3 na3 => ⟨a3, v3, rfl, upd_same, fun d3 nd3 ne3 => ⟨rfl, ?_⟩⟩⟩
    obtain ⟨s3, x3⟩ := made (f := "witness") (v := v3) na3 nd3 ne3
    generalize upd (upd (upd H2 a3 (exo a3 (ga K "Unsorted") none)) d3 (exd d3 [("witness", v3)])) a3 (exo a3 (ga K "Unsorted") (some d3)) = H3 at s3 x3 ⊢
    have hp3 := s3 _ _ hp2
    refine ⟨_, _, rfl, ?_⟩
    refine ⟨_, rfl, p, _, _, v4, rfl, rfl, SqL.of hp3, atI_nat (j := 4) rfl, (by show 1 ≤ 1000; decide), fun a4 na4 => ⟨a4, v4, rfl, upd_same, fun d4 nd4 ne4 => ⟨rfl, ?_⟩⟩⟩
    obtain ⟨s4, x4⟩ := made (f := "many") (v := v4) na4 nd4 ne4
    generalize upd (upd (upd H3 a4 (exo a4 (ga K "NothingToUndo") none)) d4 (exd d4 [("many", v4)])) a4 (exo a4 (ga K "NothingToUndo") (some d4)) = H4 at s4 x4 ⊢
    have hp4 := s4 _ _ hp3
    have y3 := ExcAt.same x3 s4
    have y2 := ExcAt.same (ExcAt.same x2 s3) s4
    have y1 := ExcAt.same (ExcAt.same (ExcAt.same x1 s2) s3) s4
    have y0 := ExcAt.same (ExcAt.same (ExcAt.same (ExcAt.same x0 s1) s2) s3) s4
    have sa := (((s0.trans s1).trans s2).trans s3).trans s4
    refine ⟨_, rfl, a0, _, rfl, y0, _, rfl, a1, _, rfl, y1, _, rfl, a2, _, rfl, y2, _, rfl, a3, _, rfl, y3, _, rfl, a4, _, rfl, x4, (by show 5 ≤ sizeLine; decide), fun l nl => ?_⟩
    have sl := same_upd (o := .lst [v0, v1, v2, v3, v4]) nl
    have ml := upd_same (H := H4) (a := l) (o := .lst [v0, v1, v2, v3, v4])
    generalize upd H4 l (.lst [v0, v1, v2, v3, v4]) = L at sl ml ⊢
    have dl := Dt.sameAll (sa.trans sl) ds _ hd
    refine ⟨l, _, rfl, .lst (SqL.of ml) dl, hsh, hdp, hsz, ?_⟩
    refine ⟨_, rfl, p, _, rfl, .lst (SqL.of (sl _ _ hp4)) dl, hsh, hdp, hsz, ?_⟩
    refine ⟨rfl, _, rfl, ite_f (by simp) ?_⟩
    have k0 := C.ki ("InvalidNumber", [], [0, 2, 7]) (by decide +kernel)
    have i0 := C.ic "InvalidNumber" (by decide +kernel)
    have k1 := C.ki ("UnknownName", [], [1, 2, 8]) (by decide +kernel)
    have i1 := C.ic "UnknownName" (by decide +kernel)
    have k2 := C.ki ("TooMany", [], [3, 4, 9]) (by decide +kernel)
    have i2 := C.ic "TooMany" (by decide +kernel)
    have k3 := C.ki ("Unsorted", [], [4, 10]) (by decide +kernel)
    have i3 := C.ic "Unsorted" (by decide +kernel)
    have k4 := C.ki ("NothingToUndo", [], [2, 11]) (by decide +kernel)
    have i4 := C.ic "NothingToUndo" (by decide +kernel)
    refine ⟨_, rfl, _, rfl, _, rfl, _, rfl, _, rfl, (by show 5 ≤ sizeLine; decide), fun tp ntp => ?_⟩
    have st := same_upd (o := .tup [V.ref a0, V.ref a1, V.ref a2, V.ref a3, V.ref a4]) ntp
    have mt := upd_same (H := L) (a := tp) (o := .tup [V.ref a0, V.ref a1, V.ref a2, V.ref a3, V.ref a4])
    generalize upd L tp (.tup [V.ref a0, V.ref a1, V.ref a2, V.ref a3, V.ref a4]) = Z at st mt ⊢
    have sz := sl.trans st
    have e0 : IsEx K Z a0 _ := ExcAt.is (ExcAt.same y0 sz)
    have e1 : IsEx K Z a1 _ := ExcAt.is (ExcAt.same y1 sz)
    have e2 : IsEx K Z a2 _ := ExcAt.is (ExcAt.same y2 sz)
    have e3 : IsEx K Z a3 _ := ExcAt.is (ExcAt.same y3 sz)
    have e4 : IsEx K Z a4 _ := ExcAt.is (ExcAt.same x4 sz)
    have five : ∀ (i : Nat) (x : V), [V.ref a0, V.ref a1, V.ref a2, V.ref a3, V.ref a4][i]? = some x → ∃ a C, x = .ref a ∧ IC K C ∧ IsEx K Z a C ∧ kits K C (flT K) = (tru 9 []).map some := by
      intro i x hx
      match i, hx with
      | 0, hx => cases hx; exact ⟨_, _, rfl, i0, e0, k0.1⟩
      | 1, hx => cases hx; exact ⟨_, _, rfl, i1, e1, k1.1⟩
      | 2, hx => cases hx; exact ⟨_, _, rfl, i2, e2, k2.1⟩
      | 3, hx => cases hx; exact ⟨_, _, rfl, i3, e3, k3.1⟩
      | 4, hx => cases hx; exact ⟨_, _, rfl, i4, e4, k4.1⟩
      | n + 5, hx => cases hx
    refine ⟨tp, rfl, ⟨_, SqT.of mt⟩, fun D hD => lc_tup (K := K) (a := tp) (xs := [V.ref a0, V.ref a1, V.ref a2, V.ref a3, V.ref a4]) (fun i H' => Same Z H' ∧ H' D = some (.lst [])) ⟨same_upd hD, upd_same⟩ (fun i H' _ hP => sqt_same hP.1 (SqT.of mt)) ?_ ?_⟩
    · rintro i x H' hx ⟨sH, mD⟩
      obtain ⟨a, C1, rfl, g1, g2, g3⟩ := five i x hx
      refine ⟨rfl, _, rfl, a, C1, _, rfl, g1, IsEx.same g2 sH, g3, fun F1 p1 r1 n1 w1 => ?_⟩
      refine ⟨(by show 1 ≤ sizeLine; decide), fun q1 u1 => ?_⟩
      have r2 := same_upd (o := .lst [.bl false]) u1
      refine ⟨q1, 9, _, rfl, rfl, upd_same, by decide, by decide, by decide, fun q2 u2 => ?_⟩
      have r3 := same_upd (o := .lst (List.replicate (Int.toNat 9) [V.bl false]).flatten) u2
      refine ⟨_, _, .lst (SqL.of ((r2.trans r3) _ _ w1)) (dp_bools _), .lst (ds := List.replicate 9 (.bool false)) (SqL.of upd_same) (dp_bools (List.replicate 9 false)), by decide +kernel, by decide +kernel, _, rfl, ite_f (by decide +kernel) ?_⟩
      have rr := (r1.trans r2).trans r3
      exact ⟨sH.trans rr, rr _ _ mD⟩
    · rintro H' ⟨sH, mD⟩
      refine ⟨(by show 0 ≤ sizeLine; decide), fun l2 nl2 => ?_⟩
      have s2' := same_upd (o := .lst []) nl2
      have ml2 := upd_same (H := H') (a := l2) (o := .lst [])
      generalize upd H' l2 (.lst []) = W at s2' ml2 ⊢
      refine ⟨_, _, .lst (SqL.of (s2' _ _ mD)) .nil, .lst (SqL.of ml2) .nil, by decide +kernel, by decide +kernel, _, rfl, ite_f (by decide +kernel) ?_⟩
      have sw := sH.trans s2'
      refine ⟨_, rfl, a0, _, _, rfl, i0, IsEx.same e0 sw, k0.2, fun G0 b0 r0 n0 w0 => ?_⟩
      refine ⟨(by show 3 ≤ sizeLine; decide), fun q0 u0 => ?_⟩
      have t0 := same_upd (o := .lst [.int 0, .int 2, .int 7]) u0
      refine ⟨12, q0, [0, 2, 7], rfl, by decide, SqL.of upd_same, fun J0 c0 o0 m0 z0 => ?_⟩
      refine ⟨_, _, .lst (SqL.of ((t0.trans o0) _ _ w0)) (dp_bools _), .lst (SqL.of z0) (dp_bools _), by decide +kernel, by decide +kernel, _, rfl, ite_f (by decide +kernel) ?_⟩
      have f0 := ((sw.trans r0).trans t0).trans o0
      refine ⟨_, rfl, a1, _, _, rfl, i1, IsEx.same e1 f0, k1.2, fun G1 b1 r1 n1 w1 => ?_⟩
      refine ⟨(by show 3 ≤ sizeLine; decide), fun q1 u1 => ?_⟩
      have t1 := same_upd (o := .lst [.int 1, .int 2, .int 8]) u1
      refine ⟨12, q1, [1, 2, 8], rfl, by decide, SqL.of upd_same, fun J1 c1 o1 m1 z1 => ?_⟩
      refine ⟨_, _, .lst (SqL.of ((t1.trans o1) _ _ w1)) (dp_bools _), .lst (SqL.of z1) (dp_bools _), by decide +kernel, by decide +kernel, _, rfl, ite_f (by decide +kernel) ?_⟩
      have f1 := ((f0.trans r1).trans t1).trans o1
      refine ⟨_, rfl, a2, _, _, rfl, i2, IsEx.same e2 f1, k2.2, fun G2 b2 r2 n2 w2 => ?_⟩
      refine ⟨(by show 3 ≤ sizeLine; decide), fun q2 u2 => ?_⟩
      have t2 := same_upd (o := .lst [.int 3, .int 4, .int 9]) u2
      refine ⟨12, q2, [3, 4, 9], rfl, by decide, SqL.of upd_same, fun J2 c2 o2 m2 z2 => ?_⟩
      refine ⟨_, _, .lst (SqL.of ((t2.trans o2) _ _ w2)) (dp_bools _), .lst (SqL.of z2) (dp_bools _), by decide +kernel, by decide +kernel, _, rfl, ite_f (by decide +kernel) ?_⟩
      have f2 := ((f1.trans r2).trans t2).trans o2
      refine ⟨_, rfl, a3, _, _, rfl, i3, IsEx.same e3 f2, k3.2, fun G3 b3 r3 n3 w3 => ?_⟩
      refine ⟨(by show 2 ≤ sizeLine; decide), fun q3 u3 => ?_⟩
      have t3 := same_upd (o := .lst [.int 4, .int 10]) u3
      refine ⟨12, q3, [4, 10], rfl, by decide, SqL.of upd_same, fun J3 c3 o3 m3 z3 => ?_⟩
      refine ⟨_, _, .lst (SqL.of ((t3.trans o3) _ _ w3)) (dp_bools _), .lst (SqL.of z3) (dp_bools _), by decide +kernel, by decide +kernel, _, rfl, ite_f (by decide +kernel) ?_⟩
      have f3 := ((f2.trans r3).trans t3).trans o3
      refine ⟨_, rfl, a4, _, _, rfl, i4, IsEx.same e4 f3, k4.2, fun G4 b4 r4 n4 w4 => ?_⟩
      refine ⟨(by show 2 ≤ sizeLine; decide), fun q4 u4 => ?_⟩
      have t4 := same_upd (o := .lst [.int 2, .int 11]) u4
      refine ⟨12, q4, [2, 11], rfl, by decide, SqL.of upd_same, fun J4 c4 o4 m4 z4 => ?_⟩
      refine ⟨_, _, .lst (SqL.of ((t4.trans o4) _ _ w4)) (dp_bools _), .lst (SqL.of z4) (dp_bools _), by decide +kernel, by decide +kernel, ?_⟩
      have fin := ((f3.trans r4).trans t4).trans o4
      have e : PyData.eqv (.list ((tru 12 [2, 11]).map PyData.bool)) (.list ((tru 12 [2, 11]).map PyData.bool)) = true := by decide +kernel
      refine (show Q (.bl (PyData.eqv (.list ((tru 12 [2, 11]).map PyData.bool)) (.list ((tru 12 [2, 11]).map PyData.bool)))) J4 from ?_)
      rw [e]
      exact k _ ((sa.trans sz).trans fin)
end
end K00

namespace K00
open PySem PySem.Spec PyProof.Rows L2 Dr Ex Rp
open He (ga ma)
def spThings (K : PySem.W.Frag) : Sp := fun vs H Q _ => ∃ (p : Addr) (m : Nat), vs = [.ref p] ∧ StrAt H p m ∧ m ≤ 1000 ∧
  ∀ H' q v0 v1 v2 v3 v4, But p H H' → StrAt H' p (m + 11) → Things K H' q v0 v1 v2 v3 v4 → Q (.ref q) H'
abbrev nThings : List Str := ["_law_stream_here", "_law_some", "_law_names", "_law_found", "_law_turn"]
theorem scThings : FnScope nThings ["_law_stream_here"] (defScope sThings) := ⟨rfl, rfl, rfl, by decide +kernel, rfl, by decide +kernel, by decide +kernel⟩
section
variable {P : Program} {w : World} {K : PySem.W.Frag} {mg : Str → Option Value} {base : Heap}
theorem ok_things {f fD fP : Addr} {fd fdD fdP : FuncData} (F : FnP K "_law_things" sThings f fd) (FD : FnP K "_law_draw" sDraw fD fdD) (FP : FnP K "_law_pick" sPick fP fdP) (T : TG K mg)
    (gD : mg "_law_draw" = some (.ref fD)) (gP : mg "_law_pick" = some (.ref fP)) : FnOk P w K mg base CX0 3 f fd ["_law_stream_here"] (spThings K) := by
  have tt := T.f.f "tuple" (by decide +kernel)
  have tr := T.f.f "range" (by decide +kernel)
  have GD : FnOk P w K mg base CX0 1 fD fdD ["_law_stream_here", "_law_high"] spDraw := ok_draw FD T.f
  have GP : FnOk P w K mg base CX0 2 fP fdP ["_law_stream_here", "_law_items"] (spPick K) := ok_pick FP FD T.f gD
  have bD : Binds K fdD ["_law_stream_here", "_law_high"] [] := FD.bindsN fun _ _ _ _ _ _ us hl => match us, hl with | [_, _], _ => rfl
  have bP : Binds K fdP ["_law_stream_here", "_law_items"] [] := FP.bindsN fun _ _ _ _ _ _ us hl => match us, hl with | [_, _], _ => rfl
  refine F.ok scThings (fun vs H Q E h => ?_) (fun cdv A outer s H vs Q E hr h => ?_)
  · obtain ⟨p, m, rfl, _⟩ := h
    rfl
  · obtain ⟨p, m, rfl, hS, hm, k⟩ := h
    have hr1 : Room 1 (A.deeper (envOfC "_law_things" (defScope sThings) s.heap.objs.size f cdv)) := hr.mono (by decide)
    obtain ⟨xs0, hp⟩ := hS.some
    refine ⟨_, PSs.nox (pss_cons (ps_set (i := 1) scThings.nd rfl (Or.inl rfl) (pe_lst (pa_cons pe_non (pa_cons pe_bl (pa_cons (pe_un un_neg pe_int) (pa_cons pe_int (pa_cons pe_int (pa_cons (pe_op op_pow pe_int pe_int) (pa_cons pe_str (pa_cons pe_str (pa_cons (pe_tup pa_nil) (pa_cons (pe_tup (pa_cons pe_int (pa_cons pe_int pa_nil))) (pa_cons (pe_lst pa_nil) (pa_cons (pe_lst (pa_cons pe_int pa_nil)) (pa_cons pe_dnewK (pa_cons (pe_disp (pps_cons pe_str pe_int pps_nil) (by rfl) (by rfl) (fun z => by cases z) (by decide)) (pa_cons (pe_tup (pa_cons pe_str (pa_cons pe_non pa_nil))) pa_nil)))))))))))))))))
      (pss_cons (ps_set (i := 2) scThings.nd rfl (Or.inl rfl) (pe_callTy call_tuple_of (by rfl) tt (by decide +kernel) (pa_cons (pe_lc (own := [("_law_turn", 4)]) (g := gName 4) (tt := tYes) rfl scThings.nd
          (pi_range1 rfl tr (pa_cons (pe_op op_add pe_int (pe_call GD hr1 rfl gD FD.kp bD .nil pass0 (pa_cons (pv 0) (pa_cons pe_int pa_nil)))) pa_nil)) (blkOk_by (own := [("_law_turn", 4)]) (N := nThings) (sc := defScope sThings) (by decide +kernel))
          (fun _ _ _ _ _ => pg_name (i := 4) scThings.nd rfl (Or.inl rfl)) (fun _ _ _ _ _ => pts_nil) (fun _ _ _ _ _ => (pe_call GP hr rfl gP FP.kp bP .nil pass0 (pa_cons (pv 0) (pa_cons (pe_lst (pa_cons pe_str (pa_cons pe_str (pa_cons pe_str pa_nil)))) pa_nil))))) pa_nil)))
      (pss_cons (ps_set (i := 3) scThings.nd rfl (Or.inl rfl) (pe_lst (pa_cons (pe_call GP hr rfl gP FP.kp bP .nil pass0 (pa_cons (pv 0) (pa_cons (pv 1) pa_nil))) (pa_cons (pe_call GP hr rfl gP FP.kp bP .nil pass0 (pa_cons (pv 0) (pa_cons (pe_lst (pa_cons pe_str (pa_cons pe_str (pa_cons pe_str (pa_cons pe_str (pa_cons pe_str pa_nil)))))) pa_nil))) pa_nil))))
      (pss_cons (ps_expr (pe_bm PySem.F.plainAttrs_list PySem.F.slot_list_append PySem.F.type_list_append mt_append (pv 3) (pa_cons (pe_call GP hr rfl gP FP.kp bP .nil pass0 (pa_cons (pv 0) (pa_cons (pe_lst (pa_cons pe_int (pa_cons pe_int (pa_cons pe_int (pa_cons pe_int pa_nil))))) pa_nil))) pa_nil)))
      (pss_cons (ps_expr (pe_bm PySem.F.plainAttrs_list PySem.F.slot_list_append PySem.F.type_list_append mt_append (pv 3) (pa_cons (pe_tup (pa_cons (pe_call GP hr rfl gP FP.kp bP .nil pass0 (pa_cons (pv 0) (pa_cons (pe_lst (pa_cons pe_str (pa_cons pe_str (pa_cons pe_str (pa_cons pe_str pa_nil))))) pa_nil))) (pa_cons (pv 2) pa_nil))) pa_nil)))
      (pss_one (ps_ret (pe_op op_cat (pv 3) (pe_lst (pa_cons (pe_call GP hr rfl gP FP.kp bP .nil pass0 (pa_cons (pv 0) (pa_cons (pe_lst (pa_cons pe_int (pa_cons pe_int (pa_cons pe_int (pa_cons (pe_op op_pow pe_int pe_int) pa_nil))))) pa_nil))) pa_nil)))))))))), ?_⟩
    refine ⟨_, rfl, _, _, rfl, rfl, ⟨by decide, by decide, by decide⟩, (by show 0 ≤ sizeLine; decide), fun a8 na8 => ?_⟩
    have sa8 := same_upd (o := .tup []) na8
    have ma8 := upd_same (H := H) (a := a8) (o := .tup [])
    generalize upd H a8 (.tup []) = H8 at sa8 ma8 ⊢
    refine ⟨(by show 2 ≤ sizeLine; decide), fun a9 na9 => ?_⟩
    have sa9 := same_upd (o := .tup [V.int 1, V.int 2]) na9
    have ma9 := upd_same (H := H8) (a := a9) (o := .tup [V.int 1, V.int 2])
    generalize upd H8 a9 (.tup [V.int 1, V.int 2]) = H9 at sa9 ma9 ⊢
    refine ⟨(by show 0 ≤ sizeLine; decide), fun b0 nb0 => ?_⟩
    have sb0 := same_upd (o := .lst []) nb0
    have mb0 := upd_same (H := H9) (a := b0) (o := .lst [])
    generalize upd H9 b0 (.lst []) = I0 at sb0 mb0 ⊢
    refine ⟨(by show 1 ≤ sizeLine; decide), fun b1 nb1 => ?_⟩
    have sb1 := same_upd (o := .lst [V.int 0]) nb1
    have mb1 := upd_same (H := I0) (a := b1) (o := .lst [V.int 0])
    generalize upd I0 b1 (.lst [V.int 0]) = I1 at sb1 mb1 ⊢
    refine fun b2 nb2 => ?_
    have sb2 := same_upd (o := .dK []) nb2
    have mb2 := upd_same (H := I1) (a := b2) (o := .dK [])
    generalize upd I1 b2 (.dK []) = I2 at sb2 mb2 ⊢
    refine fun b3 nb3 => ?_
    refine ⟨upd_same, [(Sum.inr "a", .int 1)], rfl, by decide, ?_⟩
    have sb3 : Same I2 (upd (upd I2 b3 (.dK [])) b3 (.dK (mergeK [] [(Sum.inr "a", V.int 1)]))) := by
      rw [upd_upd]
      exact same_upd nb3
    have mb3 : upd (upd I2 b3 (.dK [])) b3 (.dK (mergeK [] [(Sum.inr "a", V.int 1)])) b3 = some (.dK [(Sum.inr "a", V.int 1)]) := by
      rw [upd_same]
      rfl
    generalize upd (upd I2 b3 (.dK [])) b3 (.dK (mergeK [] [(Sum.inr "a", V.int 1)])) = I3 at sb3 mb3 ⊢
    refine ⟨(by show 2 ≤ sizeLine; decide), fun c4 nc4 => ?_⟩
    have sc4 := same_upd (o := .tup [V.str "a", V.non]) nc4
    have mc4 := upd_same (H := I3) (a := c4) (o := .tup [V.str "a", V.non])
    generalize upd I3 c4 (.tup [V.str "a", V.non]) = J4 at sc4 mc4 ⊢
    refine ⟨(by show 15 ≤ sizeLine; decide), fun q nq => ?_⟩
    have sq := same_upd (o := .lst [V.non, .bl true, .int (-1), .int 0, .int 7, .int (10 ^ Int.toNat 39), .str "", .str "three", .ref a8, .ref a9, .ref b0, .ref b1, .ref b2, .ref b3, .ref c4]) nq
    have mq := upd_same (H := J4) (a := q) (o := .lst [V.non, .bl true, .int (-1), .int 0, .int 7, .int (10 ^ Int.toNat 39), .str "", .str "three", .ref a8, .ref a9, .ref b0, .ref b1, .ref b2, .ref b3, .ref c4])
    generalize upd J4 q (.lst [V.non, .bl true, .int (-1), .int 0, .int 7, .int (10 ^ Int.toNat 39), .str "", .str "three", .ref a8, .ref a9, .ref b0, .ref b1, .ref b2, .ref b3, .ref c4]) = G at sq mq ⊢
    have h8 := sa8
    have h9 := h8.trans sa9
    have g0 := h9.trans sb0
    have g1 := g0.trans sb1
    have g2 := g1.trans sb2
    have g3 := g2.trans sb3
    have g4 := g3.trans sc4
    have gq := g4.trans sq
    have eC : Same J4 G := sq
    have e3 : Same I3 G := sc4.trans eC
    have e2 : Same I2 G := sb3.trans e3
    have e1 : Same I1 G := sb2.trans e2
    have e0 : Same I0 G := sb1.trans e1
    have d9 : Same H9 G := sb0.trans e0
    have d8 : Same H8 G := sa9.trans d9
    have npa8 : a8 ∉ [p] := fun z => ne_of_none hp na8 (List.mem_singleton.mp z).symm
    have npa9 : a9 ∉ [p] := fun z => ne_of_none (h8 _ _ hp) na9 (List.mem_singleton.mp z).symm
    have npb0 : b0 ∉ [p] := fun z => ne_of_none (h9 _ _ hp) nb0 (List.mem_singleton.mp z).symm
    have npb1 : b1 ∉ [p] := fun z => ne_of_none (g0 _ _ hp) nb1 (List.mem_singleton.mp z).symm
    have npb2 : b2 ∉ [p] := fun z => ne_of_none (g1 _ _ hp) nb2 (List.mem_singleton.mp z).symm
    have npb3 : b3 ∉ [p] := fun z => ne_of_none (g2 _ _ hp) nb3 (List.mem_singleton.mp z).symm
    have npc4 : c4 ∉ [p] := fun z => ne_of_none (g3 _ _ hp) nc4 (List.mem_singleton.mp z).symm
    have npq : p ≠ q := ne_of_none (g4 _ _ hp) nq
    have dat : DtAll K (cut [p] G) [V.non, .bl true, .int (-1), .int 0, .int 7, .int (10 ^ Int.toNat 39), .str "", .str "three", .ref a8, .ref a9, .ref b0, .ref b1, .ref b2, .ref b3, .ref c4] [PyData.none, .bool true, .int (-1), .int 0, .int 7, .int (10 ^ Int.toNat 39), .str "", .str "three", .tuple [], .tuple [.int 1, .int 2], .list [], .list [.int 0], .dict [], .dict [(.str "a", .int 1)], .tuple [.str "a", .none]] :=
      .cons .non (.cons (.bl _) (.cons (.int _) (.cons (.int _) (.cons (.int _) (.cons (.int _) (.cons (.str _) (.cons (.str _)
        (.cons (.tup (SqT.of (cut_at (d8 _ _ ma8) npa8)) .nil)
        (.cons (.tup (SqT.of (cut_at (d9 _ _ ma9) npa9)) (.cons (.int _) (.cons (.int _) .nil)))
        (.cons (.lst (SqL.of (cut_at (e0 _ _ mb0) npb0)) .nil)
        (.cons (.lst (SqL.of (cut_at (e1 _ _ mb1) npb1)) (.cons (.int _) .nil))
        (.cons (.dic (cut_at (e2 _ _ mb2) npb2) .nil)
        (.cons (.dic (cut_at (e3 _ _ mb3) npb3) (.cons (k := Sum.inr "a") (.int _) .nil))
        (.cons (.tup (SqT.of (cut_at (eC _ _ mc4) npc4)) (.cons (.str _) (.cons .non .nil))) .nil))))))))))))))
    have sm : ∀ d, d ∈ [PyData.none, .bool true, .int (-1), .int 0, .int 7, .int (10 ^ Int.toNat 39), .str "", .str "three", .tuple [], .tuple [.int 1, .int 2], .list [], .list [.int 0], .dict [], .dict [(.str "a", .int 1)], .tuple [.str "a", .none]] → Sm d := by
      have z : ([PyData.none, .bool true, .int (-1), .int 0, .int 7, .int (10 ^ Int.toNat 39), .str "", .str "three", .tuple [], .tuple [.int 1, .int 2], .list [], .list [.int 0], .dict [], .dict [(.str "a", .int 1)], .tuple [.str "a", .none]]).all (fun d => d.showable && (decide (d.depth ≤ 5) && decide (d.shown.length ≤ 1000))) = true := by decide +kernel
      intro d hd
      have y := List.all_eq_true.mp z d hd
      obtain ⟨y1, y2⟩ := He.ba y
      obtain ⟨y3, y4⟩ := He.ba y2
      exact ⟨y1, of_decide_eq_true y3, of_decide_eq_true y4⟩
    have SG : StrAt G p m := hS.same gq
    -- names
    refine ⟨_, rfl, p, 3, m, rfl, SG, by omega, by decide, by decide, fun J v v0 v1 bJ sJ => ?_⟩
    obtain ⟨ys, hpJ⟩ := sJ.some
    refine ⟨_, _, rfl, rfl, _, rfl, (by omega), (by omega), fun D hD => lc_range (lo := 0) (n := (3 + v).toNat) (fun i H' => But p J H' ∧ StrAt H' p (m + 1 + i) ∧ ∃ zs : List Str, zs.length = i ∧ (∀ z, z ∈ zs → z = "a" ∨ z = "b" ∨ z = "xx") ∧ H' D = some (.lst (zs.map V.str))) ?_ ?_ ?_⟩
    · have npD : p ≠ D := ne_of_none hpJ hD
      exact ⟨But.sm (same_upd hD), sJ.keep fun o e => by rw [upd_ne npD]; exact e, [], rfl, fun z hz => (nomatch hz), upd_same⟩
    · rintro i H' hi ⟨bt, st, zs, hzl, hzs, hDz⟩
      have npD : p ≠ D := ne_of_none hpJ hD
      refine ⟨rfl, yes_in ?_⟩
      refine ⟨_, rfl, (by show 3 ≤ sizeLine; decide), fun w1 nw1 => ?_⟩
      obtain ⟨_, hp'⟩ := st.some
      have sw := same_upd (o := .lst [V.str "a", V.str "b", V.str "xx"]) nw1
      refine ⟨p, w1, _, m + 1 + i, rfl, st.same sw, by omega, ne_of_none hp' nw1, SqL.of upd_same, by decide, by decide, fun H2 j x hx b2 s2 => ?_⟩
      obtain ⟨z, hz, rfl⟩ := str_item (zs := ["a", "b", "xx"]) hx
      have hD2 := b2 D _ (Ne.symm npD) (sw _ _ hDz)
      refine ⟨_, hD2, ?_, ?_, ?_, zs ++ [z], ?_, ?_, ?_⟩
      · rw [List.length_map, hzl]
        exact small1000 (by omega)
      · intro b o nb e
        rw [upd_ne (ne_of_none e hD)]
        exact b2 b o nb (sw _ _ (bt b o nb e))
      · exact (s2.keep fun o e => by rw [upd_ne npD]; exact e).mono (by omega)
      · rw [List.length_append, hzl]
        rfl
      · intro y hy
        rcases List.mem_append.mp hy with hy | hy
        · exact hzs y hy
        · have ey := List.mem_singleton.mp hy
          subst ey
          simpa using hz
      · rw [upd_same, List.map_append]
        rfl
    · rintro H' ⟨bt, st, zs, hzl, hzs, hDz⟩
      refine ⟨D, _, rfl, .inl ⟨SqL.of hDz, fun l nl => ?_⟩⟩
      have sl := same_upd (o := .tup (zs.map V.str)) nl
      have ml := upd_same (H := H') (a := l) (o := .tup (zs.map V.str))
      generalize upd H' l (.tup (zs.map V.str)) = V1 at sl ml ⊢
      have bV : But p G V1 := (bJ.trans bt).same sl
      have st1 : StrAt V1 p (m + 6) := (st.same sl).mono (by omega)
      have mq1 := bV q _ (Ne.symm npq) mq
      refine ⟨_, rfl, _, rfl, p, q, _, m + 6, rfl, st1, by omega, npq, SqL.of mq1, (by show 0 < 15; decide), (by show 15 < 1000000; decide), fun V2 i0 x0 hx0 b2 s2 => ?_⟩
      refine ⟨_, rfl, (by show 5 ≤ sizeLine; decide), fun w2 nw2 => ?_⟩
      obtain ⟨_, hp2⟩ := s2.some
      have sw2 := same_upd (o := .lst [V.str "", .str "a", .str "NO", .str "two words", .str "zzzzzzzzz"]) nw2
      refine ⟨p, w2, _, m + 7, rfl, s2.same sw2, by omega, ne_of_none hp2 nw2, SqL.of upd_same, by decide, by decide, fun V3 i1 x1 hx1 b3 s3 => ?_⟩
      refine ⟨(by show 2 ≤ sizeLine; decide), fun fl nfl => ?_⟩
      obtain ⟨_, hp3⟩ := s3.some
      have npf : p ≠ fl := ne_of_none hp3 nfl
      have sf := same_upd (o := .lst [x0, x1]) nfl
      have mf := upd_same (H := V3) (a := fl) (o := .lst [x0, x1])
      generalize upd V3 fl (.lst [x0, x1]) = F0 at sf mf ⊢
      have t3 := s3.same sf
      -- the third one
      refine ⟨_, rfl, .inl ⟨rfl, _, SqL.of mf⟩, _, rfl, (by show 4 ≤ sizeLine; decide), fun w3 nw3 => ?_⟩
      have sw3 := same_upd (o := .lst [V.int 10, .int 1000, .int 20000, .int 3]) nw3
      refine ⟨p, w3, _, m + 8, rfl, t3.same sw3, by omega, ne_of_none (sf _ _ hp3) nw3, SqL.of upd_same, by decide, by decide, fun V4 i2 x2 hx2 b4 s4 => ?_⟩
      have mf4 := b4 fl _ (Ne.symm npf) (sw3 _ _ mf)
      refine ⟨fl, _, _, rfl, rfl, mf4, small1000 (by show 2 ≤ 1000; decide), ?_⟩
      have y1 : By p fl F0 (upd V4 fl (.lst ([x0, x1] ++ [x2]))) := ((By.sm sw3).trans (By.of b4)).trans (By.upd _ _ _ _)
      have mf1 := upd_same (H := V4) (a := fl) (o := .lst ([x0, x1] ++ [x2]))
      have t4 : StrAt (upd V4 fl (.lst ([x0, x1] ++ [x2]))) p (m + 9) := s4.keep fun o e => by rw [upd_ne npf]; exact e
      generalize upd V4 fl (.lst ([x0, x1] ++ [x2])) = F1 at y1 mf1 t4 ⊢
      obtain ⟨_, hp4⟩ := t4.some
      -- the fourth one
      refine ⟨_, rfl, .inl ⟨rfl, _, SqL.of mf1⟩, _, rfl, (by show 4 ≤ sizeLine; decide), fun w4 nw4 => ?_⟩
      have sw4 := same_upd (o := .lst [V.str "ring", .str "shell", .str "bridge", .str "trio"]) nw4
      refine ⟨p, w4, _, m + 9, rfl, t4.same sw4, by omega, ne_of_none hp4 nw4, SqL.of upd_same, by decide, by decide, fun V6 i3 x3 hx3 b6 s6 => ?_⟩
      refine ⟨_, rfl, (by show 2 ≤ sizeLine; decide), fun tq ntq => ?_⟩
      have stq := same_upd (o := .tup [x3, .ref l]) ntq
      have mtq := upd_same (H := V6) (a := tq) (o := .tup [x3, .ref l])
      generalize upd V6 tq (.tup [x3, .ref l]) = V7 at stq mtq ⊢
      obtain ⟨_, hp6⟩ := s6.some
      have mf6 := b6 fl _ (Ne.symm npf) (sw4 _ _ mf1)
      have mf7 := stq _ _ mf6
      have npt : p ≠ tq := ne_of_none hp6 ntq
      have nft : fl ≠ tq := ne_of_none mf6 ntq
      refine ⟨fl, _, _, rfl, rfl, mf7, small1000 (by show 3 ≤ 1000; decide), ?_⟩
      have y2 : By p fl F1 (upd V7 fl (.lst ([x0, x1] ++ [x2] ++ [.ref tq]))) := (((By.sm sw4).trans (By.of b6)).trans (By.sm stq)).trans (By.upd _ _ _ _)
      have mf2 := upd_same (H := V7) (a := fl) (o := .lst ([x0, x1] ++ [x2] ++ [.ref tq]))
      have t6 : StrAt (upd V7 fl (.lst ([x0, x1] ++ [x2] ++ [.ref tq]))) p (m + 10) := (s6.same stq).keep fun o e => by rw [upd_ne npf]; exact e
      have mtq2 : upd V7 fl (.lst ([x0, x1] ++ [x2] ++ [.ref tq])) tq = some (.tup [x3, .ref l]) := by
        rw [upd_ne (Ne.symm nft)]
        exact mtq
      generalize upd V7 fl (.lst ([x0, x1] ++ [x2] ++ [.ref tq])) = F2 at y2 mf2 t6 mtq2 ⊢
      obtain ⟨_, hp7⟩ := t6.some
      -- the last one
      refine ⟨_, rfl, _, rfl, _, _, rfl, rfl, ⟨by decide, by decide, by decide⟩, (by show 4 ≤ sizeLine; decide), fun w5 nw5 => ?_⟩
      have sw5 := same_upd (o := .lst [V.int 0, .int 1, .int 5, .int (10 ^ Int.toNat 39)]) nw5
      refine ⟨p, w5, _, m + 10, rfl, t6.same sw5, by omega, ne_of_none hp7 nw5, SqL.of upd_same, by decide, by decide, fun V8 i4 x4 hx4 b8 s8 => ?_⟩
      refine ⟨(by show 1 ≤ sizeLine; decide), fun l1 nl1 => ?_⟩
      have sl1 := same_upd (o := .lst [x4]) nl1
      have ml1 := upd_same (H := V8) (a := l1) (o := .lst [x4])
      generalize upd V8 l1 (.lst [x4]) = V9 at sl1 ml1 ⊢
      have mf8 := sl1 _ _ (b8 fl _ (Ne.symm npf) (sw5 _ _ mf2))
      refine ⟨fl, l1, _, _, rfl, rfl, mf8, ml1, (by show 4 + 1 ≤ sizeLine; decide), fun fin nfin => ?_⟩
      have sfin := same_upd (o := .lst ([x0, x1] ++ [x2] ++ [.ref tq] ++ [x4])) nfin
      have mfin := upd_same (H := V9) (a := fin) (o := .lst ([x0, x1] ++ [x2] ++ [.ref tq] ++ [x4]))
      generalize upd V9 fin (.lst ([x0, x1] ++ [x2] ++ [.ref tq] ++ [x4])) = Z at sfin mfin ⊢
      have y3 : By p fl F2 Z := (((By.sm sw5).trans (By.of b8)).trans (By.sm sl1)).trans (By.sm sfin)
      have yZ : By p fl V3 Z := (((By.sm sf).trans y1).trans y2).trans y3
      have kV : ∀ b o, b ≠ p → V3 b = some o → Z b = some o := fun b o n e => yZ b o n (ne_of_none e nfl) e
      have b13 : But p V1 V3 := (b2.same sw2).trans b3
      have kG : ∀ b o, b ≠ p → G b = some o → Z b = some o := fun b o n e => kV b o n (b13 b o n (bV b o n e))
      have mlZ : Z l = some (.tup (zs.map V.str)) := by
        have nl' : p ≠ l := by
          obtain ⟨_, hpH⟩ := st.some
          exact ne_of_none hpH nl
        exact kV l _ (Ne.symm nl') (b13 l _ (Ne.symm nl') ml)
      have mtZ : Z tq = some (.tup [x3, .ref l]) := y3 tq _ (Ne.symm npt) (Ne.symm nft) mtq2
      obtain ⟨d0, D0, S0⟩ := DtAll.get dat sm hx0
      obtain ⟨z1, hz1, rfl⟩ := str_item (zs := ["", "a", "NO", "two words", "zzzzzzzzz"]) hx1
      obtain ⟨z2, hz2, rfl⟩ := int_item (zs := [10, 1000, 20000, 3]) hx2
      obtain ⟨z3, hz3, rfl⟩ := str_item (zs := ["ring", "shell", "bridge", "trio"]) hx3
      obtain ⟨z4, hz4, rfl⟩ := int_item (zs := [0, 1, 5, 10 ^ Int.toNat 39]) hx4
      have D0Z : Dt K Z x0 d0 := Dt.same (H := cut [p] G) (H' := Z) (fun b o e => by
        obtain ⟨n, h⟩ := cut_of e
        exact kG b o (fun z => n (List.mem_singleton.mpr z)) h) _ _ D0
      have hsm1 : Sm (.str z1) := by
        have z : (["", "a", "NO", "two words", "zzzzzzzzz"] : List Str).all (fun x => (PyData.str x).showable && (decide ((PyData.str x).depth ≤ 5) && decide ((PyData.str x).shown.length ≤ 1000))) = true := by decide +kernel
        obtain ⟨y1, y2⟩ := He.ba (List.all_eq_true.mp z z1 hz1)
        obtain ⟨y3, y4⟩ := He.ba y2
        exact ⟨y1, of_decide_eq_true y3, of_decide_eq_true y4⟩
      have hsm2 : Sm (.int z2) := by
        have z : ([10, 1000, 20000, 3] : List Int).all (fun x => (PyData.int x).showable && (decide ((PyData.int x).depth ≤ 5) && decide ((PyData.int x).shown.length ≤ 1000))) = true := by decide +kernel
        obtain ⟨y1, y2⟩ := He.ba (List.all_eq_true.mp z z2 hz2)
        obtain ⟨y3, y4⟩ := He.ba y2
        exact ⟨y1, of_decide_eq_true y3, of_decide_eq_true y4⟩
      have hsm4 : Sm (.int z4) := by
        have z : ([0, 1, 5, 10 ^ Int.toNat 39] : List Int).all (fun x => (PyData.int x).showable && (decide ((PyData.int x).depth ≤ 5) && decide ((PyData.int x).shown.length ≤ 1000))) = true := by decide +kernel
        obtain ⟨y1, y2⟩ := He.ba (List.all_eq_true.mp z z4 hz4)
        obtain ⟨y3, y4⟩ := He.ba y2
        exact ⟨y1, of_decide_eq_true y3, of_decide_eq_true y4⟩
      have hsm3 : Sm (.tuple [.str z3, .tuple (zs.map PyData.str)]) := by
        refine sm_pair ?_ (sm_names hzs (by omega))
        have z : (["ring", "shell", "bridge", "trio"] : List Str).all (fun x => decide ((PyData.str x).shown.length ≤ 50)) = true := by decide +kernel
        exact of_decide_eq_true (List.all_eq_true.mp z z3 hz3)
      have all5 : ∀ d, d ∈ [d0, .str z1, .int z2, .tuple [.str z3, .tuple (zs.map PyData.str)], .int z4] → Sm d := by
        intro d hd
        simp only [List.mem_cons, List.not_mem_nil, or_false] at hd
        rcases hd with rfl | rfl | rfl | rfl | rfl
        · exact S0
        · exact hsm1
        · exact hsm2
        · exact hsm3
        · exact hsm4
      refine k Z fin x0 (.str z1) (.int z2) (.ref tq) (.int z4) ?_ ?_ ⟨mfin, _, ?_, all5⟩
      · exact fun b o n e => kG b o n (gq b o e)
      · exact ((s8.same sl1).same sfin).mono (by omega)
      · exact .cons D0Z (.cons (.str _) (.cons (.int _) (.cons (.tup (SqT.of mtZ) (.cons (.str _) (.cons (.tup (SqT.of mlZ) (dt_strs zs)) .nil))) (.cons (.int _) .nil))))
end
end K00

namespace K00
open PySem PySem.Spec PyProof.Rows L2 Dr Ex Rp
open He (ga ma)
/-- raise C(..), an exception of such a class -/
def tRs (H0 : Hp) (C : Addr) (f : Str) (te : TE) (W : WX) : TS := fun _ σ H => te σ H fun x H1 => ∃ (a dx : Addr) (v : V), x = .ref a ∧ H1 a = some (exo a C (some dx)) ∧ H1 dx = some (exd dx [(f, v)]) ∧ Fr0 H0 a ∧ W (.ref C) (some dx) σ (delH H1 a)
theorem ps_rs {X : Cx} {W : WX} {e : Expr} {te : TE} {pos : Pos} {C fI : Addr} {nid : String} {ml : List Value} {f : Str} (hc : X.calm = true) (tk : Takes X W) (T : XC X.K C nid ml f fI) (hx : X.ex = []) (he : PE X e te) : PS X (.Raise (some e) none pos) (tRs X.H_0 C f te W) := by
  have h := ps_raise (pos := pos) hc tk (pmk_val T hx he)
  refine ⟨fun pins s σ H D I q => h.run pins s σ H D I ?_⟩
  exact q
/-- the heap behind raise C(v): the exception let go, its field tracked -/
theorem flown {H : Hp} {a dx C : Addr} {f : Str} {v : V} (ha : H a = none) (hd : upd H a (exo a C none) dx = none) (ne : dx ≠ a) :
    Same H (delH (upd (upd (upd H a (exo a C none)) dx (exd dx [(f, v)])) a (exo a C (some dx))) a) ∧ delH (upd (upd (upd H a (exo a C none)) dx (exd dx [(f, v)])) a (exo a C (some dx))) a dx = some (exd dx [(f, v)]) := by
  obtain ⟨s, _⟩ := made (f := f) (v := v) ha hd ne
  refine ⟨fun b o e => ?_, ?_⟩
  · rw [delH_ne (ne_of_none e ha)]
    exact s b o e
  · rw [delH_ne ne, upd_ne ne, upd_same]
def spCaught : Sp := fun vs H Q _ => ∃ (p : Addr) (v0 v1 v2 v3 v4 : V), vs = [.ref p] ∧ H p = some (.lst [v0, v1, v2, v3, v4]) ∧ ∀ H' q, Same H H' → H' q = some (.lst [v3, v4, .bl true, v2]) → Q (.ref q) H'
abbrev nCaught : List Str := ["_law_things_here", "_law_found", "_law_e"]
theorem scCaught : FnScope nCaught ["_law_things_here"] (defScope sCaught) := ⟨rfl, rfl, rfl, by decide +kernel, rfl, by decide +kernel, by decide +kernel⟩
structure TE7 (K : PySem.W.Frag) : Prop where
  s : PySem.W.exmOne K (.ref (ga K "Unsorted")) (.ref (ga K "Unsorted")) = some true
  d : PySem.W.exmOne K (.ref (ga K "NothingToUndo")) (.ref (ga K "NothingToUndo")) = some true
  e : PySem.W.exmOne K (.ref (ga K "InvalidEdit")) (.ref (ga K "PageError")) = some true
  t : PySem.W.exmOne K (.ref (ga K "TooMany")) (.ref (ga K "TooMany")) = some true
  ty : PySem.W.typeIn K (.ref (ga K "InvalidEdit")) = some (.type "type")
abbrev tMk (K : PySem.W.Frag) (C : Addr) (f : Str) (j : Int) : TE := tXmk C (spIni C f) (tCons (tOp (rIxL K) (tVar 0) (tC (.int j))) tNil)
abbrev tAp (K : PySem.W.Frag) (C : Addr) (f : Str) : Addr → Value → Option Addr → TS := fun a cls d => tDrop (tBM K "list" rAppend (tVar 1) (tCons (tSfld C a f cls d (tVar 2)) tNil))
section
variable {P : Program} {w : World} {K : PySem.W.Frag} {mg : Str → Option Value} {base : Heap}
theorem ok_caught {f : Addr} {fd fdt fds fdd : FuncData} (F : FnP K "_law_caught" sCaught f fd)
    (Ft : FnM K "TooMany.__init__" iT (ma K (ga K "TooMany") "__init__") fdt) (Fs : FnM K "Unsorted.__init__" iS (ma K (ga K "Unsorted") "__init__") fds) (Fd : FnM K "NothingToUndo.__init__" iD (ma K (ga K "NothingToUndo") "__init__") fdd)
    (T : TG K mg) (C : TC K) (M : TX K) (M7 : TE7 K) : FnOk P w K mg base CX0 3 f fd ["_law_things_here"] spCaught := by
  have ti := T.f.f "isinstance" (by decide +kernel)
  have Gt : FnOk P w K mg base CX0 1 _ fdt ["self", "limit"] (spIni (ga K "TooMany") "limit") := ok_iT Ft T M.t M.vt
  have Gs : FnOk P w K mg base CX0 1 _ fds ["self", "witness"] (spIni (ga K "Unsorted") "witness") := ok_iS Fs T M.s M.vs
  have Gd : FnOk P w K mg base CX0 1 _ fdd ["self", "many"] (spIni (ga K "NothingToUndo") "many") := ok_iD Fd T M.d M.vd
  have bt : Binds K fdt ["self", "limit"] [] := Ft.bindsN fun _ _ _ _ _ _ us hl => match us, hl with | [_, _], _ => rfl
  have bs : Binds K fds ["self", "witness"] [] := Fs.bindsN fun _ _ _ _ _ _ us hl => match us, hl with | [_, _], _ => rfl
  have bd : Binds K fdd ["self", "many"] [] := Fd.bindsN fun _ _ _ _ _ _ us hl => match us, hl with | [_, _], _ => rfl
  have gS := T.g "Unsorted" (by decide +kernel)
  have gD := T.g "NothingToUndo" (by decide +kernel)
  have gT := T.g "TooMany" (by decide +kernel)
  have gE := T.g "InvalidEdit" (by decide +kernel)
  have gP := T.g "PageError" (by decide +kernel)
  have mE := C.ms "InvalidEdit" (by decide +kernel)
  have iE := C.ic "InvalidEdit" (by decide +kernel)
  refine F.ok scCaught (fun vs H Q E h => ?_) (fun cdv A outer s H vs Q E hr h => ?_)
  · obtain ⟨p, v0, v1, v2, v3, v4, rfl, _⟩ := h
    rfl
  · obtain ⟨p, v0, v1, v2, v3, v4, rfl, hp, k⟩ := h
    refine ⟨_, PSs.nox (pss_cons (ps_set (i := 1) scCaught.nd rfl (Or.inl rfl) (pe_lst pa_nil))
      (pss_cons (ps_try_as (i := 2) (tb := tRs H (ga K "Unsorted") "witness" (tMk K (ga K "Unsorted") "witness" 3)) (ts := tAp K (ga K "Unsorted") "witness") (Wout := fun _ _ _ _ => False) rfl rfl scCaught.nd rfl rfl ⟨rfl, by decide, Or.inl gS⟩ takes0
        (fun W pn xe tk _ => pss_one (by exact (ps_rs rfl tk M.s rfl (pe_xmk bA M.s Gs hr bs pass0 rfl gS (by exact (pa_cons (pe_ix ix_list (pv 0) pe_int (fun _ _ => rfl)) pa_nil))))))
        (fun a oe cls d pn hz hf => pss_one (ps_expr (by exact (pe_bm PySem.F.plainAttrs_list PySem.F.slot_list_append PySem.F.type_list_append mt_append (pv 1) (pa_cons (pe_sfld M.s hz hf (pv 2)) pa_nil))))))
      (pss_cons (ps_try_as (i := 2) (tb := tRs H (ga K "NothingToUndo") "many" (tMk K (ga K "NothingToUndo") "many" 4)) (ts := tAp K (ga K "NothingToUndo") "many") (Wout := fun _ _ _ _ => False) rfl rfl scCaught.nd rfl rfl ⟨rfl, by decide, Or.inl gD⟩ takes0
        (fun W pn xe tk _ => pss_one (by exact (ps_rs rfl tk M.d rfl (pe_xmk bL M.d Gd hr bd pass0 rfl gD (by exact (pa_cons (pe_ix ix_list (pv 0) pe_int (fun _ _ => rfl)) pa_nil))))))
        (fun a oe cls d pn hz hf => pss_one (ps_expr (by exact (pe_bm PySem.F.plainAttrs_list PySem.F.slot_list_append PySem.F.type_list_append mt_append (pv 1) (pa_cons (pe_sfld M.d hz hf (pv 2)) pa_nil))))))
      (pss_cons (ps_try_as (i := 2) (tb := fun W => fun _ σ H => W (.ref (ga K "InvalidEdit")) none σ H) (ts := fun a cls d => tDrop (tBM K "list" rAppend (tVar 1) (tCons (tCB (rIS K a cls d) (tCons (tVar 2) (tCons (tC (.ref (ga K "InvalidEdit"))) tNil))) tNil))) (Wout := fun _ _ _ _ => False) rfl rfl scCaught.nd rfl rfl ⟨rfl, by decide, Or.inl gP⟩ takes0
        (fun W pn xe tk _ => pss_one (by exact (ps_raise rfl tk (pmk_own PySem.F.excBase_ValueError mE.1 gE mE.2 (raises_own iE.sub M7.ty) rfl))))
        (fun a oe cls d pn hz hf => pss_one (ps_expr (by exact (pe_bm PySem.F.plainAttrs_list PySem.F.slot_list_append PySem.F.type_list_append mt_append (pv 1) (pa_cons (pe_callB (call_isS hz hf) (by rfl) ti (by decide +kernel) (pa_cons (pv 2) (pa_cons (p_cls gE) pa_nil))) pa_nil))))))
      (pss_cons (ps_try_as (i := 2) (tb := tRs H (ga K "TooMany") "limit" (tMk K (ga K "TooMany") "limit" 2)) (ts := tAp K (ga K "TooMany") "limit") (Wout := fun _ _ _ _ => False) rfl rfl scCaught.nd rfl rfl ⟨rfl, by decide, Or.inl gT⟩ takes0
        (fun W pn xe tk _ => pss_one (by exact (ps_rs rfl tk M.t rfl (pe_xmk bO M.t Gt hr bt pass0 rfl gT (by exact (pa_cons (pe_ix ix_list (pv 0) pe_int (fun _ _ => rfl)) pa_nil))))))
        (fun a oe cls d pn hz hf => pss_one (ps_expr (by exact (pe_bm PySem.F.plainAttrs_list PySem.F.slot_list_append PySem.F.type_list_append mt_append (pv 1) (pa_cons (pe_sfld M.t hz hf (pv 2)) pa_nil))))))
      (pss_one (ps_ret (pv 1)))))))), ?_⟩
    refine ⟨(by show 0 ≤ sizeLine; decide), fun q nq => ?_⟩
    have npq : p ≠ q := ne_of_none hp nq
    have b0 : But q H (upd H q (.lst [])) := But.upd _ _ _
    have m0 := upd_same (H := H) (a := q) (o := .lst [])
    generalize upd H q (.lst []) = H0 at b0 m0 ⊢
    refine ⟨_, rfl, p, _, _, v3, rfl, rfl, SqL.of (b0 p _ npq hp), atI_nat (j := 3) rfl, (by show 1 ≤ 1000; decide), fun a1 na1 => ⟨a1, v3, rfl, upd_same, fun d1 nd1 ne1 => ⟨rfl, ?_⟩⟩⟩
    have nq1 : a1 ≠ q := (ne_of_none m0 na1).symm
    obtain ⟨s1, x1⟩ := flown (f := "witness") (v := v3) na1 nd1 ne1
    refine ⟨a1, d1, v3, rfl, upd_same, (by rw [upd_ne ne1, upd_same]), fr0_none (But.free b0 nq1 na1), true, M7.s, fun _ e1 he1 => ?_, fun z => nomatch z⟩
    generalize delH (upd (upd (upd H0 a1 (exo a1 (ga K "Unsorted") none)) d1 (exd d1 [("witness", v3)])) a1 (exo a1 (ga K "Unsorted") (some d1))) a1 = J1 at s1 x1 he1 ⊢
    refine ⟨_, rfl, .inl ⟨rfl, _, SqL.of (s1 _ _ m0)⟩, _, rfl, rfl, rfl, d1, v3, rfl, x1, q, _, _, rfl, rfl, s1 _ _ m0, small1000 (by show 0 ≤ 1000; decide), ?_⟩
    have b1 : But q H (upd J1 q (.lst ([] ++ [v3]))) := (But.same b0 s1).trans (But.upd _ _ _)
    have m1 := upd_same (H := J1) (a := q) (o := .lst ([] ++ [v3]))
    generalize upd J1 q (.lst ([] ++ [v3])) = H1 at b1 m1 ⊢
    refine ⟨_, rfl, p, _, _, v4, rfl, rfl, SqL.of (b1 p _ npq hp), atI_nat (j := 4) rfl, (by show 1 ≤ 1000; decide), fun a2 na2 => ⟨a2, v4, rfl, upd_same, fun d2 nd2 ne2 => ⟨rfl, ?_⟩⟩⟩
    have nq2 : a2 ≠ q := (ne_of_none m1 na2).symm
    obtain ⟨s2, x2⟩ := flown (f := "many") (v := v4) na2 nd2 ne2
    refine ⟨a2, d2, v4, rfl, upd_same, (by rw [upd_ne ne2, upd_same]), fr0_none (But.free b1 nq2 na2), true, M7.d, fun _ e2 he2 => ?_, fun z => nomatch z⟩
    generalize delH (upd (upd (upd H1 a2 (exo a2 (ga K "NothingToUndo") none)) d2 (exd d2 [("many", v4)])) a2 (exo a2 (ga K "NothingToUndo") (some d2))) a2 = J2 at s2 x2 he2 ⊢
    refine ⟨_, rfl, .inl ⟨rfl, _, SqL.of (s2 _ _ m1)⟩, _, rfl, rfl, rfl, d2, v4, rfl, x2, q, _, _, rfl, rfl, s2 _ _ m1, small1000 (by show 1 ≤ 1000; decide), ?_⟩
    have b2 : But q H (upd J2 q (.lst ([] ++ [v3] ++ [v4]))) := (But.same b1 s2).trans (But.upd _ _ _)
    have m2 := upd_same (H := J2) (a := q) (o := .lst ([] ++ [v3] ++ [v4]))
    generalize upd J2 q (.lst ([] ++ [v3] ++ [v4])) = H2 at b2 m2 ⊢
    refine ⟨true, M7.e, fun _ e3 he3 => ?_, fun z => nomatch z⟩
    have kE := (C.ki ("InvalidEdit", [6], [5, 6]) (by decide +kernel)).1
    have kE6 : PySem.W.kitOne K (.ref (ga K "InvalidEdit")) (.ref (ga K "InvalidEdit")) = some true := by
      unfold PySem.W.kitOne
      rw [if_pos (by simp)]
    refine ⟨_, rfl, .inl ⟨rfl, _, SqL.of m2⟩, _, rfl, _, _, _, true, rfl, ClsV.own _, rfl, rfl, iE, kE6, q, _, _, rfl, rfl, m2, small1000 (by show 2 ≤ 1000; decide), ?_⟩
    have b3 : But q H (upd H2 q (.lst ([] ++ [v3] ++ [v4] ++ [V.bl true]))) := b2.trans (But.upd _ _ _)
    have m3 := upd_same (H := H2) (a := q) (o := .lst ([] ++ [v3] ++ [v4] ++ [V.bl true]))
    generalize upd H2 q (.lst ([] ++ [v3] ++ [v4] ++ [V.bl true])) = H3 at b3 m3 ⊢
    refine ⟨_, rfl, p, _, _, v2, rfl, rfl, SqL.of (b3 p _ npq hp), atI_nat (j := 2) rfl, (by show 1 ≤ 1000; decide), fun a4 na4 => ⟨a4, v2, rfl, upd_same, fun d4 nd4 ne4 => ⟨rfl, ?_⟩⟩⟩
    have nq4 : a4 ≠ q := (ne_of_none m3 na4).symm
    obtain ⟨s4, x4⟩ := flown (f := "limit") (v := v2) na4 nd4 ne4
    refine ⟨a4, d4, v2, rfl, upd_same, (by rw [upd_ne ne4, upd_same]), fr0_none (But.free b3 nq4 na4), true, M7.t, fun _ e4 he4 => ?_, fun z => nomatch z⟩
    generalize delH (upd (upd (upd H3 a4 (exo a4 (ga K "TooMany") none)) d4 (exd d4 [("limit", v2)])) a4 (exo a4 (ga K "TooMany") (some d4))) a4 = J4 at s4 x4 he4 ⊢
    refine ⟨_, rfl, .inl ⟨rfl, _, SqL.of (s4 _ _ m3)⟩, _, rfl, rfl, rfl, d4, v2, rfl, x4, q, _, _, rfl, rfl, s4 _ _ m3, small1000 (by show 3 ≤ 1000; decide), ?_⟩
    have b4 : But q H (upd J4 q (.lst ([] ++ [v3] ++ [v4] ++ [V.bl true] ++ [v2]))) := (But.same b3 s4).trans (But.upd _ _ _)
    have m4 := upd_same (H := J4) (a := q) (o := .lst ([] ++ [v3] ++ [v4] ++ [V.bl true] ++ [v2]))
    generalize upd J4 q (.lst ([] ++ [v3] ++ [v4] ++ [V.bl true] ++ [v2])) = H4 at b4 m4 ⊢
    refine ⟨_, rfl, k _ q (fun b o e => b4 b o ?_ e) m4⟩
    exact fun z => by
      rw [z, nq] at e
      cases e
end
end K00

namespace K00
open PySem PySem.Spec PyProof.Rows L2 Dr Ex Rp
open He (ga ma)
def spLaw (K : PySem.W.Frag) : Sp := fun vs H Q _ => ∃ (a : Addr) (ns : List Int), vs = [.ref a] ∧ SqL K H a (ns.map V.int) ∧ ns.length ≤ 63 ∧ ∀ H', Q (.bl true) H'
abbrev nLaw : List Str := ["_law_script", "_law_at", "_law_stream_here", "_law_turn", "_law_things_here"]
theorem scLaw : FnScope nLaw ["_law_script"] (defScope sLaw) := ⟨rfl, rfl, rfl, by decide +kernel, rfl, by decide +kernel, by decide +kernel⟩
/-- the defs of the law, each where it stands -/
structure Defs (K : PySem.W.Frag) : Prop where
  stream : ∃ fd, FnP K "_law_stream" sStream (ga K "_law_stream") fd
  draw : ∃ fd, FnP K "_law_draw" sDraw (ga K "_law_draw") fd
  pick : ∃ fd, FnP K "_law_pick" sPick (ga K "_law_pick") fd
  things : ∃ fd, FnP K "_law_things" sThings (ga K "_law_things") fd
  flags : ∃ fd, FnP K "_law_flags" sFlags (ga K "_law_flags") fd
  bases : ∃ fd, FnP K "_law_bases" sBases (ga K "_law_bases") fd
  truths : ∃ fd, FnP K "_law_truths" sTruths (ga K "_law_truths") fd
  msgs : ∃ fd, FnP K "_law_messages_right" sMsgs (ga K "_law_messages_right") fd
  vals : ∃ fd, FnP K "_law_values_right" sVals (ga K "_law_values_right") fd
  caught : ∃ fd, FnP K "_law_caught" sCaught (ga K "_law_caught") fd
  n : ∃ fd, FnM K "InvalidNumber.__init__" iN (ma K (ga K "InvalidNumber") "__init__") fd
  u : ∃ fd, FnM K "UnknownName.__init__" iU (ma K (ga K "UnknownName") "__init__") fd
  t : ∃ fd, FnM K "TooMany.__init__" iT (ma K (ga K "TooMany") "__init__") fd
  s : ∃ fd, FnM K "Unsorted.__init__" iS (ma K (ga K "Unsorted") "__init__") fd
  d : ∃ fd, FnM K "NothingToUndo.__init__" iD (ma K (ga K "NothingToUndo") "__init__") fd
section
variable {P : Program} {w : World} {K : PySem.W.Frag} {mg : Str → Option Value} {base : Heap}
theorem ok_law {f : Addr} {fd : FuncData} (F : FnP K "law" sLaw f fd) (D : Defs K) (T : TG K mg) (C : TC K) (M : TX K) (M7 : TE7 K) : FnG P w K mg base CX0 4 f fd ["_law_script"] (spLaw K) := by
  obtain ⟨fs, FS⟩ := D.stream
  obtain ⟨fw, FW⟩ := D.draw
  obtain ⟨fp, FP⟩ := D.pick
  obtain ⟨ft, FT⟩ := D.things
  obtain ⟨ff, FF⟩ := D.flags
  obtain ⟨fb, FB⟩ := D.bases
  obtain ⟨fr, FR⟩ := D.truths
  obtain ⟨fm, FM⟩ := D.msgs
  obtain ⟨fv, FV⟩ := D.vals
  obtain ⟨fc, FC⟩ := D.caught
  obtain ⟨f1, F1⟩ := D.n
  obtain ⟨f2, F2⟩ := D.u
  obtain ⟨f3, F3⟩ := D.t
  obtain ⟨f4, F4⟩ := D.s
  obtain ⟨f5, F5⟩ := D.d
  have gs := T.g "_law_stream" (by decide +kernel)
  have gw := T.g "_law_draw" (by decide +kernel)
  have gp := T.g "_law_pick" (by decide +kernel)
  have gt := T.g "_law_things" (by decide +kernel)
  have gf := T.g "_law_flags" (by decide +kernel)
  have gb := T.g "_law_bases" (by decide +kernel)
  have gr := T.g "_law_truths" (by decide +kernel)
  have gm := T.g "_law_messages_right" (by decide +kernel)
  have gv := T.g "_law_values_right" (by decide +kernel)
  have gc := T.g "_law_caught" (by decide +kernel)
  have GS : FnOk P w K mg base CX0 1 _ fs ["_law_script", "_law_at"] (spStream K) := ok_stream FS T.f
  have GP : FnOk P w K mg base CX0 2 _ fp ["_law_stream_here", "_law_items"] (spPick K) := ok_pick FP FW T.f gw
  have GT : FnOk P w K mg base CX0 3 _ ft ["_law_stream_here"] (spThings K) := ok_things FT FW FP T gw gp
  have GM : FnOk P w K mg base CX0 2 _ fm ["_law_words"] spMsgs := ok_msgs FM FF FB FR T C gf gb gr
  have GV : FnG P w K mg base CX0 3 _ fv ["_law_things_here"] (spVals K) := ok_vals FV FF FB FR F1 F2 F3 F4 F5 T C M gf gb gr
  have GC : FnOk P w K mg base CX0 3 _ fc ["_law_things_here"] spCaught := ok_caught FC F3 F4 F5 T C M M7
  have bs : Binds K fs ["_law_script", "_law_at"] [] := FS.bindsN fun _ _ _ _ _ _ us hl => match us, hl with | [_, _], _ => rfl
  have bp : Binds K fp ["_law_stream_here", "_law_items"] [] := FP.bindsN fun _ _ _ _ _ _ us hl => match us, hl with | [_, _], _ => rfl
  have bt : Binds K ft ["_law_stream_here"] [] := FT.bindsN fun _ _ _ _ _ _ us hl => match us, hl with | [_], _ => rfl
  have bm : Binds K fm ["_law_words"] [] := FM.bindsN fun _ _ _ _ _ _ us hl => match us, hl with | [_], _ => rfl
  have bv : Binds K fv ["_law_things_here"] [] := FV.bindsN fun _ _ _ _ _ _ us hl => match us, hl with | [_], _ => rfl
  have bc : Binds K fc ["_law_things_here"] [] := FC.bindsN fun _ _ _ _ _ _ us hl => match us, hl with | [_], _ => rfl
  have tr := T.f.f "range" (by decide +kernel)
  have tx := T.f.f "max" (by decide +kernel)
  have tn := T.f.f "min" (by decide +kernel)
  have tl := T.f.f "len" (by decide +kernel)
  have te := T.f.f "repr" (by decide +kernel)
  refine FunD.okG F scLaw (fun vs H Q E h => ?_) (fun cdv A outer s H vs Q E hr hg h => ?_)
  · obtain ⟨a, ns, rfl, _⟩ := h
    rfl
  · obtain ⟨a, ns, rfl, hS, hn, k⟩ := h
    have hr1 : Room 1 (A.deeper (envOfC "law" (defScope sLaw) s.heap.objs.size f cdv)) := hr.mono (by decide)
    have hr2 : Room 2 (A.deeper (envOfC "law" (defScope sLaw) s.heap.objs.size f cdv)) := hr.mono (by decide)
    refine ⟨_, PSs.nox (pss_cons (ps_for PassesOwn.never rfl (pi_range1 rfl tr (pa_cons (pe_callB (call_max2 rfl) (by rfl) tx (by decide +kernel) (pa_cons pe_int (pa_cons (pe_callB (call_min2 rfl) (by rfl) tn (by decide +kernel) (pa_cons pe_int (pa_cons (pe_callB call_len_seq (by rfl) tl PySem.boot_len (pa_cons (pv 0) pa_nil)) pa_nil))) pa_nil))) pa_nil)) (pg_name (i := 1) scLaw.nd rfl (Or.inl rfl))
        (pss_cons (ps_set (i := 2) scLaw.nd rfl (Or.inl rfl) (pe_call GS hr1 rfl gs FS.kp bs .nil pass0 (pa_cons (pv 0) (pa_cons (pv 1) pa_nil))))
        (pss_cons (ps_if (pt_not (pt_val (pe_call GM hr2 rfl gm FM.kp bm .nil pass0 (pa_cons (pe_call GP hr2 rfl gp FP.kp bp .nil pass0 (pa_cons (pv 2) (pa_cons (pe_lst (pa_cons pe_str (pa_cons pe_str (pa_cons pe_str (pa_cons pe_str (pa_cons pe_str pa_nil)))))) pa_nil))) pa_nil)))) (pss_one (ps_ret pe_bl)) pss_nil)
        (pss_one (ps_for PassesOwn.never rfl (pi_range1 rfl tr (pa_cons pe_int pa_nil)) (pg_name (i := 3) scLaw.nd rfl (Or.inl rfl))
          (pss_cons (ps_set (i := 4) scLaw.nd rfl (Or.inl rfl) (pe_call GT hr rfl gt FT.kp bt .nil pass0 (pa_cons (pv 2) pa_nil)))
          (pss_cons (ps_if (pt_not (pt_val (pe_callG GV hr hg rfl gv FV.kp bv .nil pass0 (pa_cons (pv 4) pa_nil)))) (pss_one (ps_ret pe_bl)) pss_nil)
          (pss_one (ps_if (pt_cmpR op_ne (pe_callB (call_repr_data M.sys hg hr.units) (by rfl) te (by decide +kernel) (pa_cons (pe_call GC hr rfl gc FC.kp bc .nil pass0 (pa_cons (pv 4) pa_nil)) pa_nil))
              (pe_callB (call_repr_data M.sys hg hr.units) (by rfl) te (by decide +kernel) (pa_cons (pe_lst (pa_cons (pe_ix ix_list (pv 4) pe_int (fun _ _ => rfl)) (pa_cons (pe_ix ix_list (pv 4) pe_int (fun _ _ => rfl)) (pa_cons pe_bl (pa_cons (pe_ix ix_list (pv 4) pe_int (fun _ _ => rfl)) pa_nil))))) pa_nil)) (nomark _)) (pss_one (ps_ret pe_bl)) pss_nil)))))))))
      (pss_one (ps_ret pe_bl))), ?_⟩
    refine ⟨_, rfl, a, _, rfl, .inl hS, _, _, rfl, _, _, rfl, ?_⟩
    generalize hN : (if (if ((ns.map V.int).length : Int) < 3 then ((ns.map V.int).length : Int) else 3) > 1 then (if ((ns.map V.int).length : Int) < 3 then ((ns.map V.int).length : Int) else 3) else 1) = N
    have hN1 : 1 ≤ N ∧ N ≤ 3 := by
      rw [← hN]
      split
      · split at * <;> omega
      · omega
    refine ⟨_, rfl, by omega, by omega, for_range (lo := 0) (n := N.toNat) (fun i σ H' => ∃ x y z u : Option V, σ = [some (.ref a), x, y, z, u] ∧ Same H H') ⟨none, none, none, none, rfl, Same.refl _⟩ ?_ ?_⟩
    · rintro i σ H' hi ⟨x, y, z, u, rfl, sH⟩
      refine ⟨_, rfl, _, rfl, a, ns, i, (by simp), sH.seq hS, hn, by omega, fun H1 p s1 hp0 st => ?_⟩
      have hpn : H p = none := sH.free hp0
      have np : ∀ b o, H b = some o → b ≠ p := fun b o e => ne_of_none e hpn
      refine ⟨_, rfl, (by show 5 ≤ sizeLine; decide), fun q nq => ?_⟩
      obtain ⟨_, hp1⟩ := st.some
      have sq := same_upd (o := .lst [V.str "a", .str "two words", .str "", .str "a line\nand another one", .str "none"]) nq
      refine ⟨p, q, _, 0, rfl, st.same sq, by omega, ne_of_none hp1 nq, SqL.of upd_same, by decide, by decide, fun H2 j x2 hx2 b2 s2 => ?_⟩
      refine ⟨x2, rfl, fun H3 s3 => ⟨_, rfl, ite_f rfl ?_⟩⟩
      have sA : Same H H3 := fun b o e => s3 _ _ (b2 b o (np b o e) (sq _ _ (s1 _ _ (sH _ _ e))))
      refine ⟨_, rfl, by decide, by decide, for_range (lo := 0) (n := 4) (fun j σ H' => ∃ u v : Option V, σ = [some (.ref a), some (.int (0 + (i : Int))), some (.ref p), u, v] ∧ Same H H' ∧ StrAt H' p (1 + 11 * j)) ⟨_, _, rfl, sA, s2.same s3⟩ ?_ ?_⟩
      · rintro j σ H4 hj ⟨u, v, rfl, sj, tj⟩
        refine ⟨_, rfl, p, 1 + 11 * j, rfl, tj, by omega, fun H5 q v0 v1 v2 v3 v4 b5 t5 th => ?_⟩
        refine ⟨_, rfl, q, v0, v1, v2, v3, v4, rfl, th, fun H6 s6 => ⟨_, rfl, ite_f rfl ?_⟩⟩
        obtain ⟨hq, ds, hd, hsm⟩ := th
        refine ⟨_, rfl, q, v0, v1, v2, v3, v4, rfl, s6 _ _ hq, fun H7 r s7 m7 => ?_⟩
        obtain ⟨e0, e1, e2, e3, e4, rfl⟩ : ∃ e0 e1 e2 e3 e4, ds = [e0, e1, e2, e3, e4] := by
          have hl := DtAll.len hd
          match ds, hl with
          | [e0, e1, e2, e3, e4], _ => exact ⟨_, _, _, _, _, rfl⟩
        have hd7 := Dt.sameAll (s6.trans s7) _ _ hd
        have s57 := s6.trans s7
        have hbt : Sm (.bool true) := ⟨rfl, by decide, by decide⟩
        have all4 : ∀ d, d ∈ [e3, e4, .bool true, e2] → Sm d := by
          intro d hd
          simp only [List.mem_cons, List.not_mem_nil, or_false] at hd
          rcases hd with rfl | rfl | rfl | rfl
          · exact hsm _ (by simp)
          · exact hsm _ (by simp)
          · exact hbt
          · exact hsm _ (by simp)
        obtain ⟨w1, w2, w3⟩ := sm_list all4 (by show 4 ≤ 100; decide)
        have four : ∀ {X : Hp}, Same H7 X → DtAll K X [v3, v4, .bl true, v2] [e3, e4, .bool true, e2] := by
          intro X sX
          have z := Dt.sameAll sX _ _ hd7
          cases z with
          | cons _ z => cases z with
            | cons _ z => cases z with
              | cons y2 z => cases z with
                | cons y3 z => cases z with
                  | cons y4 z => exact .cons y3 (.cons y4 (.cons (.bl true) (.cons y2 .nil)))
        refine ⟨r, _, rfl, .lst (SqL.of m7) (four (Same.refl _)), w1, w2, w3, ?_⟩
        have hq7 := s57 _ _ hq
        refine ⟨_, rfl, q, _, _, v3, rfl, rfl, SqL.of hq7, atI_nat (j := 3) rfl, ?_⟩
        refine ⟨_, rfl, q, _, _, v4, rfl, rfl, SqL.of hq7, atI_nat (j := 4) rfl, ?_⟩
        refine ⟨_, rfl, q, _, _, v2, rfl, rfl, SqL.of hq7, atI_nat (j := 2) rfl, (by show 4 ≤ sizeLine; decide), fun l nl => ?_⟩
        have sl := same_upd (o := .lst [v3, v4, .bl true, v2]) nl
        refine ⟨l, _, rfl, .lst (SqL.of upd_same) (four sl), w1, w2, w3, ?_⟩
        refine ⟨rfl, _, rfl, ite_f (by simp) ?_⟩
        refine ⟨_, _, rfl, fun b o e => ?_, ?_⟩
        · exact sl _ _ (s57 _ _ (b5 b o (np b o e) (sj _ _ e)))
        · exact ((t5.same s57).same sl).mono (by omega)
      · rintro σ H4 ⟨u, v, rfl, sj, _⟩
        exact ⟨_, _, _, _, rfl, sj⟩
    · rintro σ H' ⟨x, y, z, u, rfl, sH⟩
      exact k H'
end
end K00

namespace K00
open PySem PySem.Spec PyProof.Rows L2 Dr Ex Rp
open He (ga ma)
theorem facts {P : Program} {w : World} {K : PySem.W.Frag} {mg : Str → Option Value} {h : Heap} {f : Addr} (X : K.In h) (G : h.Ns mainGlobals mg) (hfa : mg ("law" : Str) = some (.ref f)) (c : Hx.SaysX ts fn K) :
    ∃ fd : FuncData, (∀ (s : Shared) (v : Value), BindsTo s fd ⟨[v], []⟩ [("_law_script", v)]) ∧ ∀ base : Heap, K.In base → base.Ns mainGlobals mg → FnG P w K mg base CX0 4 f fd ["_law_script"] (spLaw K) := by
  have c1 : ts K = true := c.test
  unfold ts at c1
  obtain ⟨h1, c1⟩ := He.ba c1
  obtain ⟨h2, c1⟩ := He.ba c1
  obtain ⟨h3, c1⟩ := He.ba c1
  obtain ⟨h4, c1⟩ := He.ba c1
  obtain ⟨h5, c1⟩ := He.ba c1
  obtain ⟨h6, c1⟩ := He.ba c1
  obtain ⟨h7, h8⟩ := He.ba c1
  unfold t1 at h1
  obtain ⟨h1a, h1b⟩ := He.ba h1
  have T : TG K mg := ⟨⟨fun x hx => Hx.freeB_ok X G h1b hx⟩, fun x hx => Hx.gloB_ok X G (xs := "law" :: (cn ++ ln)) h1a (List.mem_cons_of_mem _ hx)⟩
  have C : TC K := by
    refine ⟨fun x hx => Hx.icB_ok (List.all_eq_true.mp h2 x hx), fun x hx => He.ba (List.all_eq_true.mp h3 x hx), fun q hq => ?_⟩
    obtain ⟨y1, y2⟩ := He.ba (List.all_eq_true.mp h4 q hq)
    exact ⟨of_decide_eq_true y1, of_decide_eq_true y2⟩
  unfold t5 at h5
  obtain ⟨x1, h5⟩ := He.ba h5
  obtain ⟨x2, h5⟩ := He.ba h5
  obtain ⟨x3, h5⟩ := He.ba h5
  obtain ⟨x4, x5⟩ := He.ba h5
  unfold t6 at h6
  obtain ⟨v1, h6⟩ := He.ba h6
  obtain ⟨v2, h6⟩ := He.ba h6
  obtain ⟨v3, h6⟩ := He.ba h6
  obtain ⟨v4, v5⟩ := He.ba h6
  have M : TX K := ⟨Hx.xcB_ok x1, Hx.xcB_ok x2, Hx.xcB_ok x3, Hx.xcB_ok x4, Hx.xcB_ok x5, v1, v2, v3, v4, v5, Hx.sysB_ok h8⟩
  unfold t7 at h7
  obtain ⟨e1, h7⟩ := He.ba h7
  obtain ⟨e2, h7⟩ := He.ba h7
  obtain ⟨e3, h7⟩ := He.ba h7
  obtain ⟨e4, e5⟩ := He.ba h7
  have M7 : TE7 K := ⟨of_decide_eq_true e1, of_decide_eq_true e2, of_decide_eq_true e3, of_decide_eq_true e4, of_decide_eq_true e5⟩
  have D : Defs K := {
    n := c.def_ 0 rfl
    u := c.def_ 1 rfl
    t := c.def_ 2 rfl
    s := c.def_ 3 rfl
    d := c.def_ 4 rfl
    stream := c.def_ 5 rfl
    draw := c.def_ 6 rfl
    pick := c.def_ 7 rfl
    things := c.def_ 8 rfl
    flags := c.def_ 9 rfl
    bases := c.def_ 10 rfl
    truths := c.def_ 11 rfl
    msgs := c.def_ 12 rfl
    vals := c.def_ 13 rfl
    caught := c.def_ 14 rfl }
  obtain ⟨fd, F⟩ := c.def_ 15 (d := dF "law" sLaw) rfl
  have gl := Hx.gloB_ok X G (xs := "law" :: (cn ++ ln)) h1a List.mem_cons_self
  have e := hfa.symm.trans gl
  cases e
  have b := FunD.bindsA (ps := ["_law_script"]) F fun _ _ _ _ _ _ us hl => match us, hl with | [_], _ => rfl
  exact ⟨fd, fun s v => b s [v] rfl, fun base _ _ => ok_law F D T C M M7⟩
end K00
open PySem PySem.W PySem.Calls PyProof.Rows
theorem PySem.Challenge.cw_pagewise_k00_errors_holds : PySem.Challenge.rw_pagewise_k00_errors.Holds := by
  w_on; o_law
  refine HandSHeadRun.head_any (r := OpenLaw.row PySem.Challenge.rw_pagewise_k00_errors) (q := view (OpenLaw.row PySem.Challenge.rw_pagewise_k00_errors).prog [27]) (H := K00.hk) (ob := K00.ob) (M := 4000) (loose := K00.loose)
    (d := HandSHeadRun.topDef (OpenLaw.row PySem.Challenge.rw_pagewise_k00_errors).prog 27) (kwd := []) K00.ob_eq
    (by kernel_rfl) (fun s => by kernel_rfl) K00.run (by kernel_rfl) (by kernel_rfl) (by kernel_rfl) (by rfl) (by first | assumption | decide +kernel) (by decide +kernel) ⟨rfl, rfl, rfl, rfl, rfl, by decide +kernel⟩ ?hw ?hc
  case hw => w_witness2
  case hc =>
    refine Rp.walk_G (l := PySem.Challenge.rw_pagewise_k00_errors) (n := 63) (k := 4) (x := "_law_script") (CX := L2.CX0) rfl (by decide) (by kernel_rfl) ⟨rfl, by decide, by decide⟩ ?F (fun _ _ _ _ z => z)
    intro w mg fa h Y G hmg0
    obtain ⟨K, KX, c⟩ := Y
    have hmg : mg ("law" : PySem.Str) = some (.ref fa) := by
      have e : (HandSHeadRun.topDef (OpenLaw.row PySem.Challenge.rw_pagewise_k00_errors).prog 27).name = ("law" : PySem.Str) := by kernel_rfl
      rw [← e]
      exact hmg0
    obtain ⟨fd, hb, hF⟩ := K00.facts (P := (PySem.Challenge.rw_pagewise_k00_errors).prog) (w := w) KX G hmg c
    exact ⟨K, fd, K00.spLaw K, KX, hb, fun H a ns hl _ hS => ⟨a, ns, rfl, hS, hl, fun _ => rfl⟩, hF⟩
