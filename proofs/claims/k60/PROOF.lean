import PyProof.Rows.All
import Wide.All
import OpenK.AllK
import Wide.FinOn
import KE.KExcIs
import KE.KExcInit
import HandS.ForMost
import HandS.Exc
import HandS.ExcOwn
import HandS.ExcValue
import HandS.ExcInit
import HandS.IsInst
import HandS.TupAny
import HandS.More
import HandS.Defaults
import PyProof.ReprRoads
import HandS.RaiseMore
import HandS.Ends
import HandS.HeadEnd
import HandS.EndTab
import KE.KStateDown
import HandS.Head0
import HandS.Head1
import HandS.Head2
import HandS.HeadHook1
import HandS.HeadHook2
import HandS.Wide
import PyProof.ReprLen
import PyProof.CallFns
import KE.KDictKeyed
import PyProof.Rows.TupTab
import HandS.Walk
import HandS.Comp
import HandS.Lambda
import HandS.Words
import KE.SortKeyHeap
import KE.LtData
import HandS.TupSets
import KE.SortData
import HandS.Text
import HandS.Deep
import HandS.WordsDict
import HandS.Iter
import PyProof.AutoSeq1
import HandS.Flow
import HandS.Property
import HandS.Codes
import HandS.ClsMeth
import HandS.Star
import HandS.CallLocal
import HandS.DictComp
import HandS.ListItems
import KE.GoesMore
import KE.KDictCopyH
import HandS.SetBool
import HandS.Strs
import HandS.SetKeys
import HandS.SetFor
import HandS.MakeKw
import HandS.HeadHook4
import HandS.NestedK
import HandS.HeadNt
import HandS.List
import HandS.TupMul
import PyProof.NeKinds
import PyProof.FactsAll.dict_2
import PyProof.FactsAll.subtypes_4
import HandS.SortKw
import HandS.Evl
import HandS.Conv
import HandS.Zip
import HandS.Records
import HandS.Small
import KE.DataMinMax
import PyProof.TupleOfStr
import PyProof.FString5
import KE.KDictOf
import PyProof.DictDisplay
import HandS.Remove
import PyProof.SeqRoads2
import HandS.DeepEq
import PyProof.SliceStr2
import KE.KDictPairs
import KE.KDictZip
import KE.KTurns
import HandS.Zip0
import HandS.Finally
import HandS.GenYield
import HandS.GenList
import HandS.WordsExc
import HandS.FStr
import PyProof.InstSpecial
import PyProof.Rows.Range3
import PyProof.InstNe
import HandS.Style
import HandS.TryMany
import HandS.Rev
import PyProof.WalksMore
import PyProof.Rows.SumAny
import KE.KeyNested
import KE.KDictWalk
import HandS.DictTup
import HandS.Base
import HandS.NamedTupSort
import HandS.NoneIn
import PyProof.Rows.StrJoinMade
import PyProof.Rows.ReprOcc
import PySem.Challenge.RW_pagewise_k60_products
set_option Elab.async false
set_option linter.all false
set_option maxRecDepth 100000
set_option maxHeartbeats 0
/-! Own exceptions over any built-in base, as values: made by their own __init__, their fields read, asked by isinstance. -/
namespace Ex
open PySem PySem.Spec PySem.Calls PyProof.Rows L2

/-- what a built-in base tells: its mro, who makes, who fills -/
structure Base (B nid iid : String) (ml : List Value) : Prop where
  mak : ∃ (Bn inN : String) (mN : List Value), ExcBaseFacts Bn nid inN mN ∧ ml.contains (.type Bn) = true
  noA : ml.contains (.type "AttributeError") = false
  noN : ml.contains (.type "NameError") = false
  hasB : ml.contains (.type B) = true
  hasO : ml.contains (.type "object") = true
  pass : ∀ self : Value, refuseLoop self "__setattr__" ml = pure ()
  iPlain : plainId iid = true
  iEntry : entryFor table iid = some Builtin.«BaseException.__init__»
  iSplit : splitId iid = some (B, "__init__")
  iKind : builtinKind iid = some .slot
  iRow : Manifest.signature? iid = some ⟨.positional, "*", B, .self, [⟨"args", .varPos, false⟩]⟩
  star : (B != "*") = true
/-- an exception object, fresh -/
abbrev eob (C t : Addr) : Obj := { cls := .ref C, data := .fields #[.ref t, .none, .none, .none, .bool false, .none] }
section
variable {M : Model} {A : Around} {E : Value → Shared → Prop} {h : Heap} {g : Array GenState} {d : Drawn} {t : Nat} {os : OsState}
variable {nm q : Str} {C N : Addr} {bs ml : List Value} {hy : Bool} {sn : List Str} {sub : List Value} {ab : Bool} {col : Option Bool} {dd : Option Addr} {k0 k1 k2 k3 k5 : Option Value} {B nid iid Bn inN : String} {mN : List Value}
end
section
variable {prog : Program} {w : World} {A : Around} {E : Value → Shared → Prop} {R : Result → Shared → Prop} {h : Heap} {g : Array GenState} {d : Drawn} {t : Nat} {os : OsState}
variable {nm q : Str} {C N : Addr} {bs ml : List Value} {hy : Bool} {sn : List Str} {sub : List Value} {ab : Bool} {col : Option Bool} {dd : Option Addr} {k0 k1 k2 k3 k5 : Option Value} {B nid iid Bn inN : String} {mN : List Value}
end
end Ex

namespace Ex
open PySem PySem.Spec PySem.Calls PyProof.Rows L2
/-! ### the five bases -/
abbrev mlI : List Value := [.type "IndexError", .type "LookupError", .type "Exception", .type "BaseException", .type "object"]
abbrev mlK : List Value := [.type "KeyError", .type "LookupError", .type "Exception", .type "BaseException", .type "object"]
abbrev mlO : List Value := [.type "OverflowError", .type "ArithmeticError", .type "Exception", .type "BaseException", .type "object"]
abbrev mlA : List Value := [.type "ArithmeticError", .type "Exception", .type "BaseException", .type "object"]
abbrev mlL : List Value := [.type "LookupError", .type "Exception", .type "BaseException", .type "object"]
section
open Builtin Builtin.ObjectAttr
variable {prog : Program} {w : World} {A : Around} {E : Value → Shared → Prop} {R : Result → Shared → Prop} {hp : Heap} {g : Array GenState} {d : Drawn} {t : Nat} {os : OsState}
end

/-! ### what the written part says of a class with its own __init__ that keeps one field f -/
structure XC (K : PySem.W.Frag) (C : Addr) (nid : String) (ml : List Value) (f : Str) (fI : Addr) : Prop where
  cls : ∃ nm q N bs sn sub ab col dd k0 k1 k2 k3 k5, K.lookup C = some (excClassObj nm q C N bs ml true sn sub ab col dd k0 k1 k2 k3 k5 nid)
  sa : PySem.W.findIn K (.ref C) "__setattr__" = some (some (.builtin "object.__setattr__"))
  ga : PySem.W.findIn K (.ref C) "__getattribute__" = some (some (.builtin "BaseException.__getattribute__"))
  gg : PySem.W.findIn K (.ref C) "__getattr__" = some none
  noF : PySem.W.findIn K (.ref C) f = some none
  iC : PySem.W.findIn K (.ref C) "__init__" = some (some (.ref fI))
  tI : PySem.W.typeIn K (.ref fI) = some (.type "function")
  kC : PySem.W.keepIn K (.ref C) = true
  exC : PySem.W.subIn K (.ref C) (.type "BaseException") = some true
  tyC : PySem.W.typeIn K (.ref C) = some (.type "type")
  hdC : PySem.W.hasDictIn K C = true
/-- what isinstance asks of an exception class -/
structure IC (K : PySem.W.Frag) (C : Addr) : Prop where
  cl : (PySem.W.clsIn K C).isSome = true
  ga : PySem.W.findIn K (.ref C) "__getattribute__" = some (some (.builtin "BaseException.__getattribute__"))
  gg : PySem.W.findIn K (.ref C) "__getattr__" = some none
  sub : PySem.W.subIn K (.ref C) (.type "BaseException") = some true
  kl : PySem.W.findIn K (.ref C) "__class__" = some (some (.builtin "object.__class__"))
  gt : PySem.W.specialIn K (.builtin "object.__class__") "__get__" = some (some (.builtin "getset_descriptor.__get__"))
  tk : PySem.W.takesIn K (.builtin "object.__class__") = some true
  mo : PySem.W.mroIn K C (.type "object") = some true

/-- at e: an exception of the class at C that keeps v as f -/
def ExcAt (H : Hp) (e C : Addr) (f : Str) (v : V) : Prop := ∃ dx, H e = some (exo e C (some dx)) ∧ H dx = some (exd dx [(f, v)])

section
variable {X : Cx} {pins : List (Addr × Obj)} {σ : L2.St} {H : Hp} {s : Shared} {a C dx fI : Addr} {f : Str} {y : V} {u : Value} {Q : Unit → Shared → Prop} {E : Value → Shared → Prop} {A : Around} {B nid iid : String} {ml : List Value}
end
end Ex

namespace Ex
open PySem PySem.Spec PySem.Calls PyProof.Rows L2
/-! ### readings -/
/-- B.__init__(self, ..) -/
def tBI (C : Addr) (ta : TA) : TE := fun σ H Q => ta σ H fun vs H1 => ∃ (a : Addr) (ws : List V), vs = .ref a :: ws ∧ ws.length ≤ 1000 ∧ H1 a = some (exo a C none) ∧ Q .non H1
/-- self.f = e -/
def tXst (C : Addr) (f : Str) (to te : TE) : TS := fun D σ H => te σ H fun y H1 => to σ H1 fun x H2 => ∃ a : Addr, x = .ref a ∧ H2 a = some (exo a C none) ∧
  ∀ dx, H2 dx = none → dx ≠ a → D.nx σ (upd (upd H2 dx (exd dx [(f, y)])) a (exo a C (some dx)))
/-- C(e, ..), a value -/
def tXmk (C : Addr) (sp : Sp) (ta : TA) : TE := fun σ H Q => ta σ H fun vs H1 => vs.length ≤ 1000 ∧ ∀ a, H1 a = none → sp (.ref a :: vs) (upd H1 a (exo a C none)) (fun v H2 => v = .non ∧ Q (.ref a) H2) (fun _ _ _ => False)
/-- o.f of such an exception -/
def tXfld (C : Addr) (f : Str) (to : TE) : TE := fun σ H Q => to σ H fun x H1 => ∃ (a : Addr) (v : V), x = .ref a ∧ ExcAt H1 a C f v ∧ Q v H1
/-- isinstance(e, c), e an exception that is tracked -/
inductive IsEx (K : PySem.W.Frag) (H : Hp) : Addr → Addr → Prop where
  | own {a C dx : Addr} {fs : List (Str × V)} (h : H a = some (exo a C (some dx))) (hd : H dx = some (exd dx fs)) : IsEx K H a C
  | msg {a C : Addr} (h : H a = some (ExO (.ref C) a)) : IsEx K H a C
def rIE (K : PySem.W.Frag) : List V → Hp → VK → Prop := fun xs H Q => ∃ (a C : Addr) (c : V) (u : Value) (b : Bool), xs = [.ref a, c] ∧ ClsV c u ∧ IC K C ∧ IsEx K H a C ∧ PySem.W.kitOne K (.ref C) u = some b ∧ Q (.bl b) H
section
variable {X : Cx} {o e : Expr} {es : List Expr} {to te : TE} {ta : TA} {f : Str} {p p' p1 p2 pos : Pos} {C fI : Addr} {B nid iid : String} {ml : List Value}
end
end Ex

/-! Tuples whose object is known to have no dict of its own. -/
namespace Tn
open PySem PySem.Spec PySem.Calls PyProof.Rows L2
/-- a tuple with no dict -/
def SqN (K : PySem.W.Frag) (H : Hp) (a : Addr) (xs : List V) : Prop :=
  (∃ o, H a = some (.frz o (.tup xs)) ∧ o.dict = none) ∨ ∃ (o : Obj) (its : Array Value) (n : Nat), K.lookup a = some o ∧ o.cls = .type "tuple" ∧ o.dict = none ∧ o.data = .seq its n ∧ its.size ≤ sizeLine ∧ Vals xs its.toList
/-- one that the heap tells -/
def TupA (H : Hp) (a : Addr) (xs : List V) : Prop := ∃ o, H a = some (.frz o (.tup xs)) ∧ o.dict = none
section
variable {K : PySem.W.Frag} {H G : Hp} {a : Addr} {xs : List V}
theorem SqN.t (h : SqN K H a xs) : SqT K H a xs := by
  rcases h with ⟨o, h, _⟩ | ⟨o, its, n, h1, h2, _, h3, h4, h5⟩
  · exact .inl (.inr ⟨o, h⟩)
  · exact .inr ⟨o, its, n, h1, h2, h3, h4, h5⟩
end
/-- what a new tuple is handed to -/
abbrev NewT (H : Hp) (xs : List V) (Q : VK) : Prop := ∀ p o, H p = none → o.dict = none → Q (.ref p) (upd H p (.frz o (.tup xs)))
section
variable {X : Cx} {pins : List (Addr × Obj)} {σ : L2.St} {H : Hp} {s : Shared}
theorem laidN {xs : List V} {us : List Value} {Q : VK} (I : Inv X pins σ H s) (z : xs.length ≤ sizeLine) (r : Vals xs us) (q : NewT H xs Q) : EP X pins σ Q (.ref s.heap.objs.size) { s with heap := s.heap.push { cls := .type "tuple", data := .seq us.toArray } } :=
  ⟨.ref s.heap.objs.size, upd H s.heap.objs.size (.frz { cls := .type "tuple", data := .seq us.toArray } (.tup xs)), I.laid (t' := s.toks) (fun _ _ e => Heap.get?_push_of_some _ e) (Nat.le_refl _) ⟨Heap.get?_push_size _ rfl, z, us, r, IsTup.new _ _⟩, rfl, q _ _ (I.hok.fresh (Nat.le_refl _)) rfl⟩
end
section
variable {X : Cx} {t : TA} {es : List Expr} {pos : Pos}
/-- (a, b) -/
def tTupN (t : TA) : TE := fun σ H Q => t σ H fun xs H1 => xs.length ≤ sizeLine ∧ NewT H1 xs Q
theorem pe_tupN {x1} (h : PA X es t) : PE X (.Tuple es x1 pos) (tTupN t) :=
  ⟨fun pins s σ H Q I hq => wpAny_Tuple_spliced (thn (h.run pos pins s σ H _ I hq) fun us s1 ⟨xs, H1, I1, r, z, q⟩ => ⟨by rw [← r.length]; exact z, laidN I1 z r q⟩)⟩
/-- tuple(x), x a list or a tuple -/
def rTupN (K : PySem.W.Frag) : List V → Hp → VK → Prop := fun xs H Q => ∃ p ys, xs = [.ref p] ∧ ((SqL K H p ys ∧ NewT H ys Q) ∨ (SqT K H p ys ∧ Q (.ref p) H))
theorem call_tupleN : CallR X (.type "tuple") (rTupN X.K) := by
  intro pins s σ H xs us Q I r h
  obtain ⟨p, ys, rfl, h⟩ := h
  obtain ⟨u, rfl, rx⟩ := vals1 r
  cases rx
  rcases h with ⟨hq, q⟩ | ⟨hq, q⟩
  · obtain ⟨its, rv, pl, hz⟩ := I.list hq
    have hlen := rv.length
    refine call_tuple_list pl.isList (fun h' kp => ?_) (by simp only [List.size_toArray]; omega)
    have I1 : Inv X pins σ H { s with heap := h' } := I.kept (t' := s.toks) kp
    have z := laidN I1 hz rv q
    exact z
  · obtain ⟨its, _, pl, _⟩ := I.tuple hq
    exact call_tuple_same pl ⟨.ref p, H, I, rfl, q⟩
/-- t + u -/
def rCatN (K : PySem.W.Frag) : R2 := fun x y H Q => ∃ a b xs ys, x = .ref a ∧ y = .ref b ∧ SqT K H a xs ∧ SqT K H b ys ∧ xs.length + ys.length ≤ sizeLine ∧
  (xs = [] → Q (.ref b) H) ∧ (xs ≠ [] → ys = [] → Q (.ref a) H) ∧ (xs ≠ [] → ys ≠ [] → NewT H (xs ++ ys) Q)
theorem op_catN : OpR X (binaryOp .Add) (rCatN X.K) := by
  intro pins s σ H x y v u Q I rx ry h
  obtain ⟨a, b, xs, ys, rfl, rfl, ha, hb, hz, q0, q1, q2⟩ := h
  by_cases e : xs = [] ∨ ys = []
  · refine op_catA pins s σ H _ _ v u Q I rx ry ⟨a, b, xs, ys, rfl, rfl, ha, hb, hz, q0, q1, fun n1 n2 => (e.elim n1 n2).elim⟩
  · rw [not_or] at e
    cases rx
    cases ry
    obtain ⟨its, r1, p1, _⟩ := I.tuple ha
    obtain ⟨its2, r2, p2, _⟩ := I.tuple hb
    refine HT.cat_tup p1 p2 (fun z => e.1 (r1.nil_iff.mp z)) (fun z => (e.2 (r2.nil_iff.mp z)).elim) (fun _ => ?_) (by rw [← r1.length, ← r2.length]; exact hz)
    exact laidN I (by rw [List.length_append]; exact hz) (r1.append r2) (q2 e.1 e.2)
/-- t + u of two that the heap tells -/
def rCatA : R2 := fun x y H Q => ∃ a b xs ys, x = .ref a ∧ y = .ref b ∧ TupA H a xs ∧ TupA H b ys ∧ xs.length + ys.length ≤ sizeLine ∧ ∀ G p, (∀ b o, H b = some o → G b = some o) → TupA G p (xs ++ ys) → Q (.ref p) G
/-- t[lo:hi]: the whole of it is t itself -/
def rSlN (K : PySem.W.Frag) : V → Option Int → Option Int → Hp → VK → Prop := fun x lo hi H Q => ∃ a xs, x = .ref a ∧ SqT K H a xs ∧
  (HT.sIx xs.length 0 lo = 0 ∧ HT.sIx xs.length xs.length hi = xs.length → Q (.ref a) H) ∧ (¬ (HT.sIx xs.length 0 lo = 0 ∧ HT.sIx xs.length xs.length hi = xs.length) → NewT H (cutV xs lo hi) Q)
theorem sl_tupN : SlR X (rSlN X.K) := by
  intro pins s σ H x v vl vu lo hi sl Q I rx hs pl pu h
  obtain ⟨a, xs, rfl, hx, q1, q2⟩ := h
  by_cases hw : HT.sIx xs.length 0 lo = 0 ∧ HT.sIx xs.length xs.length hi = xs.length
  · exact sl_tupA pins s σ H _ v vl vu lo hi sl Q I rx hs pl pu ⟨a, xs, rfl, hx, q1, fun n => (n hw).elim⟩
  · cases rx
    obtain ⟨its, r, ht, hz⟩ := I.tuple hx
    have ln : its.toArray.size = xs.length := by rw [List.size_toArray]; exact r.length.symm
    refine ⟨"tuple", _, PyProof.Rows.slot_tuple_getitem.lookup, ht.typeIs, HT.getItem_tuple_cut ht hs pl pu (by rw [ln]; exact hw) ?_ (by rw [ln]; exact hz)⟩
    rw [ln]
    exact laidN I (Nat.le_trans (cutV_length xs lo hi) hz) ((r.drop _).take _) (q2 hw)
end
end Tn

/-! repr of data at any depth; defs that are called where no repr runs. -/
namespace Rp
open PySem PySem.Spec PySem.Calls PyProof.Rows L2
def kD : Key → PyData
  | .inl i => .int i
  | .inr x => .str x
mutual
/-- v is data, told by d: lists, tuples, dicts with int and text keys -/
inductive Dt (K : PySem.W.Frag) (H : Hp) : V → PyData → Prop
  | non : Dt K H .non .none
  | bl (b : Bool) : Dt K H (.bl b) (.bool b)
  | int (i : Int) : Dt K H (.int i) (.int i)
  | str (x : Str) : Dt K H (.str x) (.str x)
  | lstR {a : Addr} {xs : List V} {ds : List PyData} : Rd H a (.lst xs) → DtAll K H xs ds → Dt K H (.ref a) (.list ds)
  | tup {a : Addr} {xs : List V} {ds : List PyData} : Tn.SqN K H a xs → DtAll K H xs ds → Dt K H (.ref a) (.tuple ds)
  | dicR {a : Addr} {kvs : List (Key × V)} {ds : List (PyData × PyData)} : Rd H a (.dK kvs) → DtKv K H kvs ds → Dt K H (.ref a) (.dict ds)
inductive DtAll (K : PySem.W.Frag) (H : Hp) : List V → List PyData → Prop
  | nil : DtAll K H [] []
  | cons {v : V} {vs : List V} {d : PyData} {ds : List PyData} : Dt K H v d → DtAll K H vs ds → DtAll K H (v :: vs) (d :: ds)
inductive DtKv (K : PySem.W.Frag) (H : Hp) : List (Key × V) → List (PyData × PyData) → Prop
  | nil : DtKv K H [] []
  | cons {k : Key} {v : V} {kvs : List (Key × V)} {d : PyData} {ds : List (PyData × PyData)} : Dt K H v d → DtKv K H kvs ds → DtKv K H ((k, v) :: kvs) ((kD k, d) :: ds)
end
theorem Dt.lst {K : PySem.W.Frag} {H : Hp} {a : Addr} {xs : List V} {ds : List PyData} (h : H a = some (.lst xs)) (k : DtAll K H xs ds) : Dt K H (.ref a) (.list ds) := .lstR (.inl h) k
theorem Dt.dic {K : PySem.W.Frag} {H : Hp} {a : Addr} {kvs : List (Key × V)} {ds : List (PyData × PyData)} (h : H a = some (.dK kvs)) (k : DtKv K H kvs ds) : Dt K H (.ref a) (.dict ds) := .dicR (.inl h) k
/-- the written part shows the dict of the modules -/
def SysD (K : PySem.W.Frag) : Prop := ∃ o, K.lookup sysModules = some o ∧ o.cls = .type "dict"
section
variable {X : Cx} {pins : List (Addr × Obj)} {σ : L2.St} {H : Hp} {s : Shared}
theorem key_reads {h : Heap} {P : Program} {w : World} {k : Key} {v : Value} (e : (mixKind P w).is k v = true) : Reads h v (kD k) [] := by
  rcases keyIs_shape (k := k) (v := v) e with ⟨i, t, rfl, rfl⟩ | ⟨x, t, rfl, rfl⟩
  · exact Reads.int i t
  · exact Reads.str x t
mutual
theorem Dt.reads (hk : SysD X.K) (I : Inv X pins σ H s) : ∀ (d : PyData) (v : V) (u : Value), Dt X.K H v d → RelV v u → ∃ as, Reads s.heap u d as ∧ sysModules ∉ as
  | .none, _, _, h, r => by
    cases h
    cases r
    exact ⟨_, Reads.none, by simp⟩
  | .bool b, _, _, h, r => by
    cases h
    cases r
    exact ⟨_, Reads.bool b, by simp⟩
  | .int i, _, _, h, r => by
    cases h
    obtain ⟨t, rfl⟩ := r
    exact ⟨_, Reads.int i t, by simp⟩
  | .str x, _, _, h, r => by
    cases h
    obtain ⟨t, rfl⟩ := r
    exact ⟨_, Reads.str x t, by simp⟩
  | .list ds, _, _, h, r => by
    cases h with
    | lstR hs ha =>
      cases r
      obtain ⟨its, rv, ⟨o, n, ho, hc, _, hd⟩, _⟩ := I.list (.inl hs)
      obtain ⟨as, hr, hn⟩ := Dt.readsAll hk I ds _ its ha rv
      refine ⟨_, Reads.list ho hc hd hr, fun z => ?_⟩
      rcases List.mem_cons.mp z with z | z
      · obtain ⟨ob, lk, oc⟩ := hk
        have e1 := I.kIn _ _ lk
        rw [z, ho] at e1
        cases e1
        rw [hc] at oc
        exact absurd (Value.type.inj oc) (by decide)
      · exact hn z
  | .tuple ds, _, _, h, r => by
    cases h with
    | tup hs ha =>
      cases r
      obtain ⟨its, rv, ⟨o, ho, hc, n, hd⟩, _⟩ := I.tuple hs.t
      obtain ⟨as, hr, hn⟩ := Dt.readsAll hk I ds _ its ha rv
      exact ⟨_, Reads.tuple ho hc hd hr, hn⟩
  | .dict ds, _, _, h, r => by
    cases h with
    | @dicR a kvs _ hs ha =>
      cases r
      obtain ⟨_, hsy, vs, rk, o, es, ep, ho, hx, hd, _, hp, _⟩ := dk_rd I.hok hs
      obtain ⟨as, bs, h1, h2, n1, n2⟩ := Dt.readsKv hk I ds kvs vs es.toList ha rk hp
      refine ⟨_, Reads.dict ho hx.1 hd h1 h2, fun z => ?_⟩
      rcases List.mem_append.mp z with z | z
      · rcases List.mem_cons.mp z with z | z
        · rw [← z] at hsy
          simp at hsy
        · exact n1 z
      · exact n2 z
theorem Dt.readsAll (hk : SysD X.K) (I : Inv X pins σ H s) : ∀ (ds : List PyData) (vs : List V) (us : List Value), DtAll X.K H vs ds → Vals vs us → ∃ as, ReadsAll s.heap us ds as ∧ sysModules ∉ as
  | [], _, _, h, r => by
    cases h
    cases r
    exact ⟨_, ReadsAll.nil, by simp⟩
  | d :: ds, _, _, h, r => by
    cases h with
    | cons h1 h2 =>
      cases r with
      | cons r1 r2 =>
        obtain ⟨as, q1, n1⟩ := Dt.reads hk I d _ _ h1 r1
        obtain ⟨bs, q2, n2⟩ := Dt.readsAll hk I ds _ _ h2 r2
        exact ⟨_, ReadsAll.cons q1 q2, fun z => (List.mem_append.mp z).elim n1 n2⟩
theorem Dt.readsKv (hk : SysD X.K) (I : Inv X pins σ H s) : ∀ (ds : List (PyData × PyData)) (kvs : List (Key × V)) (vs : List (Key × Value)) (es : List DictEntry), DtKv X.K H kvs ds → KV kvs vs → Pairs (mixKind X.prog X.w) es vs →
    ∃ as bs, ReadsAll s.heap (es.map (·.key)) (ds.map (·.1)) as ∧ ReadsAll s.heap (es.map (·.val)) (ds.map (·.2)) bs ∧ sysModules ∉ as ∧ sysModules ∉ bs
  | [], _, _, _, h, r, p => by
    cases h
    cases r
    cases p
    exact ⟨_, _, ReadsAll.nil, ReadsAll.nil, by simp, by simp⟩
  | (kd, d) :: ds, _, _, _, h, r, p => by
    cases h with
    | cons h1 h2 =>
      cases r with
      | cons r1 r2 =>
        cases p with
        | cons p1 p2 p3 =>
          obtain ⟨e1, rv⟩ := r1
          obtain ⟨as, q1, n1⟩ := Dt.reads hk I d _ _ h1 rv
          obtain ⟨as', bs', q2, q3, n2, n3⟩ := Dt.readsKv hk I ds _ _ _ h2 r2 p3
          rw [← p2] at q1
          have e1' := e1
          dsimp only at e1'
          rw [← e1'] at p1
          exact ⟨_, _, ReadsAll.cons (key_reads p1) q2, ReadsAll.cons q1 q3, fun z => (List.mem_append.mp z).elim (by simp) n2, fun z => (List.mem_append.mp z).elim n1 n3⟩
end
/-- repr(x), x a list, a tuple or a dict -/
def rRep (K : PySem.W.Frag) : List V → Hp → VK → Prop := fun xs H Q => ∃ (a : Addr) (d : PyData), xs = [.ref a] ∧ Dt K H (.ref a) d ∧ d.showable = true ∧ d.depth ≤ 60 ∧ d.shown.length ≤ sizeLine ∧ Q (.str d.shown) H
theorem call_repr_data (hk : SysD X.K) (hg : X.A.guards = some []) (hu : X.A.units + 64 < cLine) : CallR X (.builtin "repr") (rRep X.K) := by
  intro pins s σ H xs us Q I r h
  obtain ⟨a, d, rfl, hd, hs, hdep, hz, q⟩ := h
  obtain ⟨u, rfl, hr⟩ := vals1 r
  obtain rfl : u = Value.ref a := hr
  obtain ⟨as, rd, hn⟩ := Dt.reads hk I d _ _ hd rfl
  exact repr_of_reads' rd hs (fun _ => hn) hg (by omega) (fun _ _ e => e) (fun h' u tk k => ⟨.str _, H, I.kept (t' := tk) k, ⟨u, rfl⟩, q⟩) hz
end
end Rp

namespace Rp
open PySem PySem.Spec PySem.Calls PyProof.Rows L2
/-- a def's promise, where no repr runs around the call -/
structure FnG (P : Program) (w : World) (K : PySem.W.Frag) (mg : Str → Option Value) (base : Heap) (CX : CXT) (k : Nat) (f : Addr) (fd : FuncData) (ps : List Str) (sp : Sp) : Prop where
  len : ∀ vs H Q E, sp vs H Q E → vs.length = ps.length
  run : ∀ (A : Around) (outer : List Env) (s : Shared) (H : Hp) (args : Args) (us : List Value) (vs : List V) (Q : VK) (E : XK), Room k A → A.guards = some [] →
    Env0 P w K mg base A outer s H → BindsTo s fd args (ps.zip us) → Vals vs us → sp vs H Q E → codeAny (model P w) A (.call (.ref f) args) (CR CX outer P w H s Q E) s
theorem fng_of {CX : CXT} {P : Program} {w : World} {K : PySem.W.Frag} {mg : Str → Option Value} {base : Heap} {k : Nat} {f : Addr} {name qual : Str} {params : Arguments} {body : List Stmt} {scope : Scope} {dV kV doc pm cdv ct oc : Value} {an od : Option Addr}
    {osl : Array (Option Value)} {N ps : List Str} {sp : Sp} (lk : K.lookup f = some ⟨oc, od, .func (PySem.W.fnOf name qual params body scope dV kV doc pm an cdv ct), osl⟩) (hcd : PySem.W.codeIn K cdv qual = true) (S : FnScope N ps scope)
    (len : ∀ vs H Q E, sp vs H Q E → vs.length = ps.length)
    (hb : ∀ (A : Around) (outer : List Env) (s : Shared) (H : Hp) (vs : List V) (Q : VK) (E : XK), Room k (A.deeper (envOfC qual scope s.heap.objs.size f cdv)) → (A.deeper (envOfC qual scope s.heap.objs.size f cdv)).guards = some [] → sp vs H Q E →
      ∃ t, PSs (cxOf CX P w K mg base N qual scope f cdv A outer s H E) body t ∧ t { nx := fun _ H' => Q .non H', rt := Q } (start N vs) H) :
    FnG P w K mg base CX (k + 1) f (PySem.W.fnOf name qual params body scope dV kV doc pm an cdv ct) ps sp := by
  refine ⟨len, fun A outer s H args us vs Q E hr hgd e0 bd r hsp => ?_⟩
  have hl := len _ _ _ _ hsp
  have kx : K.In s.heap := e0.mod.kin.keeps fun b o e => (e0.bs b o e).1
  have nl : s.heap.NoLimit := e0.mod.nolimit.keeps fun b o e => (e0.bs b o e).1
  have kd : ∀ y ∈ ps.zip us, scope.names.lookup y.1 = some .local ∨ (scope.names.lookup y.1 = some .cell ∧ ((cellsFrom (s.heap.objs.size + 1) scope.names []).lookup y.1).isSome = true) := by
    intro ⟨n, v⟩ hy
    rcases S.par n (List.of_mem_zip hy).1 with q | q
    · exact .inl q
    · exact .inr ⟨q, PySem.W.cellsFrom_some _ _ _ (.inl q)⟩
  refine codeAny_call_function hr.depth (kx _ _ lk) rfl S.co S.gen rfl (PySem.W.codeRec_of kx hcd) (bd _ _ _ _ ?_)
  refine wpAny_newFunctionEnv_cells S.kind kd fun env he s1 x => ?_
  subst he
  refine ⟨nl.keeps x.toInCall.keep, codeAny_func ?_⟩
  obtain ⟨t, ht, hq⟩ := hb A outer s H vs Q E (hr.deeper _) hgd hsp
  have I : Inv (cxOf CX P w K mg base N qual scope f cdv A outer s H E) [] (start N vs) H s1 := inv_start S hr.hd e0 hl r x
  refine wpAny_mono (ht.run [] s1 (start N vs) H _ I hq) (fun fl s' hs => ?_) fun e s' hs => hs
  have out : ∀ {σ' : L2.St} {H' : Hp} {v : V} {u : Value}, Inv (cxOf CX P w K mg base N qual scope f cdv A outer s H E) [] σ' H' s' → RelV v u → Q v H' → CE outer P w H s Q u s' :=
    fun {σ' H' v u} J rv q => ⟨v, H', J.os, J.bare, J.base, J.hok, rv, q⟩
  cases fl with
  | ret u =>
    obtain ⟨v, σ', H', J, rv, q⟩ := hs
    exact out J rv q
  | next =>
    obtain ⟨σ', H', J, q⟩ := hs
    exact out (v := V.non) (u := Value.none) J rfl q
  | brk =>
    obtain ⟨_, _, _, q⟩ := hs
    exact q.elim
  | cont =>
    obtain ⟨_, _, _, q⟩ := hs
    exact q.elim
section
variable {P : Program} {w : World} {K : PySem.W.Frag} {mg : Str → Option Value} {base : Heap} {x qual : Str} {params : Arguments} {body : List Stmt} {scope : Scope} {dvs : List V} {kws : List (Str × V)} {f : Addr} {fd : FuncData}
theorem FunD.okG {CX : CXT} {N ps : List Str} {k : Nat} {sp : Sp} (F : FunD K x qual params body scope dvs kws f fd) (S : FnScope N ps scope) (len : ∀ vs H Q E, sp vs H Q E → vs.length = ps.length)
    (hb : ∀ (cdv : Value) (A : Around) (outer : List Env) (s : Shared) (H : Hp) (vs : List V) (Q : VK) (E : XK), Room k (A.deeper (envOfC qual scope s.heap.objs.size f cdv)) → (A.deeper (envOfC qual scope s.heap.objs.size f cdv)).guards = some [] → sp vs H Q E →
      ∃ t, PSs (cxOf CX P w K mg base N qual scope f cdv A outer s H E) body t ∧ t { nx := fun _ H' => Q .non H', rt := Q } (start N vs) H) : FnG P w K mg base CX (k + 1) f fd ps sp := by
  obtain ⟨oc, od, dV, kV, doc, pm, an, cdv, ct, osl, rfl, lk, hcd, _, _⟩ := F.ex
  exact fng_of lk hcd S len fun A outer s H vs Q E hr hg hsp => hb cdv A outer s H vs Q E hr hg hsp
end
section
variable {X : Cx} {pins : List (Addr × Obj)} {σ : L2.St} {H : Hp} {s : Shared} {CX : CXT} {k : Nat} {f : Addr} {fd : FuncData} {ps : List Str} {sp : Sp} {E : XK} {x : Str} {p pos : Pos} {e : Expr} {es : List Expr} {t : TA} {ds : List Value} {dvs : List V}
theorem run_fng {Q : VK} {us : List Value} {vs : List V} (F : FnG X.prog X.w X.K X.mg X.base CX k f fd ps sp) (hr : Room k X.A) (hg : X.A.guards = some []) (hb : Binds X.K fd ps ds) (hd : Vals dvs ds) (hx : Passes CX X E)
    (I : Inv X pins σ H s) (r : Vals vs us) (h : sp (vs ++ dvs) H Q E) : wpAny (model X.prog X.w) X.A (call (.ref f) us) (EP X pins σ Q) X.xe s := by
  have r2 : Vals (vs ++ dvs) (us ++ ds) := r.append hd
  have hl : (us ++ ds).length = ps.length := by
    rw [← r2.length]
    exact F.len _ _ _ _ h
  refine wpAny_call (codeAny_mono (F.run X.A X.stack s H ⟨us, []⟩ (us ++ ds) (vs ++ dvs) Q E hr hg I.env0 (hb s us I.kIn hl) r2 h) fun r s' hq => ?_)
  cases r with
  | error e => exact hx pins σ H s e s' I hq
  | ok fl =>
    cases fl with
    | ret u => exact I.after hq
    | next => exact hq.elim
    | brk => exact hq.elim
    | cont => exact hq.elim
theorem pe_callG (F : FnG X.prog X.w X.K X.mg X.base CX k f fd ps sp) (hr : Room k X.A) (hgd : X.A.guards = some []) (hg : Gl X x) (hm : X.mg x = some (.ref f)) (hk : PySem.W.keepIn X.K (.ref f) = true) (hb : Binds X.K fd ps ds) (hd : Vals dvs ds) (hx : Passes CX X E)
    (ha : PA X (e :: es) t) (hdb : (x == ("__debug__" : Str)) = false := by decide) (he : starEach (e :: es) X.env = (false, eval e X.env) :: starEach es X.env := by rfl) (hpl : (backTo pos (starEach es X.env)).any (·.1) = false := by rfl) :
    PE X (.Call (.Name x p) (e :: es) [] pos) (tCall sp dvs E t) := by
  refine ⟨fun pins s σ H Q I h => ?_⟩
  refine wpAny_Call_Name_kw (ld_glob I hg hm ?_ hdb)
  refine PySem.W.callWith_K (h₀ := X.base) I.ok.mod.kin hk (thn (ha.run pos pins s σ H _ I h) fun us s1 h1 => ?_) he hpl
  obtain ⟨vs, H1, I1, r, q⟩ := h1
  exact ⟨I1.kIn, run_fng F hr hgd hb hd hx I1 r q⟩
end
end Rp

namespace Rp
open PySem PySem.Spec PySem.Calls PyProof.Rows L2
/-- the law's call, from a promise that wants no repr around -/
theorem law_callG {P : Program} {w : World} {K : PySem.W.Frag} {mg mb : Str → Option Value} {CX : CXT} {k : Nat} {fa a : Addr} {fd : FuncData} {x : Str} {sp : Sp} {s1 : Shared} {vs : List Value} {ns : List Int}
    (kx : K.In s1.heap) (hns : s1.heap.Ns mainGlobals mg) (hb : s1.heap.Ns builtinsNs mb) (hbb : ∀ x : Str, x ≠ "__name__" → mb x = bootBuiltins x) (nl : s1.heap.NoLimit) (hg : s1.gens = #[])
    (ha : s1.heap.get? a = some { cls := .type "list", data := .seq vs.toArray }) (hi : IntsAre vs ns) (hl : ns.length ≤ sizeLine) (hr : Room k callerA)
    (F : ∀ base : Heap, K.In base → base.Ns mainGlobals mg → FnG P w K mg base CX k fa fd [x] sp) (bd : ∀ (s : Shared) (u : Value), BindsTo s fd ⟨[u], []⟩ [(x, u)])
    (hsp : ∀ H : Hp, Only H → SqL K H a (ns.map V.int) → sp [.ref a] H (fun v _ => v = .bl true) fun _ _ _ => False)
    (hx : ∀ H e s', CX [] H s1 (fun _ _ _ => False) e s' → False) :
    codeAny (model P w) callerA (.call (.ref fa) ⟨[.ref a], []⟩) (fun r s' => r = .ok (.ret (.bool true)) ∧ OldK s1.heap s'.heap ∧ s'.os = s1.os ∧ AllBare s'.gens) s1 := by
  have rv := vals_ints hi
  have ln := hi.length
  have core : ∀ H : Hp, Only H → SqL K H a (ns.map V.int) → HOk P w H s1.heap → (∀ b, H b ≠ none → b = a) → (H a ≠ none → K.lookup a = none) →
      codeAny (model P w) callerA (.call (.ref fa) ⟨[.ref a], []⟩) (fun r s' => r = .ok (.ret (.bool true)) ∧ OldK s1.heap s'.heap ∧ s'.os = s1.os ∧ AllBare s'.gens) s1 := by
    intro H hO hS hok hA hK
    have base_of : ∀ {b : Addr} {o : Obj}, s1.heap.get? b = some o → H b = none → (hidT s1.heap H).get? b = some o :=
      fun e n => hidT_get e n
    have noA : ∀ {b : Addr} {o : Obj} {es : Array DictEntry} {ep : Nat}, s1.heap.get? b = some o → o.data = .dict es ep → H b = none := by
      intro b o es ep e d
      cases q : H b with
      | none => rfl
      | some u =>
        have e' : b = a := hA b (by rw [q]; simp)
        subst e'
        rw [ha] at e
        cases e
        have d' : Data.seq vs.toArray _ = Data.dict es ep := d
        cases d'
    have nsK : ∀ {b : Addr} {m : Str → Option Value}, s1.heap.Ns b m → (hidT s1.heap H).Ns b m := by
      rintro b m ⟨o, es, ep, e, d, r⟩
      exact ⟨o, es, ep, base_of e (noA e d), d, r⟩
    have hKb : K.In (hidT s1.heap H) := by
      intro b o e
      refine base_of (kx b o e) ?_
      cases q : H b with
      | none => rfl
      | some u =>
        have e' : b = a := hA b (by rw [q]; simp)
        subst e'
        rw [hK (by rw [q]; simp)] at e
        cases e
    have hM : Mod K mg (hidT s1.heap H) := by
      obtain ⟨mc, h1, h2⟩ := nl
      exact ⟨hKb, nsK hns, ⟨mb, nsK hb, hbb⟩, ⟨mc, nsK h1, h2⟩⟩
    have e0 : Env0 P w K mg (hidT s1.heap H) callerA [] s1 H :=
      ⟨rfl, hM, fun b o e => of_hidT e, Nat.le_of_eq (hidT_size _ _), trivial, fun b hb => absurd (show b ∈ ([] : List Addr) from hb) (by simp), hok, .of_eq hg⟩
    refine codeAny_mono ((F _ hKb (nsK hns)).run callerA [] s1 H ⟨[.ref a], []⟩ [.ref a] [.ref a] _ _ hr rfl e0 (bd s1 (.ref a)) (.cons rfl .nil) (hsp H hO hS)) fun r s' h => ?_
    cases r with
    | error e => exact (hx H e s' h).elim
    | ok fl =>
      cases fl with
      | next => exact h.elim
      | brk => exact h.elim
      | cont => exact h.elim
      | ret u =>
        obtain ⟨v, H', os, bare, un, hok', r', q⟩ := h
        have q' : v = .bl true := q
        subst q'
        obtain rfl : u = Value.bool true := r'
        refine ⟨rfl, OldK.of_keep fun b o e => ?_, os, bare⟩
        cases q : H b with
        | none => exact un.keep b o e q (by intro z; exact absurd (show b ∈ ([] : List Addr) from z) (by simp)) (by simp)
        | some u =>
          rcases hO b with z | ⟨ob, xs, z⟩
          · rw [q] at z
            cases z
          · have z2 := un.frzs b ob _ z
            obtain ⟨e1, _⟩ := hok b _ z
            obtain ⟨e2, _⟩ := hok' b _ z2
            rw [e] at e1
            cases e1
            exact e2
  cases hk : K.lookup a with
  | some o =>
    have e := kx a o hk
    rw [ha] at e
    cases e
    refine core (fun _ => none) (fun _ => .inl rfl) ?_ (fun b u z => ?_) (fun b z => absurd rfl z) fun z => absurd rfl z
    · exact .inr ⟨_, vs.toArray, _, hk, rfl, rfl, rfl, by rw [List.size_toArray, ln]; exact hl, by simpa using rv⟩
    · have z' : (none : Option HO) = some u := z
      cases z'
  | none =>
    refine core (fun b => if b = a then some (.frz { cls := .type "list", data := .seq vs.toArray } (.lst (ns.map V.int))) else none)
      (fun b => ?_) (.inl (.inr ⟨{ cls := .type "list", data := .seq vs.toArray }, if_pos rfl⟩)) (fun b u z => ?_) (fun b z => ?_) fun _ => hk
    · by_cases hb : b = a
      · exact .inr ⟨_, _, if_pos hb⟩
      · exact .inl (if_neg hb)
    · by_cases hb : b = a
      · have z' := (if_pos hb).symm.trans z
        cases z'
        subst hb
        exact ⟨ha, by rw [List.length_map]; exact hl, vs, _, rv, ha⟩
      · have z' := (if_neg hb).symm.trans z
        cases z'
    · by_cases hb : b = a
      · exact hb
      · exact absurd (if_neg hb) z
/-- a law over a head by facts, its promise wanting no repr around -/
theorem walk_G {l : PySem.W.OpenLaw} {n k : Nat} {q : Program} {loose : List Str} {XP : (Str → Option Value) → Heap → Prop} {YP : World → Heap → Prop} {d : DefRec} {CX : CXT} {x : Str}
    (hn : l.most = some n) (hn2 : n ≤ sizeLine) (hdf : d.params.defaults = []) (hr : Room k callerA)
    (F : ∀ (w : World) (mg : Str → Option Value) (fa : Addr) (h : Heap), YP w h → h.Ns mainGlobals mg → mg d.name = some (.ref fa) →
      ∃ (K : PySem.W.Frag) (fd : FuncData) (sp : Sp), K.In h ∧ (∀ (s : Shared) (u : Value), BindsTo s fd ⟨[u], []⟩ [(x, u)]) ∧
        (∀ (H : Hp) (a : Addr) (ns : List Int), ns.length ≤ n → Only H → SqL K H a (ns.map V.int) → sp [.ref a] H (fun v _ => v = .bl true) fun _ _ _ => False) ∧
        ∀ base : Heap, K.In base → base.Ns mainGlobals mg → FnG l.prog w K mg base CX k fa fd [x] sp)
    (hx : ∀ (H : Hp) (s : Shared) (e : Value) (s' : Shared), CX [] H s (fun _ _ _ => False) e s' → False) :
    PySem.W.WalkO q loose XP YP l.row.toRowW d [] (fun f vs => PySem.call f vs) := by
  refine Att.attach_call hn hdf fun w s₀ s1 mg mb fa o pm cd doc a vs ns G Y ho hd hcd hmg hobj hints hlen hg => ?_
  obtain ⟨K, fd, sp, kx, hb, hsp, hF⟩ := F w mg fa _ Y G.T.g hmg
  exact law_callG kx G.T.g G.T.b G.T.builtins G.T.nolimit hg hobj hints (Nat.le_trans hlen hn2) hr hF hb
    (fun H hO hS => hsp H a ns hlen hO hS) fun H e s' => hx H s1 e s'
end Rp

/-! The end of a law that makes lambdas, its promise wanting no repr around. -/
namespace Rp
open PySem PySem.Spec PySem.Calls PyProof.Rows L2
open LamX (TabB)
abbrev oTab : Obj := { cls := .none, data := .fields #[] }
/-- the abstract heap where the law begins: the script (if it is not written), the tables -/
def H0T (T : List Addr) (a : Addr) (so : Option HO) : Hp := fun b => if b = a then so else if b ∈ T then some (.tbl #[]) else none
end Rp

/-! The head's facts by tests of one's own. -/
namespace Hx
open PySem PySem.Spec PyProof.Rows L2
open He (ga ma)
/-- from the module's names and the dict of the modules -/
def asX (g : Addr → Option Obj) : Nat → List Addr
  | 0 => [mainGlobals, sysModules]
  | n + 1 => He.growD g (asX g n)
def obsX (ts : PySem.W.Frag → Bool) (fn : List He.DefD) (K : PySem.W.Frag) : He.AlD := (ts K && fn.all fun d => d.ok K, fn.map fun d => He.fnW K d.at_)
def SaysX (ts : PySem.W.Frag → Bool) (fn : List He.DefD) (K : PySem.W.Frag) : Prop := obsX ts fn K = He.valD fn
def obsXG (n : Nat) (ts : PySem.W.Frag → Bool) (fn : List He.DefD) (g : Addr → Option Obj) : He.AlD := obsX ts fn (He.frG g (asX g n))
def hookX (n : Nat) (ts : PySem.W.Frag → Bool) (fn : List He.DefD) : PySem.W.Hook where
  α := He.AlD
  obs := fun s => obsXG n ts fn s.heap.get?
  val := fun _ => He.valD fn
  says := fun _ h => ∃ K : PySem.W.Frag, K.In h ∧ SaysX ts fn K
  of := fun _ _ e => ⟨_, He.frG_in, e⟩
  keeps := fun _ _ _ ⟨K, hK, c⟩ k => ⟨K, PySem.W.Frag.In.keeps hK k, c⟩
section
variable {ts : PySem.W.Frag → Bool} {fn : List He.DefD} {K : PySem.W.Frag}
end
/-! ### tests -/
def eqF (K : PySem.W.Frag) (C : Addr) (f : Str) (v : Option Value) : Bool := decide (PySem.W.findIn K (.ref C) f = some v)
/-- the class named x: an exception class whose instances isinstance may be asked of -/
def icB (K : PySem.W.Frag) (x : Str) : Bool :=
  (PySem.W.clsIn K (ga K x)).isSome && (eqF K (ga K x) "__getattribute__" (some (.builtin "BaseException.__getattribute__")) && (eqF K (ga K x) "__getattr__" none && (decide (PySem.W.subIn K (.ref (ga K x)) (.type "BaseException") = some true) &&
    (eqF K (ga K x) "__class__" (some (.builtin "object.__class__")) && (decide (PySem.W.specialIn K (.builtin "object.__class__") "__get__" = some (some (.builtin "getset_descriptor.__get__"))) &&
      (decide (PySem.W.takesIn K (.builtin "object.__class__") = some true) && decide (PySem.W.mroIn K (ga K x) (.type "object") = some true)))))))
/-- the class object at C: its mro, its maker -/
def clsB (K : PySem.W.Frag) (C : Addr) (nid : String) (ml : List Value) : Bool := match K.lookup C with
  | some ⟨.type "type", _, .cls cd, sl⟩ => (match sl.toList with
    | [_, _, _, _, some (.builtin n), _] => decide (cd.mro = .ref C :: ml) && (n == nid && (!cd.hasDel && cd.hasDict))
    | _ => false)
  | _ => false
/-- the class named x, with its own __init__, that keeps f -/
def xcB (K : PySem.W.Frag) (x : Str) (nid : String) (ml : List Value) (f : Str) : Bool :=
  clsB K (ga K x) nid ml && (eqF K (ga K x) "__setattr__" (some (.builtin "object.__setattr__")) && (eqF K (ga K x) "__getattribute__" (some (.builtin "BaseException.__getattribute__")) && (eqF K (ga K x) "__getattr__" none && (eqF K (ga K x) f none &&
    (eqF K (ga K x) "__init__" (some (.ref (ma K (ga K x) "__init__"))) && (decide (PySem.W.typeIn K (.ref (ma K (ga K x) "__init__")) = some (.type "function")) && (PySem.W.keepIn K (.ref (ga K x)) &&
      (decide (PySem.W.subIn K (.ref (ga K x)) (.type "BaseException") = some true) && (decide (PySem.W.typeIn K (.ref (ga K x)) = some (.type "type")) && PySem.W.hasDictIn K (ga K x))))))))))
def gloB (K : PySem.W.Frag) (xs : List Str) : Bool := xs.all fun x => (He.Fa.glo x).ok K
def freeB (K : PySem.W.Frag) (xs : List Str) : Bool := xs.all fun x => (He.Fa.free x).ok K
theorem gloB_ok {K : PySem.W.Frag} {h : Heap} {mg : Str → Option Value} (X : K.In h) (G : h.Ns mainGlobals mg) {xs : List Str} (c : gloB K xs = true) {x : Str} (hx : x ∈ xs) : mg x = some (.ref (ga K x)) :=
  He.glo_ok X G (List.all_eq_true.mp c x hx)
theorem freeB_ok {K : PySem.W.Frag} {h : Heap} {mg : Str → Option Value} (X : K.In h) (G : h.Ns mainGlobals mg) {xs : List Str} (c : freeB K xs = true) {x : Str} (hx : x ∈ xs) : mg x = none :=
  He.free_ok X G (List.all_eq_true.mp c x hx)
def sysB (K : PySem.W.Frag) : Bool := match K.lookup sysModules with
  | some o => decide (o.cls = .type "dict")
  | none => false
theorem sysB_ok {K : PySem.W.Frag} (h : sysB K = true) : Rp.SysD K := by
  unfold sysB at h
  split at h
  · rename_i o ho
    exact ⟨o, ho, of_decide_eq_true h⟩
  · cases h
end Hx

namespace Rp
open PySem PySem.Spec PyProof.Rows L2
end Rp

namespace Rp
open PySem PySem.Spec PyProof.Rows L2 Ex
theorem sqt_same {K : PySem.W.Frag} {H H' : Hp} {a : Addr} {xs : List V} (e : Same H H') (h : SqT K H a xs) : SqT K H' a xs := by
  rcases h with (h | ⟨o, h⟩) | h
  · exact .inl (.inl (e _ _ h))
  · exact .inl (.inr ⟨o, e _ _ h⟩)
  · exact .inr h
theorem sqn_same {K : PySem.W.Frag} {H H' : Hp} {a : Addr} {xs : List V} (e : Same H H') (h : Tn.SqN K H a xs) : Tn.SqN K H' a xs := by
  rcases h with ⟨o, h, n⟩ | h
  · exact .inl ⟨o, e _ _ h, n⟩
  · exact .inr h
mutual
/-- data stays data where nothing tracked is lost -/
theorem Dt.same {K : PySem.W.Frag} {H H' : Hp} (s : Same H H') : ∀ (d : PyData) (v : V), Dt K H v d → Dt K H' v d
  | .none, _, h => by cases h; exact .non
  | .bool b, _, h => by cases h; exact .bl b
  | .int i, _, h => by cases h; exact .int i
  | .str x, _, h => by cases h; exact .str x
  | .list ds, _, h => by
    cases h with
    | lstR h1 h2 => exact .lstR (h1.imp (s _ _) fun ⟨o, q⟩ => ⟨o, s _ _ q⟩) (Dt.sameAll s ds _ h2)
  | .tuple ds, _, h => by
    cases h with
    | tup h1 h2 => exact .tup (sqn_same s h1) (Dt.sameAll s ds _ h2)
  | .dict ds, _, h => by
    cases h with
    | dicR h1 h2 => exact .dicR (h1.imp (s _ _) fun ⟨o, q⟩ => ⟨o, s _ _ q⟩) (Dt.sameKv s ds _ h2)
theorem Dt.sameAll {K : PySem.W.Frag} {H H' : Hp} (s : Same H H') : ∀ (ds : List PyData) (vs : List V), DtAll K H vs ds → DtAll K H' vs ds
  | [], _, h => by cases h; exact .nil
  | d :: ds, _, h => by
    cases h with
    | cons h1 h2 => exact .cons (Dt.same s d _ h1) (Dt.sameAll s ds _ h2)
theorem Dt.sameKv {K : PySem.W.Frag} {H H' : Hp} (s : Same H H') : ∀ (ds : List (PyData × PyData)) (kvs : List (Key × V)), DtKv K H kvs ds → DtKv K H' kvs ds
  | [], _, h => by cases h; exact .nil
  | (k, d) :: ds, _, h => by
    cases h with
    | cons h1 h2 => exact .cons (Dt.same s d _ h1) (Dt.sameKv s ds _ h2)
end
end Rp

/-! The streams of draws: what a stream holds, what each draw leaves. -/
namespace Dr
open PySem PySem.Spec PyProof.Rows L2
/-- a power whose size stays below the line -/
theorem op_powW {X : Cx} : OpR X (binaryOp .Pow) (rI (fun i j => 0 ≤ j ∧ (Builtin.Int.intBits i : Int) * j ≤ 2 ^ 27) fun i j => .int (i ^ j.toNat)) :=
  opI fun _ _ _ _ _ _ _ hc q => pow_int hc.1 hc.2 q
/-- all but p is as it was -/
def But (p : Addr) (H H' : Hp) : Prop := ∀ b o, b ≠ p → H b = some o → H' b = some o
theorem But.upd (p : Addr) (H : Hp) (o : HO) : But p H (upd H p o) := fun b u n h => by
  rw [upd_ne n]
  exact h
/-- at p: a stream, at most m draws behind its first digits -/
def StrAt (H : Hp) (p : Addr) (_m : Nat) : Prop := ∃ a b c : Int, H p = some (.lst [.int a, .int b, .int c]) ∧ 0 ≤ a ∧ a.natAbs < 2 ^ 2000 ∧ 0 ≤ b ∧ b < 2147483648 ∧ 0 ≤ c
theorem StrAt.keep {H H' : Hp} {p : Addr} {m : Nat} (s : StrAt H p m) (h : ∀ o, H p = some o → H' p = some o) : StrAt H' p m := by
  obtain ⟨a, b, c, h1, r⟩ := s
  exact ⟨a, b, c, h _ h1, r⟩
theorem StrAt.same {H H' : Hp} {p : Addr} {m : Nat} (s : StrAt H p m) (h : Same H H') : StrAt H' p m := s.keep fun o => h p o
theorem StrAt.some {H : Hp} {p : Addr} {m : Nat} (s : StrAt H p m) : ∃ xs, H p = some (.lst xs) := by
  obtain ⟨a, b, c, h1, _⟩ := s
  exact ⟨_, h1⟩
/-- _law_stream(script, at) -/
def spStream (K : PySem.W.Frag) : Sp := fun vs H Q _ => ∃ (a : Addr) (ns : List Int) (i : Nat), vs = [.ref a, .int i] ∧ SqL K H a (ns.map V.int) ∧ ns.length ≤ 63 ∧ i ≤ 100 ∧
  ∀ H' p, Same H H' → H p = none → StrAt H' p 0 → Q (.ref p) H'
/-- _law_draw(stream, high) -/
def spDraw : Sp := fun vs H Q _ => ∃ (p : Addr) (n : Int) (m : Nat), vs = [.ref p, .int n] ∧ StrAt H p m ∧ m ≤ 100000 ∧ 0 < n ∧ n < 1000000 ∧
  ∀ H' v, 0 ≤ v → v < n → But p H H' → StrAt H' p (m + 1) → Q (.int v) H'
/-- _law_pick(stream, items), items a list -/
def spPick (K : PySem.W.Frag) : Sp := fun vs H Q _ => ∃ (p q : Addr) (xs : List V) (m : Nat), vs = [.ref p, .ref q] ∧ StrAt H p m ∧ m ≤ 100000 ∧ p ≠ q ∧ SqL K H q xs ∧ 0 < xs.length ∧ xs.length < 1000000 ∧
  ∀ H' (i : Nat) x, xs[i]? = some x → But p H H' → StrAt H' p (m + 1) → Q x H'
end Dr

/-! Data that does not reach some addresses; small data. -/
namespace Rp
open PySem PySem.Spec PyProof.Rows L2 Ex Dr
/-- the abstract heap without some addresses -/
def cut (ex : List Addr) (H : Hp) : Hp := fun b => if b ∈ ex then none else H b
/-- small data -/
def Sm (d : PyData) : Prop := d.showable = true ∧ d.depth ≤ 5 ∧ d.shown.length ≤ 1000
theorem DtAll.len {K : PySem.W.Frag} {H : Hp} : ∀ {xs : List V} {ds : List PyData}, DtAll K H xs ds → ds.length = xs.length
  | _, _, .nil => rfl
  | _, _, .cons _ t => by rw [List.length_cons, List.length_cons, DtAll.len t]
/-- all but p and f is as it was -/
def By (p f : Addr) (A B : Hp) : Prop := ∀ b o, b ≠ p → b ≠ f → A b = some o → B b = some o
end Rp

/-! repr of any data; the data part of a heap (no stream, no table). -/
namespace Rp
open PySem PySem.Spec PyProof.Rows L2 Ex Dr
open LamX (ExtN TabS Tabs CodeO)
def rRepA (K : PySem.W.Frag) : List V → Hp → VK → Prop := fun xs H Q => ∃ (v : V) (d : PyData), xs = [v] ∧ Dt K H v d ∧ d.showable = true ∧ d.depth ≤ 60 ∧ d.shown.length ≤ sizeLine ∧ Q (.str d.shown) H
theorem call_repr_any {X : Cx} (hk : SysD X.K) (hg : X.A.guards = some []) (hu : X.A.units + 64 < cLine) : CallR X (.builtin "repr") (rRepA X.K) := by
  intro pins s σ H xs us Q I r h
  obtain ⟨v, d, rfl, hd, hs, hdep, hz, q⟩ := h
  obtain ⟨u, rfl, hr⟩ := vals1 r
  have go : ∀ {a : Addr}, v = .ref a → wpAny (model X.prog X.w) X.A (call (.builtin "repr") [u]) (EP X pins σ Q) X.xe s := fun {a} e => by
    subst e
    exact call_repr_data hk hg hu pins s σ H [.ref a] [u] Q I (.cons hr .nil) ⟨a, d, rfl, hd, hs, hdep, hz, q⟩
  cases d with
  | none =>
    cases hd
    obtain rfl : u = Value.none := hr
    exact PySem.P.repr_of_none ⟨.str _, H, I.tok _, ⟨_, rfl⟩, q⟩
  | bool b =>
    cases hd
    obtain rfl : u = Value.bool b := hr
    exact PySem.P.repr_of_bool ⟨.str _, H, I.tok _, ⟨_, rfl⟩, q⟩
  | int i =>
    cases hd
    obtain ⟨t, rfl⟩ := hr
    exact PySem.P.repr_of_int (of_decide_eq_true hs) ⟨.str _, H, I.tok _, ⟨_, rfl⟩, q⟩
  | str x =>
    cases hd
    obtain ⟨t, rfl⟩ := hr
    exact PySem.P.repr_of_str ⟨.str _, H, I.tok _, ⟨_, rfl⟩, q⟩ hz
  | list ds =>
    cases hd with
    | lstR h1 h2 => exact go rfl
  | tuple ds =>
    cases hd with
    | tup h1 h2 => exact go rfl
  | dict ds =>
    cases hd with
    | dicR h1 h2 => exact go rfl
theorem smu {H : Hp} {p : Addr} {o : HO} (h : H p = none) : Same H (upd H p o) := fun b u e => by
  rw [upd_ne (ne_of_none e h)]
  exact e
/-- the heap without the stream at p and without tables -/
def ct (p : Addr) (H : Hp) : Hp := fun b => if b = p then none else match H b with
  | some (.tbl _) => none
  | o => o
theorem ct_at {p b : Addr} {H : Hp} {o : HO} (h : H b = some o) (n : b ≠ p) (nt : ∀ ps, o ≠ .tbl ps) : ct p H b = some o := by
  unfold ct
  rw [if_neg n, h]
  cases o <;> first | rfl | exact absurd rfl (nt _)
/-- the type of data -/
def tyD : PyData → String
  | .none => "NoneType"
  | .bool _ => "bool"
  | .int _ => "int"
  | .str _ => "str"
  | .list _ => "list"
  | .tuple _ => "tuple"
  | .dict _ => "dict"
theorem Dt.ty {K : PySem.W.Frag} {H : Hp} {v : V} : ∀ {d : PyData}, Dt K H v d → TyX K H v (.type (tyD d))
  | .none, h => by cases h; exact .base .non
  | .bool b, h => by cases h; exact .base (.bl b)
  | .int i, h => by cases h; exact .base (.int i)
  | .str x, h => by cases h; exact .base (.str x)
  | .list ds, h => by
    cases h with
    | lstR h1 h2 =>
      rcases h1 with h | ⟨o, h⟩
      · exact .base (.lst h)
      · exact .base (.frz h)
  | .tuple ds, h => by
    cases h with
    | tup h1 h2 =>
      rcases h1 with ⟨o, h, _⟩ | ⟨o, its, n, h, hc, _⟩
      · exact .fTuple h
      · exact .kTuple h hc
  | .dict ds, h => by
    cases h with
    | dicR h1 h2 =>
      rcases h1 with h | ⟨o, h⟩
      · exact .base (.dK h)
      · exact .fDict h
end Rp

/-! Dicts whose keys are tuples (of ints, texts, None and such tuples): asked, written, by what stands at one address. -/
namespace Nd
open PySem PySem.Spec PyProof.Rows L2 Rp
abbrev KAV := NestedKey × Addr × V
def RelA (p : KAV) (q : NestedKey × Addr × Value) : Prop := p.1 = q.1 ∧ p.2.1 = q.2.1 ∧ RelV p.2.2 q.2.2
def NdF (w : World) (d : Addr) (kvs : List KAV) : Heap → Prop := fun h => kvs.length ≤ sizeLine ∧ (d == sysModules) = false ∧ (kvs.map (·.1)).Nodup ∧ ∃ xs, Paired RelA kvs xs ∧ ∃ o es ep, h.get? d = some o ∧ o.ExactDict ∧ o.data = .dict es ep ∧
  es.toList = xs.map fun x => (⟨x.1.hash w, .ref x.2.1, x.2.2⟩ : DictEntry)
/-- a dict with tuples for keys stands at d -/
def NdO (w : World) (d : Addr) (kvs : List KAV) : HO := .ext (NdF w d kvs)
def atN (kvs : List KAV) (k : NestedKey) : Option V := (kvs.find? fun x => decide (x.1 = k)).map (·.2.2)
def putN (kvs : List KAV) (k : NestedKey) (a : Addr) (v : V) : List KAV := if (atN kvs k).isSome = true then kvs.map (fun x => if x.1 = k then (x.1, x.2.1, v) else x) else kvs ++ [(k, a, v)]
/-- the keys are what the tuples tell -/
def KeysD (K : PySem.W.Frag) (H : Hp) (kvs : List KAV) : Prop := ∀ x ∈ kvs, Dt K H (.ref x.2.1) x.1.data ∧ x.1.depth ≤ 8
theorem relA_keys : ∀ {kvs : List KAV} {xs : List (NestedKey × Addr × Value)}, Paired RelA kvs xs → xs.map (·.1) = kvs.map (·.1)
  | _, _, .nil => rfl
  | _, _, .cons a t => by rw [List.map_cons, List.map_cons, relA_keys t, a.1]
theorem relA_at {k : NestedKey} : ∀ {kvs : List KAV} {xs : List (NestedKey × Addr × Value)}, Paired RelA kvs xs → RelO (atN kvs k) ((atKey xs k).map (·.2))
  | _, _, .nil => True.intro
  | _, _, .cons (a := p) (b := q) a t => by
    have ih := relA_at (k := k) t
    unfold atN atKey at ih ⊢
    rw [List.find?_cons, List.find?_cons, ← a.1]
    by_cases e : p.1 = k
    · rw [decide_eq_true e]
      exact a.2.2
    · rw [decide_eq_false e]
      exact ih
theorem relA_is {k : NestedKey} {kvs : List KAV} {xs : List (NestedKey × Addr × Value)} (h : Paired RelA kvs xs) : (atKey xs k).isSome = (atN kvs k).isSome := by
  have q := (relA_at (k := k) h).isSome_eq
  rw [Option.isSome_map] at q
  exact q.symm
theorem relA_snoc : ∀ {kvs : List KAV} {xs : List (NestedKey × Addr × Value)} {p : KAV} {q : NestedKey × Addr × Value}, Paired RelA kvs xs → RelA p q → Paired RelA (kvs ++ [p]) (xs ++ [q])
  | _, _, _, _, .nil, h => .cons h .nil
  | _, _, _, _, .cons a t, h => .cons a (relA_snoc t h)
/-! ### keys in the program's heap -/
section
variable {X : Cx} {pins : List (Addr × Obj)} {σ : L2.St} {H : Hp} {s : Shared}
mutual
theorem key_is (I : Inv X pins σ H s) : ∀ (k : NestedKey) (v : V) (u : Value), Dt X.K H v k.data → RelV v u → NestedIs s.heap k u
  | .none, v, u, h, r => by
    cases h
    obtain rfl : u = Value.none := r
    exact .none
  | .num i, v, u, h, r => by
    cases h
    obtain ⟨t, rfl⟩ : ∃ t, u = Value.int i t := r
    exact .int i t
  | .text x, v, u, h, r => by
    cases h
    obtain ⟨t, rfl⟩ : ∃ t, u = Value.str x t := r
    exact .text x t
  | .tup ks, v, u, h, r => by
    have h : Dt X.K H v (.tuple (NestedKey.datas ks)) := h
    cases h with
    | tup h1 h2 =>
      obtain rfl : u = Value.ref _ := r
      obtain ⟨its, rv, ⟨o, ho, hc, n, hd⟩, _⟩ := I.tuple h1.t
      exact .tup ho hc hd (keys_are I ks _ _ h2 rv)
theorem keys_are (I : Inv X pins σ H s) : ∀ (ks : List NestedKey) (vs : List V) (us : List Value), DtAll X.K H vs (NestedKey.datas ks) → Vals vs us → NestedAll s.heap ks us
  | [], vs, us, h, r => by
    have h : DtAll X.K H vs [] := h
    cases h
    cases r
    exact .nil
  | k :: ks, vs, us, h, r => by
    have h : DtAll X.K H vs (k.data :: NestedKey.datas ks) := h
    cases h with
    | cons h1 h2 =>
      cases r with
      | cons r1 r2 => exact .cons (key_is I k _ _ h1 r1) (keys_are I ks _ _ h2 r2)
end
theorem nd_obj (I : Inv X pins σ H s) {w : World} {d : Addr} {kvs : List KAV} (h : H d = some (NdO w d kvs)) : NdF w d kvs s.heap := (show ObjOk X.prog X.w H s.heap d (.ext (NdF w d kvs)) from I.hok d _ h).1
theorem nd_of (I : Inv X pins σ H s) {d : Addr} {kvs : List KAV} (h : H d = some (NdO X.w d kvs)) (hk : KeysD X.K H kvs) : kvs.length ≤ sizeLine ∧ (d == sysModules) = false ∧ ∃ xs, Paired RelA kvs xs ∧ s.heap.DictOfH (nestedKind X.prog X.w) d xs := by
  obtain ⟨z, hd, nd, xs, rel, o, es, ep, h1, h2, h3, h4⟩ := nd_obj I h
  refine ⟨z, hd, xs, rel, o, es, ep, h1, h2, h3, h4, ?_, by rw [relA_keys rel]; exact nd⟩
  have all : ∀ {l : List KAV} {m : List (NestedKey × Addr × Value)}, Paired RelA l m → (∀ x ∈ l, Dt X.K H (.ref x.2.1) x.1.data ∧ x.1.depth ≤ 8) → ∀ x ∈ m, (nestedKind X.prog X.w).is s.heap x.1 x.2.1 := by
    intro l m q
    induction q with
    | nil => intro _ x hx; exact nomatch hx
    | @cons p q ps qs hq t ih =>
      intro hl x hx
      rcases List.mem_cons.mp hx with e | hx
      · subst e
        obtain ⟨y1, y2⟩ := hl p List.mem_cons_self
        refine ⟨?_, by rw [← hq.1]; exact y2⟩
        rw [← hq.1, ← hq.2.1]
        exact key_is I _ _ _ y1 rfl
      · exact ih (fun y hy => hl y (List.mem_cons_of_mem _ hy)) x hx
  exact all rel hk
theorem key_at (I : Inv X pins σ H s) {k : NestedKey} {b : Addr} (h : Dt X.K H (.ref b) k.data) (hd : k.depth ≤ 8) : (nestedKind X.prog X.w).is s.heap k b := ⟨key_is I _ _ _ h rfl, hd⟩
theorem ext_stay {w : World} {d : Addr} {kvs : List KAV} (h1 h2 : Heap) (x : NdF w d kvs h1) (e : ∀ o, h1.get? d = some o → h2.get? d = some o) : NdF w d kvs h2 := by
  obtain ⟨z, hd, nd, xs, rel, o, es, ep, q1, q2⟩ := x
  exact ⟨z, hd, nd, xs, rel, o, es, ep, e o q1, q2⟩
theorem nd_new {w : World} {H' : Hp} {P : Program} {h' : Heap} {d : Addr} {kvs : List KAV} {xs : List (NestedKey × Addr × Value)} (z : kvs.length ≤ sizeLine) (hd : (d == sysModules) = false) (rel : Paired RelA kvs xs) (dd : h'.DictOfH (nestedKind P w) d xs) : ObjOk P w H' h' d (NdO w d kvs) := by
  obtain ⟨o, es, ep, h1, h2, h3, h4, _, h6⟩ := dd
  exact ⟨⟨z, hd, by rw [← relA_keys rel]; exact h6, xs, rel, o, es, ep, h1, h2, h3, h4⟩, ⟨o, h1⟩, fun a b x e => ext_stay a b x e⟩
variable {A : Around} {E : Value → Shared → Prop} {d b : Addr} {kvs : List KAV} {k : NestedKey}
/-- d.get(k, x) -/
theorem n_get2 {x : V} {r : Value} {Q : Value → Shared → Prop} (hu : A.units + 9 < cLine) (I : Inv X pins σ H s) (h : H d = some (NdO X.w d kvs)) (hk : KeysD X.K H kvs) (hb : Dt X.K H (.ref b) k.data) (h8 : k.depth ≤ 8) (rx : RelV x r) (q : ∀ u s', Inv X pins σ H s' → RelV ((atN kvs k).getD x) u → Q u s') :
    wpAny (model X.prog X.w) A (call (.builtin "dict.get") [.ref d, .ref b, r]) Q E s := by
  obtain ⟨z, hd, xs, rel, dd⟩ := nd_of I h hk
  exact call_meetsIn F.slot_dict_get dd.typeIs F.entry_dict_get (F.args_dict_get_3 _ _ _) (meetsH_dict_get_default (nestedKind X.prog X.w) d b hd r) ⟨show A.units + 1 + 8 < cLine by omega, k, xs, key_at I hb h8, dd, q _ _ (I.tok _) ((relA_at rel).getD rx)⟩
/-- d.setdefault(k, x) -/
theorem n_setdef {x : V} {r : Value} {Q : Value → Shared → Prop} (hu : A.units + 9 < cLine) (I : Inv X pins σ H s) (h : H d = some (NdO X.w d kvs)) (hk : KeysD X.K H kvs) (hz : kvs.length < sizeLine) (hb : Dt X.K H (.ref b) k.data) (h8 : k.depth ≤ 8) (rx : RelV x r)
    (q1 : ∀ v u s', atN kvs k = some v → Inv X pins σ H s' → RelV v u → Q u s') (q2 : ∀ s', atN kvs k = none → Inv X pins σ (upd H d (NdO X.w d (kvs ++ [(k, b, x)]))) s' → Q r s') :
    wpAny (model X.prog X.w) A (call (.builtin "dict.setdefault") [.ref d, .ref b, r]) Q E s := by
  obtain ⟨z, hd, xs, rel, dd⟩ := nd_of I h hk
  have lx : xs.length = kvs.length := (Paired.length rel).symm
  refine call_setdefault_heap (knd := nestedKind X.prog X.w) (hsz := by omega) (show A.units + 1 + 8 < cLine by omega) (key_at I hb h8) hd dd (fun p hp => ?_) fun hn h' dd' hs => ?_
  · have q := relA_at (k := k) rel
    rw [hp] at q
    cases e : atN kvs k with
    | none => rw [e] at q; cases q
    | some v =>
      rw [e] at q
      exact q1 v p.2 _ e (I.tok _) q
  · have en : atN kvs k = none := by
      have q := relA_is (k := k) rel
      rw [hn] at q
      cases e : atN kvs k with
      | none => rfl
      | some v => rw [e] at q; cases q
    refine q2 _ en ?_
    rw [storedH_new hn] at dd'
    have he : ∃ o, h'.get? d = some o := let ⟨o, _, _, ho, _⟩ := dd'; ⟨o, ho⟩
    exact d_write I (by rw [h]; exact True.intro) hs he (nd_new (by rw [List.length_append]; simp; omega) hd (relA_snoc rel ⟨rfl, rfl, rx⟩) dd')
/-- a new one -/
theorem nd_empty {w : World} {P : Program} {H' : Hp} (h : Heap) (hb : sysModules < h.objs.size) : ObjOk P w H' (h.push { cls := .type "dict", data := .dict #[] }) h.objs.size (NdO w h.objs.size []) :=
  nd_new (P := P) (Nat.zero_le _) (beq_eq_false_iff_ne.mpr (Nat.ne_of_gt hb)) .nil (Heap.DictOfH.new h)
end
end Nd

/-! Data ways: values as data, steps of the heap, what is loose. -/
namespace Dw
open PySem PySem.Spec PyProof.Rows L2 Dr Rp
open He (ga)
/-- an object is as it was, or a dict that is walked now -/
def Lk (o o' : HO) : Prop := o' = o ∨ ∃ kvs q, o = .dK kvs ∧ o' = .frz q (.dK kvs)
theorem Lk.trans {a b c : HO} (h : Lk a b) (k : Lk b c) : Lk a c := by
  rcases h with rfl | ⟨kvs, q, rfl, rfl⟩
  · exact k
  · rcases k with rfl | ⟨_, _, e, _⟩
    · exact .inr ⟨kvs, q, rfl, rfl⟩
    · cases e
theorem Lk.notbl {a b : HO} (h : Lk a b) (n : ∀ ps, a ≠ .tbl ps) : ∀ ps, b ≠ .tbl ps := fun ps e => by
  rcases h with rfl | ⟨kvs, q, rfl, rfl⟩
  · exact n ps e
  · cases e
/-- what stood stands -/
def SameR (G G' : Hp) : Prop := ∀ b o, G b = some o → ∃ o', G' b = some o' ∧ Lk o o'
theorem SameR.refl (G : Hp) : SameR G G := fun _ o h => ⟨o, h, .inl rfl⟩
theorem SameR.trans {G G1 G2 : Hp} (a : SameR G G1) (b : SameR G1 G2) : SameR G G2 := fun c o h => by
  obtain ⟨o1, h1, k1⟩ := a c o h
  obtain ⟨o2, h2, k2⟩ := b c o1 h1
  exact ⟨o2, h2, k1.trans k2⟩
theorem SameR.of {G G' : Hp} (s : Same G G') : SameR G G' := fun b o h => ⟨o, s b o h, .inl rfl⟩
theorem SameR.rd {G G' : Hp} (s : SameR G G') {a : Addr} {u : HO} (h : Rd G a u) : Rd G' a u := by
  rcases h with h | ⟨o, h⟩
  · obtain ⟨o', h', k⟩ := s _ _ h
    rcases k with rfl | ⟨kvs, q, rfl, rfl⟩
    · exact .inl h'
    · exact .inr ⟨q, h'⟩
  · obtain ⟨o', h', k⟩ := s _ _ h
    rcases k with rfl | ⟨kvs, q, e, _⟩
    · exact .inr ⟨o, h'⟩
    · cases e
theorem SameR.ins {G G' : Hp} (s : SameR G G') {a C dx : Addr} {fs : List (Str × V)} (h : G a = some (.ins C dx fs)) : G' a = some (.ins C dx fs) := by
  obtain ⟨o', h', k⟩ := s _ _ h
  rcases k with rfl | ⟨kvs, q, e, _⟩
  · exact h'
  · cases e
theorem SameR.sql {K : PySem.W.Frag} {G G' : Hp} (s : SameR G G') {a : Addr} {xs : List V} (h : SqL K G a xs) : SqL K G' a xs := h.imp s.rd id
theorem SameR.sqn {K : PySem.W.Frag} {G G' : Hp} (s : SameR G G') {a : Addr} {xs : List V} (h : Tn.SqN K G a xs) : Tn.SqN K G' a xs := by
  rcases h with ⟨o, h, n⟩ | h
  · obtain ⟨o', h', k⟩ := s _ _ h
    rcases k with rfl | ⟨kvs, q, e, _⟩
    · exact .inl ⟨o, h', n⟩
    · cases e
  · exact .inr h
theorem SameR.sqt {K : PySem.W.Frag} {G G' : Hp} (s : SameR G G') {a : Addr} {xs : List V} (h : SqT K G a xs) : SqT K G' a xs := h.imp s.rd id
mutual
theorem Dt.sameR {K : PySem.W.Frag} {H H' : Hp} (s : SameR H H') : ∀ (d : PyData) (v : V), Dt K H v d → Dt K H' v d
  | .none, _, h => by cases h; exact .non
  | .bool b, _, h => by cases h; exact .bl b
  | .int i, _, h => by cases h; exact .int i
  | .str x, _, h => by cases h; exact .str x
  | .list ds, _, h => by
    cases h with
    | lstR h1 h2 => exact .lstR (s.rd h1) (Dt.sameRAll s ds _ h2)
  | .tuple ds, _, h => by
    cases h with
    | tup h1 h2 => exact .tup (s.sqn h1) (Dt.sameRAll s ds _ h2)
  | .dict ds, _, h => by
    cases h with
    | dicR h1 h2 => exact .dicR (s.rd h1) (Dt.sameRKv s ds _ h2)
theorem Dt.sameRAll {K : PySem.W.Frag} {H H' : Hp} (s : SameR H H') : ∀ (ds : List PyData) (vs : List V), DtAll K H vs ds → DtAll K H' vs ds
  | [], _, h => by cases h; exact .nil
  | d :: ds, _, h => by
    cases h with
    | cons h1 h2 => exact .cons (Dt.sameR s d _ h1) (Dt.sameRAll s ds _ h2)
theorem Dt.sameRKv {K : PySem.W.Frag} {H H' : Hp} (s : SameR H H') : ∀ (ds : List (PyData × PyData)) (kvs : List (Key × V)), DtKv K H kvs ds → DtKv K H' kvs ds
  | [], _, h => by cases h; exact .nil
  | (k, d) :: ds, _, h => by
    cases h with
    | cons h1 h2 => exact .cons (Dt.sameR s d _ h1) (Dt.sameRKv s ds _ h2)
end
/-- the heap without what is loose, and without tables -/
noncomputable def ctL (L : Addr → Prop) (H : Hp) : Hp := fun b => by
  classical exact if L b then none else match H b with
    | some (.tbl _) => none
    | o => o
section
variable {L M : Addr → Prop} {H H' : Hp} {b : Addr} {o : HO}
theorem ctL_at (h : H b = some o) (n : ¬ L b) (nt : ∀ ps, o ≠ .tbl ps) : ctL L H b = some o := by
  unfold ctL
  rw [if_neg n, h]
  cases o <;> first | rfl | exact absurd rfl (nt _)
theorem ctL_of (h : ctL L H b = some o) : ¬ L b ∧ H b = some o ∧ ∀ ps, o ≠ .tbl ps := by
  unfold ctL at h
  by_cases n : L b
  · rw [if_pos n] at h
    cases h
  · rw [if_neg n] at h
    cases e : H b with
    | none =>
      rw [e] at h
      cases h
    | some u =>
      rw [e] at h
      cases u <;> first
        | (cases h; exact ⟨n, rfl, fun ps z => by cases z⟩)
        | cases h
theorem ctL_sub (k : ∀ b, M b → L b) : SameR (ctL L H) (ctL M H) := fun b o h => by
  obtain ⟨n, h, t⟩ := ctL_of h
  exact ⟨o, ctL_at h (fun z => n (k b z)) t, .inl rfl⟩
theorem ctL_all : SameR (ctL L H) H := fun b o h => ⟨o, (ctL_of h).2.1, .inl rfl⟩
end
/-- the stream, the tables of lambdas with what those are called -/
structure Pt where
  q : Option Addr
  T : List (Addr × Str)
instance : Coe Pt (Option Addr) := ⟨Pt.q⟩
/-- nothing stands there but a table -/
def FreeT (H : Hp) (a : Addr) : Prop := ∀ o, H a = some o → ∃ ps, o = .tbl ps
def FreeP (p : Pt) (H : Hp) (a : Addr) : Prop := p.q ≠ some a ∧ FreeT H a
theorem FreeT.of {H : Hp} {a : Addr} (h : H a = none) : FreeT H a := fun o e => by
  rw [h] at e
  cases e
/-- a step: all but the stream and tables stays; the loose stays as it is -/
structure Stp (L : Addr → Prop) (p : Pt) (H H' : Hp) : Prop where
  keep : ∀ b o, p.q ≠ some b → (∀ ps, o ≠ .tbl ps) → H b = some o → ∃ o', H' b = some o' ∧ Lk o o'
  loose : ∀ b, L b → p.q ≠ some b → H' b = H b
/-- no tuple -/
def NT (o : HO) : Prop := (∀ xs, o ≠ .tup xs ∧ ∀ q, o ≠ .frz q (.tup xs)) ∧ ∀ ps, o ≠ .tbl ps
theorem NT.lst {xs : List V} : NT (.lst xs) := ⟨fun _ => ⟨(fun e => nomatch e), (fun _ e => nomatch e)⟩, fun _ e => nomatch e⟩
theorem NT.dK {xs : List (Key × V)} : NT (.dK xs) := ⟨fun _ => ⟨(fun e => nomatch e), (fun _ e => nomatch e)⟩, fun _ e => nomatch e⟩
/-- the tables of lambdas of the law at hand, with what those are called -/
class LamReg where
  T : List (Addr × Str)
  /-- the world, where dicts with tuple keys are told of -/
  w : Option World := none
instance (priority := low) : LamReg := ⟨[], none⟩
variable [LamReg]
/-- the loose stands, no tuple is loose; the stream is loose -/
structure LOk (L : Addr → Prop) (p : Pt) (H : Hp) : Prop where
  live : ∀ b, L b → ∃ o, H b = some o ∧ NT o
  str : ∀ q, p.q = some q → L q ∧ StrAt H q 0
  tbs : LamX.Tabs LamReg.T H
/-- an object that can be changed under the tables -/
def NTb (o : HO) : Prop := (∀ ps, o ≠ .tbl ps) ∧ ∀ c q, o ≠ LamX.CodeO c q
theorem NTb.lst {xs : List V} : NTb (.lst xs) := ⟨(fun _ e => nomatch e), fun _ _ e => nomatch e⟩
theorem NTb.dK {xs : List (Key × V)} : NTb (.dK xs) := ⟨(fun _ e => nomatch e), fun _ _ e => nomatch e⟩
theorem tabs_but {T : List (Addr × Str)} {H H' : Hp} {D : Addr} (t : LamX.Tabs T H) (hD : ∀ u, H D = some u → NTb u) (k : ∀ b u, b ≠ D → H b = some u → H' b = some u) : LamX.Tabs T H' := fun p hp => by
  obtain ⟨ps, h1, h2, h3⟩ := t p hp
  refine ⟨ps, k _ _ (fun e => ?_) h1, h2, fun pos cv hc => ?_⟩
  · rw [e] at h1
    exact (hD _ h1).1 ps rfl
  · obtain ⟨c, e1, e2⟩ := h3 pos cv hc
    refine ⟨c, e1, k _ _ (fun e => ?_) e2⟩
    rw [e] at e2
    exact (hD _ e2).2 _ _ rfl
theorem tabs_upd {T : List (Addr × Str)} {H : Hp} {D : Addr} {o : HO} (t : LamX.Tabs T H) (hD : ∀ u, H D = some u → NTb u) : LamX.Tabs T (upd H D o) := tabs_but t hD fun b u n h => by rw [upd_ne n]; exact h
section
variable {L M : Addr → Prop} {p : Pt} {H H1 H2 : Hp}
theorem Stp.refl : Stp L p H H := ⟨fun _ o _ _ h => ⟨o, h, .inl rfl⟩, fun _ _ _ => rfl⟩
theorem Stp.trans (a : Stp L p H H1) (b : Stp L p H1 H2) : Stp L p H H2 := by
  refine ⟨fun c o n t h => ?_, fun c l n => (b.loose c l n).trans (a.loose c l n)⟩
  obtain ⟨o1, h1, k1⟩ := a.keep c o n t h
  obtain ⟨o2, h2, k2⟩ := b.keep c o1 n (k1.notbl t) h1
  exact ⟨o2, h2, k1.trans k2⟩
theorem Stp.sub (a : Stp L p H H1) (k : ∀ b, M b → L b) : Stp M p H H1 := ⟨a.keep, fun b l n => a.loose b (k b l) n⟩
theorem Stp.free (a : Stp L p H H1) {b : Addr} (h : FreeP p H1 b) : FreeP p H b := ⟨h.1, fun o e => Classical.byContradiction fun t => by
  obtain ⟨o', e', k⟩ := a.keep b o h.1 (fun ps z => t ⟨ps, z⟩) e
  obtain ⟨ps, z⟩ := h.2 o' e'
  exact k.notbl (fun ps z => t ⟨ps, z⟩) ps z⟩
theorem Stp.ct (a : Stp L p H H1) (o : LOk L p H) : SameR (ctL L H) (ctL L H1) := fun b u h => by
  obtain ⟨n, h, t⟩ := ctL_of h
  obtain ⟨u', h', k⟩ := a.keep b u (fun e => n (o.str b e).1) t h
  exact ⟨u', ctL_at h' n (k.notbl t), k⟩
theorem Stp.same (s : Same H H1) (lv : ∀ b, L b → H b ≠ none) : Stp L p H H1 := by
  refine ⟨fun b o _ _ h => ⟨o, s b o h, .inl rfl⟩, fun b l _ => ?_⟩
  · cases e : H b with
    | none => exact absurd e (lv b l)
    | some o => exact s b o e
theorem Stp.new {q : Addr} {o : HO} (lv : ∀ b, L b → H b ≠ none) (h : H q = none) : Stp L p H (upd H q o) := Stp.same (smu h) lv
theorem Stp.but {q : Addr} {T : List (Addr × Str)} (s : But q H H1) (lv : ∀ b, L b → H b ≠ none) (hq : H1 q ≠ none) : Stp L ⟨some q, T⟩ H H1 := by
  refine ⟨fun b o n _ h => ⟨o, s b o (fun e => n (by rw [e])) h, .inl rfl⟩, fun b l n => ?_⟩
  · cases e : H b with
    | none => exact absurd e (lv b l)
    | some o => exact s b o (fun z => n (by rw [z])) e
theorem LOk.ne (o : LOk L p H) : ∀ b, L b → H b ≠ none := fun b l e => by
  obtain ⟨u, h, _⟩ := o.live b l
  rw [e] at h
  cases h
theorem LOk.neT (o : LOk L p H) {b : Addr} (h : FreeT H b) : ¬ L b := fun l => by
  obtain ⟨u, e, n⟩ := o.live b l
  obtain ⟨ps, z⟩ := h u e
  exact n.2 ps z
theorem LOk.free (o : LOk L p H) {b : Addr} (h : H b = none) : FreeP p H b := ⟨fun e => o.ne b (o.str b e).1 h, .of h⟩
theorem LOk.step (o : LOk L p H) (a : Stp L p H H1) (s : ∀ q, p.q = some q → StrAt H1 q 0) (tb : LamX.Tabs LamReg.T H1) : LOk L p H1 := by
  refine ⟨fun b l => ?_, fun q e => ⟨(o.str q e).1, s q e⟩, tb⟩
  by_cases e : p.q = some b
  · obtain ⟨x, y, z, h, _⟩ := s b e
    exact ⟨_, h, .lst⟩
  · rw [a.loose b l e]
    exact o.live b l
theorem LOk.same (o : LOk L p H) (s : Same H H1) : LOk L p H1 := o.step (Stp.same s o.ne) (fun q e => (o.str q e).2.same s) (o.tbs.ext s)
theorem LOk.new {q : Addr} {u : HO} (o : LOk L p H) (h : H q = none) : LOk L p (upd H q u) := o.same (smu h)
theorem LOk.sub (o : LOk L p H) (k : ∀ b, M b → L b) (kp : ∀ q, p.q = some q → M q) : LOk M p H := ⟨fun b l => o.live b (k b l), fun q e => ⟨kp q e, (o.str q e).2⟩, o.tbs⟩
/-- tuples are never loose -/
theorem LOk.sqt {K : PySem.W.Frag} (o : LOk L p H) {a : Addr} {xs : List V} (h : SqT K H a xs) : SqT K (ctL L H) a xs := by
  rcases h with (h | ⟨q, h⟩) | h
  · refine .inl (.inl (ctL_at h (fun l => ?_) fun ps e => by cases e))
    obtain ⟨u, hu, n⟩ := o.live a l
    rw [h] at hu
    exact (n.1 xs).1 (Option.some.inj hu).symm
  · refine .inl (.inr ⟨q, ctL_at h (fun l => ?_) fun ps e => by cases e⟩)
    obtain ⟨u, hu, n⟩ := o.live a l
    rw [h] at hu
    exact (n.1 xs).2 q (Option.some.inj hu).symm
  · exact .inr h
end
theorem LOk.sqn {L : Addr → Prop} {p : Pt} {H : Hp} {K : PySem.W.Frag} (o : LOk L p H) {a : Addr} {xs : List V} (h : Tn.SqN K H a xs) : Tn.SqN K (ctL L H) a xs := by
  rcases h with ⟨q, h, nd⟩ | h
  · refine .inl ⟨q, ctL_at h (fun l => ?_) (fun ps e => by cases e), nd⟩
    obtain ⟨u, hu, n⟩ := o.live a l
    rw [h] at hu
    exact (n.1 xs).2 q (Option.some.inj hu).symm
  · exact .inr h
/-- a dict with keys that are not ints and texts alone (None, truths, tuples): read, never written; the object itself is known -/
def OddO (a : Addr) (o : Obj) : HO := .frz o (.own a)
/-- an entry of such a dict -/
def EntV (kv : V × V) (e : DictEntry) : Prop := RelV kv.1 e.key ∧ RelV kv.2 e.val
def OddR (K : PySem.W.Frag) (G : Hp) (v : V) (ds : List (PyData × PyData)) : Prop := ∃ (a : Addr) (o : Obj) (es : Array DictEntry) (ep : Nat) (kvs : List (V × V)), v = .ref a ∧ G a = some (OddO a o) ∧ o.ExactDict ∧ o.data = .dict es ep ∧ es.size ≤ sizeLine ∧ (a == sysModules) = false ∧ Paired EntV kvs es.toList ∧
  DtAll K G (kvs.map (·.1)) (ds.map (·.1)) ∧ DtAll K G (kvs.map (·.2)) (ds.map (·.2))
theorem SameR.odd {G G' : Hp} {a : Addr} {o : Obj} (s : SameR G G') (h : G a = some (OddO a o)) : G' a = some (OddO a o) := by
  obtain ⟨u, e, q⟩ := s a _ h
  rcases q with rfl | ⟨kvs, o', q, _⟩
  · exact e
  · cases q
theorem OddR.sameR {K : PySem.W.Frag} {G G' : Hp} {v : V} {ds : List (PyData × PyData)} (s : SameR G G') (h : OddR K G v ds) : OddR K G' v ds := by
  obtain ⟨a, o, es, ep, kvs, e, h1, h2, h3, h4, h5, h6, h7, h8⟩ := h
  exact ⟨a, o, es, ep, kvs, e, s.odd h1, h2, h3, h4, h5, h6, Dt.sameRAll s _ _ h7, Dt.sameRAll s _ _ h8⟩
/-- what stands in a list: data, or an object with fields of data -/
inductive PU where
  | d (d : PyData) | o (C : Str) (fs : List (Str × PyData))
/-- .. or a tuple of such -/
inductive PV where
  | d (d : PyData) | o (C : Str) (fs : List (Str × PyData)) | t (xs : List PU) | x (ds : List (PyData × PyData)) | n (kvs : List (NestedKey × PyData))
/-- a dict with tuple keys, as data -/
def NdP (K : PySem.W.Frag) (G : Hp) (a : Nd.KAV) (b : NestedKey × PyData) : Prop := a.1 = b.1 ∧ a.1.depth ≤ 8 ∧ Dt K G (.ref a.2.1) a.1.data ∧ Dt K G a.2.2 b.2
def NdR (K : PySem.W.Frag) (G : Hp) (v : V) (kvs : List (NestedKey × PyData)) : Prop := ∃ w d kas, LamReg.w = some w ∧ v = .ref d ∧ G d = some (Nd.NdO w d kas) ∧ Paired (NdP K G) kas kvs
theorem NdP.sameR {K : PySem.W.Frag} {G G' : Hp} {a : Nd.KAV} {b : NestedKey × PyData} (s : SameR G G') (h : NdP K G a b) : NdP K G' a b := ⟨h.1, h.2.1, Dt.sameR s _ _ h.2.2.1, Dt.sameR s _ _ h.2.2.2⟩
theorem SameR.nd {G G' : Hp} {w : World} {d : Addr} {kas : List Nd.KAV} (s : SameR G G') (h : G d = some (Nd.NdO w d kas)) : G' d = some (Nd.NdO w d kas) := by
  obtain ⟨u, e, q⟩ := s d _ h
  rcases q with rfl | ⟨_, _, q, _⟩
  · exact e
  · cases q
theorem NdR.sameR {K : PySem.W.Frag} {G G' : Hp} {v : V} {kvs : List (NestedKey × PyData)} (s : SameR G G') (h : NdR K G v kvs) : NdR K G' v kvs := by
  obtain ⟨w, d, kas, e1, e2, h1, h2⟩ := h
  exact ⟨w, d, kas, e1, e2, s.nd h1, Paired.mapP h2 fun _ _ r => r.sameR s⟩
def ObR (K : PySem.W.Frag) (G : Hp) (v : V) (C : Str) (fs : List (Str × PyData)) : Prop := ∃ a dx vs, v = .ref a ∧ G a = some (.ins (ga K C) dx vs) ∧ vs.map (·.1) = fs.map (·.1) ∧ DtAll K G (vs.map (·.2)) (fs.map (·.2))
def PuR (K : PySem.W.Frag) (G : Hp) (v : V) : PU → Prop
  | .d d => Dt K G v d
  | .o C fs => ObR K G v C fs
def OtR (K : PySem.W.Frag) (G : Hp) (v : V) (xs : List PU) : Prop := ∃ a vs, v = .ref a ∧ Tn.SqN K G a vs ∧ Paired (PuR K G) vs xs
def PvR (K : PySem.W.Frag) (G : Hp) (v : V) : PV → Prop
  | .d d => Dt K G v d
  | .o C fs => ObR K G v C fs
  | .t xs => OtR K G v xs
  | .x ds => OddR K G v ds
  | .n kvs => NdR K G v kvs
theorem ObR.sameR {K : PySem.W.Frag} {G G' : Hp} {v : V} {C : Str} {fs : List (Str × PyData)} (s : SameR G G') (h : ObR K G v C fs) : ObR K G' v C fs := by
  obtain ⟨a, dx, vs, e, h1, h2, h3⟩ := h
  exact ⟨a, dx, vs, e, s.ins h1, h2, Dt.sameRAll s _ _ h3⟩
theorem PuR.sameR {K : PySem.W.Frag} {G G' : Hp} {v : V} {x : PU} (s : SameR G G') (h : PuR K G v x) : PuR K G' v x := by
  cases x with
  | d d => exact Dt.sameR s d v h
  | o C fs => exact ObR.sameR s h
theorem OtR.sameR {K : PySem.W.Frag} {G G' : Hp} {v : V} {xs : List PU} (s : SameR G G') (h : OtR K G v xs) : OtR K G' v xs := by
  obtain ⟨a, vs, e, h1, h2⟩ := h
  exact ⟨a, vs, e, s.sqn h1, Paired.mapP h2 fun v x r => r.sameR s⟩
theorem PvR.sameR {K : PySem.W.Frag} {G G' : Hp} {v : V} {x : PV} (s : SameR G G') (h : PvR K G v x) : PvR K G' v x := by
  cases x with
  | d d => exact Dt.sameR s d v h
  | o C fs => exact ObR.sameR s h
  | t xs => exact OtR.sameR s h
  | x ds => exact OddR.sameR s h
  | n kvs => exact NdR.sameR s h
/-- a value: data, the stream, an object with fields of data; of a name also: a list or dict that it alone holds, nothing known -/
inductive EV where
  | py (d : PyData) | st | ob (C : Str) (fs : List (Str × PyData)) | own (d : PyData) | no | pk (ds : List PyData) | kp (u : V) | ol (xs : List PV) | owl (xs : List PV) | ot (xs : List PU) | od (ds : List (PyData × PyData)) | nd (kvs : List (NestedKey × PyData)) | pw (xs : List PV)
def Rv (K : PySem.W.Frag) (p : Pt) (G : Hp) (v : V) : EV → Prop
  | .py d => Dt K G v d
  | .st => ∃ a, p.q = some a ∧ v = .ref a
  | .ob C fs => ∃ a dx vs, v = .ref a ∧ G a = some (.ins (ga K C) dx vs) ∧ vs.map (·.1) = fs.map (·.1) ∧ DtAll K G (vs.map (·.2)) (fs.map (·.2))
  | .own _ => False
  | .no => False
  | .pk ds => ∃ a vs, v = .ref a ∧ SqT K G a vs ∧ DtAll K G vs ds
  | .kp u => v = u
  | .ol xs => ∃ a vs, v = .ref a ∧ Rd G a (.lst vs) ∧ Paired (PvR K G) vs xs
  | .owl _ => False
  | .ot xs => OtR K G v xs
  | .od ds => OddR K G v ds
  | .nd kvs => NdR K G v kvs
  | .pw xs => ∃ a vs, v = .ref a ∧ SqT K G a vs ∧ Paired (PvR K G) vs xs
theorem Rv.sameR {K : PySem.W.Frag} {p : Pt} {G G' : Hp} {v : V} (s : SameR G G') : ∀ {e : EV}, Rv K p G v e → Rv K p G' v e
  | .py d, h => Dt.sameR s d v h
  | .st, h => h
  | .ob C fs, h => by
    obtain ⟨a, dx, vs, e, h1, h2, h3⟩ := h
    exact ⟨a, dx, vs, e, s.ins h1, h2, Dt.sameRAll s _ _ h3⟩
  | .own _, h => h
  | .no, h => h
  | .pk ds, h => by
    obtain ⟨a, vs, e, h1, h2⟩ := h
    exact ⟨a, vs, e, s.sqt h1, Dt.sameRAll s _ _ h2⟩
  | .kp _, h => h
  | .ol xs, h => by
    obtain ⟨a, vs, e, h1, h2⟩ := h
    exact ⟨a, vs, e, s.rd h1, Paired.mapP h2 fun v x r => r.sameR s⟩
  | .owl _, h => h
  | .ot _, h => OtR.sameR s h
  | .od _, h => OddR.sameR s h
  | .nd _, h => NdR.sameR s h
  | .pw _, h => by
    obtain ⟨a, vs, e, h1, h2⟩ := h
    exact ⟨a, vs, e, s.sqt h1, Paired.mapP h2 fun v x r => r.sameR s⟩
/-- a list or a dict at a, its parts in G -/
def OwnAt (K : PySem.W.Frag) (G H : Hp) (a : Addr) (d : PyData) : Prop :=
  (∃ vs xs, d = .list xs ∧ H a = some (.lst vs) ∧ DtAll K G vs xs) ∨ (∃ kvs ds, d = .dict ds ∧ H a = some (.dK kvs) ∧ DtKv K G kvs ds)
theorem OwnAt.sameR {K : PySem.W.Frag} {G G' H H' : Hp} {a : Addr} {d : PyData} (h : OwnAt K G H a d) (s : SameR G G') (e : H' a = H a) : OwnAt K G' H' a d := by
  rcases h with ⟨vs, xs, rfl, h1, h2⟩ | ⟨kvs, ds, rfl, h1, h2⟩
  · exact .inl ⟨vs, xs, rfl, e.trans h1, Dt.sameRAll s _ _ h2⟩
  · exact .inr ⟨kvs, ds, rfl, e.trans h1, Dt.sameRKv s _ _ h2⟩
theorem OwnAt.dt {K : PySem.W.Frag} {G H G' : Hp} {a : Addr} {d : PyData} (h : OwnAt K G H a d) (s : SameR G G') (e : ∀ o, H a = some o → (∀ ps, o ≠ .tbl ps) → G' a = some o) : Dt K G' (.ref a) d := by
  rcases h with ⟨vs, xs, rfl, h1, h2⟩ | ⟨kvs, ds, rfl, h1, h2⟩
  · exact .lst (e _ h1 fun ps z => by cases z) (Dt.sameRAll s _ _ h2)
  · exact .dic (e _ h1 fun ps z => by cases z) (Dt.sameRKv s _ _ h2)
/-- what a name alone holds -/
inductive OD where
  | p (d : PyData) | l (xs : List PV)
def OD.ev : OD → EV
  | .p d => .own d
  | .l xs => .owl xs
def OwnE (K : PySem.W.Frag) (G H : Hp) (a : Addr) : OD → Prop
  | .p d => OwnAt K G H a d
  | .l xs => ∃ vs, H a = some (.lst vs) ∧ Paired (PvR K G) vs xs
theorem OwnE.sameR {K : PySem.W.Frag} {G G' H H' : Hp} {a : Addr} {d : OD} (h : OwnE K G H a d) (s : SameR G G') (e : H' a = H a) : OwnE K G' H' a d := by
  cases d with
  | p d => exact OwnAt.sameR h s e
  | l xs =>
    obtain ⟨vs, h1, h2⟩ := h
    exact ⟨vs, e.trans h1, Paired.mapP h2 fun v x r => r.sameR s⟩
theorem OwnE.at {K : PySem.W.Frag} {G H : Hp} {a : Addr} {d : OD} (h : OwnE K G H a d) : (∃ vs, H a = some (.lst vs)) ∨ ∃ kvs, H a = some (.dK kvs) := by
  cases d with
  | p d =>
    rcases h with ⟨_, _, _, h, _⟩ | ⟨_, _, _, h, _⟩
    · exact .inl ⟨_, h⟩
    · exact .inr ⟨_, h⟩
  | l xs =>
    obtain ⟨vs, h1, h2⟩ := h
    exact .inl ⟨_, h1⟩
inductive Mode where
  | fresh | data | read
  deriving DecidableEq
abbrev Ins (L : Addr → Prop) (a : Addr) : Addr → Prop := fun b => L b ∨ b = a
/-- what an expression hands on: a new list or dict that nothing else holds; data; data or what a name alone holds -/
def Res (K : PySem.W.Frag) (m : Mode) (L : Addr → Prop) (p : Pt) (H0 H : Hp) (v : V) (e : EV) : Prop := match m with
  | .fresh => ∃ a d, v = .ref a ∧ e = .py d ∧ FreeP p H0 a ∧ OwnAt K (ctL (Ins L a) H) H a d
  | .data => Rv K p (ctL L H) v e
  | .read => Rv K p (ctL L H) v e ∨ ∃ a d, v = .ref a ∧ e = .py d ∧ (L a ∧ p.q ≠ some a) ∧ OwnAt K (ctL L H) H a d
section
variable {K : PySem.W.Frag} {L : Addr → Prop} {p : Pt} {H0 H H1 H2 : Hp} {v : V} {e : EV} {d : PyData} {a : Addr}
theorem Res.of_data {m : Mode} (hm : m ≠ .fresh) (h : Rv K p (ctL L H) v e) : Res K m L p H0 H v e := by
  cases m with
  | fresh => exact absurd rfl hm
  | data => exact h
  | read => exact .inl h
theorem Res.own_data (o : LOk L p H0) (h0 : FreeT H0 a) (h : OwnAt K (ctL (Ins L a) H) H a d) : Dt K (ctL L H) (.ref a) d :=
  h.dt (ctL_sub fun b l => .inl l) fun u hu t => ctL_at hu (o.neT h0) t
/-- a new list in any mode -/
theorem Res.of_freshP {m : Mode} (o : LOk L p H0) (h0 : FreeP p H0 a) (h : OwnAt K (ctL (Ins L a) H) H a d) : Res K m L p H0 H (.ref a) (.py d) := by
  cases m with
  | fresh => exact ⟨a, d, rfl, rfl, h0, h⟩
  | data => exact Res.own_data o h0.2 h
  | read => exact .inl (Res.own_data (p := p) o h0.2 h)
theorem Res.of_fresh {m : Mode} (o : LOk L p H0) (h0 : H0 a = none) (h : OwnAt K (ctL (Ins L a) H) H a d) : Res K m L p H0 H (.ref a) (.py d) := Res.of_freshP o (o.free h0) h
theorem Res.base {m : Mode} (h : Res K m L p H1 H v e) (s : Stp L p H0 H1) : Res K m L p H0 H v e := by
  cases m with
  | fresh =>
    obtain ⟨a, d, e1, e2, h0, h⟩ := h
    exact ⟨a, d, e1, e2, s.free h0, h⟩
  | data => exact h
  | read => exact h
theorem Rv.step (h : Rv K p (ctL L H1) v e) (o : LOk L p H1) (s : Stp L p H1 H2) : Rv K p (ctL L H2) v e := h.sameR (s.ct o)
theorem Res.step {m : Mode} (hm : m ≠ .fresh) (h : Res K m L p H0 H1 v e) (o : LOk L p H1) (s : Stp L p H1 H2) : Res K m L p H0 H2 v e := by
  cases m with
  | fresh => exact absurd rfl hm
  | data => exact Rv.step h o s
  | read =>
    rcases h with h | ⟨a, d, e1, e2, hl, h⟩
    · exact .inl (Rv.step h o s)
    · exact .inr ⟨a, d, e1, e2, hl, h.sameR (s.ct o) (s.loose a hl.1 hl.2)⟩
/-- what can be read -/
theorem Res.list {xs : List PyData} (h : Res K .read L p H0 H v (.py (.list xs))) : ∃ a vs, v = .ref a ∧ Rd H a (.lst vs) ∧ DtAll K (ctL L H) vs xs := by
  rcases h with h | ⟨a, d, e1, e2, hl, h⟩
  · cases h with
    | lstR h1 h2 => exact ⟨_, _, rfl, SameR.rd ctL_all h1, h2⟩
  · cases e2
    rcases h with ⟨vs, ys, e, h1, h2⟩ | ⟨_, _, e, _⟩
    · cases e
      exact ⟨a, vs, e1, .inl h1, h2⟩
    · cases e
theorem Res.tupN {xs : List PyData} (h : Res K .read L p H0 H v (.py (.tuple xs))) : ∃ a vs, v = .ref a ∧ Tn.SqN K H a vs ∧ DtAll K (ctL L H) vs xs := by
  rcases h with h | ⟨a, d, e1, e2, hl, h⟩
  · cases h with
    | tup h1 h2 => exact ⟨_, _, rfl, SameR.sqn ctL_all h1, h2⟩
  · cases e2
    rcases h with ⟨vs, ys, e, h1, h2⟩ | ⟨_, _, e, _⟩ <;> cases e
theorem Res.tup {xs : List PyData} (h : Res K .read L p H0 H v (.py (.tuple xs))) : ∃ a vs, v = .ref a ∧ SqT K H a vs ∧ DtAll K (ctL L H) vs xs := by
  obtain ⟨a, vs, e, h1, h2⟩ := h.tupN
  exact ⟨a, vs, e, h1.t, h2⟩
theorem Res.dict {ds : List (PyData × PyData)} (h : Res K .read L p H0 H v (.py (.dict ds))) : ∃ a kvs, v = .ref a ∧ Rd H a (.dK kvs) ∧ DtKv K (ctL L H) kvs ds := by
  rcases h with h | ⟨a, d, e1, e2, hl, h⟩
  · cases h with
    | dicR h1 h2 => exact ⟨_, _, rfl, SameR.rd ctL_all h1, h2⟩
  · cases e2
    rcases h with ⟨_, _, e, _⟩ | ⟨kvs, ys, e, h1, h2⟩
    · cases e
    · cases e
      exact ⟨a, kvs, e1, .inl h1, h2⟩
theorem Res.int {i : Int} (h : Res K .read L p H0 H v (.py (.int i))) : v = .int i := by
  rcases h with h | ⟨a, d, e1, e2, hl, h⟩
  · cases h
    rfl
  · cases e2
    rcases h with ⟨_, _, e, _⟩ | ⟨_, _, e, _⟩ <;> cases e
theorem Res.bool {i : Bool} (h : Res K .read L p H0 H v (.py (.bool i))) : v = .bl i := by
  rcases h with h | ⟨a, d, e1, e2, hl, h⟩
  · cases h
    rfl
  · cases e2
    rcases h with ⟨_, _, e, _⟩ | ⟨_, _, e, _⟩ <;> cases e
theorem Res.str {i : Str} (h : Res K .read L p H0 H v (.py (.str i))) : v = .str i := by
  rcases h with h | ⟨a, d, e1, e2, hl, h⟩
  · cases h
    rfl
  · cases e2
    rcases h with ⟨_, _, e, _⟩ | ⟨_, _, e, _⟩ <;> cases e
/-- as data in the whole heap -/
theorem Res.dt {d : PyData} (h : Res K .read L p H0 H v (.py d)) : Dt K H v d := by
  rcases h with h | ⟨a, d', e1, e2, hl, h⟩
  · exact Dt.sameR ctL_all d v h
  · cases e2
    subst e1
    exact h.dt ctL_all fun o h _ => h
end
end Dw

/-! Data ways: names, expressions. -/
namespace Dw
open PySem PySem.Spec PyProof.Rows L2 Dr Rp
open He (ga)
variable [Dw.LamReg]
abbrev EnvD := List EV
abbrev WF := EnvD → (EV → Prop) → Prop
abbrev WT := EnvD → (Bool → Prop) → Prop
abbrev WA := EnvD → (List EV → Prop) → Prop
/-- what is loose: the caller's, and what names alone hold -/
def Ls (Lc : Addr → Prop) (os : Nat → Option Addr) : Addr → Prop := fun b => Lc b ∨ ∃ i, os i = some b
/-- what a loop leans on: objects as they stand, values as data -/
structure Gh where
  ad : List (Addr × HO) := []
  vl : List (V × EV) := []
/-- an object that no step changes -/
def Rigid (o : HO) : Prop := (∀ kvs, o ≠ .dK kvs) ∧ ∀ φ, o ≠ .ext φ
theorem Rigid.lst {xs : List V} : Rigid (.lst xs) := ⟨(fun _ e => nomatch e), (fun _ e => nomatch e)⟩
theorem Rigid.tup {xs : List V} : Rigid (.tup xs) := ⟨(fun _ e => nomatch e), (fun _ e => nomatch e)⟩
theorem Rigid.frz {q : Obj} {u : HO} : Rigid (.frz q u) := ⟨(fun _ e => nomatch e), (fun _ e => nomatch e)⟩
def GhD (K : PySem.W.Frag) (p : Pt) (L : Addr → Prop) (H : Hp) (g : Gh) : Prop := (∀ z ∈ g.ad, Rigid z.2 ∧ ctL L H z.1 = some z.2) ∧ ∀ z ∈ g.vl, Rv K p (ctL L H) z.1 z.2
def GhR (K : PySem.W.Frag) (p : Pt) (L : Addr → Prop) (H : Hp) (g : Gh) : Prop := (∀ z ∈ g.ad, Rigid z.2 ∧ H z.1 = some z.2 ∧ (∀ ps, z.2 ≠ .tbl ps) ∧ p.q ≠ some z.1) ∧ ∀ z ∈ g.vl, Rv K p (ctL L H) z.1 z.2
theorem GhD.sameR {K : PySem.W.Frag} {p : Pt} {L L' : Addr → Prop} {H H' : Hp} {g : Gh} (h : GhD K p L H g) (s : SameR (ctL L H) (ctL L' H')) : GhD K p L' H' g := by
  refine ⟨fun z hz => ⟨(h.1 z hz).1, ?_⟩, fun z hz => (h.2 z hz).sameR s⟩
  obtain ⟨r, e⟩ := h.1 z hz
  obtain ⟨o', e', k⟩ := s _ _ e
  rcases k with rfl | ⟨kvs, q, e2, _⟩
  · exact e'
  · exact absurd e2 (r.1 kvs)
theorem GhD.read {K : PySem.W.Frag} {p : Pt} {L : Addr → Prop} {H : Hp} {g : Gh} (h : GhD K p L H g) (o : LOk L p H) : GhR K p L H g :=
  ⟨fun z hz => ⟨(h.1 z hz).1, (ctL_of (h.1 z hz).2).2.1, (ctL_of (h.1 z hz).2).2.2, fun e => (ctL_of (h.1 z hz).2).1 (o.str _ e).1⟩, h.2⟩
theorem GhR.step {K : PySem.W.Frag} {p : Pt} {L : Addr → Prop} {H H' : Hp} {g : Gh} (h : GhR K p L H g) (o : LOk L p H) (s : Stp L p H H') : GhR K p L H' g := by
  refine ⟨fun z hz => ?_, fun z hz => (h.2 z hz).sameR (s.ct o)⟩
  obtain ⟨r, e, t, n⟩ := h.1 z hz
  obtain ⟨o', e', k⟩ := s.keep _ _ n t e
  rcases k with rfl | ⟨kvs, q, e2, _⟩
  · exact ⟨r, e', t, n⟩
  · exact absurd e2 (r.1 kvs)
/-- under more that is loose but none of its values -/
theorem GhR.mono {K : PySem.W.Frag} {p : Pt} {L L' : Addr → Prop} {H H' : Hp} {g : Gh} (h : GhR K p L H g) (s : SameR (ctL L H) (ctL L' H')) (k : ∀ z ∈ g.ad, H z.1 = some z.2 → H' z.1 = some z.2) : GhR K p L' H' g :=
  ⟨fun z hz => ⟨(h.1 z hz).1, k z hz (h.1 z hz).2.1, (h.1 z hz).2.2⟩, fun z hz => (h.2 z hz).sameR s⟩
structure EnvOk (K : PySem.W.Frag) (He : Hp) (Lc : Addr → Prop) (os : Nat → Option Addr) (p : Pt) (gs : Gh) (H : Hp) (σ : L2.St) (ρ : EnvD) : Prop where
  len : σ.length = ρ.length
  val : ∀ (i : Nat) (e : EV), ρ[i]? = some e → match e with
    | .no => True
    | .own _ => ∃ a, os i = some a
    | .owl _ => ∃ a, os i = some a
    | e => ∃ v, σ[i]? = some (some v) ∧ Rv K p (ctL (Ls Lc os) H) v e
  own : ∀ i a, os i = some a → ∃ d : OD, ρ[i]? = some d.ev ∧ σ[i]? = some (some (.ref a)) ∧ OwnE K (ctL (Ls Lc os) H) H a d
  inj : ∀ i j a, os i = some a → os j = some a → i = j
  fre : ∀ i a, os i = some a → ¬ Lc a ∧ FreeT He a
  gho : GhD K p (Ls Lc os) H gs
  lok : LOk Lc p H
  stp : Stp Lc p He H
section
variable {K : PySem.W.Frag} {He : Hp} {Lc : Addr → Prop} {os : Nat → Option Addr} {p : Pt} {gs : Gh} {H H' : Hp} {σ : L2.St} {ρ : EnvD}
theorem EnvOk.lokL (E : EnvOk K He Lc os p gs H σ ρ) : LOk (Ls Lc os) p H := by
  refine ⟨fun b l => ?_, fun q e => ⟨.inl (E.lok.str q e).1, (E.lok.str q e).2⟩, E.lok.tbs⟩
  rcases l with l | ⟨i, e⟩
  · exact E.lok.live b l
  · obtain ⟨d, _, _, h⟩ := E.own i b e
    rcases h.at with ⟨_, h⟩ | ⟨_, h⟩
    · exact ⟨_, h, .lst⟩
    · exact ⟨_, h, .dK⟩
/-- behind an expression -/
theorem EnvOk.step (E : EnvOk K He Lc os p gs H σ ρ) (s : Stp (Ls Lc os) p H H') (o : LOk (Ls Lc os) p H') : EnvOk K He Lc os p gs H' σ ρ := by
  have sr := s.ct E.lokL
  refine ⟨E.len, fun i e h => ?_, fun i a h => ?_, E.inj, E.fre, E.gho.sameR sr, o.sub (fun b l => .inl l) fun q e => (E.lok.str q e).1, E.stp.trans (s.sub fun b l => .inl l)⟩
  · have q := E.val i e h
    cases e with
    | no => trivial
    | own d => exact q
    | py d =>
      obtain ⟨v, h1, h2⟩ := q
      exact ⟨v, h1, h2.sameR sr⟩
    | st =>
      obtain ⟨v, h1, h2⟩ := q
      exact ⟨v, h1, h2.sameR sr⟩
    | ob C fs =>
      obtain ⟨v, h1, h2⟩ := q
      exact ⟨v, h1, h2.sameR sr⟩
    | pk ds =>
      obtain ⟨v, h1, h2⟩ := q
      exact ⟨v, h1, h2.sameR sr⟩
    | kp ds =>
      obtain ⟨v, h1, h2⟩ := q
      exact ⟨v, h1, h2.sameR sr⟩
    | ol ds =>
      obtain ⟨v, h1, h2⟩ := q
      exact ⟨v, h1, h2.sameR sr⟩
    | ot ds =>
      obtain ⟨v, h1, h2⟩ := q
      exact ⟨v, h1, h2.sameR sr⟩
    | od ds =>
      obtain ⟨v, h1, h2⟩ := q
      exact ⟨v, h1, h2.sameR sr⟩
    | nd ds =>
      obtain ⟨v, h1, h2⟩ := q
      exact ⟨v, h1, h2.sameR sr⟩
    | pw ds =>
      obtain ⟨v, h1, h2⟩ := q
      exact ⟨v, h1, h2.sameR sr⟩
    | owl d => exact q
  · obtain ⟨d, h1, h2, h3⟩ := E.own i a h
    refine ⟨d, h1, h2, h3.sameR sr (s.loose a (.inr ⟨i, h⟩) fun e => ?_)⟩
    exact (E.fre i a h).1 (E.lok.str a e).1
/-- more ghosts, fewer ghosts -/
theorem EnvOk.ghost (E : EnvOk K He Lc os p gs H σ ρ) {gs' : Gh} (h : GhD K p (Ls Lc os) H gs') : EnvOk K He Lc os p gs' H σ ρ :=
  ⟨E.len, E.val, E.own, E.inj, E.fre, h, E.lok, E.stp⟩
end
/-- an expression's way: f tells what may come out, and that the heap is a step on -/
def tW (K : PySem.W.Frag) (m : Mode) (f : WF) : TE := fun σ H Q => ∃ He Lc os p gs ρ P, EnvOk K He Lc os p gs H σ ρ ∧ f ρ P ∧
  ∀ e H' v, P e → Stp (Ls Lc os) p H H' → LOk (Ls Lc os) p H' → Res K m (Ls Lc os) p H H' v e → Q v H'
def tWT (K : PySem.W.Frag) (f : WT) : TT := fun σ H Q => ∃ He Lc os p gs ρ P, EnvOk K He Lc os p gs H σ ρ ∧ f ρ P ∧
  ∀ b H', P b → Stp (Ls Lc os) p H H' → LOk (Ls Lc os) p H' → Q b H'
/-- arguments: data -/
def tWA (K : PySem.W.Frag) (m : Mode) (f : WA) : TA := fun σ H Q => ∃ He Lc os p gs ρ P, EnvOk K He Lc os p gs H σ ρ ∧ f ρ P ∧
  ∀ es H' vs, P es → Stp (Ls Lc os) p H H' → LOk (Ls Lc os) p H' → Paired (fun v e => Res K m (Ls Lc os) p H H' v e) vs es → Q vs H'
theorem pe_mono {X : Cx} {e : Expr} {t t' : TE} (h : PE X e t) (k : ∀ σ H Q, t' σ H Q → t σ H Q) : PE X e t' := ⟨fun pins s σ H Q I q => h.run pins s σ H Q I (k σ H Q q)⟩
theorem pt_mono {X : Cx} {e : Expr} {t t' : TT} (h : PT X e t) (k : ∀ σ H Q, t' σ H Q → t σ H Q) : PT X e t' := ⟨fun pins s σ H Q I q => h.run pins s σ H Q I (k σ H Q q)⟩
theorem pa_mono {X : Cx} {es : List Expr} {t t' : TA} (h : PA X es t) (k : ∀ σ H Q, t' σ H Q → t σ H Q) : PA X es t' := ⟨fun pos pins s σ H Q I q => h.run pos pins s σ H Q I (k σ H Q q)⟩
/-! ### values in ways -/
def wC (d : PyData) : WF := fun _ P => P (.py d)
def wVar (m : Mode) (i : Nat) : WF := fun ρ P => match ρ[i]? with
  | some (.py d) => P (.py d)
  | some .st => P .st
  | some (.ob C fs) => P (.ob C fs)
  | some (.pk ds) => P (.pk ds)
  | some (.kp u) => P (.kp u)
  | some (.ol xs) => P (.ol xs)
  | some (.ot xs) => P (.ot xs)
  | some (.od xs) => P (.od xs)
  | some (.nd xs) => P (.nd xs)
  | some (.pw xs) => P (.pw xs)
  | some (.own d) => m = .read ∧ P (.py d)
  | _ => False
/-- one behind another -/
def w1 (fa : WF) (g : EV → (EV → Prop) → Prop) : WF := fun ρ P => fa ρ fun x => g x P
def w2 (fa fb : WF) (g : EV → EV → (EV → Prop) → Prop) : WF := fun ρ P => fa ρ fun x => fb ρ fun y => g x y P
def wT1 (fa : WF) (g : EV → (Bool → Prop) → Prop) : WT := fun ρ P => fa ρ fun x => g x P
section
variable {X : Cx} {m : Mode}
/-- the kernel of all ways of one part -/
theorem k1 {e : Expr} {fa : WF} {ma : Mode} {g : EV → (EV → Prop) → Prop} (r : V → Hp → VK → Prop) (hma : ma ≠ .fresh) (h : PE X e (fun σ H Q => tW X.K ma fa σ H fun x H1 => r x H1 Q))
    (snd : ∀ L p H0 H v a P Q, LOk L p H → Res X.K ma L p H0 H v a → g a P → (∀ b H' v', P b → Stp L p H H' → LOk L p H' → Res X.K m L p H H' v' b → Q v' H') → r v H Q) : PE X e (tW X.K m (w1 fa g)) := by
  refine pe_mono h fun σ H Q q => ?_
  obtain ⟨He, Lc, os, p, gs, ρ, P, E, hf, k⟩ := q
  exact ⟨He, Lc, os, p, gs, ρ, _, E, hf, fun a H1 v ha s o ra => snd _ p H H1 v a P Q o ra ha fun b H' v' hb s' o' rb => k b H' v' hb (s.trans s') o' (rb.base s)⟩
theorem k2 {e : Expr} {fa fb : WF} {ma mb : Mode} {g : EV → EV → (EV → Prop) → Prop} (r : V → V → Hp → VK → Prop) (hma : ma ≠ .fresh) (hmb : mb ≠ .fresh) (h : PE X e (fun σ H Q => tW X.K ma fa σ H fun x H1 => tW X.K mb fb σ H1 fun y H2 => r x y H2 Q))
    (snd : ∀ L p H0 H v a u b P Q, LOk L p H → Res X.K ma L p H0 H v a → Res X.K mb L p H0 H u b → g a b P → (∀ c H' v', P c → Stp L p H H' → LOk L p H' → Res X.K m L p H H' v' c → Q v' H') → r v u H Q) : PE X e (tW X.K m (w2 fa fb g)) := by
  refine pe_mono h fun σ H Q q => ?_
  obtain ⟨He, Lc, os, p, gs, ρ, P, E, hf, k⟩ := q
  refine ⟨He, Lc, os, p, gs, ρ, _, E, hf, fun a H1 v ha s o ra => ?_⟩
  refine ⟨He, Lc, os, p, gs, ρ, _, E.step s o, ha, fun b H2 u hb s2 o2 rb => ?_⟩
  exact snd _ p H H2 v a u b P Q o2 (ra.step hma o s2) (rb.base s) hb fun c H' v' hc s' o' rc => k c H' v' hc ((s.trans s2).trans s') o' (rc.base (s.trans s2))
theorem kt1 {e : Expr} {fa : WF} {ma : Mode} {g : EV → (Bool → Prop) → Prop} (r : V → Hp → (Bool → Hp → Prop) → Prop) (hma : ma ≠ .fresh) (h : PT X e (fun σ H Q => tW X.K ma fa σ H fun x H1 => r x H1 Q))
    (snd : ∀ L p H0 H v a P Q, LOk L p H → Res X.K ma L p H0 H v a → g a P → (∀ b, P b → Q b H) → r v H Q) : PT X e (tWT X.K (wT1 fa g)) := by
  refine pt_mono h fun σ H Q q => ?_
  obtain ⟨He, Lc, os, p, gs, ρ, P, E, hf, k⟩ := q
  exact ⟨He, Lc, os, p, gs, ρ, _, E, hf, fun a H1 v ha s o ra => snd _ p H H1 v a P _ o ra ha fun b hb => k b H1 hb s o⟩
/-! ### names, constants -/
theorem dC {v : V} {d : PyData} {e : Expr} (hm : m ≠ .fresh) (h : PE X e (tC v)) (hd : ∀ G, Dt X.K G v d) : PE X e (tW X.K m (wC d)) := by
  refine pe_mono h fun σ H Q q => ?_
  obtain ⟨He, Lc, os, p, gs, ρ, P, E, hf, k⟩ := q
  exact k _ H v hf Stp.refl E.lokL (Res.of_data hm (hd _))
theorem dint {i j pos} (hm : m ≠ .fresh := by decide) : PE X (.Constant (.int i) j pos) (tW X.K m (wC (.int i))) := dC hm pe_int fun _ => .int i
theorem dbl {b j pos} (hm : m ≠ .fresh := by decide) : PE X (.Constant (.bool b) j pos) (tW X.K m (wC (.bool b))) := dC hm pe_bl fun _ => .bl b
/-- a module's int -/
theorem dgi {x : Str} {i : Int} {t : Tok} {pos : Pos} (hg : Gl X x) (h : X.mg x = some (.int i t)) (hm : m ≠ .fresh := by decide) (hd : (x == ("__debug__" : Str)) = false := by decide) : PE X (.Name x pos) (tW X.K m (wC (.int i))) := dC hm (pe_glob (v := .int i) hg h ⟨t, rfl⟩ hd) fun _ => .int i
theorem dv_of {e : Expr} {i : Nat} (hm : m ≠ .fresh) (h : PE X e (tVar i)) : PE X e (tW X.K m (wVar m i)) := by
  refine pe_mono h fun σ H Q q => ?_
  obtain ⟨He, Lc, os, p, gs, ρ, P, E, hf, k⟩ := q
  unfold wVar at hf
  cases hi : ρ[i]? with
  | none =>
    rw [hi] at hf
    exact hf.elim
  | some e =>
    rw [hi] at hf
    have z := E.val i e hi
    cases e with
    | no => exact hf.elim
    | own d =>
      obtain ⟨rfl, hf⟩ := hf
      obtain ⟨a, ha⟩ := z
      obtain ⟨d', h1, h2, h3⟩ := E.own i a ha
      rw [hi] at h1
      cases d' <;> cases h1
      exact ⟨.ref a, h2, k _ H _ hf Stp.refl E.lokL (.inr ⟨a, d, rfl, rfl, ⟨.inr ⟨i, ha⟩, fun e => (E.fre i a ha).1 (E.lok.str a e).1⟩, h3⟩)⟩
    | py d =>
      obtain ⟨v, h1, h2⟩ := z
      exact ⟨v, h1, k _ H v hf Stp.refl E.lokL (Res.of_data hm h2)⟩
    | st =>
      obtain ⟨v, h1, h2⟩ := z
      exact ⟨v, h1, k _ H v hf Stp.refl E.lokL (Res.of_data hm h2)⟩
    | ob C fs =>
      obtain ⟨v, h1, h2⟩ := z
      exact ⟨v, h1, k _ H v hf Stp.refl E.lokL (Res.of_data hm h2)⟩
    | pk ds =>
      obtain ⟨v, h1, h2⟩ := z
      exact ⟨v, h1, k _ H v hf Stp.refl E.lokL (Res.of_data hm h2)⟩
    | kp ds =>
      obtain ⟨v, h1, h2⟩ := z
      exact ⟨v, h1, k _ H v hf Stp.refl E.lokL (Res.of_data hm h2)⟩
    | ol ds =>
      obtain ⟨v, h1, h2⟩ := z
      exact ⟨v, h1, k _ H v hf Stp.refl E.lokL (Res.of_data hm h2)⟩
    | ot ds =>
      obtain ⟨v, h1, h2⟩ := z
      exact ⟨v, h1, k _ H v hf Stp.refl E.lokL (Res.of_data hm h2)⟩
    | od ds =>
      obtain ⟨v, h1, h2⟩ := z
      exact ⟨v, h1, k _ H v hf Stp.refl E.lokL (Res.of_data hm h2)⟩
    | nd ds =>
      obtain ⟨v, h1, h2⟩ := z
      exact ⟨v, h1, k _ H v hf Stp.refl E.lokL (Res.of_data hm h2)⟩
    | pw ds =>
      obtain ⟨v, h1, h2⟩ := z
      exact ⟨v, h1, k _ H v hf Stp.refl E.lokL (Res.of_data hm h2)⟩
    | owl d => exact hf.elim
theorem dv (i : Nat) {x : Str} {pos : Pos} (hm : m ≠ .fresh := by decide) (hN : X.N[i]? = some x := by rfl) (hv : Vis X.env.scope x := by first | exact Or.inl rfl | exact Or.inr (Or.inl rfl) | exact Or.inr (Or.inr rfl)) (hd : (x == ("__debug__" : Str)) = false := by decide)
    (hcd : (x == ("__classdict__" : Str)) = false := by decide) : PE X (.Name x pos) (tW X.K m (wVar m i)) := dv_of hm (pe_var hN hv hd hcd)
/-! ### arguments -/
def wNil : WA := fun _ P => P []
def wCons (fa : WF) (fr : WA) : WA := fun ρ P => fa ρ fun x => fr ρ fun xs => P (x :: xs)
theorem danil : PA X [] (tWA X.K m wNil) := by
  refine pa_mono pa_nil fun σ H Q q => ?_
  obtain ⟨He, Lc, os, p, gs, ρ, P, E, hf, k⟩ := q
  exact k [] H [] hf Stp.refl E.lokL .nil
theorem dacons {e : Expr} {es : List Expr} {fa : WF} {fr : WA} (ha : PE X e (tW X.K m fa)) (hr : PA X es (tWA X.K m fr)) (hm : m ≠ .fresh := by decide) (hse : starEach (e :: es) X.env = (false, eval e X.env) :: starEach es X.env := by rfl) : PA X (e :: es) (tWA X.K m (wCons fa fr)) := by
  refine pa_mono (pa_cons ha hr hse) fun σ H Q q => ?_
  obtain ⟨He, Lc, os, p, gs, ρ, P, E, hf, k⟩ := q
  refine ⟨He, Lc, os, p, gs, ρ, _, E, hf, fun a H1 v ha s o ra => ?_⟩
  refine ⟨He, Lc, os, p, gs, ρ, _, E.step s o, ha, fun es H2 vs hb s2 o2 rb => ?_⟩
  exact k _ H2 _ hb (s.trans s2) o2 (.cons (ra.step hm o s2) (Paired.mapP rb fun v e r => r.base s))
/-- the kernel of ways of arguments -/
theorem ka {e : Expr} {fa : WA} {ma : Mode} {g : List EV → (EV → Prop) → Prop} (r : List V → Hp → VK → Prop) (h : PE X e (fun σ H Q => tWA X.K ma fa σ H fun x H1 => r x H1 Q))
    (snd : ∀ L p H0 H vs es P Q, LOk L p H → Paired (fun v e => Res X.K ma L p H0 H v e) vs es → g es P → (∀ b H' v', P b → Stp L p H H' → LOk L p H' → Res X.K m L p H H' v' b → Q v' H') → r vs H Q) : PE X e (tW X.K m (fun ρ P => fa ρ fun xs => g xs P)) := by
  refine pe_mono h fun σ H Q q => ?_
  obtain ⟨He, Lc, os, p, gs, ρ, P, E, hf, k⟩ := q
  exact ⟨He, Lc, os, p, gs, ρ, _, E, hf, fun a H1 v ha s o ra => snd _ p H H1 v a P Q o ra ha fun b H' v' hb s' o' rb => k b H' v' hb (s.trans s') o' (rb.base s)⟩
/-! ### tests -/
def wTB : EV → (Bool → Prop) → Prop
  | .py (.bool b), P => P b
  | _, _ => False
/-- an expression that gives a truth -/
theorem dtest {e : Expr} {fa : WF} (h : PE X e (tW X.K .read fa)) (he : ∀ whole, isTrue e X.env whole = (do let v ← whole; standAt e.pos; holding [v] (truthy v)) := by intro _; rfl) : PT X e (tWT X.K (wT1 fa wTB)) :=
  kt1 (ma := .read) (g := wTB) (fun x H Q => ∃ c, x = .bl c ∧ Q c H) (by decide) (pt_val h he) fun L p H0 H v a P Q o ra hg k => by
    unfold wTB at hg
    split at hg
    · exact ⟨_, ra.bool, k _ hg⟩
    · exact hg.elim
def wTAnd (t u : WT) : WT := fun ρ P => t ρ fun c => if c = true then u ρ P else P false
def wTOr (t u : WT) : WT := fun ρ P => t ρ fun c => if c = true then P true else u ρ P
def wTNot (t : WT) : WT := fun ρ P => t ρ fun c => P (!c)
structure PWD (X : Cx) (e : Expr) (f : WT) : Prop where
  pw : PW X e (tWT X.K f)
theorem pw_mono {e : Expr} {t t' : TT} (h : PW X e t) (k : ∀ σ H Q, t' σ H Q → t σ H Q) : PW X e t' := ⟨fun wh pins s σ H Q I q => h.run wh pins s σ H Q I (k σ H Q q)⟩
theorem dw_and1 {a : Expr} {pos : Pos} {f : WT} (h : PT X a (tWT X.K f)) : PW X (.BoolOp .And [a] pos) (tWT X.K f) := pw_and1 h
theorem dw_or1 {a : Expr} {pos : Pos} {f : WT} (h : PT X a (tWT X.K f)) : PW X (.BoolOp .Or [a] pos) (tWT X.K f) := pw_or1 h
theorem dw_and {a b : Expr} {rest : List Expr} {pos : Pos} {f g : WT} (h : PT X a (tWT X.K f)) (k : PW X (.BoolOp .And (b :: rest) pos) (tWT X.K g)) : PW X (.BoolOp .And (a :: b :: rest) pos) (tWT X.K (wTAnd f g)) := by
  refine pw_mono (pw_and h k) fun σ H Q q => ?_
  obtain ⟨He, Lc, os, p, gs, ρ, P, E, hf, k⟩ := q
  refine ⟨He, Lc, os, p, gs, ρ, _, E, hf, fun b H1 hb s o => ?_⟩
  cases b with
  | true => exact ⟨He, Lc, os, p, gs, ρ, _, E.step s o, hb, fun c H2 hc s2 o2 => k c H2 hc (s.trans s2) o2⟩
  | false => exact k false H1 hb s o
theorem dw_or {a b : Expr} {rest : List Expr} {pos : Pos} {f g : WT} (h : PT X a (tWT X.K f)) (k : PW X (.BoolOp .Or (b :: rest) pos) (tWT X.K g)) : PW X (.BoolOp .Or (a :: b :: rest) pos) (tWT X.K (wTOr f g)) := by
  refine pw_mono (pw_or h k) fun σ H Q q => ?_
  obtain ⟨He, Lc, os, p, gs, ρ, P, E, hf, k⟩ := q
  refine ⟨He, Lc, os, p, gs, ρ, _, E, hf, fun b H1 hb s o => ?_⟩
  cases b with
  | false => exact ⟨He, Lc, os, p, gs, ρ, _, E.step s o, hb, fun c H2 hc s2 o2 => k c H2 hc (s.trans s2) o2⟩
  | true => exact k true H1 hb s o
theorem dt_not {a : Expr} {pos : Pos} {f : WT} (h : PT X a (tWT X.K f)) : PT X (.UnaryOp .Not a pos) (tWT X.K (wTNot f)) := by
  refine pt_mono (pt_not h) fun σ H Q q => ?_
  obtain ⟨He, Lc, os, p, gs, ρ, P, E, hf, k⟩ := q
  exact ⟨He, Lc, os, p, gs, ρ, _, E, hf, fun b H1 hb s o => k _ H1 hb s o⟩
def wAndV (fa fb : WF) : WF := fun ρ P => fa ρ fun x => match x with
  | .py (.bool c) => if c = true then fb ρ P else P (.py (.bool false))
  | _ => False
def wOrV (fa fb : WF) : WF := fun ρ P => fa ρ fun x => match x with
  | .py (.bool c) => if c = true then P (.py (.bool true)) else fb ρ P
  | _ => False
def wIf (t : WT) (fa fb : WF) : WF := fun ρ P => t ρ fun c => if c = true then fa ρ P else fb ρ P
def wNotV : EV → (EV → Prop) → Prop
  | .py (.bool c), P => P (.py (.bool (!c)))
  | _, _ => False
theorem dand {a b : Expr} {rest : List Expr} {pos : Pos} {f g : WF} (h : PE X a (tW X.K .read f)) (k : PE X (.BoolOp .And (b :: rest) pos) (tW X.K m g)) (hm : m ≠ .fresh := by decide) : PE X (.BoolOp .And (a :: b :: rest) pos) (tW X.K m (wAndV f g)) := by
  refine pe_mono (pe_and h k) fun σ H Q q => ?_
  obtain ⟨He, Lc, os, p, gs, ρ, P, E, hf, k⟩ := q
  refine ⟨He, Lc, os, p, gs, ρ, _, E, hf, fun b H1 v hb s o r => ?_⟩
  split at hb
  · refine ⟨_, r.bool, ?_⟩
    split at hb
    · rename_i hc
      rw [if_pos hc]
      exact ⟨He, Lc, os, p, gs, ρ, _, E.step s o, hb, fun c H2 v2 hc s2 o2 r2 => k c H2 v2 hc (s.trans s2) o2 (r2.base s)⟩
    · rename_i hc
      rw [if_neg hc]
      exact k _ H1 _ hb s o (Res.of_data hm (.bl false))
  · exact hb.elim
theorem dnot {a : Expr} {pos : Pos} {f : WF} (h : PE X a (tW X.K .read f)) (hm : m ≠ .fresh := by decide) : PE X (.UnaryOp .Not a pos) (tW X.K m (w1 f wNotV)) :=
  k1 (ma := .read) (g := wNotV) (fun x H Q => ∃ c, x = .bl c ∧ Q (.bl (!c)) H) (by decide) (pe_not h) fun L p H0 H v a P Q o ra hg k => by
    unfold wNotV at hg
    split at hg
    · exact ⟨_, ra.bool, k _ H _ hg Stp.refl o (Res.of_data hm (.bl _))⟩
    · exact hg.elim
end
end Dw

/-! t[::-1] of a tuple. -/
namespace Tp
open PySem PySem.Spec PyProof.Rows L2
def tRevT (K : PySem.W.Frag) (te : TE) : TE := fun σ H Q => te σ H fun x H1 => ∃ a xs, x = .ref a ∧ SqT K H1 a xs ∧ Tn.NewT H1 xs.reverse Q
section
variable {X : Cx}
end
end Tp

/-! t + u and t[lo:hi] of tuples, wherever they stand. -/
namespace Tp
open PySem PySem.Spec PyProof.Rows L2 Rp
/-- t + u, wherever the sum stands -/
def rCatB (K : PySem.W.Frag) : R2 := fun x y H Q => ∃ a b xs ys, x = .ref a ∧ y = .ref b ∧ Tn.SqN K H a xs ∧ Tn.SqN K H b ys ∧ xs.length + ys.length ≤ 1000 ∧ ∀ H' p, Same H H' → Tn.SqN K H' p (xs ++ ys) → Q (.ref p) H'
theorem op_catB {X : Cx} : OpR X (binaryOp .Add) (rCatB X.K) := by
  intro pins s σ H x y v u Q I rx ry h
  obtain ⟨a, b, xs, ys, rfl, rfl, ha, hb, hz, q⟩ := h
  refine Tn.op_catN pins s σ H _ _ v u Q I rx ry ⟨a, b, xs, ys, rfl, rfl, ha.t, hb.t, by rw [sizeLine_eq]; omega, fun e => ?_, fun _ e => ?_, fun _ _ p ob np nd => q _ p (smu np) (.inl ⟨ob, upd_same, nd⟩)⟩
  · subst e
    exact q H b (Same.refl H) hb
  · subst e
    refine q H a (Same.refl H) ?_
    rw [List.append_nil]
    exact ha
/-- t[lo:hi], wherever it stands -/
def rSlB (K : PySem.W.Frag) : V → Option Int → Option Int → Hp → VK → Prop := fun x lo hi H Q => ∃ a xs, x = .ref a ∧ Tn.SqN K H a xs ∧ ∀ H' p, Same H H' → Tn.SqN K H' p (cutV xs lo hi) → Q (.ref p) H'
theorem sl_tupB {X : Cx} : SlR X (rSlB X.K) := by
  intro pins s σ H x v vl vu lo hi sl Q I rx hs pl pu h
  obtain ⟨a, xs, rfl, hx, q⟩ := h
  refine Tn.sl_tupN pins s σ H _ v vl vu lo hi sl Q I rx hs pl pu ⟨a, xs, rfl, hx.t, fun e => ?_, fun _ p ob np nd => q _ p (smu np) (.inl ⟨ob, upd_same, nd⟩)⟩
  refine q H a (Same.refl H) ?_
  have z : cutV xs lo hi = xs := by
    unfold cutV
    rw [e.1, e.2, List.drop_zero, Nat.sub_zero, List.take_length]
  rw [z]
  exact hx
/-- the same of tuples that are tracked: what comes is tracked -/
def rCatT (K : PySem.W.Frag) : R2 := fun x y H Q => ∃ a b xs ys, x = .ref a ∧ y = .ref b ∧ H a = some (.tup xs) ∧ H b = some (.tup ys) ∧ xs.length + ys.length ≤ 1000 ∧ ∀ H' p, Same H H' → H' p = some (.tup (xs ++ ys)) → Q (.ref p) H'
def rSlT (K : PySem.W.Frag) : V → Option Int → Option Int → Hp → VK → Prop := fun x lo hi H Q => ∃ a xs, x = .ref a ∧ H a = some (.tup xs) ∧ ∀ H' p, Same H H' → H' p = some (.tup (cutV xs lo hi)) → Q (.ref p) H'
end Tp

/-! sorted(xs, key=f) where f's calls keep what a promise of one's own tells. -/
namespace SoK
open PySem PySem.W PySem.Calls PyProof.Rows
section
variable {prog : Program} {w : World} {A : Around} {E : Value → Shared → Prop} {s : Shared} {a : Addr} {vs : List Value} {kz : List PyData} {P : PySem.Fin → Shared → Prop}
/-- at most one key: nothing is compared -/
theorem sorts_one {ks : List Value} (e : EachIs (fun v d => ∃ as, Reads s.heap v d as) ks kz) (hal : AllAlike kz) (hnn : ∀ d ∈ kz, d ≠ .none) (h1 : kz.length ≤ 1) (hu : ∀ d, d ∈ kz → A.units + d.depth < cLine) : SortsAt prog w A s (dataKind s.heap kz) ks := by
  refine ⟨fun v hv => ?_, ⟨general', fun E x y p q Q ha hb hq => ?_, fun h2 => ?_⟩⟩
  · obtain ⟨d, hd, as, r⟩ := e.left v hv
    exact ⟨_, dataKind_some hal hd r⟩
  · obtain ⟨d, as, hd, ra, rfl⟩ := dataKind_inv ha
    obtain ⟨d', as', hd', rb, rfl⟩ := dataKind_inv hb
    show wpAny (model prog w) A (oneLt' false x y) Q E s
    exact oneLt_alike (fun z => nomatch z) ra rb (hal d hd d' hd') (hnn d hd) (Nat.lt_of_le_of_lt (Nat.add_le_add_left (Nat.min_le_left _ _) _) (hu d hd)) hq
  · have := e.length
    omega
end
end SoK

/-! sorted of a set of tuples of any ints. -/
namespace Tq
open PySem PySem.Spec PySem.W PySem.Calls PyProof.Rows L2
def rowD (ns : List Int) : PyData := .tuple (ns.map PyData.int)
def leD : List Int → List Int → Bool := dataLe false rowD
/-- what a list of references stands for: the items of L in some order -/
theorem refs_perm {L : List (Addr × List Int)} (one : ∀ q ∈ L, ∀ r ∈ L, q.1 = r.1 → q = r) : ∀ {vs : List Value}, (∀ v ∈ vs, v ∈ L.map fun q => Value.ref q.1) → ∃ L1 : List (Addr × List Int), vs = L1.map (fun q => Value.ref q.1) ∧ (∀ q ∈ L1, q ∈ L)
  | [], _ => ⟨[], rfl, fun q hq => nomatch hq⟩
  | v :: vs, h => by
    obtain ⟨q, hq, rfl⟩ := List.mem_map.mp (h v List.mem_cons_self)
    obtain ⟨L1, e1, h1⟩ := refs_perm one fun u hu => h u (List.mem_cons_of_mem _ hu)
    exact ⟨q :: L1, by rw [e1] <;> rfl, fun r hr => (List.mem_cons.mp hr).elim (fun e => e ▸ hq) (h1 r)⟩
theorem perm_of_refs {L L1 : List (Addr × List Int)} (one : ∀ q ∈ L, ∀ r ∈ L, q.1 = r.1 → q = r) (nd : L.Nodup) (sub : ∀ q ∈ L1, q ∈ L) (p : (L1.map fun q => Value.ref q.1).Perm (L.map fun q => Value.ref q.1)) : L1.Perm L := by
  have key : ∀ M : List (Addr × List Int), M.Nodup → (∀ q ∈ M, q ∈ L) → (M.map fun q => Value.ref q.1).Nodup := fun M hM hs => by
    rw [List.Nodup, List.pairwise_map]
    exact hM.imp_of_mem fun {a b} ha hb ne e => ne (one a (hs a ha) b (hs b hb) (by injection e))
  have n2 := p.nodup_iff.mpr (key L nd fun _ h => h)
  have n1 : L1.Nodup := by
    rw [List.Nodup, List.pairwise_map] at n2
    exact n2.imp fun {a b} h e => h (by rw [e])
  refine (List.perm_ext_iff_of_nodup n1 nd).mpr fun q => ⟨sub q, fun hq => ?_⟩
  obtain ⟨r, hr, e⟩ := List.mem_map.mp (p.mem_iff.mpr (List.mem_map_of_mem hq))
  have e2 : r.1 = q.1 := by injection e
  exact one r (sub r hr) q hq e2 ▸ hr
theorem alike_rows (x y : List Int) : alike (rowD x) (rowD y) = true := alike_ints x y
section
variable {P : Program} {w : World} {A : Around} {E : Value → Shared → Prop} {s : Shared} {a : Addr} {L : List (Addr × List Int)} {es : Array (Int × Value)} {ep : Nat} {t : SetTable}
end
/-- sorted(set), the set's items tuples of ints -/
def rSortedTA (K : PySem.W.Frag) (P : Program) (w : World) : List V → Hp → VK → Prop := fun vs H Q => ∃ (a : Addr) (L : List (Addr × List Int)), vs = [V.ref a] ∧ H a = some (SetTO P w a L) ∧ (∀ p ∈ L, SqT K H p.1 (p.2.map V.int)) ∧
  ((L.map (·.2)).Nodup → L.length < 64 → ((∀ p ∈ L, p.2 ≠ []) ∨ L.length ≤ 1) ∧ ∀ (L1 : List (Addr × List Int)) (p : Addr), L1.Perm L → H p = none → Q (.ref p) (upd H p (.lst ((L1.mergeSort fun q r => leD q.2 r.2).map fun q => V.ref q.1))))
theorem refs_vals : ∀ L : List (Addr × List Int), Vals (L.map fun q => V.ref q.1) (L.map fun q => Value.ref q.1)
  | [] => .nil
  | _ :: r => .cons rfl (refs_vals r)
theorem dpi {K : PySem.W.Frag} {H : Hp} : ∀ ns : List Int, DpAll K H (ns.map V.int) (ns.map PyData.int)
  | [] => .nil
  | n :: r => .cons (.int n) (dpi r)
end Tq

/-! Data ways: operators, calls of built-ins. -/
namespace Dw
open PySem PySem.Spec PySem.W PyProof.Rows L2 Dr Rp
open He (ga)
variable [Dw.LamReg]
section
variable {X : Cx} {m : Mode}
theorem opr_or {f : Value → Value → Sem Value} {r r' : R2} (h : OpR X f r) (h' : OpR X f r') : OpR X f (fun x y H Q => r x y H Q ∨ r' x y H Q) := by
  intro pins s σ H x y v u Q I rx ry q
  rcases q with q | q
  · exact h pins s σ H x y v u Q I rx ry q
  · exact h' pins s σ H x y v u Q I rx ry q
theorem cr_or {f : Value} {r r' : List V → Hp → VK → Prop} (h : CallR X f r) (h' : CallR X f r') : CallR X f (fun x H Q => r x H Q ∨ r' x H Q) := by
  intro pins s σ H x v Q I rx q
  rcases q with q | q
  · exact h pins s σ H x v Q I rx q
  · exact h' pins s σ H x v Q I rx q
/-! ### what is handed on -/
section
variable {K : PySem.W.Frag} {L : Addr → Prop} {p : Pt} {H : Hp} {Q : VK} {P : EV → Prop}
/-- what an operation may do with its answer -/
abbrev Go (K : PySem.W.Frag) (m : Mode) (L : Addr → Prop) (p : Pt) (H : Hp) (P : EV → Prop) (Q : VK) : Prop := ∀ b H' v', P b → Stp L p H H' → LOk L p H' → Res K m L p H H' v' b → Q v' H'
theorem Go.val (k : Go K m L p H P Q) (o : LOk L p H) (hm : m ≠ .fresh) {v : V} {e : EV} (h : P e) (r : Rv K p (ctL L H) v e) : Q v H := k e H v h Stp.refl o (Res.of_data hm r)
theorem Go.tup (k : Go K m L p H P Q) (o : LOk L p H) (hm : m ≠ .fresh) {xs : List V} {ds : List PyData} (h : P (.py (.tuple ds))) (r : DtAll K (ctL L H) xs ds) {q : Addr} {ob : Obj} (hq : H q = none) (nd : ob.dict = none) : Q (.ref q) (upd H q (.frz ob (.tup xs))) := by
  refine k _ _ _ h (Stp.new o.ne hq) (o.new hq) (Res.of_data hm ?_)
  have s : SameR (ctL L H) (ctL L (upd H q (.frz ob (.tup xs)))) := (Stp.new (p := p) o.ne hq).ct o
  exact .tup ((o.new hq).sqn (.inl ⟨ob, upd_same, nd⟩)) (Dt.sameRAll s _ _ r)
theorem Go.tup' (k : Go K m L p H P Q) (o : LOk L p H) (hm : m ≠ .fresh) {xs : List V} {ds : List PyData} (h : P (.py (.tuple ds))) (r : DtAll K (ctL L H) xs ds) {H' : Hp} {q : Addr} (sm : Same H H') (hq : Tn.SqN K H' q xs) : Q (.ref q) H' := by
  have s := Stp.same (p := p) sm o.ne
  exact k _ _ _ h s (o.same sm) (Res.of_data hm (.tup ((o.same sm).sqn hq) (Dt.sameRAll (s.ct o) _ _ r)))
theorem Go.lst (k : Go K m L p H P Q) (o : LOk L p H) {xs : List V} {ds : List PyData} (h : P (.py (.list ds))) (r : DtAll K (ctL L H) xs ds) {q : Addr} (hq : H q = none) : Q (.ref q) (upd H q (.lst xs)) := by
  have nq : ¬ L q := fun l => o.ne q l hq
  refine k _ _ _ h (Stp.new o.ne hq) (o.new hq) (Res.of_fresh o hq (.inl ⟨xs, ds, rfl, upd_same, Dt.sameRAll (fun b u hb => ?_) _ _ r⟩))
  obtain ⟨n, h1, t⟩ := ctL_of hb
  exact ⟨u, ctL_at ((smu hq) b u h1) (fun z => z.elim n fun e => by rw [e, hq] at h1; cases h1) t, .inl rfl⟩
theorem Go.dic (k : Go K m L p H P Q) (o : LOk L p H) {kvs : List (Key × V)} {ds : List (PyData × PyData)} (h : P (.py (.dict ds))) (r : DtKv K (ctL L H) kvs ds) {q : Addr} (hq : H q = none) : Q (.ref q) (upd H q (.dK kvs)) := by
  refine k _ _ _ h (Stp.new o.ne hq) (o.new hq) (Res.of_fresh o hq (.inr ⟨kvs, ds, rfl, upd_same, Dt.sameRKv (fun b u hb => ?_) _ _ r⟩))
  obtain ⟨n, h1, t⟩ := ctL_of hb
  exact ⟨u, ctL_at ((smu hq) b u h1) (fun z => z.elim n fun e => by rw [e, hq] at h1; cases h1) t, .inl rfl⟩
end
/-! ### arithmetic -/
def wIntB (C : Int → Int → Prop) (f : Int → Int → Int) : EV → EV → (EV → Prop) → Prop
  | .py (.int i), .py (.int j), P => C i j ∧ P (.py (.int (f i j)))
  | _, _, _ => False
theorem dbinI {a b : Expr} {op : Operator} {pos : Pos} {fa fb : WF} {C : Int → Int → Prop} {f : Int → Int → Int} (ho : OpR X (binaryOp op) (rI C fun i j => .int (f i j))) (ha : PE X a (tW X.K .read fa)) (hb : PE X b (tW X.K .read fb)) (hm : m ≠ .fresh := by decide) :
    PE X (.BinOp a op b pos) (tW X.K m (w2 fa fb (wIntB C f))) :=
  k2 (ma := .read) (mb := .read) (g := wIntB C f) _ (by decide) (by decide) (pe_op ho ha hb) fun L p H0 H v a u b P Q o ra rb hg k => by
    unfold wIntB at hg
    split at hg
    · exact ⟨_, _, ra.int, rb.int, hg.1, Go.val k o hm hg.2 (.int _)⟩
    · exact hg.elim
theorem ri0 {f : Value → Value → Sem Value} {g : Int → Int → V} (h : OpR X f (rI0 g)) : OpR X f (rI (fun _ _ => True) g) := by
  intro pins s σ H x y v u Q I rx ry q
  obtain ⟨i, j, e1, e2, _, q⟩ := q
  exact h pins s σ H x y v u Q I rx ry ⟨i, j, e1, e2, q⟩
theorem op_subT : OpR X (binaryOp .Sub) (rI (fun _ _ => True) fun i j => .int (i - j)) := ri0 op_sub
theorem op_catS : OpR X (binaryOp .Add) (fun x y H Q => ∃ l b xs zs, x = .ref l ∧ y = .ref b ∧ Rd H l (.lst xs) ∧ Rd H b (.lst zs) ∧ xs.length + zs.length ≤ sizeLine ∧ ∀ p, H p = none → Q (.ref p) (upd H p (.lst (xs ++ zs)))) := by
  intro pins s σ H x y v u Q I rx ry h
  obtain ⟨l, b, xs, zs, rfl, rfl, hH, hB, hz, q⟩ := h
  cases rx
  cases ry
  obtain ⟨z, its, n, r, e⟩ := hH.ok I.hok
  obtain ⟨z2, its2, n2, r2, e2⟩ := hB.ok I.hok
  have hl := r.length
  have hl2 := r2.length
  refine PySem.P.add_list e e2 ?_ (by rw [List.size_toArray, List.size_toArray]; omega)
  have ea : its.toArray ++ its2.toArray = (its ++ its2).toArray := by simp
  rw [ea]
  exact ⟨.ref _, _, I.lnew (t' := s.toks) (r.append r2) (by rw [List.length_append]; omega), rfl, q _ I.fresh⟩
theorem dts_append {K : PySem.W.Frag} {H : Hp} : ∀ {xs ys : List V} {ds es : List PyData}, DtAll K H xs ds → DtAll K H ys es → DtAll K H (xs ++ ys) (ds ++ es)
  | _, _, _, _, .nil, h => h
  | _, _, _, _, .cons a t, h => .cons a (dts_append t h)
def wAdd : EV → EV → (EV → Prop) → Prop
  | .py (.int i), .py (.int j), P => P (.py (.int (i + j)))
  | .py (.str a), .py (.str b), P => a.length + b.length ≤ sizeLine ∧ P (.py (.str (a ++ b)))
  | .py (.tuple xs), .py (.tuple ys), P => xs.length + ys.length ≤ 1000 ∧ P (.py (.tuple (xs ++ ys)))
  | .py (.list xs), .py (.list ys), P => xs.length + ys.length ≤ sizeLine ∧ P (.py (.list (xs ++ ys)))
  | _, _, _ => False
def wCatL : EV → EV → (EV → Prop) → Prop
  | .py (.list xs), .py (.list ys), P => xs.length + ys.length ≤ sizeLine ∧ P (.py (.list (xs ++ ys)))
  | _, _, _ => False
theorem dadd {a b : Expr} {pos : Pos} {fa fb : WF} (ha : PE X a (tW X.K .read fa)) (hb : PE X b (tW X.K .read fb)) (hm : m ≠ .fresh := by decide) : PE X (.BinOp a .Add b pos) (tW X.K m (w2 fa fb wAdd)) :=
  k2 (ma := .read) (mb := .read) (g := wAdd) _ (by decide) (by decide) (pe_op (opr_or op_add (opr_or op_add_str (opr_or Tp.op_catB op_catS))) ha hb) fun L p H0 H v a u b P Q o ra rb hg k => by
    unfold wAdd at hg
    split at hg
    · exact .inl ⟨_, _, ra.int, rb.int, Go.val k o hm hg (.int _)⟩
    · exact .inr (.inl ⟨_, _, ra.str, rb.str, hg.1, Go.val k o hm hg.2 (.str _)⟩)
    · obtain ⟨a, vs, rfl, h1, h2⟩ := ra.tupN
      obtain ⟨b, us, rfl, h3, h4⟩ := rb.tupN
      exact .inr (.inr (.inl ⟨_, _, _, _, rfl, rfl, h1, h3, by rw [← DtAll.len h2, ← DtAll.len h4]; exact hg.1, fun H' q sm hq => Go.tup' k o hm hg.2 (dts_append h2 h4) sm hq⟩))
    · obtain ⟨a, vs, rfl, h1, h2⟩ := ra.list
      obtain ⟨b, us, rfl, h3, h4⟩ := rb.list
      exact .inr (.inr (.inr ⟨_, _, _, _, rfl, rfl, h1, h3, by rw [← DtAll.len h2, ← DtAll.len h4]; exact hg.1, fun q hq => Go.lst k o hg.2 (dts_append h2 h4) hq⟩))
    · exact hg.elim
def wNeg : EV → (EV → Prop) → Prop
  | .py (.int i), P => P (.py (.int (-i)))
  | _, _ => False
theorem dneg {a : Expr} {pos : Pos} {fa : WF} (ha : PE X a (tW X.K .read fa)) (hm : m ≠ .fresh := by decide) : PE X (.UnaryOp .USub a pos) (tW X.K m (w1 fa wNeg)) :=
  k1 (ma := .read) (g := wNeg) _ (by decide) (pe_un un_neg ha) fun L p H0 H v a P Q o ra hg k => by
    unfold wNeg at hg
    split at hg
    · exact ⟨_, ra.int, Go.val k o hm hg (.int _)⟩
    · exact hg.elim
/-! ### comparisons -/
def wCmpI (f : Int → Int → Bool) : EV → EV → (EV → Prop) → Prop
  | .py (.int i), .py (.int j), P => P (.py (.bool (f i j)))
  | _, _, _ => False
theorem dcmpI {a b : Expr} {op : CmpOp} {pos : Pos} {fa fb : WF} {f : Int → Int → Bool} (ho : OpR X (compareOp op) (rI0 fun i j => .bl (f i j))) (ha : PE X a (tW X.K .read fa)) (hb : PE X b (tW X.K .read fb)) (h1 : behindInMarks op b = false := by first | rfl | exact nobehind _ (by decide) (by decide)) (hm : m ≠ .fresh := by decide) :
    PE X (.Compare a [op] [b] pos) (tW X.K m (w2 fa fb (wCmpI f))) :=
  k2 (ma := .read) (mb := .read) (g := wCmpI f) _ (by decide) (by decide) (pe_cmpR ho ha hb h1) fun L p H0 H v a u b P Q o ra rb hg k => by
    unfold wCmpI at hg
    split at hg
    · exact ⟨_, _, ra.int, rb.int, Go.val k o hm hg (.bl _)⟩
    · exact hg.elim
/-- no dict within -/
def noDict : PyData → Bool
  | .dict _ => false
  | .list ds => noDicts ds
  | .tuple ds => noDicts ds
  | _ => true
where noDicts : List PyData → Bool
  | [] => true
  | d :: r => noDict d && noDicts r
mutual
theorem dp_of {K : PySem.W.Frag} {H : Hp} : ∀ (d : PyData) (v : V), noDict d = true → Dt K H v d → Dp K H v d
  | .none, _, _, h => by cases h; exact .non
  | .bool b, _, _, h => by cases h; exact .bl b
  | .int i, _, _, h => by cases h; exact .int i
  | .str x, _, _, h => by cases h; exact .str x
  | .list ds, _, n, h => by
    cases h with
    | lstR h1 h2 => exact .lst (.inl h1) (dps_of ds _ (by simpa [noDict] using n) h2)
  | .tuple ds, _, n, h => by
    cases h with
    | tup h1 h2 => exact .tup h1.t (dps_of ds _ (by simpa [noDict] using n) h2)
  | .dict ds, _, n, _ => by simp [noDict] at n
theorem dps_of {K : PySem.W.Frag} {H : Hp} : ∀ (ds : List PyData) (vs : List V), noDict.noDicts ds = true → DtAll K H vs ds → DpAll K H vs ds
  | [], _, _, h => by cases h; exact .nil
  | d :: r, _, n, h => by
    rw [noDict.noDicts, Bool.and_eq_true] at n
    cases h with
    | cons h1 h2 => exact .cons (dp_of d _ n.1 h1) (dps_of r _ n.2 h2)
end
/-- what can be compared by == -/
def eqOk (d : PyData) : Bool := noDict d && SeqAt.shaped d
def wEq (neg : Bool) : EV → EV → (EV → Prop) → Prop
  | .py d, .py e, P => (eqOk d = true ∧ eqOk e = true) ∧ P (.py (.bool (if neg then !PyData.eqv d e else PyData.eqv d e)))
  | _, _, _ => False
theorem deq {a b : Expr} {pos : Pos} {fa fb : WF} (hu : X.A.units + 64 < cLine) (ha : PE X a (tW X.K .read fa)) (hb : PE X b (tW X.K .read fb)) (hm : m ≠ .fresh := by decide) : PE X (.Compare a [.Eq] [b] pos) (tW X.K m (w2 fa fb (wEq false))) :=
  k2 (ma := .read) (mb := .read) (g := wEq false) (rEqD X.K) (by decide) (by decide) (pe_cmpR (op_eqD hu) ha hb (nomark _)) fun L p H0 H v a u b P Q o ra rb hg k => by
    unfold wEq at hg
    split at hg
    · obtain ⟨⟨h1, h2⟩, hg⟩ := hg
      unfold eqOk at h1 h2
      rw [Bool.and_eq_true] at h1 h2
      exact ⟨_, _, dp_of _ _ h1.1 ra.dt, dp_of _ _ h2.1 rb.dt, h1.2, h2.2, Go.val k o hm hg (.bl _)⟩
    · exact hg.elim
/-- is None, is not None -/
def isNonD : PyData → Bool
  | .none => true
  | _ => false
def wIsN : EV → (EV → Prop) → Prop
  | .py d, P => P (.py (.bool (isNonD d)))
  | _, _ => False
def wNotN : EV → (EV → Prop) → Prop
  | .py d, P => P (.py (.bool (!isNonD d)))
  | _, _ => False
def flatD : PyData → Bool
  | .none | .bool _ | .int _ | .str _ => true
  | _ => false
def inD (d : PyData) (ds : List PyData) : Bool := ds.any fun e => PyData.eqv e d
def seqD : PyData → Option (List PyData)
  | .list ds => some ds
  | .tuple ds => some ds
  | _ => none
/-- x in y: y a list, a tuple or a dict by text and int keys -/
def wIn (neg : Bool) : EV → EV → (EV → Prop) → Prop
  | .py d, .py e, P => ∃ ds, seqD e = some ds ∧ flatD d = true ∧ ds.all flatD = true ∧ P (.py (.bool (if neg then !inD d ds else inD d ds)))
  | _, _, _ => False
theorem Res.seq {K : PySem.W.Frag} {L : Addr → Prop} {p : Pt} {H0 H : Hp} {v : V} {e : PyData} {ds : List PyData} (r : Res K .read L p H0 H v (.py e)) (h : seqD e = some ds) : ∃ a vs, v = .ref a ∧ (SqL K H a vs ∨ SqT K H a vs) ∧ DtAll K (ctL L H) vs ds := by
  unfold seqD at h
  split at h
  · cases h
    obtain ⟨a, vs, e1, h1, h2⟩ := r.list
    exact ⟨a, vs, e1, .inl (.inl h1), h2⟩
  · cases h
    obtain ⟨a, vs, e1, h1, h2⟩ := r.tup
    exact ⟨a, vs, e1, .inr h1, h2⟩
  · cases h
theorem dts_all {K : PySem.W.Frag} {L : Addr → Prop} {H : Hp} {vs : List V} {ds : List PyData} (h : DtAll K (ctL L H) vs ds) : DtAll K H vs ds := Dt.sameRAll ctL_all _ _ h
end
end Dw

/-! Data ways: what is walked, targets, comprehensions. -/
namespace Dw
open PySem PySem.Spec PySem.W PyProof.Rows L2 Dr Rp
open He (ga)
variable [Dw.LamReg]
structure ItOk (K : PySem.W.Frag) (p : Pt) (J : It) (xs : List EV) (g : Gh) : Prop where
  go : ∀ (L : Addr → Prop) (H : Hp) (i : Nat), LOk L p H → GhR K p L H g → i < xs.length → J.go i H
  stop : ∀ (L : Addr → Prop) (H : Hp), LOk L p H → GhR K p L H g → J.stop xs.length H
  yld : ∀ (L : Addr → Prop) (H : Hp) (i : Nat) (x : V) (H' : Hp), LOk L p H → GhR K p L H g → i < xs.length → J.yld i H x H' → Same H H' ∧ ∃ e, xs[i]? = some e ∧ Rv K p (ctL L H') x e
def GhM (K : PySem.W.Frag) (m : Mode) (p : Pt) (L : Addr → Prop) (H : Hp) (g : Gh) : Prop := match m with
  | .read => GhR K p L H g
  | _ => GhD K p L H g
theorem GhM.r {K : PySem.W.Frag} {m : Mode} {p : Pt} {L : Addr → Prop} {H : Hp} {g : Gh} (h : GhM K m p L H g) (o : LOk L p H) : GhR K p L H g := by
  cases m with
  | read => exact h
  | data => exact GhD.read h o
  | fresh => exact GhD.read h o
def tI (K : PySem.W.Frag) (m : Mode) (fi : WA) : TI := fun σ H R => ∃ He Lc os p gs ρ P, EnvOk K He Lc os p gs H σ ρ ∧ fi ρ P ∧
  ∀ xs g J H', P xs → Stp (Ls Lc os) p H H' → LOk (Ls Lc os) p H' → GhM K m p (Ls Lc os) H' g → ItOk K p J xs g → R J H'
theorem pi_mono {X : Cx} {tg e : Expr} {t t' : TI} (h : PI X tg e t) (k : ∀ σ H Q, t' σ H Q → t σ H Q) : PI X tg e t' := ⟨fun pins s σ H Q I q => h.run pins s σ H Q I (k σ H Q q)⟩
section
variable {K : PySem.W.Frag} {p : Pt} {L : Addr → Prop} {H : Hp} {a : Addr}
theorem zip_rv {G : Hp} : ∀ {vs : List V} {ds : List PyData}, DtAll K G vs ds → ∀ z ∈ vs.zip (ds.map EV.py), Rv K p G z.1 z.2
  | _, _, .nil, _, h => by cases h
  | _, _, .cons a t, z, h => by
    rcases List.mem_cons.mp h with rfl | h
    · exact a
    · exact zip_rv t z h
theorem zip_get {vs : List V} {ds : List PyData} (hl : ds.length = vs.length) {i : Nat} {x : V} (h : vs[i]? = some x) : ∃ d, ds[i]? = some d ∧ (x, EV.py d) ∈ vs.zip (ds.map EV.py) := by
  obtain ⟨hi, rfl⟩ := List.getElem?_eq_some_iff.mp h
  have hd : i < ds.length := by omega
  refine ⟨ds[i], by simp [hd], ?_⟩
  refine List.mem_of_getElem? (i := i) ?_
  rw [List.getElem?_zip_eq_some]
  exact ⟨h, by simp [hd]⟩
/-- a list that is walked -/
theorem it_list {o : HO} {vs : List V} {ds : List PyData} (ho : o = .lst vs ∨ ∃ q, o = .frz q (.lst vs)) (hl : ds.length = vs.length) : ItOk K p (Itl K a) (ds.map .py) { ad := [(a, o)], vl := vs.zip (ds.map EV.py) } := by
  have sq : ∀ H : Hp, H a = some o → SqL K H a vs := fun H h => by
    rcases ho with rfl | ⟨q, rfl⟩
    · exact .inl (.inl h)
    · exact .inl (.inr ⟨q, h⟩)
  refine ⟨fun L H i _ g hi => ?_, fun L H _ g => ?_, fun L H i x H' _ g hi y => ?_⟩
  · have h := sq H (g.1 _ List.mem_cons_self).2.1
    rw [List.length_map, hl] at hi
    exact ⟨vs, vs[i], h, by simp [hi]⟩
  · have h := sq H (g.1 _ List.mem_cons_self).2.1
    exact ⟨vs, h, by rw [List.length_map, hl]; exact Nat.le_refl _⟩
  · have h := sq H (g.1 _ List.mem_cons_self).2.1
    obtain ⟨rfl, y⟩ := y
    obtain ⟨d, h1, h2⟩ := zip_get hl (y vs h)
    exact ⟨fun _ _ e => e, .py d, by rw [List.getElem?_map, h1] <;> rfl, g.2 _ h2⟩
theorem it_tup {vs : List V} {ds : List PyData} (hl : ds.length = vs.length) {ad : List (Addr × HO)} (sq : ∀ H : Hp, (∀ z ∈ ad, H z.1 = some z.2) → SqT K H a vs) : ItOk K p (Itt K a) (ds.map .py) { ad := ad, vl := vs.zip (ds.map EV.py) } := by
  refine ⟨fun L H i _ g hi => ?_, fun L H _ g => ?_, fun L H i x H' _ g hi y => ?_⟩
  · have h := sq H fun z hz => (g.1 z hz).2.1
    rw [List.length_map, hl] at hi
    exact ⟨vs, vs[i], h, by simp [hi]⟩
  · have h := sq H fun z hz => (g.1 z hz).2.1
    exact ⟨vs, h, by rw [List.length_map, hl]; exact Nat.le_refl _⟩
  · have h := sq H fun z hz => (g.1 z hz).2.1
    obtain ⟨rfl, y⟩ := y
    obtain ⟨d, h1, h2⟩ := zip_get hl (y vs h)
    exact ⟨fun _ _ e => e, .py d, by rw [List.getElem?_map, h1] <;> rfl, g.2 _ h2⟩
/-- a list or tuple: how it is walked -/
theorem seq_walk {m : Mode} {H0 : Hp} {v : V} {e : PyData} {ds : List PyData} (hm : m ≠ .fresh) (r : Res K m L p H0 H v (.py e)) (o : LOk L p H) (h : seqD e = some ds) :
    ∃ a g, v = .ref a ∧ (((∃ xs, SqL K H a xs) ∧ ItOk K p (Itl K a) (ds.map .py) g) ∨ ((∃ xs, SqT K H a xs) ∧ ItOk K p (Itt K a) (ds.map .py) g)) ∧ GhM K m p L H g := by
  have data : ∀ {v : V}, Dt K (ctL L H) v e → ∃ a g, v = .ref a ∧ (((∃ xs, SqL K H a xs) ∧ ItOk K p (Itl K a) (ds.map .py) g) ∨ ((∃ xs, SqT K H a xs) ∧ ItOk K p (Itt K a) (ds.map .py) g)) ∧ GhD K p L H g := by
    intro v hd
    unfold seqD at h
    split at h
    · cases h
      cases hd with
      | @lstR a vs _ h1 h2 =>
        obtain ⟨u, hu, ho⟩ : ∃ u, ctL L H a = some u ∧ (u = .lst vs ∨ ∃ q, u = .frz q (.lst vs)) := by
          rcases h1 with h | ⟨q, h⟩
          · exact ⟨_, h, .inl rfl⟩
          · exact ⟨_, h, .inr ⟨q, rfl⟩⟩
        refine ⟨a, _, rfl, .inl ⟨⟨vs, SameR.sql ctL_all (.inl h1)⟩, it_list ho (DtAll.len h2)⟩, fun z hz => ?_, zip_rv h2⟩
        rw [List.mem_singleton.mp hz]
        refine ⟨?_, hu⟩
        rcases ho with rfl | ⟨q, rfl⟩
        · exact Rigid.lst
        · exact Rigid.frz
    · cases h
      cases hd with
      | @tup a vs _ h1 h2 =>
        have h1 := h1.t
        rcases id h1 with (h | ⟨q, h⟩) | h
        · refine ⟨a, { ad := [(a, .tup vs)], vl := vs.zip (ds.map EV.py) }, rfl, .inr ⟨⟨vs, SameR.sqt ctL_all h1⟩, it_tup (DtAll.len h2) fun H' g => SqT.of (g _ List.mem_cons_self)⟩, fun z hz => ?_, zip_rv h2⟩
          rw [List.mem_singleton.mp hz]
          exact ⟨Rigid.tup, h⟩
        · refine ⟨a, { ad := [(a, .frz q (.tup vs))], vl := vs.zip (ds.map EV.py) }, rfl, .inr ⟨⟨vs, SameR.sqt ctL_all h1⟩, it_tup (DtAll.len h2) fun H' g => .inl (.inr ⟨q, g _ List.mem_cons_self⟩)⟩, fun z hz => ?_, zip_rv h2⟩
          rw [List.mem_singleton.mp hz]
          exact ⟨Rigid.frz, h⟩
        · exact ⟨a, { ad := [], vl := vs.zip (ds.map EV.py) }, rfl, .inr ⟨⟨vs, SameR.sqt ctL_all h1⟩, it_tup (DtAll.len h2) fun H' g => .inr h⟩, (fun z hz => nomatch hz), zip_rv h2⟩
    · cases h
  cases m with
  | fresh => exact absurd rfl hm
  | data => exact data r
  | read =>
    rcases r with r | ⟨a, d, e1, e2, hl, hw⟩
    · obtain ⟨a, g, h1, h2, h3⟩ := data r
      exact ⟨a, g, h1, h2, h3.read o⟩
    · cases e2
      rcases hw with ⟨vs, xs, rfl, h1, h2⟩ | ⟨kvs, ys, rfl, h1, h2⟩
      · cases h
        refine ⟨a, _, e1, .inl ⟨⟨vs, SqL.of h1⟩, it_list (.inl rfl) (DtAll.len h2)⟩, fun z hz => ?_, zip_rv h2⟩
        rw [List.mem_singleton.mp hz]
        exact ⟨Rigid.lst, h1, fun ps e => (by cases e), hl.2⟩
      · cases h
end
section
variable {X : Cx} {tg : Expr} {m : Mode}
/-- a list or a tuple, whichever comes -/
def iSeq (K : PySem.W.Frag) (tl : TE) : TI := fun σ H R => tl σ H fun x H1 => ∃ a, x = .ref a ∧ (((∃ xs, SqL K H1 a xs) ∧ R (Itl K a) H1) ∨ ((∃ xs, SqT K H1 a xs) ∧ R (Itt K a) H1))
theorem pi_seq {l : Expr} {tl : TE} (hl : PE X l tl) : PI X tg l (iSeq X.K tl) := by
  refine ⟨fun pins s σ H R I h => ?_⟩
  refine thn (hl.run pins s σ H _ I h) fun v s1 ⟨x, H1, I1, r1, q1⟩ => ?_
  obtain ⟨a, e, q⟩ := q1
  subst e
  cases r1
  rcases q with ⟨⟨xs, hq⟩, q⟩ | ⟨⟨xs, hq⟩, q⟩
  · obtain ⟨its, rv, p, hz⟩ := I1.list hq
    refine wpAny_pyIter_list p.isList ?_
    refine ⟨s1.heap.objs.size, [s1.heap.objs.size], _, _, H1, rfl, I1.kept (t' := s1.toks) fun b o e => Heap.get?_push_of_some _ e, turn_list a _, ⟨_, Heap.get?_push_size _ rfl, rfl, rfl⟩, fun b hb => ?_, q⟩
    have e : b = s1.heap.objs.size := by simpa using hb
    subst e
    exact I1.fpOk (Nat.le_refl _) (I1.hok.fresh (Nat.le_refl _))
  · obtain ⟨its, rv, p, hz⟩ := I1.tuple hq
    refine wpAny_pyIter_tuple (show s1.heap.IsTuple a its.toArray from p) ?_
    refine ⟨s1.heap.objs.size, [s1.heap.objs.size], _, _, H1, rfl, I1.kept (t' := s1.toks) fun b o e => Heap.get?_push_of_some _ e, turn_tuple a _, ⟨_, Heap.get?_push_size _ rfl, rfl, rfl⟩, fun b hb => ?_, q⟩
    have e : b = s1.heap.objs.size := by simpa using hb
    subst e
    exact I1.fpOk (Nat.le_refl _) (I1.hok.fresh (Nat.le_refl _))
def wSeqI (f : WF) : WA := fun ρ P => f ρ fun e => match e with
  | .py d => ∃ ds, seqD d = some ds ∧ P (ds.map .py)
  | _ => False
theorem di_seq {l : Expr} {f : WF} (hl : PE X l (tW X.K m f)) (hm : m ≠ .fresh := by decide) : PI X tg l (tI X.K m (wSeqI f)) := by
  refine pi_mono (pi_seq hl) fun σ H R q => ?_
  obtain ⟨He, Lc, os, p, gs, ρ, P, E, hf, k⟩ := q
  refine ⟨He, Lc, os, p, gs, ρ, _, E, hf, fun e H1 v he s o r => ?_⟩
  split at he
  · obtain ⟨ds, hs, hP⟩ := he
    obtain ⟨a, g, rfl, hh, hg⟩ := seq_walk hm r o hs
    refine ⟨a, rfl, ?_⟩
    rcases hh with ⟨hx, hi⟩ | ⟨hx, hi⟩
    · exact .inl ⟨hx, k _ g _ H1 hP s o hg hi⟩
    · exact .inr ⟨hx, k _ g _ H1 hP s o hg hi⟩
  · exact he.elim
def intsD (lo : Int) (n : Nat) : List EV := (List.range n).map fun i => .py (.int (lo + (i : Nat)))
theorem it_range {K : PySem.W.Frag} {p : Pt} {lo : Int} {n : Nat} {g : Gh} : ItOk K p (Itr lo n) (intsD lo n) g := by
  have hl : (intsD lo n).length = n := by unfold intsD; simp
  refine ⟨fun L H i _ _ hi => ?_, fun L H _ _ => ?_, fun L H i x H' _ _ hi y => ?_⟩
  · rw [hl] at hi
    exact hi
  · rw [hl]
    exact Nat.le_refl _
  · obtain ⟨rfl, rfl⟩ := y
    rw [hl] at hi
    refine ⟨fun _ _ e => e, .py (.int (lo + (i : Nat))), ?_, .int _⟩
    unfold intsD
    simp [hi]
def wRng1 (fa : WF) : WA := fun ρ P => fa ρ fun x => match x with
  | .py (.int j) => (-(2 ^ 62) ≤ j ∧ j < 2 ^ 62) ∧ P (intsD 0 j.toNat)
  | _ => False
def wRng2 (fa fb : WF) : WA := fun ρ P => fa ρ fun x => fb ρ fun y => match x, y with
  | .py (.int i), .py (.int j) => (-(2 ^ 62) ≤ i ∧ i < 2 ^ 62 ∧ -(2 ^ 62) ≤ j ∧ j < 2 ^ 62) ∧ P (intsD i (j - i).toNat)
  | _, _ => False
theorem gh0 {K : PySem.W.Frag} {m : Mode} {p : Pt} {L : Addr → Prop} {H : Hp} : GhM K m p L H {} := by
  cases m <;> exact ⟨(fun _ h => nomatch h), (fun _ h => nomatch h)⟩
theorem di_rng1 {a : Expr} {fa : WF} {q pos : Pos} (hg : Gl X "range") (ht : X.mg "range" = none) (ha : PE X a (tW X.K .read fa)) (hs : starEach [a] X.env = [(false, eval a X.env)] := by rfl) : PI X tg (.Call (.Name "range" q) [a] [] pos) (tI X.K m (wRng1 fa)) := by
  refine pi_mono (pi_range1 hg ht (pa_cons ha pa_nil hs) hs) fun σ H R q => ?_
  obtain ⟨He, Lc, os, p, gs, ρ, P, E, hf, k⟩ := q
  refine ⟨He, Lc, os, p, gs, ρ, _, E, hf, fun e H1 v he s o r => ?_⟩
  split at he
  · obtain ⟨⟨h1, h2⟩, hP⟩ := he
    rw [r.int]
    exact ⟨_, rfl, h1, h2, k _ {} _ H1 hP s o gh0 it_range⟩
  · exact he.elim
theorem di_rng2 {a b : Expr} {fa fb : WF} {q pos : Pos} (hg : Gl X "range") (ht : X.mg "range" = none) (ha : PE X a (tW X.K .read fa)) (hb : PE X b (tW X.K .read fb)) (hs : starEach [a, b] X.env = (false, eval a X.env) :: starEach [b] X.env := by rfl) (hs2 : starEach [b] X.env = [(false, eval b X.env)] := by rfl) :
    PI X tg (.Call (.Name "range" q) [a, b] [] pos) (tI X.K m (wRng2 fa fb)) := by
  refine pi_mono (pi_range2 hg ht (pa_cons ha (pa_cons hb pa_nil hs2) hs) (hs.trans (by rw [hs2])) hs2) fun σ H R q => ?_
  obtain ⟨He, Lc, os, p, gs, ρ, P, E, hf, k⟩ := q
  refine ⟨He, Lc, os, p, gs, ρ, _, E, hf, fun e H1 v he s o r => ?_⟩
  refine ⟨He, Lc, os, p, gs, ρ, _, E.step s o, he, fun e2 H2 v2 he2 s2 o2 r2 => ?_⟩
  split at he2
  · obtain ⟨h1, hP⟩ := he2
    have e1 := (r.step (by decide) o s2).int
    rw [e1, r2.int]
    exact ⟨_, _, rfl, h1, k _ {} _ H2 hP (s.trans s2) o2 gh0 it_range⟩
  · exact he2.elim
end
end Dw

/-! Data ways: targets, comprehensions. -/
namespace Dw
open PySem PySem.Spec PySem.W PyProof.Rows L2 Dr Rp
open He (ga)
variable [Dw.LamReg]
abbrev WGt := EV → EnvD → (EnvD → Prop) → Prop
def tWG (K : PySem.W.Frag) (vs : List Nat) (g : WGt) : TG := fun v σ H Q => ∃ He Lc os p gs ρ P e, EnvOk K He Lc os p gs H σ ρ ∧ Rv K p (ctL (Ls Lc os) H) v e ∧ g e ρ P ∧
  ∀ ρ' σ', P ρ' → EnvOk K He Lc os p gs H σ' ρ' → wipe σ' vs = wipe σ vs → Q σ' H
def tWGs (K : PySem.W.Frag) (vs : List Nat) (g : List EV → EnvD → (EnvD → Prop) → Prop) : TGs := fun xs σ H Q => ∃ He Lc os p gs ρ P es, EnvOk K He Lc os p gs H σ ρ ∧ Paired (fun v e => Rv K p (ctL (Ls Lc os) H) v e) xs es ∧ g es ρ P ∧
  ∀ ρ' σ', P ρ' → EnvOk K He Lc os p gs H σ' ρ' → wipe σ' vs = wipe σ vs → Q σ' H
theorem pg_mono {X : Cx} {e : Expr} {t t' : TG} (h : PG X e t) (k : ∀ v σ H Q, t' v σ H Q → t v σ H Q) : PG X e t' := ⟨fun pins s σ H v u Q I r q => h.run pins s σ H v u Q I r (k v σ H Q q)⟩
theorem pgs_mono {X : Cx} {es : List Expr} {t t' : TGs} (h : PGs X es t) (k : ∀ v σ H Q, t' v σ H Q → t v σ H Q) : PGs X es t' := ⟨fun pins s σ H vs us Q I r q => h.run pins s σ H vs us Q I r (k vs σ H Q q)⟩
def gN (i : Nat) : WGt := fun e ρ P => match ρ[i]? with
  | some (.own _) => False
  | some (.owl _) => False
  | some _ => P (ρ.set i e)
  | none => False
def gTs : List WGt → List EV → EnvD → (EnvD → Prop) → Prop
  | [], [], ρ, P => P ρ
  | g :: gs, e :: es, ρ, P => g e ρ fun ρ' => gTs gs es ρ' P
  | _, _, _, _ => False
def gT (gs : List WGt) : WGt := fun e ρ P => match e with
  | .py (.tuple ds) => ds.length = gs.length ∧ gTs gs (ds.map .py) ρ P
  | .pk ds => ds.length = gs.length ∧ gTs gs (ds.map .py) ρ P
  | _ => False
theorem wipe_set {σ : L2.St} {i : Nat} {x : Option V} : ∀ {vs : List Nat}, i ∈ vs → wipe (σ.set i x) vs = wipe σ vs
  | v :: vs, h => by
    unfold wipe
    by_cases e : i ∈ vs
    · rw [wipe_set e]
    · have : i = v := by
        rcases List.mem_cons.mp h with e' | e'
        · exact e'
        · exact absurd e' e
      subst this
      apply List.ext_getElem?
      intro j
      by_cases hj : i = j
      · subst hj
        by_cases hl : i < σ.length
        · rw [List.getElem?_set_self (by rw [wipe_length, List.length_set]; exact hl), List.getElem?_set_self (by rw [wipe_length]; exact hl)]
        · rw [List.getElem?_eq_none (by rw [List.length_set, wipe_length, List.length_set]; omega), List.getElem?_eq_none (by rw [List.length_set, wipe_length]; omega)]
      · rw [List.getElem?_set_ne hj, List.getElem?_set_ne hj]
        by_cases hv : j ∈ vs
        · clear h e
          induction vs with
          | nil => cases hv
          | cons w r ih =>
            unfold wipe
            by_cases hw : w = j
            · subst hw
              by_cases hl : w < σ.length
              · rw [List.getElem?_set_self (by rw [wipe_length, List.length_set]; exact hl), List.getElem?_set_self (by rw [wipe_length]; exact hl)]
              · rw [List.getElem?_eq_none (by rw [List.length_set, wipe_length, List.length_set]; omega), List.getElem?_eq_none (by rw [List.length_set, wipe_length]; omega)]
            · rw [List.getElem?_set_ne hw, List.getElem?_set_ne hw]
              rcases List.mem_cons.mp hv with e' | e'
              · exact absurd e'.symm hw
              · exact ih e'
        · rw [wipe_out hv, wipe_out hv, List.getElem?_set_ne hj]
theorem wipe_wipe {σ : L2.St} {vs : List Nat} : wipe (wipe σ vs) vs = wipe σ vs := by
  have : ∀ ws : List Nat, (∀ w ∈ ws, w ∈ vs) → wipe (wipe σ ws) vs = wipe σ vs := by
    intro ws
    induction ws with
    | nil => intro _; rfl
    | cons w r ih =>
      intro h
      show wipe ((wipe σ r).set w none) vs = wipe σ vs
      rw [wipe_set (h w List.mem_cons_self)]
      exact ih fun x hx => h x (List.mem_cons_of_mem _ hx)
  exact this vs fun w h => h
section
variable {K : PySem.W.Frag} {He : Hp} {Lc : Addr → Prop} {os : Nat → Option Addr} {p : Pt} {gs : Gh} {H H' : Hp} {σ : L2.St} {ρ : EnvD}
/-- a name that holds no list of its own takes a value -/
theorem EnvOk.set (E : EnvOk K He Lc os p gs H σ ρ) {i : Nat} {v : V} {e : EV} (hi : i < ρ.length) (n : os i = none) (r : Rv K p (ctL (Ls Lc os) H) v e) : EnvOk K He Lc os p gs H (σ.set i (some v)) (ρ.set i e) := by
  refine ⟨by rw [List.length_set, List.length_set]; exact E.len, fun j u h => ?_, fun j a h => ?_, E.inj, E.fre, E.gho, E.lok, E.stp⟩
  · by_cases hj : i = j
    · subst hj
      rw [List.getElem?_set_self hi] at h
      cases h
      have hσ : (σ.set i (some v))[i]? = some (some v) := List.getElem?_set_self (by rw [E.len]; exact hi)
      cases e with
      | own d => exact False.elim r
      | no => trivial
      | py d => exact ⟨v, hσ, r⟩
      | st => exact ⟨v, hσ, r⟩
      | ob C fs => exact ⟨v, hσ, r⟩
      | pk ds => exact ⟨v, hσ, r⟩
      | kp ds => exact ⟨v, hσ, r⟩
      | ol ds => exact ⟨v, hσ, r⟩
      | ot ds => exact ⟨v, hσ, r⟩
      | od ds => exact ⟨v, hσ, r⟩
      | nd ds => exact ⟨v, hσ, r⟩
      | pw ds => exact ⟨v, hσ, r⟩
      | owl d => exact False.elim r
    · rw [List.getElem?_set_ne hj] at h
      have z := E.val j u h
      rw [List.getElem?_set_ne hj]
      exact z
  · have hj : i ≠ j := fun e => by
      rw [← e, n] at h
      cases h
    rw [List.getElem?_set_ne hj, List.getElem?_set_ne hj]
    exact E.own j a h
theorem EnvOk.no_own (E : EnvOk K He Lc os p gs H σ ρ) {i : Nat} {e : EV} (h : ρ[i]? = some e) (n : ∀ d : OD, e ≠ d.ev) : os i = none := by
  cases q : os i with
  | none => rfl
  | some a =>
    obtain ⟨d, h1, _⟩ := E.own i a q
    rw [h] at h1
    exact absurd (Option.some.inj h1) (n d)
end
section
variable {X : Cx} {vs : List Nat}
theorem dg_of {e : Expr} {i : Nat} (h : PG X e (gName i)) (hi : i ∈ vs) : PG X e (tWG X.K vs (gN i)) := by
  refine pg_mono h fun v σ H Q q => ?_
  obtain ⟨He, Lc, os, p, gs, ρ, P, e, E, hv, hg, k⟩ := q
  unfold gN at hg
  split at hg
  · exact hg.elim
  · exact hg.elim
  · rename_i u hu hu2 hn
    refine k _ _ hg (E.set (List.getElem?_eq_some_iff.mp hn).1 (E.no_own hn fun d e => (by
      cases d with
      | p d => exact hu d (by first | exact e | rw [e]; rfl)
      | l d => exact hu2 d (by first | exact e | rw [e]; rfl))) hv) (wipe_set hi)
  · exact hg.elim
theorem dg (i : Nat) {x : Str} {pos : Pos} (hN : X.N.Nodup) (hi : X.N[i]? = some x) (hx : Loc X.env.scope x) (hm : i ∈ vs := by decide) (hf : X.fn x = true ∨ X.env.scope.names.lookup x = some .local := by first | exact .inl rfl | exact .inr rfl | assumption) : PG X (.Name x pos) (tWG X.K vs (gN i)) := dg_of (pg_name hN hi hx hf) hm
theorem dgs_nil : PGs X [] (tWGs X.K vs (gTs [])) := by
  refine pgs_mono pgs_nil fun v σ H Q q => ?_
  obtain ⟨He, Lc, os, p, gs, ρ, P, es, E, hv, hg, k⟩ := q
  cases hv with
  | nil => exact ⟨rfl, k ρ σ hg E rfl⟩
  | cons a t => exact hg.elim
theorem dgs_cons {e : Expr} {es : List Expr} {g : WGt} {gl : List WGt} (h : PG X e (tWG X.K vs g)) (k : PGs X es (tWGs X.K vs (gTs gl))) (hst : (assignEach (e :: es) X.env).map (·.2) = assign e X.env :: (assignEach es X.env).map (·.2) := by rfl) : PGs X (e :: es) (tWGs X.K vs (gTs (g :: gl))) := by
  refine pgs_mono (pgs_cons h k hst) fun v σ H Q q => ?_
  obtain ⟨He, Lc, os, p, gs, ρ, P, es, E, hv, hg, k⟩ := q
  cases hv with
  | nil => exact hg.elim
  | cons a t =>
    refine ⟨_, _, rfl, He, Lc, os, p, gs, ρ, _, _, E, a, hg, fun ρ' σ' hP E' hw => ?_⟩
    exact ⟨He, Lc, os, p, gs, ρ', _, _, E', t, hP, fun ρ2 σ2 hP2 E2 hw2 => k ρ2 σ2 hP2 E2 (hw2.trans hw)⟩
theorem dgt {es : List Expr} {kk : Nat} {pos : Pos} {gl : List WGt} (hc : X.calm = true) (h : PGs X es (tWGs X.K vs (gTs gl))) (hn : (assignEach es X.env).length = gl.length := by rfl) (hst : (assignEach es X.env).findIdx? (·.1) = none := by rfl) : PG X (.Tuple es kk pos) (tWG X.K vs (gT gl)) := by
  refine pg_mono (pg_tup hc h hn hst) fun v σ H Q q => ?_
  obtain ⟨He, Lc, os, p, gs, ρ, P, e, E, hv, hg, k⟩ := q
  unfold gT at hg
  have go : ∀ {vs : List V} {ds : List PyData}, DtAll X.K (ctL (Ls Lc os) H) vs ds → Paired (fun v e => Rv X.K p (ctL (Ls Lc os) H) v e) vs (ds.map .py) := by
    intro vs ds h
    induction h using DtAll.rec (motive_1 := fun _ _ _ => True) (motive_3 := fun _ _ _ => True) with
    | nil => exact .nil
    | cons a t _ ih => exact .cons a ih
    | _ => trivial
  split at hg
  · cases hv with
    | @tup a vs _ h1 h2 => exact ⟨a, vs, rfl, SameR.sqt ctL_all h1.t, by rw [← DtAll.len h2]; exact hg.1, He, Lc, os, p, gs, ρ, P, _, E, go h2, hg.2, k⟩
  · obtain ⟨a, vs, rfl, h1, h2⟩ := hv
    exact ⟨a, vs, rfl, SameR.sqt ctL_all h1, by rw [← DtAll.len h2]; exact hg.1, He, Lc, os, p, gs, ρ, P, _, E, go h2, hg.2, k⟩
  · exact hg.elim
end
/-! ### comprehensions -/
def wipeE (ρ : EnvD) : List Nat → EnvD
  | [] => ρ
  | v :: vs => (wipeE ρ vs).set v .no
def noOwn (ρ : EnvD) (vs : List Nat) : Prop := ∀ i ∈ vs, ∀ d : OD, ρ[i]? ≠ some d.ev
def wLcGo (g : WGt) (t : WT) (f : WF) (ρ : EnvD) : List EV → List PyData → (List PyData → Prop) → Prop
  | [], acc, P => P acc
  | x :: r, acc, P => g x ρ fun ρ' => t ρ' fun b => if b = true then f ρ' fun e => match e with
    | .py d => acc.length < sizeLine ∧ wLcGo g t f ρ r (acc ++ [d]) P
    | _ => False
    else wLcGo g t f ρ r acc P
def wLc (fi : WA) (g : WGt) (t : WT) (f : WF) (vs : List Nat) : WF := fun ρ P => noOwn ρ vs ∧ fi ρ fun xs => wLcGo g t f (wipeE ρ vs) xs [] fun ds => P (.py (.list ds))
theorem wipeE_length (ρ : EnvD) : ∀ vs, (wipeE ρ vs).length = ρ.length
  | [] => rfl
  | v :: vs => by unfold wipeE; rw [List.length_set, wipeE_length ρ vs]
theorem wipeE_get {ρ : EnvD} {i : Nat} {e : EV} : ∀ {vs : List Nat}, (wipeE ρ vs)[i]? = some e → e = .no ∨ (ρ[i]? = some e ∧ i ∉ vs)
  | [], h => .inr ⟨h, by simp⟩
  | v :: vs, h => by
    unfold wipeE at h
    by_cases hi : v = i
    · subst hi
      by_cases hl : v < (wipeE ρ vs).length
      · rw [List.getElem?_set_self hl] at h
        exact .inl (Option.some.inj h).symm
      · rw [List.getElem?_eq_none (by rw [List.length_set]; omega)] at h
        cases h
    · rw [List.getElem?_set_ne hi] at h
      rcases wipeE_get h with h | ⟨h, n⟩
      · exact .inl h
      · exact .inr ⟨h, fun m => (List.mem_cons.mp m).elim (fun e => hi e.symm) n⟩
theorem wipeE_out {ρ : EnvD} {i : Nat} : ∀ {vs : List Nat}, i ∉ vs → (wipeE ρ vs)[i]? = ρ[i]?
  | [], _ => rfl
  | v :: vs, h => by
    have h1 : v ≠ i := fun e => h (by rw [e]; exact List.mem_cons_self)
    have h2 : i ∉ vs := fun m => h (List.mem_cons_of_mem _ m)
    unfold wipeE
    rw [List.getElem?_set_ne h1]
    exact wipeE_out h2
open Classical in
/-- an entry heap that asks nothing -/
noncomputable def He0 (Lc : Addr → Prop) (H : Hp) : Hp := fun b => if Lc b then H b else none
theorem He0_yes {Lc : Addr → Prop} {H : Hp} {b : Addr} (h : Lc b) : He0 Lc H b = H b := if_pos h
theorem He0_no {Lc : Addr → Prop} {H : Hp} {b : Addr} (h : ¬ Lc b) : He0 Lc H b = none := if_neg h
theorem He0_stp {Lc : Addr → Prop} {p : Pt} {H : Hp} : Stp Lc p (He0 Lc H) H := by
  refine ⟨fun b o _ _ h => ?_, fun b l _ => (He0_yes l).symm⟩
  · by_cases l : Lc b
    · rw [He0_yes l] at h
      exact ⟨o, h, .inl rfl⟩
    · rw [He0_no l] at h
      cases h
theorem He0_free {Lc : Addr → Prop} {p : Pt} {H : Hp} {b : Addr} (h : ¬ Lc b) : FreeT (He0 Lc H) b := .of (He0_no h)
section
variable {K : PySem.W.Frag} {He : Hp} {Lc : Addr → Prop} {os : Nat → Option Addr} {p : Pt} {gs : Gh} {H1 H2 : Hp} {σ : L2.St} {ρ : EnvD} {D : Addr}
/-- within a comprehension whose list is at D -/
theorem EnvOk.inner (E : EnvOk K He Lc os p gs H1 σ ρ) {vs : List Nat} (hno : noOwn ρ vs) (hD : FreeT H1 D) (s : Stp (Ls Lc os) p H1 H2) (o : LOk (Ls (Ins Lc D) os) p H2) (hnD : ∃ u, H2 D = some u) :
    EnvOk K (He0 (Ins Lc D) H2) (Ins Lc D) os p {} H2 (wipe σ vs) (wipeE ρ vs) := by
  have sr : SameR (ctL (Ls Lc os) H1) (ctL (Ls (Ins Lc D) os) H2) := fun b u h => by
    obtain ⟨n, h1, t⟩ := ctL_of h
    obtain ⟨u', h', k⟩ := s.keep b u (fun e => n (.inl (E.lok.str b e).1)) t h1
    refine ⟨u', ctL_at h' (fun l => ?_) (k.notbl t), k⟩
    rcases l with (l | l) | l
    · exact n (.inl l)
    · rw [l] at h1
      exact absurd (hD _ h1) (fun ⟨ps, z⟩ => t ps z)
    · exact n (.inr l)
  have nD : ∀ i a, os i = some a → a ≠ D := fun i a h e => by
    obtain ⟨d, _, _, hw⟩ := E.own i a h
    rw [e] at hw
    rcases hw.at with ⟨_, h1⟩ | ⟨_, h1⟩ <;> obtain ⟨ps, z⟩ := hD _ h1 <;> cases z
  have np : ∀ i a, os i = some a → p.q ≠ some a := fun i a h e => (E.fre i a h).1 (E.lok.str a e).1
  refine ⟨by rw [wipe_length, wipeE_length]; exact E.len, fun i e h => ?_, fun i a h => ?_, E.inj, fun i a h => ⟨fun l => ?_, He0_free (p := p) fun l => ?_⟩, ⟨(fun _ h => nomatch h), (fun _ h => nomatch h)⟩, o.sub (fun b l => .inl l) fun q e => .inl (E.lok.str q e).1, He0_stp⟩
  · rcases wipeE_get h with rfl | ⟨h, n⟩
    · trivial
    · have z := E.val i e h
      cases e with
      | no => trivial
      | own d => exact z
      | py d =>
        obtain ⟨v, h1, h2⟩ := z
        exact ⟨v, by rw [wipe_out n]; exact h1, h2.sameR sr⟩
      | st =>
        obtain ⟨v, h1, h2⟩ := z
        exact ⟨v, by rw [wipe_out n]; exact h1, h2.sameR sr⟩
      | ob C fs =>
        obtain ⟨v, h1, h2⟩ := z
        exact ⟨v, by rw [wipe_out n]; exact h1, h2.sameR sr⟩
      | pk ds =>
        obtain ⟨v, h1, h2⟩ := z
        exact ⟨v, by rw [wipe_out n]; exact h1, h2.sameR sr⟩
      | kp ds =>
        obtain ⟨v, h1, h2⟩ := z
        exact ⟨v, by rw [wipe_out n]; exact h1, h2.sameR sr⟩
      | ol ds =>
        obtain ⟨v, h1, h2⟩ := z
        exact ⟨v, by rw [wipe_out n]; exact h1, h2.sameR sr⟩
      | ot ds =>
        obtain ⟨v, h1, h2⟩ := z
        exact ⟨v, by rw [wipe_out n]; exact h1, h2.sameR sr⟩
      | od ds =>
        obtain ⟨v, h1, h2⟩ := z
        exact ⟨v, by rw [wipe_out n]; exact h1, h2.sameR sr⟩
      | nd ds =>
        obtain ⟨v, h1, h2⟩ := z
        exact ⟨v, by rw [wipe_out n]; exact h1, h2.sameR sr⟩
      | pw ds =>
        obtain ⟨v, h1, h2⟩ := z
        exact ⟨v, by rw [wipe_out n]; exact h1, h2.sameR sr⟩
      | owl d => exact z
  · obtain ⟨d, h1, h2, h3⟩ := E.own i a h
    have n : i ∉ vs := fun hm => hno i hm d h1
    exact ⟨d, by rw [wipeE_out n]; exact h1, by rw [wipe_out n]; exact h2, h3.sameR sr (s.loose a (.inr ⟨i, h⟩) (np i a h))⟩
  · rcases l with l | l
    · exact (E.fre i a h).1 l
    · exact nD i a h l
  · rcases l with l | l
    · exact (E.fre i a h).1 l
    · exact nD i a h l
end
section
variable {X : Cx} {m : Mode}
theorem lc_read {K : PySem.W.Frag} {fi : WA} {g : WGt} {t : WT} {f : WF} {vs : List Nat} {σ : L2.St} {H : Hp} {Q : VK} (q : tW K m (wLc fi g t f vs) σ H Q) : tLc (tI K .read fi) (tWG K vs g) (tWT K t) (tW K .data f) vs σ H Q := by
  obtain ⟨He, Lc, os, p, gs, ρ, P, E, ⟨hno, hf⟩, k⟩ := q
  refine ⟨He, Lc, os, p, gs, ρ, _, E, hf, fun xs gh J H1 hP s o hg hI => ?_⟩
  have E1 := E.step s o
  intro D hD
  have L' : Addr → Prop := Ls (Ins Lc D) os
  have nLD : ¬ Ls Lc os D := fun l => o.ne D l hD
  have npD : p.q ≠ some D := fun e => nLD (o.str D e).1
  have toL : ∀ b, Ls (Ins Lc D) os b → Ls Lc os b ∨ b = D := fun b l => by
    rcases l with (l | l) | l
    · exact .inl (.inl l)
    · exact .inr l
    · exact .inl (.inr l)
  have ofL : ∀ b, Ls Lc os b → Ls (Ins Lc D) os b := fun b l => by
    rcases l with l | l
    · exact .inl (.inl l)
    · exact .inr l
  have LD : Ls (Ins Lc D) os D := .inl (.inr rfl)
  refine ⟨fun i n H2 => n = xs.length - i ∧ i ≤ xs.length ∧ LOk (Ls (Ins Lc D) os) p H2 ∧ Stp (Ls Lc os) p H1 H2 ∧ GhR K p (Ls (Ins Lc D) os) H2 gh ∧ ∃ acc va, H2 D = some (.lst va) ∧ DtAll K (ctL (Ls (Ins Lc D) os) H2) va acc ∧ wLcGo g t f (wipeE ρ vs) (xs.drop i) acc fun ds => P (.py (.list ds)), ⟨xs.length, rfl, Nat.zero_le _, ?_, Stp.new o.ne hD, ?_, [], [], upd_same, .nil, hP⟩, ?_⟩
  · refine ⟨fun b l => ?_, fun q e => ⟨ofL q (o.str q e).1, (o.str q e).2.same (smu hD)⟩, o.tbs.ext (smu hD)⟩
    rcases toL b l with l | rfl
    · obtain ⟨u, h1, h2⟩ := o.live b l
      exact ⟨u, smu hD b u h1, h2⟩
    · exact ⟨_, upd_same, .lst⟩
  · refine (hg.r o).mono (fun b u h => ?_) fun z hz e => smu hD _ _ e
    obtain ⟨n, h1, tt⟩ := ctL_of h
    refine ⟨u, ctL_at (smu hD b u h1) (fun l => ?_) tt, .inl rfl⟩
    rcases toL b l with l | rfl
    · exact n l
    · rw [hD] at h1
      cases h1
  · rintro i n H2 ⟨rfl, hi, o2, s2, g2, acc, va, hL, hA, hgo⟩
    by_cases hlt : i < xs.length
    · refine .inr ⟨hI.go _ _ i o2 g2 hlt, fun H' => ∃ n', n' < xs.length - i ∧ (n' = xs.length - (i + 1) ∧ i + 1 ≤ xs.length ∧ LOk (Ls (Ins Lc D) os) p H' ∧ Stp (Ls Lc os) p H1 H' ∧ GhR K p (Ls (Ins Lc D) os) H' gh ∧ ∃ acc va, H' D = some (.lst va) ∧ DtAll K (ctL (Ls (Ins Lc D) os) H') va acc ∧ wLcGo g t f (wipeE ρ vs) (xs.drop (i + 1)) acc fun ds => P (.py (.list ds))), fun H' h => h, fun x H3 hy => ?_⟩
      obtain ⟨sm, e, he, hv⟩ := hI.yld _ _ i x H3 o2 g2 hlt hy
      have s3 : Stp (Ls (Ins Lc D) os) p H2 H3 := Stp.same sm o2.ne
      have o3 := o2.same sm
      have hdrop : xs.drop i = e :: xs.drop (i + 1) := by
        obtain ⟨h1, rfl⟩ := List.getElem?_eq_some_iff.mp he
        exact List.drop_eq_getElem_cons h1
      rw [hdrop] at hgo
      have s13 : Stp (Ls Lc os) p H1 H3 := s2.trans (s3.sub ofL)
      have Ei := E1.inner hno (.of hD) s13 o3 ⟨_, sm _ _ hL⟩
      refine ⟨_, _, _, _, _, _, _, _, Ei, hv, hgo, fun ρ' σ' hP' E' hw => ⟨hw.trans wipe_wipe, ?_⟩⟩
      refine ⟨_, _, _, _, _, _, _, E', hP', fun b H4 hb s4 o4 => ?_⟩
      have s14 : Stp (Ls Lc os) p H1 H4 := s13.trans (s4.sub ofL)
      have s24 := s3.trans s4
      cases b with
      | false =>
        exact ⟨xs.length - (i + 1), by omega, rfl, hlt, o4, s14, (g2.step o2 s24), acc, va, (s24.loose D LD npD).trans hL, Dt.sameRAll (s24.ct o2) _ _ hA, hb⟩
      | true =>
        refine ⟨_, _, _, _, _, _, _, E'.step s4 o4, hb, fun e2 H5 v he2 s5 o5 r5 => ?_⟩
        split at he2
        · rename_i d
          obtain ⟨hsz, hgo'⟩ := he2
          have s25 := s24.trans s5
          have hL5 := (s25.loose D LD npD).trans hL
          have lA := DtAll.len hA
          refine ⟨va, hL5, by omega, xs.length - (i + 1), by omega, rfl, hlt, ?_, ?_, ?_, acc ++ [d], va ++ [v], upd_same, ?_, hgo'⟩
          · refine ⟨fun b l => ?_, fun q e => ⟨(o5.str q e).1, ?_⟩, tabs_upd o5.tbs fun u hu => by rw [hL5] at hu; cases hu; exact .lst⟩
            · by_cases eb : b = D
              · subst eb
                exact ⟨_, upd_same, .lst⟩
              · rw [upd_ne eb]
                exact o5.live b l
            · have := (o5.str q e).2
              exact this.keep fun u hu => by rw [upd_ne (fun z => npD (by rw [← z]; exact e))]; exact hu
          · have s15 := s14.trans (s5.sub ofL)
            refine ⟨fun b u n tt h => ?_, fun b l n => ?_⟩
            · have nb : b ≠ D := fun e => by rw [e, hD] at h; cases h
              rw [upd_ne nb]
              exact s15.keep b u n tt h
            · have nb : b ≠ D := fun e => nLD (by rw [← e]; exact l)
              rw [upd_ne nb]
              exact s15.loose b l n
          · refine (g2.step o2 s25).mono (fun b u h => ?_) fun z hz e => ?_
            · obtain ⟨n, h1, tt⟩ := ctL_of h
              exact ⟨u, ctL_at (by rw [upd_ne (fun z => n (by rw [z]; exact LD))]; exact h1) n tt, .inl rfl⟩
            · have z1 := g2.1 z hz
              by_cases ez : z.1 = D
              · have q := hg.r o
                obtain ⟨_, q1, _⟩ := q.1 z hz
                rw [ez, hD] at q1
                cases q1
              · rw [upd_ne ez]
                exact e
          · have sr : SameR (ctL (Ls (Ins Lc D) os) H5) (ctL (Ls (Ins Lc D) os) (upd H5 D (.lst (va ++ [v])))) := fun b u h => by
              obtain ⟨n, h1, tt⟩ := ctL_of h
              exact ⟨u, ctL_at (by rw [upd_ne (fun z => n (by rw [z]; exact LD))]; exact h1) n tt, .inl rfl⟩
            exact dts_append (Dt.sameRAll sr _ _ (Dt.sameRAll (s25.ct o2) _ _ hA)) (.cons (Dt.sameR sr _ _ r5) .nil)
        · exact he2.elim
    · have ei : i = xs.length := by omega
      subst ei
      refine .inl ⟨hI.stop _ _ o2 g2, ?_⟩
      rw [List.drop_length] at hgo
      refine k _ H2 (.ref D) hgo (s.trans s2) (o2.sub ofL fun q e => (o.str q e).1) (Res.base (H1 := H1) (Res.of_fresh (p := p) o hD (.inl ⟨va, acc, rfl, hL, Dt.sameRAll (ctL_sub fun b l => ?_) _ _ hA⟩)) s)
      rcases l with l | rfl
      · exact ofL b l
      · exact LD
/-- [e for x in xs if t] -/
theorem dlc {elt tg iter : Expr} {ifs : List Expr} {scope : Scope} {pos : Pos} {fi : WA} {g : WGt} {t : WT} {f : WF} (own : List (Str × Nat)) (hc : X.calm = true) (hN : X.N.Nodup) (hi : PI X tg iter (tI X.K .read fi)) (ok : BlkOk X.N X.env.scope scope own)
    (hg : ∀ (s : Shared) (H : Hp) (C : Addr) (cl : List (Str × Addr)) (fp : List Addr), PG (X.blk s H scope (compEnvC scope cl C X.env) fp) tg (tWG X.K (own.map (·.2)) g)) (ht : ∀ (s : Shared) (H : Hp) (C : Addr) (cl : List (Str × Addr)) (fp : List Addr), PTs (X.blk s H scope (compEnvC scope cl C X.env) fp) ifs (tWT X.K t))
    (he : ∀ (s : Shared) (H : Hp) (C : Addr) (cl : List (Str × Addr)) (fp : List Addr), PE (X.blk s H scope (compEnvC scope cl C X.env) fp) elt (tW X.K .data f)) (hs : ∀ x, foldedSetIterable iter X.env x = pure x := by intro _; rfl) :
    PE X (.ListComp elt [⟨tg, iter, ifs, 0⟩] scope pos) (tW X.K m (wLc fi g t f (own.map (·.2)))) :=
  pe_mono (pe_lc (own := own) hc hN hi ok hg ht he hs) fun σ H Q q => lc_read q
def wYes : WT := fun _ P => P true
theorem dts_nil : PTs X [] (tWT X.K wYes) := ⟨fun pins s σ H Q I q => by
  obtain ⟨He, Lc, os, p, gs, ρ, P, E, hf, k⟩ := q
  exact pts_nil.run pins s σ H Q I (k true H hf Stp.refl E.lokL)⟩
theorem dts_one {c : Expr} {t : WT} (h : PT X c (tWT X.K t)) : PTs X [c] (tWT X.K t) := pts_one h
end
end Dw

/-! list.extend(a tuple). -/
namespace Et
open PySem PySem.Spec PySem.Calls PyProof.Rows L2
theorem ext_tup (l : Addr) (items : Array Value) (n : Nat) (b : Addr) (items2 : Array Value) (n2 : Nat) (dd : Option Addr) (sl : Array (Option Value)) (hs0 : ¬(!items.isEmpty && Builtin.List.listTooLong (items.size + items2.size)) = true) (hs1 : items.size ≤ sizeLine) (hs2 : items.size + items2.size ≤ sizeLine + 1) :
    Meets (Builtin.«list.extend» ⟨[.ref l, .ref b], []⟩) (fun _ R s => s.heap.get? l = some { cls := .type "list", dict := none, data := .seq items n, slots := #[] } ∧ s.heap.get? b = some { cls := .type "tuple", dict := dd, data := .seq items2 n2, slots := sl } ∧ R (.ok (.ret Value.none)) { s with heap := s.heap.update l (Obj.mapSeq fun x => x ++ items2), toks := s.toks }) :=
  .of_wp fun prog w A R s h => by
    cases s
    obtain ⟨hl, hb, hR⟩ := h
    have tupleIsTuple := AutoSeq1.sub_tuple_tuple
    have tupleIsNoList := AutoSeq1.sub_tuple_list
    have grown : (items ++ items2).size ≤ sizeLine + 1 := Array.size_append ▸ hs2
    wp_walk using (wpAny_updateSeq hl rfl (hz := hs1) (_hz' := grown)), AutoSeq1.wpAny_loadPart' hl, AutoSeq1.wpAny_loadPart' hb
    exact ⟨_, rfl, hR⟩
def rExtendT (K : PySem.W.Frag) : V → List V → Hp → VK → Prop := fun x vs H Q => ∃ l b xs zs, x = .ref l ∧ vs = [.ref b] ∧ H l = some (.lst xs) ∧ SqT K H b zs ∧ xs.length + zs.length ≤ sizeLine ∧ Q .non (upd H l (.lst (xs ++ zs)))
theorem mt_extendT {X : Cx} : MtM X "list.extend" (rExtendT X.K) := by
  intro pins s σ H x vs v us Q I rx rv h
  obtain ⟨l, b, xs, zs, rfl, rfl, hH, hB, hz, q⟩ := h
  cases rx
  obtain ⟨u, rfl, ru⟩ := rv.one
  cases ru
  obtain ⟨z, its, n, r, hl, e⟩ := I.lstM hH
  obtain ⟨its2, r2, ⟨o2, ho2, hc2, n2, hd2⟩, hl2⟩ := I.tuple hB
  have hn2 := r2.length
  have hsz : its.toArray.size + its2.toArray.size ≤ sizeLine := by rw [List.size_toArray, List.size_toArray]; omega
  have hlong : ¬ (!its.toArray.isEmpty && Builtin.List.listTooLong (its.toArray.size + its2.toArray.size)) = true := by
    rw [notLongL hsz, Bool.and_false]
    exact Bool.false_ne_true
  obtain ⟨oc, od, dt, sl⟩ := o2
  dsimp only at hc2 hd2
  subst hc2 hd2
  refine call_meets F.slot_list_extend ⟨_, e, rfl⟩ F.entry_list_extend (F.args_list_extend_2 _ _)
    (ext_tup l its.toArray n b its2.toArray n2 od sl hlong (by rw [List.size_toArray]; omega) (by omega)) ⟨e, ho2, ?_⟩
  refine ⟨.non, _, I.lset (its' := its ++ its2) hH e (by simp) (r.append r2) ?_, rfl, q⟩
  rw [List.length_append]
  omega
end Et

/-! Such exceptions raised and caught in one def. -/
namespace Ex
open PySem PySem.Spec PySem.Calls PyProof.Rows L2
section
variable {X : Cx} {e : Expr} {te : TE} {f : Str} {pos : Pos} {C fI : Addr} {nid : String} {ml : List Value}
/-- n.f, n the exception that the suite holds -/
def tSfld (C a : Addr) (f : Str) (cls : Value) (d : Option Addr) (te : TE) : TE := fun σ H Q => te σ H fun x H1 => x = .ref a ∧ cls = .ref C ∧ ∃ (dd : Addr) (v : V), d = some dd ∧ H1 dd = some (exd dd [(f, v)]) ∧ Q v H1
/-- isinstance(n, c), n the exception that the suite holds, without a dict -/
def rIS (K : PySem.W.Frag) (a : Addr) (cls : Value) (d : Option Addr) : List V → Hp → VK → Prop := fun xs H Q => ∃ (c : V) (u : Value) (D : Addr) (b : Bool), xs = [.ref a, c] ∧ ClsV c u ∧ cls = .ref D ∧ d = none ∧ IC K D ∧ PySem.W.kitOne K (.ref D) u = some b ∧ Q (.bl b) H
end
end Ex

/-! Data ways: statements, defs. -/
namespace Dw
open PySem PySem.Spec PySem.W PyProof.Rows L2 Dr Rp
open He (ga)
variable [Dw.LamReg]
/-- an exception: its class, the field that it has -/
structure EX where
  C : Str
  f : Option (Str × PyData)
def XRel (K : PySem.W.Frag) (L : Addr → Prop) (H : Hp) (cls : Value) (d : Option Addr) (x : EX) : Prop := cls = .ref (ga K x.C) ∧ match x.f with
  | none => d = none
  | some (f, D) => ∃ dd v, d = some dd ∧ H dd = some (exd dd [(f, v)]) ∧ Dt K (ctL L H) v D
structure WK where
  nx : EnvD → Prop
  rt : EV → Prop
  bk : EnvD → Prop := fun _ => False
  ct : EnvD → Prop := fun _ => False
  ex : EX → Prop := fun _ => False
abbrev WS := EnvD → WK → Prop
def tWS (K : PySem.W.Frag) (mr : Mode) (W : WX) (f : WS) : TS := fun D σ H => ∃ He Lc os p gs ρ k, EnvOk K He Lc os p gs H σ ρ ∧ f ρ k ∧
  (∀ ρ' os' H' σ', k.nx ρ' → EnvOk K He Lc os' p gs H' σ' ρ' → D.nx σ' H') ∧ (∀ ρ' os' H' σ', k.bk ρ' → EnvOk K He Lc os' p gs H' σ' ρ' → D.bk σ' H') ∧ (∀ ρ' os' H' σ', k.ct ρ' → EnvOk K He Lc os' p gs H' σ' ρ' → D.ct σ' H') ∧
  (∀ e v H', k.rt e → Stp Lc p He H' → LOk Lc p H' → Res K mr Lc p He H' v e → D.rt v H') ∧
  (∀ x cls d σ' H', k.ex x → Stp Lc p He H' → LOk Lc p H' → XRel K Lc H' cls d x → W cls d σ' H')
/-- nothing is raised -/
abbrev W0 : WX := fun _ _ _ _ => False
theorem ps_mono {X : Cx} {e : Stmt} {t t' : TS} (h : PS X e t) (k : ∀ D σ H, t' D σ H → t D σ H) : PS X e t' := ⟨fun pins s σ H D I q => h.run pins s σ H D I (k D σ H q)⟩
theorem pss_mono {X : Cx} {e : List Stmt} {t t' : TS} (h : PSs X e t) (k : ∀ D σ H, t' D σ H → t D σ H) : PSs X e t' := ⟨fun pins s σ H D I q => h.run pins s σ H D I (k D σ H q)⟩
section
variable {K : PySem.W.Frag} {He : Hp} {Lc : Addr → Prop} {os : Nat → Option Addr} {p : Pt} {gs : Gh} {H H' : Hp} {σ : L2.St} {ρ : EnvD}
def dropO (os : Nat → Option Addr) (i : Nat) : Nat → Option Addr := fun j => if j = i then none else os j
theorem dropO_some {i j : Nat} {a : Addr} (h : dropO os i j = some a) : j ≠ i ∧ os j = some a := by
  unfold dropO at h
  by_cases e : j = i
  · rw [if_pos e] at h
    cases h
  · rw [if_neg e] at h
    exact ⟨e, h⟩
theorem dropO_sub {i : Nat} : ∀ b, Ls Lc (dropO os i) b → Ls Lc os b := fun b l => by
  rcases l with l | ⟨j, h⟩
  · exact .inl l
  · exact .inr ⟨j, (dropO_some h).2⟩
/-- what a name alone held is let go -/
theorem EnvOk.drop (E : EnvOk K He Lc os p gs H σ ρ) (i : Nat) : EnvOk K He Lc (dropO os i) p gs H σ (ρ.set i .no) := by
  have sr : SameR (ctL (Ls Lc os) H) (ctL (Ls Lc (dropO os i)) H) := ctL_sub dropO_sub
  refine ⟨by rw [List.length_set]; exact E.len, fun j u h => ?_, fun j a h => ?_, fun j l a h1 h2 => E.inj j l a (dropO_some h1).2 (dropO_some h2).2, fun j a h => E.fre j a (dropO_some h).2, E.gho.sameR sr, E.lok, E.stp⟩
  · by_cases hj : i = j
    · subst hj
      by_cases hl : i < ρ.length
      · rw [List.getElem?_set_self hl] at h
        cases h
        trivial
      · rw [List.getElem?_eq_none (by rw [List.length_set]; omega)] at h
        cases h
    · rw [List.getElem?_set_ne hj] at h
      have z := E.val j u h
      cases u with
      | no => trivial
      | own d =>
        obtain ⟨a, ha⟩ := z
        exact ⟨a, by unfold dropO; rw [if_neg (Ne.symm hj)]; exact ha⟩
      | py d =>
        obtain ⟨v, h1, h2⟩ := z
        exact ⟨v, h1, h2.sameR sr⟩
      | st =>
        obtain ⟨v, h1, h2⟩ := z
        exact ⟨v, h1, h2.sameR sr⟩
      | ob C fs =>
        obtain ⟨v, h1, h2⟩ := z
        exact ⟨v, h1, h2.sameR sr⟩
      | pk ds =>
        obtain ⟨v, h1, h2⟩ := z
        exact ⟨v, h1, h2.sameR sr⟩
      | kp ds =>
        obtain ⟨v, h1, h2⟩ := z
        exact ⟨v, h1, h2.sameR sr⟩
      | ol ds =>
        obtain ⟨v, h1, h2⟩ := z
        exact ⟨v, h1, h2.sameR sr⟩
      | ot ds =>
        obtain ⟨v, h1, h2⟩ := z
        exact ⟨v, h1, h2.sameR sr⟩
      | od ds =>
        obtain ⟨v, h1, h2⟩ := z
        exact ⟨v, h1, h2.sameR sr⟩
      | nd ds =>
        obtain ⟨v, h1, h2⟩ := z
        exact ⟨v, h1, h2.sameR sr⟩
      | pw ds =>
        obtain ⟨v, h1, h2⟩ := z
        exact ⟨v, h1, h2.sameR sr⟩
      | owl d =>
        obtain ⟨a, ha⟩ := z
        exact ⟨a, by unfold dropO; rw [if_neg (Ne.symm hj)]; exact ha⟩
  · obtain ⟨hj, h⟩ := dropO_some h
    obtain ⟨d, h1, h2, h3⟩ := E.own j a h
    exact ⟨d, by rw [List.getElem?_set_ne (Ne.symm hj)]; exact h1, h2, h3.sameR sr rfl⟩
/-- a name takes a value, whatever it held -/
theorem EnvOk.put (E : EnvOk K He Lc os p gs H σ ρ) {i : Nat} {v : V} {e : EV} (hi : i < ρ.length) (r : Rv K p (ctL (Ls Lc os) H) v e) : EnvOk K He Lc (dropO os i) p gs H (σ.set i (some v)) (ρ.set i e) := by
  have E2 := (E.drop i).set (i := i) (v := v) (e := e) (by rw [List.length_set]; exact hi) (by unfold dropO; rw [if_pos rfl]) (r.sameR (ctL_sub dropO_sub))
  rw [List.set_set] at E2
  exact E2
def putO (os : Nat → Option Addr) (i : Nat) (a : Addr) : Nat → Option Addr := fun j => if j = i then some a else os j
/-- a list or dict of a name is changed -/
theorem EnvOk.changeE (E : EnvOk K He Lc os p gs H σ ρ) {i : Nat} {a : Addr} {d : OD} {o : HO} (h : os i = some a) (r : OwnE K (ctL (Ls Lc os) H) (upd H a o) a d) (nt : NT o) : EnvOk K He Lc os p gs (upd H a o) σ (ρ.set i d.ev) := by
  have La : Ls Lc os a := .inr ⟨i, h⟩
  have np : p.q ≠ some a := fun e => (E.fre i a h).1 (E.lok.str a e).1
  have hc : ∀ b u, ctL (Ls Lc os) H b = some u → ctL (Ls Lc os) (upd H a o) b = some u := fun b u e => by
    obtain ⟨n, h1, t⟩ := ctL_of e
    exact ctL_at (by rw [upd_ne (fun z => n (by rw [z]; exact La))]; exact h1) n t
  have sr : SameR (ctL (Ls Lc os) H) (ctL (Ls Lc os) (upd H a o)) := fun b u e => ⟨u, hc b u e, .inl rfl⟩
  obtain ⟨d0, hρ, hσ, _⟩ := E.own i a h
  have hi : i < ρ.length := (List.getElem?_eq_some_iff.mp hρ).1
  have ha : H a ≠ none := E.lokL.ne a La
  refine ⟨by rw [List.length_set]; exact E.len, fun j u hu => ?_, fun j b hb => ?_, E.inj, E.fre, E.gho.sameR sr, ⟨fun b l => ?_, fun q e => ⟨(E.lok.str q e).1, (E.lok.str q e).2.keep fun u hu => by rw [upd_ne (fun z => np (by rw [← z]; exact e))]; exact hu⟩, tabs_upd E.lok.tbs fun u hu => ?_⟩, ⟨fun b u n t hu => ?_, fun b l n => ?_⟩⟩
  · by_cases hj : i = j
    · subst hj
      rw [List.getElem?_set_self hi] at hu
      cases hu
      cases d <;> exact ⟨a, h⟩
    · rw [List.getElem?_set_ne hj] at hu
      have z := E.val j u hu
      cases u with
      | no => trivial
      | own d => exact z
      | py d =>
        obtain ⟨v, h1, h2⟩ := z
        exact ⟨v, h1, h2.sameR sr⟩
      | st =>
        obtain ⟨v, h1, h2⟩ := z
        exact ⟨v, h1, h2.sameR sr⟩
      | ob C fs =>
        obtain ⟨v, h1, h2⟩ := z
        exact ⟨v, h1, h2.sameR sr⟩
      | pk ds =>
        obtain ⟨v, h1, h2⟩ := z
        exact ⟨v, h1, h2.sameR sr⟩
      | kp ds =>
        obtain ⟨v, h1, h2⟩ := z
        exact ⟨v, h1, h2.sameR sr⟩
      | ol ds =>
        obtain ⟨v, h1, h2⟩ := z
        exact ⟨v, h1, h2.sameR sr⟩
      | ot ds =>
        obtain ⟨v, h1, h2⟩ := z
        exact ⟨v, h1, h2.sameR sr⟩
      | od ds =>
        obtain ⟨v, h1, h2⟩ := z
        exact ⟨v, h1, h2.sameR sr⟩
      | nd ds =>
        obtain ⟨v, h1, h2⟩ := z
        exact ⟨v, h1, h2.sameR sr⟩
      | pw ds =>
        obtain ⟨v, h1, h2⟩ := z
        exact ⟨v, h1, h2.sameR sr⟩
      | owl d => exact z
  · by_cases hj : i = j
    · subst hj
      rw [h] at hb
      cases hb
      exact ⟨d, List.getElem?_set_self hi, hσ, r.sameR sr rfl⟩
    · obtain ⟨d', h1, h2, h3⟩ := E.own j b hb
      have nb : b ≠ a := fun e => hj (E.inj i j a h (e ▸ hb))
      exact ⟨d', by rw [List.getElem?_set_ne hj]; exact h1, h2, h3.sameR sr (upd_ne nb)⟩
  · by_cases e : b = a
    · subst e
      exact ⟨o, upd_same, nt⟩
    · rw [upd_ne e]
      exact E.lok.live b l
  · obtain ⟨_, _, _, hw⟩ := E.own i a h
    rcases hw.at with ⟨_, q⟩ | ⟨_, q⟩ <;> rw [q] at hu <;> cases hu
    · exact .lst
    · exact .dK
  · have nb : b ≠ a := fun e => by
      obtain ⟨ps, z⟩ := (E.fre i a h).2 u (e ▸ hu)
      exact t ps z
    rw [upd_ne nb]
    exact E.stp.keep b u n t hu
  · have nb : b ≠ a := fun e => (E.fre i a h).1 (by rw [← e]; exact l)
    rw [upd_ne nb]
    exact E.stp.loose b l n
theorem EnvOk.change (E : EnvOk K He Lc os p gs H σ ρ) {i : Nat} {a : Addr} {d : PyData} {o : HO} (h : os i = some a) (r : OwnAt K (ctL (Ls Lc os) H) (upd H a o) a d) (nt : NT o) : EnvOk K He Lc os p gs (upd H a o) σ (ρ.set i (.own d)) := E.changeE (d := .p d) h r nt
end
end Dw

/-! Data ways: statements. -/
namespace Dw
open PySem PySem.Spec PySem.W PyProof.Rows L2 Dr Rp
open He (ga)
variable [Dw.LamReg]
section
variable {X : Cx} {m mr : Mode}
def wSeq (f g : WS) : WS := fun ρ k => f ρ { k with nx := fun ρ' => g ρ' k }
def wNext : WS := fun ρ k => k.nx ρ
theorem dss_nil : PSs X [] (tWS X.K mr W wNext) := by
  refine pss_mono pss_nil fun D σ H q => ?_
  obtain ⟨He, Lc, os, p, gs, ρ, k, E, hf, k1, _⟩ := q
  exact k1 ρ os H σ hf E
theorem dss_one {st : Stmt} {f : WS} (h : PS X st (tWS X.K mr W f)) : PSs X [st] (tWS X.K mr W f) := pss_one h
theorem dss_cons {st : Stmt} {rest : List Stmt} {f g : WS} (h : PS X st (tWS X.K mr W f)) (k : PSs X rest (tWS X.K mr W g)) : PSs X (st :: rest) (tWS X.K mr W (wSeq f g)) := by
  refine pss_mono (pss_cons h k) fun D σ H q => ?_
  obtain ⟨He, Lc, os, p, gs, ρ, k, E, hf, k1, k2, k3, k4⟩ := q
  exact ⟨He, Lc, os, p, gs, ρ, _, E, hf, fun ρ' os' H' σ' hk E' => ⟨He, Lc, os', p, gs, ρ', k, E', hk, k1, k2, k3, k4⟩, k2, k3, k4⟩
def wBreak : WS := fun ρ k => k.bk ρ
def wCont : WS := fun ρ k => k.ct ρ
/-- a statement that is never reached -/
def wNever : WS := fun _ _ => False
theorem ds_never {st : Stmt} : PS X st (tWS X.K mr W wNever) := ⟨fun _ _ _ _ _ _ q => by
  obtain ⟨He, Lc, os, p, gs, ρ, k, E, hf, _⟩ := q
  exact hf.elim⟩
def wSet (i : Nat) (f : WF) : WS := fun ρ k => i < ρ.length ∧ f ρ fun e => k.nx (ρ.set i e)
theorem set_read {K : PySem.W.Frag} {i : Nat} {f : WF} {D : Ends} {σ : L2.St} {H : Hp} (q : tWS K mr W (wSet i f) D σ H) : tAsg (tW K .data f) (gName i) D σ H := by
  obtain ⟨He, Lc, os, p, gs, ρ, k, E, ⟨hi, hf⟩, k1, _⟩ := q
  refine ⟨He, Lc, os, p, gs, ρ, _, E, hf, fun e H1 v he s o r => ?_⟩
  exact k1 _ _ _ _ he ((E.step s o).put hi r)
theorem ds_set (i : Nat) {x : Str} {e : Expr} {f : WF} {pos pos' : Pos} (hN : X.N.Nodup) (hi : X.N[i]? = some x) (hx : Loc X.env.scope x) (he : PE X e (tW X.K .data f)) (hs : swapsWith e (some (.Name x pos')) pos.line X.env = pure false := by rfl) (hf : X.fn x = true ∨ X.env.scope.names.lookup x = some .local := by first | exact .inl rfl | exact .inr rfl | assumption) :
    PS X (.Assign [.Name x pos'] e pos) (tWS X.K mr W (wSet i f)) := ps_mono (ps_set hN hi hx he hs hf) fun D σ H q => set_read q
def wOwn (i : Nat) (f : WF) : WS := fun ρ k => i < ρ.length ∧ f ρ fun e => match e with
  | .py d => k.nx (ρ.set i (.own d))
  | _ => False
theorem own_read {K : PySem.W.Frag} {i : Nat} {f : WF} {D : Ends} {σ : L2.St} {H : Hp} (q : tWS K mr W (wOwn i f) D σ H) : tAsg (tW K .fresh f) (gName i) D σ H := by
  obtain ⟨He, Lc, os, p, gs, ρ, k, E, ⟨hi, hf⟩, k1, _⟩ := q
  refine ⟨He, Lc, os, p, gs, ρ, _, E, hf, fun e H1 v he s o r => ?_⟩
  obtain ⟨a, d, rfl, rfl, h0, hw⟩ := r
  have E1 := E.step s o
  have nL : ¬ Ls Lc os a := E.lokL.neT h0.2
  refine k1 _ (putO os i a) _ _ he ?_
  have hput : ∀ {j b}, putO os i a j = some b → (j = i ∧ b = a) ∨ (j ≠ i ∧ os j = some b) := fun {j b} h => by
    unfold putO at h
    by_cases e : j = i
    · rw [if_pos e] at h
      exact .inl ⟨e, (Option.some.inj h).symm⟩
    · rw [if_neg e] at h
      exact .inr ⟨e, h⟩
  have sub : ∀ b, Ls Lc (putO os i a) b → Ins (Ls Lc os) a b := fun b l => by
    rcases l with l | ⟨j, h⟩
    · exact .inl (.inl l)
    · rcases hput h with ⟨_, e⟩ | ⟨_, h⟩
      · exact .inr e
      · exact .inl (.inr ⟨j, h⟩)
  have sr : SameR (ctL (Ls Lc os) H) (ctL (Ls Lc (putO os i a)) H1) := fun b u h => by
    obtain ⟨n, h1, t⟩ := ctL_of h
    obtain ⟨u', h', k⟩ := s.keep b u (fun e => n (E.lokL.str b e).1) t h1
    refine ⟨u', ctL_at h' (fun l => ?_) (k.notbl t), k⟩
    rcases sub b l with l | e
    · exact n l
    · rw [e] at h1
      exact absurd (h0.2 _ h1) (fun ⟨ps, z⟩ => t ps z)
  refine ⟨by rw [List.length_set, List.length_set]; exact E.len, fun j u h => ?_, fun j b h => ?_, fun j l b h1 h2 => ?_, fun j b h => ?_, E.gho.sameR sr, E1.lok, E1.stp⟩
  · by_cases hj : i = j
    · subst hj
      rw [List.getElem?_set_self hi] at h
      cases h
      exact ⟨a, by unfold putO; rw [if_pos rfl]⟩
    · rw [List.getElem?_set_ne hj] at h
      have z := E.val j u h
      cases u with
      | no => trivial
      | own d =>
        obtain ⟨b, hb⟩ := z
        exact ⟨b, by unfold putO; rw [if_neg (Ne.symm hj)]; exact hb⟩
      | py d =>
        obtain ⟨v, h1, h2⟩ := z
        exact ⟨v, by rw [List.getElem?_set_ne hj]; exact h1, h2.sameR sr⟩
      | st =>
        obtain ⟨v, h1, h2⟩ := z
        exact ⟨v, by rw [List.getElem?_set_ne hj]; exact h1, h2.sameR sr⟩
      | ob C fs =>
        obtain ⟨v, h1, h2⟩ := z
        exact ⟨v, by rw [List.getElem?_set_ne hj]; exact h1, h2.sameR sr⟩
      | pk ds =>
        obtain ⟨v, h1, h2⟩ := z
        exact ⟨v, by rw [List.getElem?_set_ne hj]; exact h1, h2.sameR sr⟩
      | kp ds =>
        obtain ⟨v, h1, h2⟩ := z
        exact ⟨v, by rw [List.getElem?_set_ne hj]; exact h1, h2.sameR sr⟩
      | ol ds =>
        obtain ⟨v, h1, h2⟩ := z
        exact ⟨v, by rw [List.getElem?_set_ne hj]; exact h1, h2.sameR sr⟩
      | ot ds =>
        obtain ⟨v, h1, h2⟩ := z
        exact ⟨v, by rw [List.getElem?_set_ne hj]; exact h1, h2.sameR sr⟩
      | od ds =>
        obtain ⟨v, h1, h2⟩ := z
        exact ⟨v, by rw [List.getElem?_set_ne hj]; exact h1, h2.sameR sr⟩
      | nd ds =>
        obtain ⟨v, h1, h2⟩ := z
        exact ⟨v, by rw [List.getElem?_set_ne hj]; exact h1, h2.sameR sr⟩
      | pw ds =>
        obtain ⟨v, h1, h2⟩ := z
        exact ⟨v, by rw [List.getElem?_set_ne hj]; exact h1, h2.sameR sr⟩
      | owl d =>
        obtain ⟨b, hb⟩ := z
        exact ⟨b, by unfold putO; rw [if_neg (Ne.symm hj)]; exact hb⟩
  · rcases hput h with ⟨rfl, rfl⟩ | ⟨hj, h⟩
    · exact ⟨.p d, List.getElem?_set_self hi, List.getElem?_set_self (by rw [E.len]; exact hi), OwnE.sameR (d := .p d) hw (ctL_sub sub) rfl⟩
    · obtain ⟨d', h1, h2, h3⟩ := E.own j b h
      have np : p.q ≠ some b := fun e => (E.fre j b h).1 (E.lok.str b e).1
      exact ⟨d', by rw [List.getElem?_set_ne (Ne.symm hj)]; exact h1, by rw [List.getElem?_set_ne (Ne.symm hj)]; exact h2, h3.sameR sr (s.loose b (.inr ⟨j, h⟩) np)⟩
  · rcases hput h1 with ⟨rfl, rfl⟩ | ⟨hj, q1⟩ <;> rcases hput h2 with ⟨rfl, e⟩ | ⟨hl, q2⟩
    · rfl
    · exact absurd (.inr ⟨l, q2⟩) nL
    · subst e
      exact absurd (.inr ⟨j, q1⟩) nL
    · exact E.inj j l b q1 q2
  · rcases hput h with ⟨rfl, rfl⟩ | ⟨hj, h⟩
    · exact ⟨fun l => nL (.inl l), (E.stp.free h0).2⟩
    · exact E.fre j b h
theorem ds_own (i : Nat) {x : Str} {e : Expr} {f : WF} {pos pos' : Pos} (hN : X.N.Nodup) (hi : X.N[i]? = some x) (hx : Loc X.env.scope x) (he : PE X e (tW X.K .fresh f)) (hs : swapsWith e (some (.Name x pos')) pos.line X.env = pure false := by rfl) (hf : X.fn x = true ∨ X.env.scope.names.lookup x = some .local := by first | exact .inl rfl | exact .inr rfl | assumption) :
    PS X (.Assign [.Name x pos'] e pos) (tWS X.K mr W (wOwn i f)) := ps_mono (ps_set hN hi hx he hs hf) fun D σ H q => own_read q
/-- a, b = .. and the like -/
def wAsgT (g : WGt) (f : WF) : WS := fun ρ k => f ρ fun e => g e ρ fun ρ' => k.nx ρ'
theorem ds_asgT {tg e : Expr} {f : WF} {g : WGt} {pos : Pos} (vs : List Nat) (he : PE X e (tW X.K .data f)) (hg : PG X tg (tWG X.K vs g)) (hs : swapsWithSole [tg] e pos.line X.env = pure false := by rfl) (hw : swappedStores [tg] e X.env = pure none := by rfl)
    (h1 : (assignEach [tg] X.env).map (·.2) = [assign tg X.env] := by rfl) : PS X (.Assign [tg] e pos) (tWS X.K mr W (wAsgT g f)) := ps_mono (ps_asg he hg hs hw h1) fun D σ H q => by
  obtain ⟨He, Lc, os, p, gs, ρ, k, E, hf, k1, _⟩ := q
  refine ⟨He, Lc, os, p, gs, ρ, _, E, hf, fun e H1 v he s o r => ?_⟩
  exact ⟨He, Lc, os, p, gs, ρ, _, e, E.step s o, r, he, fun ρ' σ' hk E' _ => k1 _ _ _ _ hk E'⟩
def wIfS (t : WT) (f g : WS) : WS := fun ρ k => t ρ fun b => if b = true then f ρ k else g ρ k
theorem ds_if {c : Expr} {a b : List Stmt} {pos : Pos} {t : WT} {f g : WS} (hc : PT X c (tWT X.K t)) (ha : PSs X a (tWS X.K mr W f)) (hb : PSs X b (tWS X.K mr W g)) : PS X (.If c a b pos) (tWS X.K mr W (wIfS t f g)) := by
  refine ps_mono (ps_if hc ha hb) fun D σ H q => ?_
  obtain ⟨He, Lc, os, p, gs, ρ, k, E, hf, kk⟩ := q
  refine ⟨He, Lc, os, p, gs, ρ, _, E, hf, fun b H1 hb s o => ?_⟩
  cases b with
  | true => exact ⟨He, Lc, os, p, gs, ρ, k, E.step s o, hb, kk⟩
  | false => exact ⟨He, Lc, os, p, gs, ρ, k, E.step s o, hb, kk⟩
theorem Res.out {K : PySem.W.Frag} {He : Hp} {Lc : Addr → Prop} {os : Nat → Option Addr} {p : Pt} {H H' : Hp} {v : V} {e : EV} (hm : m ≠ .read) (r : Res K m (Ls Lc os) p H H' v e) (s : Stp Lc p He H) : Res K m Lc p He H' v e := by
  cases m with
  | fresh =>
    obtain ⟨a, d, e1, e2, h0, hw⟩ := r
    refine ⟨a, d, e1, e2, s.free h0, hw.sameR (ctL_sub fun b l => ?_) rfl⟩
    rcases l with l | l
    · exact .inl (.inl l)
    · exact .inr l
  | data => exact Rv.sameR (ctL_sub fun b l => .inl l) r
  | read => exact absurd rfl hm
def wRet (f : WF) : WS := fun ρ k => f ρ k.rt
theorem ds_ret {e : Expr} {pos : Pos} {f : WF} (he : PE X e (tW X.K mr f)) (hm : mr ≠ .read := by decide) : PS X (.Return (some e) pos) (tWS X.K mr W (wRet f)) := by
  refine ps_mono (ps_ret he) fun D σ H q => ?_
  obtain ⟨He, Lc, os, p, gs, ρ, k, E, hf, k1, k2, k3, k4⟩ := q
  refine ⟨He, Lc, os, p, gs, ρ, _, E, hf, fun e H1 v he s o r => ?_⟩
  have E1 := E.step s o
  exact k4.1 e v H1 he E1.stp E1.lok (r.out hm E.stp)
def wRetN : WS := fun _ k => k.rt (.py .none)
/-- return x, x a list of its own: handed out as new -/
def wRetO (i : Nat) : WS := fun ρ k => ∃ d, ρ[i]? = some (.own d) ∧ k.rt (.py d)
/-- a ghost: what a name alone held is data from here on -/
def wFrz (i : Nat) (f : WS) : WS := fun ρ k => match ρ[i]? with
  | some (.own d) => f (ρ.set i (.py d)) k
  | some (.owl d) => f (ρ.set i (.ol d)) k
  | _ => f ρ k
/-! ### loops -/
def wForGo (g : WGt) (b : WS) : List EV → EnvD → WK → Prop
  | [], ρ, k => k.nx ρ
  | x :: r, ρ, k => g x ρ fun ρ' => b ρ' { nx := fun ρ2 => wForGo g b r ρ2 k, ct := fun ρ2 => wForGo g b r ρ2 k, bk := k.nx, rt := k.rt, ex := k.ex }
def wFor (fi : WA) (g : WGt) (b : WS) : WS := fun ρ k => fi ρ fun xs => wForGo g b xs ρ k
theorem ds_for {tg iter : Expr} {body : List Stmt} {pos : Pos} {fi : WA} {g : WGt} {b : WS} {mi : Mode} (vs : List Nat) (hmi : mi = .data) (hp : PassesOwn (model X.prog X.w) X.A X.env X.xe) (hc : X.calm = true) (hi : PI X tg iter (tI X.K mi fi)) (hg : PG X tg (tWG X.K vs g)) (hb : PSs X body (tWS X.K mr W b))
    (hs : ∀ x, foldedSetIterable iter X.env x = pure x := by intro _; rfl) : PS X (.For tg iter body [] pos) (tWS X.K mr W (wFor fi g b)) := by
  subst hmi
  refine ps_mono (ps_for hp hc hi hg hb hs) fun D σ H q => ?_
  obtain ⟨He, Lc, os, p, gs, ρ, k, E, hf, k1, k2, k3, k4⟩ := q
  refine ⟨He, Lc, os, p, gs, ρ, _, E, hf, fun xs gh J H1 hP s o hgh hI => ?_⟩
  have hgh : GhD X.K p (Ls Lc os) H1 gh := hgh
  have E1 := E.step s o
  let g2 : Gh := { ad := gs.ad ++ gh.ad, vl := gs.vl ++ gh.vl }
  have E2 : EnvOk X.K He Lc os p g2 H1 σ ρ := E1.ghost ⟨fun z hz => (List.mem_append.mp hz).elim (E1.gho.1 z) (hgh.1 z), fun z hz => (List.mem_append.mp hz).elim (E1.gho.2 z) (hgh.2 z)⟩
  have back : ∀ {os' : Nat → Option Addr} {H' : Hp} {σ' : L2.St} {ρ' : EnvD}, EnvOk X.K He Lc os' p g2 H' σ' ρ' → EnvOk X.K He Lc os' p gs H' σ' ρ' := fun E' => E'.ghost ⟨fun z hz => E'.gho.1 z (List.mem_append_left _ hz), fun z hz => E'.gho.2 z (List.mem_append_left _ hz)⟩
  have ghr : ∀ {os' : Nat → Option Addr} {H' : Hp} {σ' : L2.St} {ρ' : EnvD}, EnvOk X.K He Lc os' p g2 H' σ' ρ' → GhR X.K p (Ls Lc os') H' gh := fun E' => GhD.read (K := X.K) ⟨fun z hz => E'.gho.1 z (List.mem_append_right _ hz), fun z hz => E'.gho.2 z (List.mem_append_right _ hz)⟩ E'.lokL
  refine ⟨fun i n σ' H' => n = xs.length - i ∧ i ≤ xs.length ∧ ∃ os' ρ', EnvOk X.K He Lc os' p g2 H' σ' ρ' ∧ wForGo g b (xs.drop i) ρ' k, ⟨xs.length, rfl, Nat.zero_le _, os, ρ, E2, hP⟩, ?_⟩
  rintro i n σ' H' ⟨rfl, hi, os', ρ', E', hgo⟩
  by_cases hlt : i < xs.length
  · refine .inr ⟨hI.go _ _ i E'.lokL (ghr E') hlt, fun σ2 H2 => ∃ n', n' < xs.length - i ∧ (n' = xs.length - (i + 1) ∧ i + 1 ≤ xs.length ∧ ∃ os' ρ', EnvOk X.K He Lc os' p g2 H2 σ2 ρ' ∧ wForGo g b (xs.drop (i + 1)) ρ' k), fun σ2 H2 h => h, fun x H3 hy => ?_⟩
    obtain ⟨sm, e, he, hv⟩ := hI.yld _ _ i x H3 E'.lokL (ghr E') hlt hy
    have hdrop : xs.drop i = e :: xs.drop (i + 1) := by
      obtain ⟨h1, rfl⟩ := List.getElem?_eq_some_iff.mp he
      exact List.drop_eq_getElem_cons h1
    rw [hdrop] at hgo
    have E3 := E'.step (Stp.same sm E'.lokL.ne) (E'.lokL.same sm)
    refine ⟨_, _, _, _, _, _, _, _, E3, hv, hgo, fun ρ2 σ2 hb2 E4 _ => ?_⟩
    refine ⟨He, Lc, _, p, g2, ρ2, _, E4, hb2, fun ρ5 os5 H5 σ5 h5 E5 => ⟨xs.length - (i + 1), by omega, rfl, hlt, os5, ρ5, E5, h5⟩, fun ρ5 os5 H5 σ5 h5 E5 => k1 _ _ _ _ h5 (back E5), fun ρ5 os5 H5 σ5 h5 E5 => ⟨xs.length - (i + 1), by omega, rfl, hlt, os5, ρ5, E5, h5⟩, k4⟩
  · have ei : i = xs.length := by omega
    subst ei
    rw [List.drop_length] at hgo
    exact .inl ⟨hI.stop _ _ E'.lokL (ghr E'), k1 _ _ _ _ hgo (back E')⟩
def wWhileN (t : WT) (b : WS) : Nat → WS
  | 0, _, _ => False
  | n + 1, ρ, k => t ρ fun c => if c = true then b ρ { nx := fun ρ2 => wWhileN t b n ρ2 k, ct := fun ρ2 => wWhileN t b n ρ2 k, bk := k.nx, rt := k.rt, ex := k.ex } else k.nx ρ
def wWhile (t : WT) (b : WS) : WS := fun ρ k => ∃ n, wWhileN t b n ρ k
end
end Dw

/-! Data ways: calls of built-ins, displays, items, slices. -/
namespace Dw
open PySem PySem.Spec PySem.W PySem.Calls PyProof.Rows L2 Dr Rp
open He (ga)
variable [Dw.LamReg]
/-- arguments that are data -/
def pys : List EV → Option (List PyData)
  | [] => some []
  | .py d :: r => (pys r).map (d :: ·)
  | _ :: _ => none
theorem pys_dts {K : PySem.W.Frag} {p : Pt} {G : Hp} : ∀ {vs : List V} {es : List EV} {ds : List PyData}, Paired (fun v e => Rv K p G v e) vs es → pys es = some ds → DtAll K G vs ds
  | _, _, _, .nil, h => by
    cases h
    exact .nil
  | _, e :: es, _, .cons a t, h => by
    cases e with
    | py d =>
      unfold pys at h
      cases q : pys es with
      | none => rw [q] at h; cases h
      | some r =>
        rw [q] at h
        cases h
        exact .cons a (pys_dts t q)
    | _ => unfold pys at h; cases h
def wCallA (g : List EV → (EV → Prop) → Prop) (fa : WA) : WF := fun ρ P => fa ρ fun xs => g xs P
section
variable {X : Cx} {m : Mode} {e : Expr} {es : List Expr} {fa : WA} {pos q : Pos}
/-- (a, b) -/
def wTup (es : List EV) (P : EV → Prop) : Prop := ∃ ds, pys es = some ds ∧ ds.length ≤ sizeLine ∧ P (.py (.tuple ds))
def wLst (es : List EV) (P : EV → Prop) : Prop := ∃ ds, pys es = some ds ∧ ds.length ≤ sizeLine ∧ P (.py (.list ds))
theorem dtup {x1} (h : PA X es (tWA X.K .data fa)) (hm : m ≠ .fresh := by decide) : PE X (.Tuple es x1 pos) (tW X.K m (wCallA wTup fa)) :=
  ka (ma := .data) (g := wTup) (fun xs H1 Q => xs.length ≤ sizeLine ∧ Tn.NewT H1 xs Q) (Tn.pe_tupN h) fun L p H0 H vs es P Q o ra hg k => by
    obtain ⟨ds, h1, h2, h3⟩ := hg
    have hd := pys_dts (p := p) (ra : Paired (fun v e => Rv X.K p (ctL L H) v e) vs es) h1
    exact ⟨by rw [← DtAll.len hd]; exact h2, fun r ob hr nd => Go.tup k o hm h3 hd hr nd⟩
theorem dlst (h : PA X es (tWA X.K .data fa)) : PE X (.List es pos) (tW X.K m (wCallA wLst fa)) :=
  ka (ma := .data) (g := wLst) (fun xs H1 Q => xs.length ≤ sizeLine ∧ ∀ p, H1 p = none → Q (.ref p) (upd H1 p (.lst xs))) (pe_lst h) fun L p H0 H vs es P Q o ra hg k => by
    obtain ⟨ds, h1, h2, h3⟩ := hg
    have hd := pys_dts (p := p) (ra : Paired (fun v e => Rv X.K p (ctL L H) v e) vs es) h1
    exact ⟨by rw [← DtAll.len hd]; exact h2, fun r hr => Go.lst k o h3 hd hr⟩
/-! ### built-ins -/
theorem dB {id : String} {nm : Str} {r : List V → Hp → VK → Prop} {g : List EV → (EV → Prop) → Prop} (hc : CallR X (.builtin id) r) (hv : bootBuiltins nm = some (.builtin id))
    (snd : ∀ L p H0 H vs es P Q, LOk L p H → Paired (fun v e => Res X.K .read L p H0 H v e) vs es → g es P → Go X.K m L p H P Q → r vs H Q)
    (hg : Gl X nm) (ht : X.mg nm = none) (ha : PA X (e :: es) (tWA X.K .read fa)) (hn : nm ≠ "__name__" := by decide) (hdb : (nm == ("__debug__" : Str)) = false := by decide)
    (he : starEach (e :: es) X.env = (false, eval e X.env) :: starEach es X.env := by rfl) (hpl : (backTo pos (starEach es X.env)).any (·.1) = false := by rfl) : PE X (.Call (.Name nm q) (e :: es) [] pos) (tW X.K m (wCallA g fa)) :=
  ka (ma := .read) (g := g) r (pe_callB hc hg ht hv ha hn hdb he hpl) snd
theorem dT {T : String} {nm : Str} {r : List V → Hp → VK → Prop} {g : List EV → (EV → Prop) → Prop} (hc : CallR X (.type T) r) (hv : bootBuiltins nm = some (.type T))
    (snd : ∀ L p H0 H vs es P Q, LOk L p H → Paired (fun v e => Res X.K .read L p H0 H v e) vs es → g es P → Go X.K m L p H P Q → r vs H Q)
    (hg : Gl X nm) (ht : X.mg nm = none) (ha : PA X (e :: es) (tWA X.K .read fa)) (hn : nm ≠ "__name__" := by decide) (hdb : (nm == ("__debug__" : Str)) = false := by decide)
    (he : starEach (e :: es) X.env = (false, eval e X.env) :: starEach es X.env := by rfl) (hpl : (backTo pos (starEach es X.env)).any (·.1) = false := by rfl) : PE X (.Call (.Name nm q) (e :: es) [] pos) (tW X.K m (wCallA g fa)) :=
  ka (ma := .read) (g := g) r (pe_callTy hc hg ht hv ha hn hdb he hpl) snd
end
section
variable {X : Cx} {m : Mode}
/-- what one built-in gives: a rule of calls and its meaning on data -/
structure BR (X : Cx) (m : Mode) (f : Value) (g : List EV → (EV → Prop) → Prop) where
  r : List V → Hp → VK → Prop
  c : CallR X f r
  s : ∀ L p H0 H vs es P Q, LOk L p H → Paired (fun v e => Res X.K .read L p H0 H v e) vs es → g es P → Go X.K m L p H P Q → r vs H Q
def lenD : PyData → Option Nat
  | .list ds => some ds.length
  | .tuple ds => some ds.length
  | .dict ds => some ds.length
  | .str z => if z.length ≤ sizeLine then some z.length else none
  | _ => none
def wLen : List EV → (EV → Prop) → Prop
  | [.py d], P => ∃ n, lenD d = some n ∧ P (.py (.int (n : Nat)))
  | _, _ => False
theorem paired1 {α β : Type} {R : α → β → Prop} {xs : List α} {y : β} (h : Paired R xs [y]) : ∃ x, xs = [x] ∧ R x y := by
  cases h with
  | cons a t =>
    cases t
    exact ⟨_, rfl, a⟩
theorem paired2 {α β : Type} {R : α → β → Prop} {xs : List α} {y z : β} (h : Paired R xs [y, z]) : ∃ x w, xs = [x, w] ∧ R x y ∧ R w z := by
  cases h with
  | cons a t =>
    obtain ⟨w, rfl, b⟩ := paired1 t
    exact ⟨_, _, rfl, a, b⟩
theorem dkv_len {K : PySem.W.Frag} {G : Hp} : ∀ {kvs : List (Key × V)} {ds : List (PyData × PyData)}, DtKv K G kvs ds → ds.length = kvs.length
  | _, _, .nil => rfl
  | _, _, .cons _ t => by rw [List.length_cons, List.length_cons, dkv_len t]
theorem call_lenDr : CallR X (.builtin "len") (fun xs H Q => ∃ a kvs, xs = [V.ref a] ∧ Rd H a (.dK kvs) ∧ Q (.int kvs.length) H) := by
  intro pins s σ H xs us Q I r h
  obtain ⟨a, kvs, rfl, ha, q⟩ := h
  obtain ⟨u, rfl, ru⟩ := vals1 r
  obtain rfl : u = Value.ref a := ru
  exact d_len I ha fun t s' I' => ⟨.int kvs.length, H, I', ⟨t, rfl⟩, q⟩
def brLen (hm : m ≠ .fresh) : BR X m (.builtin "len") wLen where
  r := _
  c := cr_or (cr_or call_len_seq call_len_str) call_lenDr
  s := fun L p H0 H vs es P Q o ra hg k => by
    unfold wLen at hg
    split at hg
    · rename_i d P
      obtain ⟨n, hn, hP⟩ := hg
      obtain ⟨v, rfl, r⟩ := paired1 ra
      unfold lenD at hn
      split at hn
      · cases hn
        obtain ⟨a, vs, rfl, h1, h2⟩ := r.list
        exact .inl (.inl ⟨a, vs, rfl, .inl (.inl h1), by rw [← DtAll.len h2]; exact Go.val k o hm hP (.int _)⟩)
      · cases hn
        obtain ⟨a, vs, rfl, h1, h2⟩ := r.tup
        exact .inl (.inl ⟨a, vs, rfl, .inr h1, by rw [← DtAll.len h2]; exact Go.val k o hm hP (.int _)⟩)
      · cases hn
        obtain ⟨a, kvs, rfl, h1, h2⟩ := r.dict
        exact .inr ⟨a, kvs, rfl, h1, by rw [← dkv_len h2]; exact Go.val k o hm hP (.int _)⟩
      · rename_i z
        by_cases hz : z.length ≤ sizeLine
        · rw [if_pos hz] at hn
          cases hn
          exact .inl (.inr ⟨z, by rw [r.str], hz, Go.val k o hm hP (.int _)⟩)
        · rw [if_neg hz] at hn
          cases hn
      · cases hn
    · exact hg.elim
def wTupleOf : List EV → (EV → Prop) → Prop
  | [.py (.list ds)], P => P (.py (.tuple ds))
  | [.py (.tuple ds)], P => P (.py (.tuple ds))
  | _, _ => False
def brTuple (hm : m ≠ .fresh) : BR X m (.type "tuple") wTupleOf where
  r := _
  c := Tn.call_tupleN
  s := fun L p H0 H vs es P Q o ra hg k => by
    unfold wTupleOf at hg
    split at hg
    · obtain ⟨v, rfl, r⟩ := paired1 ra
      obtain ⟨a, vs, rfl, h1, h2⟩ := r.list
      exact ⟨a, vs, rfl, .inl ⟨.inl h1, fun l ob hl nd => Go.tup k o hm hg h2 hl nd⟩⟩
    · obtain ⟨v, rfl, r⟩ := paired1 ra
      obtain ⟨a, vs, rfl, h1, h2⟩ := r.tupN
      exact ⟨a, vs, rfl, .inr ⟨h1.t, Go.val k o hm hg (.tup (o.sqn h1) h2)⟩⟩
    · exact hg.elim
def wListOf : List EV → (EV → Prop) → Prop
  | [.py d], P => ∃ ds, seqD d = some ds ∧ P (.py (.list ds))
  | _, _ => False
def brList : BR X m (.type "list") wListOf where
  r := _
  c := call_list_of
  s := fun L p H0 H vs es P Q o ra hg k => by
    unfold wListOf at hg
    split at hg
    · obtain ⟨v, rfl, r⟩ := paired1 ra
      obtain ⟨ds, h1, h2⟩ := hg
      obtain ⟨a, vs, rfl, h3, h4⟩ := r.seq h1
      exact ⟨a, vs, rfl, h3, fun l hl => Go.lst k o h2 h4 hl⟩
    · exact hg.elim
/-! sorted of data that is alike -/
def sortD (ds : List PyData) : List PyData := ds.mergeSort (dataLe false id)
theorem prs_reads {h : Heap} {K : PySem.W.Frag} {H : Hp} {X : Cx} {pins : List (Addr × Obj)} {σ : L2.St} {s : Shared} (I : Inv X pins σ H s) : ∀ {vs : List V} {ds : List PyData} {us : List Value}, DpAll X.K H vs ds → Vals vs us →
    EachIs (fun (u : Value) (q : V × PyData) => RelV q.1 u) us (vs.zip ds) ∧ EachIs (fun (u : Value) (q : V × PyData) => ∃ as, Reads s.heap u q.2 as) us (vs.zip ds)
  | _, _, _, .nil, .nil => ⟨.nil, .nil⟩
  | _, _, _, .cons a t, .cons b r => by
    obtain ⟨h1, h2⟩ := prs_reads (h := h) (K := K) I t r
    obtain ⟨as, q⟩ := Dp.reads I _ _ _ a b
    exact ⟨.cons b h1, .cons ⟨as, q⟩ h2⟩
theorem each_vals : ∀ {us : List Value} {L : List (V × PyData)}, EachIs (fun (u : Value) (q : V × PyData) => RelV q.1 u) us L → Vals (L.map (·.1)) us
  | _, _, .nil => .nil
  | _, _, .cons a t => .cons a (each_vals t)
theorem zip_snd {α β : Type} : ∀ {xs : List α} {ys : List β}, xs.length = ys.length → (xs.zip ys).map (·.2) = ys
  | [], [], _ => rfl
  | x :: xs, y :: ys, h => by
    rw [List.zip_cons_cons, List.map_cons, zip_snd (by simpa using h)]
theorem cr_sortedV (hu : X.A.units + 64 < cLine) : CallR X (.builtin "sorted") (fun xs H Q => ∃ a vs ds, xs = [V.ref a] ∧ SqL X.K H a vs ∧ DpAll X.K H vs ds ∧ vs.length = ds.length ∧ AllAlike ds ∧ Sortable ds ∧ (∀ d ∈ ds, d.depth ≤ 50) ∧
    ∀ p, H p = none → Q (.ref p) (upd H p (.lst (((vs.zip ds).mergeSort (dataLe false (·.2))).map (·.1))))) := by
  intro pins s σ H xs us Q I r h
  obtain ⟨a, vs, ds, rfl, hs, hr, hlen, hal, hk, hd, q⟩ := h
  obtain ⟨its, rv, hl, hz⟩ := I.list hs
  rw [Vals.ref1 r]
  obtain ⟨e1, e2⟩ := prs_reads (h := s.heap) (K := X.K) I hr rv
  have es : (vs.zip ds).map (·.2) = ds := zip_snd hlen
  have ll : (vs.zip ds).length = vs.length := by rw [List.length_zip, hlen, Nat.min_self]
  refine sorted_data (R := fun u (q : V × PyData) => RelV q.1 u) (enc := fun q : V × PyData => q.2) (bs := vs.zip ds) hl.isList e1 e2 (by rw [es]; exact hal) (by rw [es]; exact hk) (by rw [ll]; exact hz) (fun z hz => ?_) fun out ho he => ?_
  · have := hd z.2 (by rw [← es]; exact List.mem_map.mpr ⟨z, hz, rfl⟩)
    omega
  · obtain ⟨ep, he'⟩ := PyProof.Rows.sortedAll_at s.heap its out.toArray
    refine ⟨.ref _, upd H (s.heap.objs.size + 1) (.lst _), I.laid (t' := s.toks) (fun _ _ => PyProof.Rows.sortedAll_old) (Nat.le_succ _) ⟨?_, _, ep, each_vals he, he'⟩, rfl, q _ (I.hok.fresh (Nat.le_succ _))⟩
    rw [List.length_map, List.length_mergeSort, ll]
    exact hz
def wSorted : List EV → (EV → Prop) → Prop
  | [.py (.list ds)], P => (noDict (.list ds) = true ∧ AllAlike ds ∧ Sortable ds ∧ ∀ d ∈ ds, d.depth ≤ 50) ∧ P (.py (.list (sortD ds)))
  | [.py (.tuple ds)], P => (noDict (.list ds) = true ∧ AllAlike ds ∧ Sortable ds ∧ ∀ d ∈ ds, d.depth ≤ 50) ∧ P (.py (.list (sortD ds)))
  | _, _ => False
theorem sort_dts {K : PySem.W.Frag} {G : Hp} {vs : List V} {ds : List PyData} (h : DtAll K G vs ds) : DtAll K G (((vs.zip ds).mergeSort (dataLe false (·.2))).map (·.1)) (sortD ds) := by
  have go : ∀ L : List (V × PyData), (∀ z ∈ L, Dt K G z.1 z.2) → DtAll K G (L.map (·.1)) (L.map (·.2)) := by
    intro L
    induction L with
    | nil => intro _; exact .nil
    | cons z r ih => intro h; exact .cons (h z List.mem_cons_self) (ih fun y hy => h y (List.mem_cons_of_mem _ hy))
  have all : ∀ z ∈ vs.zip ds, Dt K G z.1 z.2 := by
    clear go
    induction h using DtAll.rec (motive_1 := fun _ _ _ => True) (motive_3 := fun _ _ _ => True) with
    | nil => intro z hz; cases hz
    | cons a t _ ih =>
      intro z hz
      rcases List.mem_cons.mp hz with rfl | hz
      · exact a
      · exact ih z hz
    | _ => trivial
  have q := go ((vs.zip ds).mergeSort (dataLe false (·.2))) fun z hz => all z ((List.mergeSort_perm _ _).mem_iff.mp hz)
  have e : ((vs.zip ds).mergeSort (dataLe false (·.2))).map (·.2) = sortD ds := by
    unfold sortD
    have z := List.map_mergeSort (r := dataLe false fun q : V × PyData => q.2) (s := dataLe false id) (f := fun q : V × PyData => q.2) (l := vs.zip ds) (fun a _ b _ => rfl)
    rw [zip_snd (DtAll.len h).symm] at z
    exact z
  rw [e] at q
  exact q
theorem al_nod {ds : List PyData} (h : noDict (.list ds) = true) : noDict.noDicts ds = true := by simpa [noDict] using h
theorem brSorted_s {K : PySem.W.Frag} {L : Addr → Prop} {p : Pt} {H : Hp} {vs : List V} {ds : List PyData} {P : EV → Prop} {Q : VK} (o : LOk L p H) (h : (noDict (.list ds) = true ∧ AllAlike ds ∧ Sortable ds ∧ ∀ d ∈ ds, d.depth ≤ 50) ∧ P (.py (.list (sortD ds)))) (hd : DtAll K (ctL L H) vs ds) (k : Go K m L p H P Q) {a : Addr} (hq : SqL K H a vs) :
    ∃ a' vs' ds', [V.ref a] = [V.ref a'] ∧ SqL K H a' vs' ∧ DpAll K H vs' ds' ∧ vs'.length = ds'.length ∧ AllAlike ds' ∧ Sortable ds' ∧ (∀ d ∈ ds', d.depth ≤ 50) ∧ ∀ p, H p = none → Q (.ref p) (upd H p (.lst (((vs'.zip ds').mergeSort (dataLe false (·.2))).map (·.1)))) :=
  ⟨a, vs, ds, rfl, hq, dps_of _ _ (al_nod h.1.1) (dts_all hd), (DtAll.len hd).symm, h.1.2.1, h.1.2.2.1, h.1.2.2.2, fun r hr => Go.lst k o h.2 (sort_dts hd) hr⟩
def wSortedL : List EV → (EV → Prop) → Prop
  | [.py (.list ds)], P => (noDict (.list ds) = true ∧ AllAlike ds ∧ Sortable ds ∧ ∀ d ∈ ds, d.depth ≤ 50) ∧ P (.py (.list (sortD ds)))
  | _, _ => False
def brSorted (hu : X.A.units + 64 < cLine) : BR X m (.builtin "sorted") wSortedL where
  r := _
  c := cr_sortedV hu
  s := fun L p H0 H vs es P Q o ra hg k => by
    unfold wSortedL at hg
    split at hg
    · obtain ⟨v, rfl, r⟩ := paired1 ra
      obtain ⟨a, vs, rfl, h1, h2⟩ := r.list
      exact brSorted_s o hg h2 k (.inl h1)
    · exact hg.elim
def wAbs : List EV → (EV → Prop) → Prop
  | [.py (.int i)], P => P (.py (.int (if i < 0 then -i else i)))
  | _, _ => False
def brAbs (hm : m ≠ .fresh) : BR X m (.builtin "abs") wAbs where
  r := _
  c := call_abs
  s := fun L p H0 H vs es P Q o ra hg k => by
    unfold wAbs at hg
    split at hg
    · obtain ⟨v, rfl, r⟩ := paired1 ra
      rw [r.int]
      exact ⟨_, rfl, Go.val k o hm hg (.int _)⟩
    · exact hg.elim
def wMax2 : List EV → (EV → Prop) → Prop
  | [.py (.int i), .py (.int j)], P => P (.py (.int (if j > i then j else i)))
  | _, _ => False
def brMax2 (hc : X.calm = true) (hm : m ≠ .fresh) : BR X m (.builtin "max") wMax2 where
  r := _
  c := call_max2 hc
  s := fun L p H0 H vs es P Q o ra hg k => by
    unfold wMax2 at hg
    split at hg
    · obtain ⟨v, w, rfl, r, r2⟩ := paired2 ra
      rw [r.int, r2.int]
      exact ⟨_, _, rfl, Go.val k o hm hg (.int _)⟩
    · exact hg.elim
def wMin2 : List EV → (EV → Prop) → Prop
  | [.py (.int i), .py (.int j)], P => P (.py (.int (if j < i then j else i)))
  | _, _ => False
def brMin2 (hc : X.calm = true) (hm : m ≠ .fresh) : BR X m (.builtin "min") wMin2 where
  r := _
  c := call_min2 hc
  s := fun L p H0 H vs es P Q o ra hg k => by
    unfold wMin2 at hg
    split at hg
    · obtain ⟨v, w, rfl, r, r2⟩ := paired2 ra
      rw [r.int, r2.int]
      exact ⟨_, _, rfl, Go.val k o hm hg (.int _)⟩
    · exact hg.elim
def wInt : List EV → (EV → Prop) → Prop
  | [.py (.int i)], P => P (.py (.int i))
  | [.py (.bool b)], P => P (.py (.int (if b then 1 else 0)))
  | _, _ => False
def brInt (hm : m ≠ .fresh) : BR X m (.type "int") wInt where
  r := _
  c := call_int1
  s := fun L p H0 H vs es P Q o ra hg k => by
    unfold wInt at hg
    split at hg
    · obtain ⟨v, rfl, r⟩ := paired1 ra
      rw [r.int]
      exact .inl ⟨_, rfl, Go.val k o hm hg (.int _)⟩
    · obtain ⟨v, rfl, r⟩ := paired1 ra
      rw [r.bool]
      exact .inr ⟨_, rfl, Go.val k o hm hg (.int _)⟩
    · exact hg.elim
def wStrI : List EV → (EV → Prop) → Prop
  | [.py (.int i)], P => i.natAbs.log2 < 1920 ∧ P (.py (.str (toString i)))
  | _, _ => False
def brStrI (hm : m ≠ .fresh) : BR X m (.type "str") wStrI where
  r := _
  c := call_str_int
  s := fun L p H0 H vs es P Q o ra hg k => by
    unfold wStrI at hg
    split at hg
    · obtain ⟨v, rfl, r⟩ := paired1 ra
      rw [r.int]
      exact ⟨_, rfl, hg.1, Go.val k o hm hg.2 (.str _)⟩
    · exact hg.elim
def wRepr : List EV → (EV → Prop) → Prop
  | [.py d], P => (d.showable = true ∧ d.depth ≤ 60 ∧ d.shown.length ≤ sizeLine) ∧ P (.py (.str d.shown))
  | _, _ => False
def brRepr (hk : SysD X.K) (hgd : X.A.guards = some []) (hu : X.A.units + 64 < cLine) (hm : m ≠ .fresh) : BR X m (.builtin "repr") wRepr where
  r := rRepA X.K
  c := call_repr_any hk hgd hu
  s := fun L p H0 H vs es P Q o ra hg k => by
    unfold wRepr at hg
    split at hg
    · obtain ⟨v, rfl, r⟩ := paired1 ra
      exact ⟨v, _, rfl, r.dt, hg.1.1, hg.1.2.1, hg.1.2.2, Go.val k o hm hg.2 (.str _)⟩
    · exact hg.elim
def wDictD : List EV → (EV → Prop) → Prop
  | [.py (.dict ds)], P => P (.py (.dict ds))
  | _, _ => False
def brDictD : BR X m (.type "dict") wDictD where
  r := _
  c := call_dictD
  s := fun L p H0 H vs es P Q o ra hg k => by
    unfold wDictD at hg
    split at hg
    · obtain ⟨v, rfl, r⟩ := paired1 ra
      obtain ⟨a, kvs, rfl, h1, h2⟩ := r.dict
      exact ⟨a, kvs, rfl, h1, fun l hl => Go.dic k o hg h2 hl⟩
    · exact hg.elim
/-- truths -/
def boolsD : List PyData → Option (List Bool)
  | [] => some []
  | .bool b :: r => (boolsD r).map (b :: ·)
  | _ :: _ => none
theorem bools_of {K : PySem.W.Frag} {G : Hp} : ∀ {vs : List V} {ds : List PyData} {bs : List Bool}, DtAll K G vs ds → boolsD ds = some bs → vs = bs.map V.bl
  | _, _, _, .nil, h => by
    cases h
    rfl
  | _, d :: ds, _, .cons a t, h => by
    cases d with
    | bool b =>
      unfold boolsD at h
      cases q : boolsD ds with
      | none => rw [q] at h; cases h
      | some r =>
        rw [q] at h
        cases h
        cases a
        rw [bools_of t q] <;> rfl
    | _ => unfold boolsD at h; cases h
def wAll : List EV → (EV → Prop) → Prop
  | [.py (.list ds)], P => ∃ bs, boolsD ds = some bs ∧ P (.py (.bool (bs.all id)))
  | _, _ => False
def wAny : List EV → (EV → Prop) → Prop
  | [.py (.list ds)], P => ∃ bs, boolsD ds = some bs ∧ P (.py (.bool (bs.any id)))
  | _, _ => False
def brAll (hc : CallR X (.builtin "all") (rAll X.K)) (hm : m ≠ .fresh) : BR X m (.builtin "all") wAll where
  r := rAll X.K
  c := hc
  s := fun L p H0 H vs es P Q o ra hg k => by
    unfold wAll at hg
    split at hg
    · obtain ⟨v, rfl, r⟩ := paired1 ra
      obtain ⟨bs, h1, h2⟩ := hg
      obtain ⟨a, vs, rfl, h3, h4⟩ := r.list
      rw [bools_of h4 h1] at h3
      exact ⟨a, bs, rfl, .inl h3, Go.val k o hm h2 (.bl _)⟩
    · exact hg.elim
def brAny (hc : CallR X (.builtin "any") (rAny X.K)) (hm : m ≠ .fresh) : BR X m (.builtin "any") wAny where
  r := rAny X.K
  c := hc
  s := fun L p H0 H vs es P Q o ra hg k => by
    unfold wAny at hg
    split at hg
    · obtain ⟨v, rfl, r⟩ := paired1 ra
      obtain ⟨bs, h1, h2⟩ := hg
      obtain ⟨a, vs, rfl, h3, h4⟩ := r.list
      rw [bools_of h4 h1] at h3
      exact ⟨a, bs, rfl, .inl h3, Go.val k o hm h2 (.bl _)⟩
    · exact hg.elim
/-- the calls -/
theorem dbf {id : String} {nm : Str} {g : List EV → (EV → Prop) → Prop} {e : Expr} {es : List Expr} {fa : WA} {pos q : Pos} (b : BR X m (.builtin id) g) (hv : bootBuiltins nm = some (.builtin id)) (hg : Gl X nm) (ht : X.mg nm = none) (ha : PA X (e :: es) (tWA X.K .read fa)) (hn : nm ≠ "__name__" := by decide) (hdb : (nm == ("__debug__" : Str)) = false := by decide)
    (he : starEach (e :: es) X.env = (false, eval e X.env) :: starEach es X.env := by rfl) (hpl : (backTo pos (starEach es X.env)).any (·.1) = false := by rfl) : PE X (.Call (.Name nm q) (e :: es) [] pos) (tW X.K m (wCallA g fa)) :=
  dB b.c hv b.s hg ht ha hn hdb he hpl
theorem dbt {T : String} {nm : Str} {g : List EV → (EV → Prop) → Prop} {e : Expr} {es : List Expr} {fa : WA} {pos q : Pos} (b : BR X m (.type T) g) (hv : bootBuiltins nm = some (.type T)) (hg : Gl X nm) (ht : X.mg nm = none) (ha : PA X (e :: es) (tWA X.K .read fa)) (hn : nm ≠ "__name__" := by decide) (hdb : (nm == ("__debug__" : Str)) = false := by decide)
    (he : starEach (e :: es) X.env = (false, eval e X.env) :: starEach es X.env := by rfl) (hpl : (backTo pos (starEach es X.env)).any (·.1) = false := by rfl) : PE X (.Call (.Name nm q) (e :: es) [] pos) (tW X.K m (wCallA g fa)) :=
  dT b.c hv b.s hg ht ha hn hdb he hpl
/-! ### items -/
def keyD : PyData → Option Key
  | .int i => some (.inl i)
  | .str x => some (.inr x)
  | _ => none
def dGet (ds : List (PyData × PyData)) (k : Key) : Option PyData := match ds with
  | [] => none
  | (a, b) :: r => if keyD a = some k then some b else dGet r k
theorem dGet_of {K : PySem.W.Frag} {G : Hp} {k : Key} : ∀ {kvs : List (Key × V)} {ds : List (PyData × PyData)} {d : PyData}, DtKv K G kvs ds → dGet ds k = some d → ∃ v, valV kvs k = some v ∧ Dt K G v d
  | _, _, _, .nil, h => by cases h
  | (k', v) :: kvs, (_, b) :: ds, d, .cons a t, h => by
    have ek : keyD (kD k') = some k' := by cases k' <;> rfl
    unfold dGet at h
    rw [ek] at h
    unfold valV
    by_cases e : k' = k
    · rw [if_pos (by rw [e])] at h
      cases h
      exact ⟨v, by simp [e], a⟩
    · rw [if_neg (fun z => e (Option.some.inj z))] at h
      obtain ⟨w, h1, h2⟩ := dGet_of t h
      refine ⟨w, ?_, h2⟩
      unfold valV at h1
      rw [List.find?_cons, show (decide (k' = k)) = false from decide_eq_false e]
      exact h1
theorem dts_at {K : PySem.W.Frag} {G : Hp} : ∀ {vs : List V} {ds : List PyData} {j : Nat} {d : PyData}, DtAll K G vs ds → ds[j]? = some d → ∃ v, vs[j]? = some v ∧ Dt K G v d
  | _, _, _, _, .nil, h => by simp at h
  | _, _, 0, _, .cons a t, h => by
    cases h
    exact ⟨_, rfl, a⟩
  | _, _, j + 1, _, .cons _ t, h => dts_at (j := j) t h
theorem atI_of {K : PySem.W.Frag} {G : Hp} {vs : List V} {ds : List PyData} (h : DtAll K G vs ds) {i : Int} {d : PyData} (e : atI ds i = some d) : ∃ v, atI vs i = some v ∧ Dt K G v d := by
  unfold atI at e ⊢
  rw [← DtAll.len h]
  cases q : ixN ds.length i with
  | none => rw [q] at e; cases e
  | some j =>
    rw [q] at e
    exact dts_at h (show ds[j]? = some d from e)
def wIx : EV → EV → (EV → Prop) → Prop
  | .py (.list ds), .py (.int i), P => ∃ d, atI ds i = some d ∧ P (.py d)
  | .py (.tuple ds), .py (.int i), P => ∃ d, atI ds i = some d ∧ P (.py d)
  | .py (.str z), .py (.int i), P => ∃ c, z.length ≤ sizeLine ∧ atI z.cps.toList i = some c ∧ P (.py (.str ⟨#[c]⟩))
  | .py (.dict ds), .py k, P => ∃ key d, keyD k = some key ∧ dGet ds key = some d ∧ P (.py d)
  | _, _, _ => False
theorem ix_dic (hu : X.A.units + 1 < cLine) : IxR X (fun x y H Q => ∃ a v, x = .ref a ∧ DGet H a y (some v) ∧ Q v H) := by
  intro value slice pins s σ H x y v u Q I rx ry h hs
  obtain ⟨a, w, rfl, g, q⟩ := h
  cases rx
  exact tail_any (dict_typeIs I g) PySem.F.slot_dict_getitem.lookup (d_getItem hu I g ry fun w' s3 I3 rw' => ⟨w, H, I3, rw', q⟩) hs
theorem keyD_v {K : PySem.W.Frag} {L : Addr → Prop} {p : Pt} {H0 H : Hp} {v : V} {d : PyData} {k : Key} (r : Res K .read L p H0 H v (.py d)) (h : keyD d = some k) : v = kV k := by
  unfold keyD at h
  split at h
  · cases h
    exact r.int
  · cases h
    exact r.str
  · cases h
theorem dix {a b : Expr} {pos : Pos} {fa fb : WF} (hu : X.A.units + 1 < cLine) (ha : PE X a (tW X.K .read fa)) (hb : PE X b (tW X.K .read fb)) (hs : PlainIx b := by exact (fun _ _ => rfl)) (hm : m ≠ .fresh := by decide) : PE X (.Subscript a b pos) (tW X.K m (w2 fa fb wIx)) :=
  k2 (ma := .read) (mb := .read) (g := wIx) _ (by decide) (by decide) (pe_ix ((ix_list.or (ix_tup.or ix_str)).or (ix_dic hu)) ha hb hs) fun L p H0 H v a u b P Q o ra rb hg k => by
    unfold wIx at hg
    split at hg
    · obtain ⟨d, h1, h2⟩ := hg
      obtain ⟨a, vs, rfl, h3, h4⟩ := ra.list
      obtain ⟨w, h5, h6⟩ := atI_of h4 h1
      exact .inl (.inl ⟨a, vs, _, w, rfl, rb.int, .inl h3, h5, Go.val k o hm h2 h6⟩)
    · obtain ⟨d, h1, h2⟩ := hg
      obtain ⟨a, vs, rfl, h3, h4⟩ := ra.tup
      obtain ⟨w, h5, h6⟩ := atI_of h4 h1
      exact .inl (.inr (.inl ⟨a, vs, _, w, rfl, rb.int, h3, h5, Go.val k o hm h2 h6⟩))
    · obtain ⟨c, h1, h2, h3⟩ := hg
      exact .inl (.inr (.inr ⟨_, _, c, ra.str, rb.int, h1, h2, Go.val k o hm h3 (.str _)⟩))
    · obtain ⟨key, d, h1, h2, h3⟩ := hg
      obtain ⟨a, kvs, rfl, h4, h5⟩ := ra.dict
      obtain ⟨w, h6, h7⟩ := dGet_of h5 h2
      exact .inr ⟨a, w, rfl, .inl ⟨kvs, key, h4, keyD_v rb h1, h6.symm⟩, Go.val k o hm h3 h7⟩
    · exact hg.elim
/-! ### slices -/
abbrev WO := EnvD → (Option Int → Prop) → Prop
def tWO (K : PySem.W.Frag) (f : WO) : TO := fun σ H Q => ∃ He Lc os p gs ρ P, EnvOk K He Lc os p gs H σ ρ ∧ f ρ P ∧ ∀ b H', P b → Stp (Ls Lc os) p H H' → LOk (Ls Lc os) p H' → Q b H'
theorem po_mono {e : Option Expr} {t t' : TO} (h : PO X e t) (k : ∀ σ H Q, t' σ H Q → t σ H Q) : PO X e t' := ⟨fun pins s σ H Q I q => h.run pins s σ H Q I (k σ H Q q)⟩
def wNoP : WO := fun _ P => P none
def wPart (f : WF) : WO := fun ρ P => f ρ fun e => match e with
  | .py (.int i) => P (some i)
  | _ => False
theorem dno : PO X none (tWO X.K wNoP) := po_mono po_none fun σ H Q q => by
  obtain ⟨He, Lc, os, p, gs, ρ, P, E, hf, k⟩ := q
  exact k _ H hf Stp.refl E.lokL
theorem dso {e : Expr} {f : WF} (h : PE X e (tW X.K .read f)) : PO X (some e) (tWO X.K (wPart f)) := po_mono (po_some h) fun σ H Q q => by
  obtain ⟨He, Lc, os, p, gs, ρ, P, E, hf, k⟩ := q
  refine ⟨He, Lc, os, p, gs, ρ, _, E, hf, fun e H1 v he s o r => ?_⟩
  split at he
  · exact ⟨_, r.int, k _ H1 he s o⟩
  · exact he.elim
def cutD (ds : List PyData) (lo hi : Option Int) : List PyData := (ds.drop (HT.sIx ds.length 0 lo)).take (HT.sIx ds.length ds.length hi - HT.sIx ds.length 0 lo)
theorem dts_drop {K : PySem.W.Frag} {G : Hp} : ∀ {vs : List V} {ds : List PyData} (n : Nat), DtAll K G vs ds → DtAll K G (vs.drop n) (ds.drop n)
  | _, _, 0, h => h
  | _, _, _ + 1, .nil => .nil
  | _, _, n + 1, .cons _ t => dts_drop n t
theorem dts_take {K : PySem.W.Frag} {G : Hp} : ∀ {vs : List V} {ds : List PyData} (n : Nat), DtAll K G vs ds → DtAll K G (vs.take n) (ds.take n)
  | _, _, 0, _ => .nil
  | _, _, _ + 1, .nil => .nil
  | _, _, n + 1, .cons a t => .cons a (dts_take n t)
theorem cut_dts {K : PySem.W.Frag} {G : Hp} {vs : List V} {ds : List PyData} (h : DtAll K G vs ds) (lo hi : Option Int) : DtAll K G (cutV vs lo hi) (cutD ds lo hi) := by
  unfold cutV cutD
  rw [← DtAll.len h]
  exact dts_take _ (dts_drop _ h)
theorem slr_or {r r' : V → Option Int → Option Int → Hp → VK → Prop} (h : SlR X r) (h' : SlR X r') : SlR X (fun x l u H Q => r x l u H Q ∨ r' x l u H Q) := by
  intro pins s σ H x v vl vu lo hi sl Q I rx hs pl pu q
  rcases q with q | q
  · exact h pins s σ H x v vl vu lo hi sl Q I rx hs pl pu q
  · exact h' pins s σ H x v vl vu lo hi sl Q I rx hs pl pu q
def wCut (c : PyData → Option Int → Option Int → (EV → Prop) → Prop) (f : WF) (fl fh : WO) : WF := fun ρ P => f ρ fun e => fl ρ fun lo => fh ρ fun hi => match e with
  | .py d => c d lo hi P
  | _ => False
def cutA : PyData → Option Int → Option Int → (EV → Prop) → Prop
  | .list ds, lo, hi, P => P (.py (.list (cutD ds lo hi)))
  | .tuple ds, lo, hi, P => P (.py (.tuple (cutD ds lo hi)))
  | .str z, lo, hi, P => z.length ≤ sizeLine ∧ P (.py (.str (cutS z lo hi)))
  | _, _, _, _ => False
def cutL : PyData → Option Int → Option Int → (EV → Prop) → Prop
  | .list ds, lo, hi, P => P (.py (.list (cutD ds lo hi)))
  | _, _, _, _ => False
theorem sl_of {e : Expr} {lo hi : Option Expr} {p2 pos : Pos} {f : WF} {fl fh : WO} {c : PyData → Option Int → Option Int → (EV → Prop) → Prop} {r : V → Option Int → Option Int → Hp → VK → Prop} (hr : SlR X r) (he : PE X e (tW X.K .read f)) (hl : PO X lo (tWO X.K fl)) (hh : PO X hi (tWO X.K fh))
    (snd : ∀ L p H0 H v d lo hi P Q, LOk L p H → Res X.K .read L p H0 H v (.py d) → c d lo hi P → Go X.K m L p H P Q → r v lo hi H Q) : PE X (.Subscript e (.Slice lo hi none p2) pos) (tW X.K m (wCut c f fl fh)) := by
  refine pe_mono (pe_slice hr he hl hh) fun σ H Q q => ?_
  obtain ⟨He, Lc, os, p, gs, ρ, P, E, hf, k⟩ := q
  refine ⟨He, Lc, os, p, gs, ρ, _, E, hf, fun e H1 v he s o ra => ?_⟩
  refine ⟨He, Lc, os, p, gs, ρ, _, E.step s o, he, fun lo H2 hlo s2 o2 => ?_⟩
  refine ⟨He, Lc, os, p, gs, ρ, _, (E.step s o).step s2 o2, hlo, fun hi H3 hhi s3 o3 => ?_⟩
  split at hhi
  · exact snd _ p H H3 v _ lo hi P Q o3 ((ra.step (by decide) o s2).step (by decide) o2 s3) hhi fun b H' v' hb s' o' rb => k b H' v' hb (((s.trans s2).trans s3).trans s') o' (rb.base ((s.trans s2).trans s3))
  · exact hhi.elim
theorem dslice {e : Expr} {lo hi : Option Expr} {p2 pos : Pos} {f : WF} {fl fh : WO} (he : PE X e (tW X.K .read f)) (hl : PO X lo (tWO X.K fl)) (hh : PO X hi (tWO X.K fh)) (hm : m ≠ .fresh := by decide) : PE X (.Subscript e (.Slice lo hi none p2) pos) (tW X.K m (wCut cutA f fl fh)) :=
  sl_of (slr_or sl_list (slr_or Tp.sl_tupB sl_str)) he hl hh fun L p H0 H v d lo hi P Q o ra hg k => by
    unfold cutA at hg
    split at hg
    · obtain ⟨a, vs, rfl, h1, h2⟩ := ra.list
      exact .inl ⟨a, vs, rfl, .inl h1, fun r hr => Go.lst k o hg (cut_dts h2 lo hi) hr⟩
    · obtain ⟨a, vs, rfl, h1, h2⟩ := ra.tupN
      exact .inr (.inl ⟨a, vs, rfl, h1, fun H' r sm hr => Go.tup' k o hm hg (cut_dts h2 lo hi) sm hr⟩)
    · exact .inr (.inr ⟨_, ra.str, hg.1, Go.val k o hm hg.2 (.str _)⟩)
    · exact hg.elim
end
end Dw

/-! methods and classmethods called with keywords; a class held by a local name; **names. -/
namespace Mx
open PySem PySem.Spec PyProof.Rows L2 ClX
def tMethK (C : Addr) (m : Str) (n j : Nat) (sp : Sp) (gV : List V → List V → List V) (E : XK) (ta : TE) (t tk : TA) : TE := fun σ H Q => ta σ H fun x H1 => ∃ a dx fs, x = .ref a ∧ H1 a = some (.ins C dx fs) ∧ fs.lookup m = none ∧ t σ H1 fun vs H2 => tk σ H2 fun zs H3 => vs.length = n ∧ zs.length = j ∧ sp (gV (x :: vs) zs) H3 Q E
def tCMethK (C : Addr) (n j : Nat) (sp : Sp) (gV : List V → List V → List V) (E : XK) (ta : TE) (t tk : TA) : TE := fun σ H Q => ta σ H fun x H1 => x = .ref C ∧ t σ H1 fun vs H2 => tk σ H2 fun zs H3 => vs.length = n ∧ zs.length = j ∧ sp (gV (.ref C :: vs) zs) H3 Q E
section
variable {X : Cx} {CX : CXT} {k n : Nat} {C f p g : Addr} {mc : Value} {fd : FuncData} {ps ks : List Str} {sp : Sp} {E : XK} {o e : Expr} {es : List Expr} {m : Str} {kws : List Keyword} {pos apos : Pos} {ta : TE} {t tk : TA} {pl : Sem Bool} {gg : List Value → List Value → List Value} {gV : List V → List V → List V}
end
/-- x(e, ..), x a local name that holds the class at C -/
def tMakeL (C : Addr) (i : Nat) (sp : Sp) (E : XK) (t : TA) : TE := fun σ H Q => σ[i]? = some (some (.ref C)) ∧ t σ H fun vs H1 => ∀ x dx, H1 x = none → H1 dx = none → dx ≠ x → sp (.ref x :: vs) (upd (upd H1 dx (.own x)) x (.ins C dx [])) (fun v H2 => v = .non ∧ Q (.ref x) H2) E
section
variable {X : Cx} {CX : CXT} {k i : Nat} {f C : Addr} {sp : Sp} {E : XK} {x : Str} {e : Expr} {es : List Expr} {t : TA} {p pos : Pos}
end
section
variable {P : Program} {w : World} {K : PySem.W.Frag} {mg : Str → Option Value} {base : Heap} {k : Nat} {x qual : Str} {params : Arguments} {body : List Stmt} {scope : Scope} {dvs : List V} {kws : List (Str × V)} {f : Addr} {fd : FuncData} {CX : CXT} {N ps : List Str} {sp : Sp}
end
end Mx

/-! Data ways: defs and their calls, objects, lists that change. -/
namespace Dw
open PySem PySem.Spec PySem.W PyProof.Rows L2 Dr Rp
open He (ga)
variable [Dw.LamReg]
/-- what a def promises over data: g tells what may come out of the arguments -/
abbrev WD := List EV → (EV → Prop) → Prop
def spW (K : PySem.W.Frag) (mr : Mode) (g : WD) : Sp := fun vs H Q _ => ∃ Lc p es P, LOk Lc p H ∧ Paired (fun v e => Rv K p (ctL Lc H) v e) vs es ∧ g es P ∧
  ∀ e H' v, P e → Stp Lc p H H' → LOk Lc p H' → Res K mr Lc p H H' v e → Q v H'
/-- the names at a def's start, what its end means -/
def startE (n : Nat) (es : List EV) : EnvD := es ++ List.replicate (n - es.length) .no
def wDef (n j : Nat) (f : WS) : WD := fun es P => es.length = j ∧ f (startE n es) { nx := fun _ => P (.py .none), rt := P }
def wDefR (n j : Nat) (f : WS) : WD := fun es P => es.length = j ∧ f (startE n es) { nx := fun _ => False, rt := P }
section
variable {P : Program} {w : World} {K : PySem.W.Frag} {mg : Str → Option Value} {base : Heap} {CX : CXT}
theorem paired_len {α β : Type} {R : α → β → Prop} : ∀ {xs : List α} {ys : List β}, Paired R xs ys → xs.length = ys.length
  | _, _, .nil => rfl
  | _, _, .cons _ t => by rw [List.length_cons, List.length_cons, paired_len t]
theorem paired_get {α β : Type} {R : α → β → Prop} : ∀ {xs : List α} {ys : List β} {i : Nat} {y : β}, Paired R xs ys → ys[i]? = some y → ∃ x, xs[i]? = some x ∧ R x y
  | _, _, _, _, .nil, h => by simp at h
  | _, _, 0, _, .cons a t, h => by
    cases h
    exact ⟨_, rfl, a⟩
  | _, _, i + 1, _, .cons _ t, h => paired_get (i := i) t h
theorem start_ok {N : List Str} {vs : List V} {es : List EV} {Lc : Addr → Prop} {p : Pt} {H : Hp} (o : LOk Lc p H) (r : Paired (fun v e => Rv K p (ctL Lc H) v e) vs es) (hn : es.length ≤ N.length) :
    EnvOk K H Lc (fun _ => none) p {} H (L2.start N vs) (startE N.length es) := by
  have hl := paired_len r
  have hs : ∀ b, Ls Lc (fun _ => none) b ↔ Lc b := fun b => ⟨(fun l => l.elim id fun ⟨i, h⟩ => (by cases h)), Or.inl⟩
  have eL : Ls Lc (fun _ => none) = Lc := funext fun b => propext (hs b)
  refine ⟨?_, fun i e h => ?_, fun i a h => (by cases h), fun i j a h => (by cases h), fun i a h => (by cases h), ⟨(fun _ h => nomatch h), (fun _ h => nomatch h)⟩, o, Stp.refl⟩
  · unfold L2.start startE
    rw [List.length_append, List.length_append, List.length_map, List.length_replicate, List.length_replicate, hl]
  · unfold startE at h
    by_cases hi : i < es.length
    · rw [List.getElem?_append_left hi] at h
      obtain ⟨v, h1, h2⟩ := paired_get r h
      have hσ : (L2.start N vs)[i]? = some (some v) := by
        unfold L2.start
        rw [List.getElem?_append_left (by rw [List.length_map]; omega), List.getElem?_map, h1]
        rfl
      rw [eL]
      cases e with
      | own d => exact False.elim h2
      | no => trivial
      | py d => exact ⟨v, hσ, h2⟩
      | st => exact ⟨v, hσ, h2⟩
      | ob C fs => exact ⟨v, hσ, h2⟩
      | pk ds => exact ⟨v, hσ, h2⟩
      | kp ds => exact ⟨v, hσ, h2⟩
      | ol ds => exact ⟨v, hσ, h2⟩
      | ot ds => exact ⟨v, hσ, h2⟩
      | od ds => exact ⟨v, hσ, h2⟩
      | nd ds => exact ⟨v, hσ, h2⟩
      | pw ds => exact ⟨v, hσ, h2⟩
      | owl d => exact False.elim h2
    · rw [List.getElem?_append_right (by omega)] at h
      rw [List.getElem?_replicate] at h
      split at h
      · cases h
        trivial
      · cases h
theorem fn_W {x qual : Str} {params : Arguments} {body : List Stmt} {scope : Scope} {dvs : List V} {kws : List (Str × V)} {f : Addr} {fd : FuncData} {N ps : List Str} {k : Nat} {fw : WS} (F : FunD K x qual params body scope dvs kws f fd) (S : FnScope N ps scope) (hn : ps.length ≤ N.length)
    (hb : ∀ (cdv : Value) (A : Around) (outer : List Env) (s : Shared) (H : Hp) (E : XK), Room k (A.deeper (envOfC qual scope s.heap.objs.size f cdv)) → PSs (cxOf CX P w K mg base N qual scope f cdv A outer s H E).nox body (tWS K .data W0 fw)) :
    FnOk P w K mg base CX (k + 1) f fd ps (spW K .data (wDef N.length ps.length fw)) := by
  refine F.ok S (fun vs H Q E h => ?_) (fun cdv A outer s H vs Q E hr h => ?_)
  · obtain ⟨Lc, p, es, P, o, r, ⟨hl, _⟩, _⟩ := h
    rw [paired_len r, hl]
  · obtain ⟨Lc, p, es, P, o, r, ⟨hl, hg⟩, k⟩ := h
    refine ⟨_, (hb cdv A outer s H E hr).nox, ?_⟩
    refine ⟨H, Lc, _, p, {}, _, _, start_ok o r (by omega), hg, fun ρ' os' H' σ' hk E' => ?_, fun ρ' os' H' σ' hk E' => hk.elim, fun ρ' os' H' σ' hk E' => hk.elim, fun e v H' hk s' o' r' => k e H' v hk s' o' r', fun x cls d σ' H' hk _ _ _ => hk.elim⟩
    exact k _ H' .non hk E'.stp E'.lok .non
end
section
variable {X : Cx} {m mr : Mode} {CX : CXT} {k : Nat} {f : Addr} {fd : FuncData} {ps : List Str} {g : WD} {fa : WA} {x : Str} {q pos : Pos} {e : Expr} {es : List Expr}
theorem Res.to {K : PySem.W.Frag} {L : Addr → Prop} {p : Pt} {H H' : Hp} {v : V} {e : EV} (hm : mr = .fresh ∨ mr = .data ∧ m ≠ .fresh) (o : LOk L p H) (r : Res K mr L p H H' v e) : Res K m L p H H' v e := by
  rcases hm with rfl | ⟨rfl, hm⟩
  · obtain ⟨a, d, rfl, rfl, h0, hw⟩ := r
    exact Res.of_freshP o h0 hw
  · exact Res.of_data hm r
/-- f(..) of a def whose promise is over data -/
theorem dcall (F : FnOk X.prog X.w X.K X.mg X.base CX k f fd ps (spW X.K mr g)) (hr : Room k X.A) (hg : Gl X x) (hmg : X.mg x = some (.ref f)) (hk : PySem.W.keepIn X.K (.ref f) = true) (hb : Binds X.K fd ps []) (hx : Passes CX X E0) (ha : PA X (e :: es) (tWA X.K .data fa)) (hm : mr = .fresh ∨ mr = .data ∧ m ≠ .fresh := by decide) (hdb : (x == ("__debug__" : Str)) = false := by decide)
    (he : starEach (e :: es) X.env = (false, eval e X.env) :: starEach es X.env := by rfl) (hpl : (backTo pos (starEach es X.env)).any (·.1) = false := by rfl) : PE X (.Call (.Name x q) (e :: es) [] pos) (tW X.K m (wCallA g fa)) :=
  ka (ma := .data) (g := g) (fun vs H Q => spW X.K mr g (vs ++ []) H Q E0) (pe_call F hr hg hmg hk hb .nil hx ha hdb he hpl) fun L p H0 H vs es P Q o ra hg k => by
    rw [List.append_nil]
    exact ⟨L, p, es, P, o, ra, hg, fun e H' v hP s o' r => k e H' v hP s o' (r.to hm o)⟩
def wNilA (g : WD) : WF := fun _ P => g [] P
theorem dcall0 (F : FnOk X.prog X.w X.K X.mg X.base CX k f fd ps (spW X.K mr g)) (hr : Room k X.A) (hg : Gl X x) (hmg : X.mg x = some (.ref f)) (hk : PySem.W.keepIn X.K (.ref f) = true) (hb : Binds X.K fd ps []) (hx : Passes CX X E0) (hm : mr = .fresh ∨ mr = .data ∧ m ≠ .fresh := by decide) (hdb : (x == ("__debug__" : Str)) = false := by decide) :
    PE X (.Call (.Name x q) [] [] pos) (tW X.K m (wCallA g wNil)) := by
  refine pe_mono (pe_call0 F hr hg hmg hk hb .nil hx hdb) fun σ H Q q => ?_
  obtain ⟨He, Lc, os, p, gs, ρ, P, E, hf, k⟩ := q
  exact ⟨Ls Lc os, p, [], P, E.lokL, .nil, hf, fun e H' v hP s o' r => k e H' v hP s o' (r.to hm E.lokL)⟩
/-! ### objects -/
def wFld (C f : Str) : EV → (EV → Prop) → Prop
  | .ob C' fs, P => C' = C ∧ ∃ d, fs.lookup f = some d ∧ P (.py d)
  | _, _ => False
/-- e.f, a property whose promise is over data -/
def wProp (C : Str) (g : WD) : EV → (EV → Prop) → Prop
  | .ob C' fs, P => C' = C ∧ g [.ob C' fs] P
  | _, _ => False
/-- o.m(..) -/
def wMeth (C n : Str) (g : WD) (fo : WF) (fa : WA) : WF := fun ρ P => fo ρ fun o => match o with
  | .ob C' fs => C' = C ∧ fs.lookup n = none ∧ fa ρ fun es => g (.ob C' fs :: es) P
  | _ => False
/-! ### lists that change -/
def wApp (i : Nat) (f : WF) : WS := fun ρ k => ∃ xs, ρ[i]? = some (.own (.list xs)) ∧ f ρ fun e => match e with
  | .py d => xs.length < sizeLine ∧ k.nx (ρ.set i (.own (.list (xs ++ [d]))))
  | _ => False
theorem EnvOk.lst_at {K : PySem.W.Frag} {He : Hp} {Lc : Addr → Prop} {os : Nat → Option Addr} {p : Pt} {gs : Gh} {H : Hp} {σ : L2.St} {ρ : EnvD} (E : EnvOk K He Lc os p gs H σ ρ) {i : Nat} {xs : List PyData} (h : ρ[i]? = some (.own (.list xs))) :
    ∃ a vs, os i = some a ∧ σ[i]? = some (some (.ref a)) ∧ H a = some (.lst vs) ∧ DtAll K (ctL (Ls Lc os) H) vs xs := by
  obtain ⟨a, ha⟩ := E.val i _ h
  obtain ⟨d, h1, h2, h3⟩ := E.own i a ha
  rw [h] at h1
  cases d <;> cases h1
  rcases h3 with ⟨vs, ys, e, h3, h4⟩ | ⟨_, _, e, _⟩
  · cases e
    exact ⟨a, vs, ha, h2, h3, h4⟩
  · cases e
theorem EnvOk.np {K : PySem.W.Frag} {He : Hp} {Lc : Addr → Prop} {os : Nat → Option Addr} {p : Pt} {gs : Gh} {H : Hp} {σ : L2.St} {ρ : EnvD} (E : EnvOk K He Lc os p gs H σ ρ) {i : Nat} {a : Addr} (h : os i = some a) : p.q ≠ some a := fun e => (E.fre i a h).1 (E.lok.str a e).1
theorem ds_append (i : Nat) {x : Str} {a : Expr} {fa : WF} {pos cpos apos npos : Pos} (ha : PE X a (tW X.K .data fa)) (hN : X.N[i]? = some x := by rfl) (hv : Vis X.env.scope x := by first | exact Or.inl rfl | exact Or.inr (Or.inl rfl) | exact Or.inr (Or.inr rfl)) (hd : (x == ("__debug__" : Str)) = false := by decide)
    (hcd : (x == ("__classdict__" : Str)) = false := by decide) (hse : starEach [a] X.env = (false, eval a X.env) :: starEach [] X.env := by rfl) (hbase : attributeBase (.Name x npos) "append" X.env (eval (.Name x npos) X.env) = eval (.Name x npos) X.env := by rfl)
    (hfew : ((backTo cpos (starEach [a] X.env)).all (fun x => !x.1) && (backToKw cpos (keywordEach [] X.env)).all (fun x => x.1.isSome) && decide ([a].length + ([] : List Keyword).length + (if ([] : List Keyword).isEmpty then 0 else 1) < 30)) = true := by rfl)
    (hline : (apos.endLine == cpos.line) = true := by rfl) (hsw : swapsWith (.Call (.Attribute (.Name x npos) "append" apos) [a] [] cpos) none pos.line X.env = pure false := by rfl) :
    PS X (.Expr (.Call (.Attribute (.Name x npos) "append" apos) [a] [] cpos) pos) (tWS X.K mr W (wApp i fa)) := by
  refine ps_mono (ps_expr (pe_bm PySem.F.plainAttrs_list PySem.F.slot_list_append PySem.F.type_list_append mt_append (pe_var hN hv hd hcd) (pa_cons ha pa_nil hse) hbase hfew hline hse (by rfl)) hsw) fun D σ H q => ?_
  obtain ⟨He, Lc, os, p, gs, ρ, k, E, ⟨xs, hi, hf⟩, k1, _⟩ := q
  obtain ⟨a, vs, h1, h2, h3, h4⟩ := E.lst_at hi
  refine ⟨.ref a, h2, .inl ⟨rfl, _, SqL.of h3⟩, He, Lc, os, p, gs, ρ, _, E, hf, fun e H1 v he s o r => ?_⟩
  split at he
  · obtain ⟨hz, hk⟩ := he
    have E1 := E.step s o
    have e1 : H1 a = some (.lst vs) := (s.loose a (.inr ⟨i, h1⟩) (E.np h1)).trans h3
    refine ⟨a, vs, v, rfl, rfl, e1, by rw [← DtAll.len h4]; exact hz, k1 _ _ _ _ hk (E1.change h1 (.inl ⟨_, _, rfl, upd_same, dts_append (Dt.sameRAll (s.ct E.lokL) _ _ h4) (.cons r .nil)⟩) .lst)⟩
  · exact he.elim
theorem mt_extendR : MtM X "list.extend" (fun x vs H Q => ∃ l b xs zs, x = .ref l ∧ vs = [.ref b] ∧ H l = some (.lst xs) ∧ Rd H b (.lst zs) ∧ xs.length + zs.length ≤ sizeLine ∧ Q .non (upd H l (.lst (xs ++ zs)))) := by
  intro pins s σ H x vs v us Q I rx rv h
  obtain ⟨l, b, xs, zs, rfl, rfl, hH, hB, hz, q⟩ := h
  cases rx
  obtain ⟨u, rfl, ru⟩ := rv.one
  cases ru
  obtain ⟨z, its, n, r, hl, e⟩ := I.lstM hH
  obtain ⟨z2, its2, n2, r2, e2⟩ := hB.ok I.hok
  have hl2 := r2.length
  have hsz : its.toArray.size + its2.toArray.size ≤ sizeLine := by rw [List.size_toArray, List.size_toArray]; omega
  have hlong : ¬ (!its.toArray.isEmpty && Builtin.List.listTooLong (its.toArray.size + its2.toArray.size)) = true := by
    rw [notLongL hsz, Bool.and_false]
    exact Bool.false_ne_true
  refine call_meets F.slot_list_extend ⟨_, e, rfl⟩ F.entry_list_extend (F.args_list_extend_2 _ _)
    (AutoSeq1.list_extend_list_list_0 l its.toArray n b its2.toArray n2 hlong (by rw [List.size_toArray]; omega) (by omega)) ⟨e, e2, ?_⟩
  refine ⟨.non, _, I.lset (its' := its ++ its2) hH e (by simp) (r.append r2) ?_, rfl, q⟩
  rw [List.length_append]
  omega
theorem mtm_or {id : String} {r r' : V → List V → Hp → VK → Prop} (h : MtM X id r) (h' : MtM X id r') : MtM X id (fun x vs H Q => r x vs H Q ∨ r' x vs H Q) := by
  intro pins s σ H x vs v us Q I rx rv q
  rcases q with q | q
  · exact h pins s σ H x vs v us Q I rx rv q
  · exact h' pins s σ H x vs v us Q I rx rv q
def wExt (i : Nat) (f : WF) : WS := fun ρ k => ∃ xs, ρ[i]? = some (.own (.list xs)) ∧ f ρ fun e => match e with
  | .py d => ∃ ds, seqD d = some ds ∧ xs.length + ds.length ≤ sizeLine ∧ k.nx (ρ.set i (.own (.list (xs ++ ds))))
  | _ => False
theorem ds_extend (i : Nat) {x : Str} {a : Expr} {fa : WF} {pos cpos apos npos : Pos} (ha : PE X a (tW X.K .data fa)) (hN : X.N[i]? = some x := by rfl) (hv : Vis X.env.scope x := by first | exact Or.inl rfl | exact Or.inr (Or.inl rfl) | exact Or.inr (Or.inr rfl)) (hd : (x == ("__debug__" : Str)) = false := by decide)
    (hcd : (x == ("__classdict__" : Str)) = false := by decide) (hse : starEach [a] X.env = (false, eval a X.env) :: starEach [] X.env := by rfl) (hbase : attributeBase (.Name x npos) "extend" X.env (eval (.Name x npos) X.env) = eval (.Name x npos) X.env := by rfl)
    (hfew : ((backTo cpos (starEach [a] X.env)).all (fun x => !x.1) && (backToKw cpos (keywordEach [] X.env)).all (fun x => x.1.isSome) && decide ([a].length + ([] : List Keyword).length + (if ([] : List Keyword).isEmpty then 0 else 1) < 30)) = true := by rfl)
    (hline : (apos.endLine == cpos.line) = true := by rfl) (hsw : swapsWith (.Call (.Attribute (.Name x npos) "extend" apos) [a] [] cpos) none pos.line X.env = pure false := by rfl) :
    PS X (.Expr (.Call (.Attribute (.Name x npos) "extend" apos) [a] [] cpos) pos) (tWS X.K mr W (wExt i fa)) := by
  refine ps_mono (ps_expr (pe_bm PySem.F.plainAttrs_list PySem.F.slot_list_extend PySem.F.type_list_extend (mtm_or mt_extendR Et.mt_extendT) (pe_var hN hv hd hcd) (pa_cons ha pa_nil hse) hbase hfew hline hse (by rfl)) hsw) fun D σ H q => ?_
  obtain ⟨He, Lc, os, p, gs, ρ, k, E, ⟨xs, hi, hf⟩, k1, _⟩ := q
  obtain ⟨a, vs, h1, h2, h3, h4⟩ := E.lst_at hi
  refine ⟨.ref a, h2, .inl ⟨rfl, _, SqL.of h3⟩, He, Lc, os, p, gs, ρ, _, E, hf, fun e H1 v he s o r => ?_⟩
  split at he
  · obtain ⟨ds, hd, hz, hk⟩ := he
    have E1 := E.step s o
    have e1 : H1 a = some (.lst vs) := (s.loose a (.inr ⟨i, h1⟩) (E.np h1)).trans h3
    have lv := DtAll.len h4
    have h4' := Dt.sameRAll (s.ct E.lokL) _ _ h4
    have rd : Rv X.K p (ctL (Ls Lc os) H1) v (.py _) := r
    have r' : Res X.K .read (Ls Lc os) p H H1 v _ := .inl rd
    unfold seqD at hd
    split at hd
    · cases hd
      obtain ⟨b, zs, rfl, q1, q2⟩ := r'.list
      have lz := DtAll.len q2
      exact .inl ⟨a, b, vs, zs, rfl, rfl, e1, q1, by omega, k1 _ _ _ _ hk (E1.change h1 (.inl ⟨_, _, rfl, upd_same, dts_append h4' q2⟩) .lst)⟩
    · cases hd
      obtain ⟨b, zs, rfl, q1, q2⟩ := r'.tup
      have lz := DtAll.len q2
      exact .inr ⟨a, b, vs, zs, rfl, rfl, e1, q1, by omega, k1 _ _ _ _ hk (E1.change h1 (.inl ⟨_, _, rfl, upd_same, dts_append h4' q2⟩) .lst)⟩
    · cases hd
  · exact he.elim
end
end Dw

/-! enumerate(a tuple), walked. -/
namespace Tp
open PySem PySem.Spec PyProof.Rows L2
open AutoSeq1 (wpAny_loadPart')
abbrev oIt (t : Addr) : Obj := { cls := .type "tuple_iterator", data := .fields #[.ref t, .int 0 0] }
abbrev oEn (it : Addr) : Obj := { cls := .type "enumerate", data := .fields #[.none, .bool false, .ref it, rawInt 0, .none, .none] }
/-- the tuple at a, each item with its place in a new pair -/
def IteT (K : PySem.W.Frag) (a : Addr) : It :=
  ⟨fun i H => ∃ (xs : List V) (x : V), SqT K H a xs ∧ xs[i]? = some x,
    fun i H v H' => ∃ T x, v = .ref T ∧ H T = none ∧ H' = upd H T (.tup [.int (i : Nat), x]) ∧ ∀ xs, SqT K H a xs → xs[i]? = some x,
    fun i H => ∃ xs : List V, SqT K H a xs ∧ xs.length ≤ i⟩
def iEnT (K : PySem.W.Frag) (ta : TA) : TI := fun σ H R => ta σ H fun vs H1 => ∃ a xs, vs = [.ref a] ∧ SqT K H1 a xs ∧ R (IteT K a) H1
end Tp

/-! Data ways: dicts that are walked and made. -/
namespace Dw
open PySem PySem.Spec PySem.W PyProof.Rows L2 Dr Rp
open He (ga)
variable [Dw.LamReg]
section
variable {X : Cx} {tg : Expr} {m : Mode}
theorem dt_key {K : PySem.W.Frag} {G : Hp} (k : Key) : Dt K G (kV k) (kD k) := by
  cases k
  · exact .int _
  · exact .str _
def pairsD (ds : List (PyData × PyData)) : List EV := ds.map fun q => .pk [q.1, q.2]
/-- each entry as data, its value among the ghosts -/
def KvHit (kvs : List (Key × V)) (ds : List (PyData × PyData)) : Prop := ∀ (i : Nat) (k : Key) (v : V), kvs[i]? = some (k, v) → ∃ d : PyData, ds[i]? = some (kD k, d) ∧ (v, EV.py d) ∈ (kvs.map (·.2)).zip (ds.map fun q => EV.py q.2)
def wDicI (h : List (PyData × PyData) → List EV) (f : WF) : WA := fun ρ P => f ρ fun e => match e with
  | .py (.dict ds) => P (h ds)
  | _ => False
/-! zip, enumerate of lists -/
def zipD : List PyData → List PyData → List EV
  | a :: r, b :: s => .pk [a, b] :: zipD r s
  | _, _ => []
theorem zipD_get : ∀ {xs ys : List PyData} {i : Nat} {a b : PyData}, xs[i]? = some a → ys[i]? = some b → (zipD xs ys)[i]? = some (.pk [a, b])
  | a :: r, b :: s, 0, _, _, h1, h2 => by
    cases h1
    cases h2
    rfl
  | a :: r, b :: s, i + 1, _, _, h1, h2 => zipD_get (xs := r) (ys := s) (i := i) h1 h2
theorem zipD_len : ∀ (xs ys : List PyData), (zipD xs ys).length = min xs.length ys.length
  | [], ys => by unfold zipD; simp
  | a :: r, [] => by unfold zipD; simp
  | a :: r, b :: s => by
    unfold zipD
    rw [List.length_cons, zipD_len r s, List.length_cons, List.length_cons]
    omega
def wZip (fa fb : WF) : WA := fun ρ P => fa ρ fun x => fb ρ fun y => match x, y with
  | .py (.list xs), .py (.list ys) => P (zipD xs ys)
  | _, _ => False
theorem GhM.app {K : PySem.W.Frag} {p : Pt} {L : Addr → Prop} {H : Hp} {g g' : Gh} (h : GhM K m p L H g) (h' : GhM K m p L H g') : GhM K m p L H { ad := g.ad ++ g'.ad, vl := g.vl ++ g'.vl } := by
  cases m <;> exact ⟨fun z hz => (List.mem_append.mp hz).elim (h.1 z) (h'.1 z), fun z hz => (List.mem_append.mp hz).elim (h.2 z) (h'.2 z)⟩
def enumD : Nat → List PyData → List EV
  | _, [] => []
  | n, a :: r => .pk [.int (n : Nat), a] :: enumD (n + 1) r
def wEnum (fa : WF) : WA := fun ρ P => fa ρ fun x => match x with
  | .py (.list xs) => P (enumD 0 xs)
  | _ => False
end
end Dw

/-! A set comprehension whose items any rule of set.add takes; such of ints. -/
namespace Tp
open PySem PySem.Spec PyProof.Rows L2
open PpSet (compLoopS_any codeAny_compStart_set newSet_ok)
abbrev oSet (w : World) : Obj := { cls := .type "set", dict := none, data := .set #[] 0 (.fresh 0 0 (!w.params.followText "set-order")) }
/-- r: what set.add asks; new: what is known of the new set -/
def tSg (new : Addr → HO) (r : V → List V → Hp → VK → Prop) (wi : TI) (g : TG) (tt : TT) (te : TE) (ow : List Nat) : TE := fun σ H Q => wi σ H fun J H1 => ∀ D, H1 D = none →
  ∃ W : Nat → Nat → Hp → Prop, (∃ m, W 0 m (upd H1 D (new D))) ∧ ∀ i m G, W i m G → (J.stop i G ∧ Q (.ref D) G) ∨
    (J.go i G ∧ ∃ Nx : Hp → Prop, (∀ G', Nx G' → ∃ m', m' < m ∧ W (i + 1) m' G') ∧ ∀ x G', J.yld i G x G' → g x (wipe σ ow) G' fun τ G2 => wipe τ ow = wipe σ ow ∧ tt τ G2 fun b G3 => if b = true then te τ G3 fun y G4 => r (.ref D) [y] G4 fun _ G5 => Nx G5 else Nx G3)
section
variable {X : Cx}
end
end Tp

/-! Sets of ints and texts that can be walked: made, added to, sorted, counted. -/
namespace Sl
open PySem PySem.Spec PyProof.Rows L2
def vKey : Value → Key
  | .int i _ => .inl i
  | .str x _ => .inr x
  | _ => .inl 0
/-- a set's keys, in some order -/
def SetAtL (P : Program) (w : World) (h : Heap) (a : Addr) (L : List Key) : Prop := ∃ (o : Obj) (es : Array (Int × Value)) (ep : Nat) (t : SetTable), h.get? a = some o ∧ (o.ExactSet ∧ o.data = .set es ep t) ∧ (ElemsOf (mixKind P w) es.toList ∧ L = es.toList.map fun e => vKey e.2) ∧ L.Nodup ∧
  (es.size < scanBound ∧ t.fits es.size = true) ∧ Ris t.place.toList ∧ (w.params.followText "set-order" = true ∨ t.led = true)
def SetLO (P : Program) (w : World) (a : Addr) (L : List Key) : HO := .ext fun h => SetAtL P w h a L
section
variable {P : Program} {w : World} {A : Around} {E : Value → Shared → Prop} {s : Shared} {a : Addr} {L : List Key}
end
section
variable {X : Cx}
/-- what set.add asks of a set that can be walked -/
def rAddL (P : Program) (w : World) : V → List V → Hp → VK → Prop := fun x xs H Q => ∃ (a : Addr) (k : Key) (L : List Key), x = V.ref a ∧ xs = [kV k] ∧ H a = some (SetLO P w a L) ∧ L.length + 1 < scanBound ∧
  ∀ L', L'.Nodup → (∀ y, y ∈ L' ↔ y = k ∨ y ∈ L) → L'.length ≤ L.length + 1 → Q .non (upd H a (SetLO P w a L'))
end
end Sl

/-! set(xs) of a list or a tuple of ints and texts; sorted and len of such sets. -/
namespace Sl
open PySem PySem.Spec PyProof.Rows L2
/-- the walked items, as keys -/
def IsKs (P : Program) (w : World) (items : Array Value) (ks : List Key) : Prop := items.size = ks.length ∧ ∀ (i : Nat) (v : Value), items[i]? = some v → ∃ k, ks[i]? = some k ∧ (mixKind P w).is k v = true ∧ v.scannable = true
section
variable {P : Program} {w : World} {A : Around} {E : Value → Shared → Prop}
variable {s : Shared} {l : Addr} {items : Array Value} {ks : List Key} {Q : Value → Shared → Prop}
set_option maxHeartbeats 8000000 in
set_option maxHeartbeats 8000000 in
end
end Sl

namespace Sl
open PySem PySem.Spec PySem.W PyProof.Rows L2
def kD : Key → PyData
  | .inl i => .int i
  | .inr x => .str x
def leKey : Key → Key → Bool := dataLe false kD
section
variable {P : Program} {w : World} {A : Around} {E : Value → Shared → Prop} {s : Shared} {a : Addr} {L : List Key}
end
section
variable {X : Cx}
/-- sorted(s), s of ints alone or of texts alone -/
def rSortedL (P : Program) (w : World) : List V → Hp → VK → Prop := fun vs H Q => ∃ (a : Addr) (L : List Key), vs = [V.ref a] ∧ H a = some (SetLO P w a L) ∧ ((∀ k ∈ L, ∃ i, k = .inl i) ∨ ∀ k ∈ L, ∃ x, k = .inr x) ∧
  (L.Nodup → ∀ (L1 : List Key) (p : Addr), L1.Perm L → H p = none → Q (.ref p) (upd H p (.lst ((L1.mergeSort leKey).map kV))))
/-- len(s) -/
def rLenL (P : Program) (w : World) : List V → Hp → VK → Prop := fun vs H Q => ∃ (a : Addr) (L : List Key), vs = [V.ref a] ∧ H a = some (SetLO P w a L) ∧ (L.Nodup → Q (.int (L.length : Nat)) H)
/-- set(xs), xs a list or a tuple of ints and texts -/
def rSetL (K : PySem.W.Frag) (P : Program) (w : World) : List V → Hp → VK → Prop := fun vs H Q => ∃ (a : Addr) (ks : List Key), vs = [V.ref a] ∧ (SqL K H a (ks.map kV) ∨ SqT K H a (ks.map kV)) ∧ ks.length + 1 < scanBound ∧
  ∀ (p : Addr) (L : List Key), L.Nodup → (∀ y, y ∈ L ↔ y ∈ ks) → H p = none → Q (.ref p) (upd H p (SetLO P w p L))
end
/-! ### the sorted texts of a list, each once -/
def strLe (a b : Str) : Bool := leKey (.inr a) (.inr b)
def addA {α : Type} [DecidableEq α] (L : List α) (x : α) : List α := if x ∈ L then L else L ++ [x]
def once {α : Type} [DecidableEq α] (L : List α) : List α := L.foldl addA []
def sSet (L : List Str) : List Str := (once L).mergeSort strLe
section
variable {α : Type} [DecidableEq α]
theorem addA_mem {L : List α} {x y : α} : y ∈ addA L x ↔ y ∈ L ∨ y = x := by
  unfold addA
  split
  · rename_i h
    exact ⟨.inl, fun z => z.elim id fun e => e ▸ h⟩
  · rw [List.mem_append, List.mem_singleton]
theorem fold_memA {m : α} : ∀ (L acc : List α), m ∈ L.foldl addA acc ↔ m ∈ acc ∨ m ∈ L
  | [], acc => by simp
  | x :: r, acc => by
    rw [List.foldl_cons, fold_memA r, addA_mem, List.mem_cons, or_assoc]
theorem once_memA {L : List α} {m : α} : m ∈ once L ↔ m ∈ L := by
  unfold once
  rw [fold_memA]
  simp
theorem addA_nodup {L : List α} {x : α} (h : L.Nodup) : (addA L x).Nodup := by
  unfold addA
  split
  · exact h
  · rename_i q
    exact List.nodup_append.mpr ⟨h, List.nodup_cons.mpr ⟨by simp, .nil⟩, fun a ha b hb e => q (by rw [List.mem_singleton] at hb; rw [← hb, ← e]; exact ha)⟩
theorem fold_nodupA : ∀ (L acc : List α), acc.Nodup → (L.foldl addA acc).Nodup
  | [], _, h => h
  | _ :: r, _, h => fold_nodupA r _ (addA_nodup h)
theorem once_nodupA (L : List α) : (once L).Nodup := fold_nodupA L [] .nil
theorem fold_lenA : ∀ (L acc : List α), (L.foldl addA acc).length ≤ acc.length + L.length
  | [], acc => Nat.le_refl _
  | x :: r, acc => by
    have h1 := fold_lenA r (addA acc x)
    have h2 : (addA acc x).length ≤ acc.length + 1 := by
      unfold addA
      split
      · omega
      · rw [List.length_append] <;> exact Nat.le_refl _
    rw [List.foldl_cons, List.length_cons]
    omega
theorem once_lenA (L : List α) : (once L).length ≤ L.length := by
  have := fold_lenA L []
  rw [List.length_nil, Nat.zero_add] at this
  exact this
end
theorem str_total : TotalLe strLe := by
  have h := sortLe_total (listOrd itemOrd) false fun x : Str => keyToks (kD (.inr x))
  exact h
theorem strLe_eq (a b : Str) : strLe a b = decide (a.cps.toList ≤ b.cps.toList) := by
  have h := dataLe_str (fun x : Str => x)
  exact congrFun (congrFun h a) b
end Sl

/-! Data ways: dict comprehensions, comprehensions of two clauses, lists of dicts' parts, displays of dicts, isinstance, sorted(set(..)). -/
namespace Dw
open PySem PySem.Spec PySem.W PySem.Calls PyProof.Rows L2 Dr Rp
open He (ga)
variable [Dw.LamReg]
/-! ### putting into dicts -/
def hasD (ds : List (PyData × PyData)) (k : Key) : Bool := ds.any fun q => decide (keyD q.1 = some k)
def putD (ds : List (PyData × PyData)) (k : Key) (d : PyData) : List (PyData × PyData) :=
  if hasD ds k = true then ds.map (fun q => if keyD q.1 = some k then (q.1, d) else q) else ds ++ [(kD k, d)]
theorem keyD_kD (k : Key) : keyD (kD k) = some k := by cases k <;> rfl
theorem has_eq {K : PySem.W.Frag} {G : Hp} {k : Key} : ∀ {kvs : List (Key × V)} {ds : List (PyData × PyData)}, DtKv K G kvs ds → (kvs.any fun kv => decide (kv.1 = k)) = hasD ds k
  | _, _, .nil => rfl
  | _, _, .cons (k := k') a t => by
    unfold hasD
    rw [List.any_cons, List.any_cons, keyD_kD]
    have z := has_eq (k := k) t
    unfold hasD at z
    rw [z]
    congr 1
    by_cases e : k' = k
    · rw [decide_eq_true e, decide_eq_true (by rw [e])]
    · rw [decide_eq_false e, decide_eq_false fun q => e (Option.some.inj q)]
theorem dkv_mp {K : PySem.W.Frag} {G : Hp} {k : Key} {v : V} {d : PyData} (hd : Dt K G v d) : ∀ {kvs : List (Key × V)} {ds : List (PyData × PyData)}, DtKv K G kvs ds → DtKv K G (kvs.map fun kv => if kv.1 = k then (kv.1, v) else kv) (ds.map fun q => if keyD q.1 = some k then (q.1, d) else q)
  | _, _, .nil => .nil
  | _, _, .cons (k := k') a t => by
    rw [List.map_cons, List.map_cons]
    dsimp only
    rw [keyD_kD]
    by_cases e : k' = k
    · rw [if_pos e, if_pos (by rw [e])]
      exact .cons hd (dkv_mp hd t)
    · rw [if_neg e, if_neg fun q => e (Option.some.inj q)]
      exact .cons a (dkv_mp hd t)
theorem dkv_ap {K : PySem.W.Frag} {G : Hp} {k : Key} {v : V} {d : PyData} (hd : Dt K G v d) : ∀ {kvs : List (Key × V)} {ds : List (PyData × PyData)}, DtKv K G kvs ds → DtKv K G (kvs ++ [(k, v)]) (ds ++ [(kD k, d)])
  | _, _, .nil => .cons hd .nil
  | _, _, .cons a t => .cons a (dkv_ap hd t)
theorem putD_dts {K : PySem.W.Frag} {G : Hp} {k : Key} {v : V} {d : PyData} {kvs : List (Key × V)} {ds : List (PyData × PyData)} (h : DtKv K G kvs ds) (hd : Dt K G v d) : DtKv K G (putK kvs k v) (putD ds k d) := by
  unfold putK putD
  rw [has_eq h]
  split
  · exact dkv_mp hd h
  · exact dkv_ap hd h
/-- the first four premises of a turn, moved on: the list or dict at D is changed -/
structure Turned (L : Addr → Prop) (L' : Addr → Prop) (p : Pt) (D : Addr) (H1 H5 H6 : Hp) : Prop where
  lok : LOk L' p H6
  stp : Stp L p H1 H6
  ct : SameR (ctL L' H5) (ctL L' H6)
theorem turned {L L' : Addr → Prop} {p : Pt} {D : Addr} {H1 H5 : Hp} {o : HO} (hD : H1 D = none) (nL : ¬ L D) (LD : L' D) (np : p.q ≠ some D) (nt : NT o) (o5 : LOk L' p H5) (s : Stp L p H1 H5) (nb : ∀ u, H5 D = some u → NTb u) : Turned L L' p D H1 H5 (upd H5 D o) := by
  refine ⟨⟨fun b l => ?_, fun q e => ⟨(o5.str q e).1, (o5.str q e).2.keep fun u hu => by rw [upd_ne (fun z => np (by rw [← z]; exact e))]; exact hu⟩, tabs_upd o5.tbs nb⟩, ⟨fun b u n tt h => ?_, fun b l n => ?_⟩, fun b u h => ?_⟩
  · by_cases eb : b = D
    · subst eb
      exact ⟨_, upd_same, nt⟩
    · rw [upd_ne eb]
      exact o5.live b l
  · have nb : b ≠ D := fun e => by rw [e, hD] at h; cases h
    rw [upd_ne nb]
    exact s.keep b u n tt h
  · have nb : b ≠ D := fun e => nL (by rw [← e]; exact l)
    rw [upd_ne nb]
    exact s.loose b l n
  · obtain ⟨n, h1, tt⟩ := ctL_of h
    exact ⟨u, ctL_at (by rw [upd_ne (fun z => n (by rw [z]; exact LD))]; exact h1) n tt, .inl rfl⟩
theorem gh_upd {K : PySem.W.Frag} {L' : Addr → Prop} {p : Pt} {D : Addr} {H5 : Hp} {o : HO} {g : Gh} (h : GhR K p L' H5 g) (ct : SameR (ctL L' H5) (ctL L' (upd H5 D o))) (nD : ∀ z ∈ g.ad, z.1 ≠ D) : GhR K p L' (upd H5 D o) g :=
  h.mono ct fun z hz e => by rw [upd_ne (nD z hz)]; exact e
def wDcGo (g : WGt) (t : WT) (fk fv : WF) (ρ : EnvD) : List EV → List (PyData × PyData) → (List (PyData × PyData) → Prop) → Prop
  | [], acc, P => P acc
  | x :: r, acc, P => g x ρ fun ρ' => t ρ' fun b => if b = true then fk ρ' fun ek => fv ρ' fun ev => match ek, ev with
    | .py kd, .py d => ∃ k, keyD kd = some k ∧ acc.length < sizeLine ∧ wDcGo g t fk fv ρ r (putD acc k d) P
    | _, _ => False
    else wDcGo g t fk fv ρ r acc P
def wDc (fi : WA) (g : WGt) (t : WT) (fk fv : WF) (vs : List Nat) : WF := fun ρ P => noOwn ρ vs ∧ fi ρ fun xs => wDcGo g t fk fv (wipeE ρ vs) xs [] fun ds => P (.py (.dict ds))
section
variable {X : Cx} {m : Mode}
/-! ### list(d.items()), list(d.values()) -/
def wValsL : EV → (EV → Prop) → Prop
  | .py (.dict ds), P => P (.py (.list (ds.map (·.2))))
  | _, _ => False
/-! ### displays of dicts -/
def mergeD (ds : List (PyData × PyData)) (more : List (Key × PyData)) : List (PyData × PyData) := more.foldl (fun acc q => putD acc q.1 q.2) ds
theorem merge_dts {K : PySem.W.Frag} {G : Hp} : ∀ {more : List (Key × V)} {ms : List (Key × PyData)} {kvs : List (Key × V)} {ds : List (PyData × PyData)}, Paired (fun (a : Key × V) (b : Key × PyData) => a.1 = b.1 ∧ Dt K G a.2 b.2) more ms → DtKv K G kvs ds → DtKv K G (mergeK kvs more) (mergeD ds ms)
  | _, _, _, _, .nil, h => h
  | _, _, _, _, .cons a t, h => by
    unfold mergeK mergeD
    rw [List.foldl_cons, List.foldl_cons, ← a.1]
    exact merge_dts t (putD_dts h a.2)
/-- the pairs of a display -/
abbrev WP := EnvD → (List (Key × PyData) → Prop) → Prop
def wPnil : WP := fun _ P => P []
def wPcons (fk fv : WF) (r : WP) : WP := fun ρ P => fk ρ fun ek => fv ρ fun ev => r ρ fun ps => match ek, ev with
  | .py kd, .py d => ∃ k, keyD kd = some k ∧ P ((k, d) :: ps)
  | _, _ => False
def wDisp (r : WP) : WF := fun ρ P => r ρ fun ps => ps.length ≤ 15 ∧ P (.py (.dict (mergeD [] ps)))
/-- one after the other, each reading of a display -/
structure DPs (X : Cx) (pos : Pos) (keys : List (Option Expr)) (values : List Expr) (r : WP) : Prop where
  ex : ∃ trs, PPs X pos keys values trs ∧ ∀ (σ : L2.St) (H : Hp) (Q : List (V × V) → Hp → Prop) He Lc os p gs ρ P, EnvOk X.K He Lc os p gs H σ ρ → r ρ P → (∀ ps H' zs, P ps → Stp (Ls Lc os) p H H' → LOk (Ls Lc os) p H' → Paired (fun (a : V × V) (b : Key × PyData) => a.1 = kV b.1 ∧ Dt X.K (ctL (Ls Lc os) H') a.2 b.2) zs ps → Q zs H') → tPairs trs σ H Q
def wEmptyD : WF := fun _ P => P (.py (.dict []))
/-! ### isinstance -/
def isiD (T : String) : EV → (EV → Prop) → Prop
  | .py d, P => ∃ b, kitB (tyD d) T = some b ∧ P (.py (.bool b))
  | _, _ => False
theorem disi {a : Expr} {T : String} {nm : Str} {fa : WF} {q q2 pos : Pos} (ha : PE X a (tW X.K .read fa)) (hg : Gl X "isinstance") (ht : X.mg "isinstance" = none) (hg2 : Gl X nm) (ht2 : X.mg nm = none) (hv : bootBuiltins nm = some (.type T)) (hv0 : bootBuiltins "isinstance" = some (.builtin "isinstance") := by decide +kernel) (hm : m ≠ .fresh := by decide) (hn : nm ≠ "__name__" := by decide) (hdb : (nm == ("__debug__" : Str)) = false := by decide)
    (hs : starEach [a, .Name nm q2] X.env = (false, eval a X.env) :: starEach [.Name nm q2] X.env := by rfl) (hs2 : starEach [.Name nm q2] X.env = (false, eval (.Name nm q2) X.env) :: starEach [] X.env := by rfl) (hpl : (backTo pos (starEach [.Name nm q2] X.env)).any (·.1) = false := by rfl) :
    PE X (.Call (.Name "isinstance" q) [a, .Name nm q2] [] pos) (tW X.K m (w1 fa (isiD T))) :=
  k1 (ma := .read) (g := isiD T) (fun x H Q => rIsi X.K [x, .ty T] H Q) (by decide) (pe_callB call_isi hg ht hv0 (pa_cons ha (pa_cons (pe_bltn (v := .ty T) hg2 ht2 hv rfl hn hdb) pa_nil hs2) hs) (by decide) (by decide) hs hpl) fun L p H0 H v a P Q o ra hg k => by
    unfold isiD at hg
    split at hg
    · obtain ⟨b, h1, h2⟩ := hg
      exact ⟨v, _, _, _, b, rfl, .ty T, ra.dt.ty, kit_ty h1, Go.val k o hm h2 (.bl _)⟩
    · exact hg.elim
/-! ### sorted(set(..)) of texts -/
def strsD : List PyData → Option (List Str)
  | [] => some []
  | .str x :: r => (strsD r).map (x :: ·)
  | _ :: _ => none
def wSortSet : EV → (EV → Prop) → Prop
  | .py d, P => ∃ ds xs, seqD d = some ds ∧ strsD ds = some xs ∧ xs.length + 1 < scanBound ∧ P (.py (.list ((Sl.sSet xs).map .str)))
  | _, _ => False
end
end Dw

/-! Data ways: calls where no repr runs around, more statements, the law's own stream and draws as ways. -/
namespace Dw
open PySem PySem.Spec PySem.W PySem.Calls PyProof.Rows L2 Dr Rp
open He (ga)
variable [Dw.LamReg]
section
variable {P : Program} {w : World} {K : PySem.W.Frag} {mg : Str → Option Value} {base : Heap} {CX : CXT}
theorem fn_WG {x qual : Str} {params : Arguments} {body : List Stmt} {scope : Scope} {dvs : List V} {kws : List (Str × V)} {f : Addr} {fd : FuncData} {N ps : List Str} {k : Nat} {fw : WS} (F : FunD K x qual params body scope dvs kws f fd) (S : FnScope N ps scope) (hn : ps.length ≤ N.length)
    (hb : ∀ (cdv : Value) (A : Around) (outer : List Env) (s : Shared) (H : Hp) (E : XK), Room k (A.deeper (envOfC qual scope s.heap.objs.size f cdv)) → (A.deeper (envOfC qual scope s.heap.objs.size f cdv)).guards = some [] → PSs (cxOf CX P w K mg base N qual scope f cdv A outer s H E).nox body (tWS K .data W0 fw)) :
    FnG P w K mg base CX (k + 1) f fd ps (spW K .data (wDef N.length ps.length fw)) := by
  refine Rp.FunD.okG F S (fun vs H Q E h => ?_) (fun cdv A outer s H vs Q E hr hgd h => ?_)
  · obtain ⟨Lc, p, es, P, o, r, ⟨hl, _⟩, _⟩ := h
    rw [paired_len r, hl]
  · obtain ⟨Lc, p, es, P, o, r, ⟨hl, hg⟩, k⟩ := h
    refine ⟨_, (hb cdv A outer s H E hr hgd).nox, ?_⟩
    refine ⟨H, Lc, _, p, {}, _, _, start_ok o r (by omega), hg, fun ρ' os' H' σ' hk E' => ?_, fun ρ' os' H' σ' hk E' => hk.elim, fun ρ' os' H' σ' hk E' => hk.elim, fun e v H' hk s' o' r' => k e H' v hk s' o' r', fun x cls d σ' H' hk _ _ _ => hk.elim⟩
    exact k _ H' .non hk E'.stp E'.lok .non
end
section
variable {X : Cx} {m mr : Mode} {CX : CXT} {k : Nat} {f : Addr} {fd : FuncData} {ps : List Str} {g : WD} {fa : WA} {x : Str} {q pos : Pos} {e : Expr} {es : List Expr}
theorem dcallG (F : FnG X.prog X.w X.K X.mg X.base CX k f fd ps (spW X.K mr g)) (hr : Room k X.A) (hgd : X.A.guards = some []) (hg : Gl X x) (hmg : X.mg x = some (.ref f)) (hk : PySem.W.keepIn X.K (.ref f) = true) (hb : Binds X.K fd ps []) (hx : Passes CX X E0) (ha : PA X (e :: es) (tWA X.K .data fa)) (hm : mr = .fresh ∨ mr = .data ∧ m ≠ .fresh := by decide) (hdb : (x == ("__debug__" : Str)) = false := by decide)
    (he : starEach (e :: es) X.env = (false, eval e X.env) :: starEach es X.env := by rfl) (hpl : (backTo pos (starEach es X.env)).any (·.1) = false := by rfl) : PE X (.Call (.Name x q) (e :: es) [] pos) (tW X.K m (wCallA g fa)) :=
  ka (ma := .data) (g := g) (fun vs H Q => spW X.K mr g (vs ++ []) H Q E0) (pe_callG F hr hgd hg hmg hk hb .nil hx ha hdb he hpl) fun L p H0 H vs es P Q o ra hg k => by
    rw [List.append_nil]
    exact ⟨L, p, es, P, o, ra, hg, fun e H' v hP s o' r => k e H' v hP s o' (r.to hm o)⟩
/-- e, its value let go -/
def wDrop (f : WF) : WS := fun ρ k => f ρ fun _ => k.nx ρ
theorem ds_expr {e : Expr} {f : WF} {pos : Pos} (he : PE X e (tW X.K .read f)) (hs : swapsWith e none pos.line X.env = pure false := by rfl) : PS X (.Expr e pos) (tWS X.K mr W (wDrop f)) := by
  refine ps_mono (ps_expr he hs) fun D σ H q => ?_
  obtain ⟨He, Lc, os, p, gs, ρ, k, E, hf, k1, _⟩ := q
  exact ⟨He, Lc, os, p, gs, ρ, _, E, hf, fun e H1 v he s o r => k1 _ _ _ _ he (E.step s o)⟩
/-- a, b = e1, e2 -/
def wPar (i j : Nat) (fa fb : WF) : WS := fun ρ k => i < ρ.length ∧ j < ρ.length ∧ fa ρ fun a => fb ρ fun b => k.nx ((ρ.set i a).set j b)
theorem ds_par {i j : Nat} {x y : Str} {a b : Expr} {fa fb : WF} {px py pt pos : Pos} {kt k2 pt2} (hc : X.calm = true) (hN : X.N.Nodup) (hi : X.N[i]? = some x) (hj : X.N[j]? = some y) (hij : i ≠ j)
    (hx : X.env.scope.names.lookup x = some .local) (hy : X.env.scope.names.lookup y = some .local) (ha : PE X a (tW X.K .data fa)) (hb : PE X b (tW X.K .data fb))
    (hw : swappedStores [.Tuple [.Name x px, .Name y py] kt pt] (.Tuple [a, b] k2 pt2) X.env = pure (some [x, y]))
    (hs : swapsWithSole [.Tuple [.Name x px, .Name y py] kt pt] (.Tuple [a, b] k2 pt2) pos.line X.env = pure false := by rfl) (h1 : starEach [a, b] X.env = (false, eval a X.env) :: starEach [b] X.env := by rfl) (h2 : starEach [b] X.env = (false, eval b X.env) :: starEach [] X.env := by rfl) :
    PS X (.Assign [.Tuple [.Name x px, .Name y py] kt pt] (.Tuple [a, b] k2 pt2) pos) (tWS X.K mr W (wPar i j fa fb)) := by
  refine ps_mono (ps_par hc hN hi hj hij hx hy (pa_cons ha (pa_cons hb pa_nil h2) h1) hw hs) fun D σ H q => ?_
  obtain ⟨He, Lc, os, p, gs, ρ, k, E, ⟨hli, hlj, hf⟩, k1, _⟩ := q
  refine ⟨He, Lc, os, p, gs, ρ, _, E, hf, fun a H1 v ha s o r => ?_⟩
  refine ⟨He, Lc, os, p, gs, ρ, _, E.step s o, ha, fun b H2 w hb s2 o2 r2 => ⟨v, w, rfl, ?_⟩⟩
  have E2 := ((E.step s o).step s2 o2).put hli (Rv.step (show Rv X.K p (ctL (Ls Lc os) H1) v a from r) o s2)
  refine k1 _ _ _ _ hb (E2.put (by rw [List.length_set]; exact hlj) (Rv.sameR (ctL_sub dropO_sub) (show Rv X.K p (ctL (Ls Lc os) H2) w b from r2)))
/-- x += e, a number, a text, a tuple that is data -/
def wAug (i : Nat) (f : WF) (g : EV → EV → (EV → Prop) → Prop) : WS := fun ρ k => i < ρ.length ∧ wVar .data i ρ fun x => f ρ fun y => g x y fun z => k.nx (ρ.set i z)
end
/-! ### the law's helpers as ways -/
section
variable {P : Program} {w : World} {K : PySem.W.Frag} {mg : Str → Option Value} {base : Heap} {CX : CXT} {k : Nat} {f : Addr} {fd : FuncData} {ps : List Str}
def dDraw : WD := fun es P => ∃ n : Int, es = [.st, .py (.int n)] ∧ 0 < n ∧ n < 1000000 ∧ ∀ v : Int, 0 ≤ v → v < n → P (.py (.int v))
theorem str_any {H : Hp} {p : Addr} {m n : Nat} (h : StrAt H p m) : StrAt H p n := h
theorem tabs_str {Lc : Addr → Prop} {q : Addr} {T : List (Addr × Str)} {H H' : Hp} (o : LOk Lc ⟨some q, T⟩ H) (b : But q H H') : LamX.Tabs LamReg.T H' :=
  tabs_but (D := q) o.tbs (fun u hu => by
    obtain ⟨_, _, _, h, _⟩ := (o.str q rfl).2
    rw [hu] at h
    cases h
    exact .lst) fun c u n h => b c u n h
theorem w_draw (F : FnOk P w K mg base CX k f fd ps spDraw) : FnOk P w K mg base CX k f fd ps (spW K .data dDraw) := F.imp fun vs H Q E q => by
  obtain ⟨Lc, p, es, P, o, r, ⟨n, rfl, h1, h2, h3⟩, k⟩ := q
  obtain ⟨x, y, rfl, rx, ry⟩ := paired2 r
  obtain ⟨q, hq, rfl⟩ := rx
  obtain ⟨pq, T⟩ := p
  have hq : pq = some q := hq
  subst hq
  cases ry
  refine ⟨q, n, 0, rfl, (o.str q rfl).2, by decide, h1, h2, fun H' v v0 v1 b s => ?_⟩
  have st : Stp Lc ⟨some q, T⟩ H H' := Stp.but b o.ne (by obtain ⟨_, z⟩ := s.some; rw [z]; simp)
  exact k _ H' _ (h3 v v0 v1) st (o.step st (fun q' e => by cases e; exact str_any s) (tabs_str o b)) (Dt.int v)
def dPick : WD := fun es P => ∃ ds : List PyData, es = [.st, .py (.list ds)] ∧ 0 < ds.length ∧ ds.length < 1000000 ∧ ∀ (i : Nat) (d : PyData), ds[i]? = some d → P (.py d)
theorem w_pick (F : FnOk P w K mg base CX k f fd ps (spPick K)) : FnOk P w K mg base CX k f fd ps (spW K .data dPick) := F.imp fun vs H Q E q => by
  obtain ⟨Lc, p, es, P, o, r, ⟨ds, rfl, h1, h2, h3⟩, k⟩ := q
  obtain ⟨x, y, rfl, rx, ry⟩ := paired2 r
  obtain ⟨q, hq, rfl⟩ := rx
  obtain ⟨pq, T⟩ := p
  have hq : pq = some q := hq
  subst hq
  cases ry with
  | @lstR a xs _ hq ha =>
    have nl : ¬ Lc a := by rcases hq with hq | ⟨_, hq⟩ <;> exact (ctL_of hq).1
    have hl := DtAll.len ha
    refine ⟨q, a, xs, 0, rfl, (o.str q rfl).2, by decide, fun e => nl (by rw [← e]; exact (o.str q rfl).1), .inl (SameR.rd ctL_all hq), by omega, by omega, fun H' i x hx b s => ?_⟩
    have st : Stp Lc ⟨some q, T⟩ H H' := Stp.but b o.ne (by obtain ⟨_, z⟩ := s.some; rw [z]; simp)
    have hi : i < ds.length := by have := (List.getElem?_eq_some_iff.mp hx).1; omega
    obtain ⟨v, h4, h5⟩ := dts_at ha (j := i) (d := ds[i]) (by simp [hi])
    rw [hx] at h4
    cases h4
    exact k _ H' _ (h3 i _ (by simp [hi])) st (o.step st (fun q' e => by cases e; exact str_any s) (tabs_str o b)) (Dt.sameR (st.ct o) _ _ h5)
/-- data without lists and dicts lives nowhere loose -/
def noMut : PyData → Bool
  | .list _ => false
  | .dict _ => false
  | .tuple ds => noMuts ds
  | _ => true
where noMuts : List PyData → Bool
  | [] => true
  | d :: r => noMut d && noMuts r
end
end Dw

/-! Data ways: comparisons as tests. -/
namespace Dw
open PySem PySem.Spec PySem.W PySem.Calls PyProof.Rows L2 Dr Rp
open He (ga)
variable [Dw.LamReg]
section
variable {X : Cx}
theorem kt2 {a b : Expr} {op : CmpOp} {pos : Pos} {fa fb : WF} {g : EV → EV → (EV → Prop) → Prop} {r : R2} (ho : OpR X (compareOp op) r) (ha : PE X a (tW X.K .read fa)) (hb : PE X b (tW X.K .read fb)) (hm : behindInMarks op b = false)
    (snd : ∀ L p H0 H v a u b P Q, LOk L p H → Res X.K .read L p H0 H v a → Res X.K .read L p H0 H u b → g a b P → (∀ c H' v', P c → Stp L p H H' → LOk L p H' → Res X.K .read L p H H' v' c → Q v' H') → r v u H Q) : PT X (.Compare a [op] [b] pos) (tWT X.K (wT1 (w2 fa fb g) wTB)) := by
  refine pt_mono (pt_cmpR ho ha hb hm) fun σ H Q q => ?_
  obtain ⟨He, Lc, os, p, gs, ρ, P, E, hf, k⟩ := q
  refine ⟨He, Lc, os, p, gs, ρ, _, E, hf, fun x H1 v hx s o ra => ?_⟩
  refine ⟨He, Lc, os, p, gs, ρ, _, E.step s o, hx, fun y H2 u hy s2 o2 rb => ?_⟩
  refine snd _ p H H2 v x u y _ _ o2 (ra.step (by decide) o s2) (rb.base s) hy fun c H' v' hc s' o' rc => ?_
  unfold wTB at hc
  split at hc
  · exact ⟨_, rc.bool, k _ H' hc ((s.trans s2).trans s') o'⟩
  · exact hc.elim
theorem tcmpI {a b : Expr} {op : CmpOp} {pos : Pos} {fa fb : WF} {f : Int → Int → Bool} (ho : OpR X (compareOp op) (rI0 fun i j => .bl (f i j))) (ha : PE X a (tW X.K .read fa)) (hb : PE X b (tW X.K .read fb)) (h1 : behindInMarks op b = false := by first | rfl | exact nobehind _ (by decide) (by decide)) :
    PT X (.Compare a [op] [b] pos) (tWT X.K (wT1 (w2 fa fb (wCmpI f)) wTB)) :=
  kt2 ho ha hb h1 fun L p H0 H v a u b P Q o ra rb hg k => by
    unfold wCmpI at hg
    split at hg
    · exact ⟨_, _, ra.int, rb.int, Go.val (m := .read) k o (by decide) hg (.bl _)⟩
    · exact hg.elim
theorem teq {a b : Expr} {pos : Pos} {fa fb : WF} (hu : X.A.units + 64 < cLine) (ha : PE X a (tW X.K .read fa)) (hb : PE X b (tW X.K .read fb)) : PT X (.Compare a [.Eq] [b] pos) (tWT X.K (wT1 (w2 fa fb (wEq false)) wTB)) :=
  kt2 (r := rEqD X.K) (op_eqD hu) ha hb (nomark _) fun L p H0 H v a u b P Q o ra rb hg k => by
    unfold wEq at hg
    split at hg
    · obtain ⟨⟨h1, h2⟩, hg⟩ := hg
      unfold eqOk at h1 h2
      rw [Bool.and_eq_true] at h1 h2
      exact ⟨_, _, dp_of _ _ h1.1 ra.dt, dp_of _ _ h2.1 rb.dt, h1.2, h2.2, Go.val (m := .read) k o (by decide) hg (.bl _)⟩
    · exact hg.elim
theorem tne {a b : Expr} {pos : Pos} {fa fb : WF} (hu : X.A.units + 64 < cLine) (ha : PE X a (tW X.K .read fa)) (hb : PE X b (tW X.K .read fb)) : PT X (.Compare a [.NotEq] [b] pos) (tWT X.K (wT1 (w2 fa fb (wEq true)) wTB)) :=
  kt2 (r := rNeD X.K) (op_neD hu) ha hb (nomark _) fun L p H0 H v a u b P Q o ra rb hg k => by
    unfold wEq at hg
    split at hg
    · obtain ⟨⟨h1, h2⟩, hg⟩ := hg
      unfold eqOk at h1 h2
      rw [Bool.and_eq_true] at h1 h2
      exact ⟨_, _, dp_of _ _ h1.1 ra.dt, dp_of _ _ h2.1 rb.dt, h1.2, h2.2, Go.val (m := .read) k o (by decide) hg (.bl _)⟩
    · exact hg.elim
end
end Dw

/-! Data ways: in by an own __contains__, isinstance of an own class, methods with keywords. -/
namespace Dw
open PySem PySem.Spec PySem.W PySem.Calls PyProof.Rows L2 Dr Rp
open He (ga)
variable [Dw.LamReg]
section
variable {prog : Program} {w : World} {A : Around} {E : Value → Shared → Prop} {s : Shared} {K : PySem.W.Frag} {x C f : Addr} {ox : Obj} {odd : Option Obj} {v : Value}
end
section
variable {X : Cx} {m mr : Mode} {CX : CXT} {k : Nat} {C f : Addr} {fd : FuncData} {ps : List Str} {sp : Sp} {E : XK}
def rInOwn (C : Addr) (sp : Sp) (E : XK) (neg : Bool) : R2 := fun x y H Q => ∃ a dx fs, y = .ref a ∧ H a = some (.ins C dx fs) ∧ sp [y, x] H (fun z H' => ∃ b, z = .bl b ∧ Q (.bl (if neg then !b else b)) H') E
/-- x in o, o an object with its own __contains__ -/
def wInO (C : Str) (g : WD) (neg : Bool) : EV → EV → (EV → Prop) → Prop
  | x, .ob C' fs, P => C' = C ∧ g [.ob C' fs, x] fun e => match e with
    | .py (.bool b) => P (.py (.bool (if neg then !b else b)))
    | _ => False
  | _, _, _ => False
/-- isinstance(o, C) of an object of the class C -/
def wIsiO (C : Str) : EV → (EV → Prop) → Prop
  | .ob C' _, P => C' = C ∧ P (.py (.bool true))
  | _, _ => False
end
end Dw

/-! {e for x in xs if .. for y in ys if ..}: the items as any rule of set.add takes them. -/
namespace Tp
open PySem PySem.Spec PyProof.Rows L2
open PpSet (compLoopS_any codeAny_compStart_set newSet_ok)
section
variable {prog : Program} {w : World} {A : Around} {R : Result → Shared → Prop} {s : Shared} {el t0 i0 t1 i1 : Expr} {f0 f1 : List Expr} {sco : Scope} {pos : Pos} {it acc : Value} {env : Env}
abbrev two (el t0 i0 t1 i1 : Expr) (f0 f1 : List Expr) (sco : Scope) (pos : Pos) : Expr := .SetComp el [⟨t0, i0, f0, 0⟩, ⟨t1, i1, f1, 0⟩] sco pos
theorem outer_turn : compTurn (two el t0 i0 t1 i1 f0 f1 sco pos) 0 it acc env = (do
      standAt i0.pos
      match ← pyNext it with
      | none => pure (.done .next)
      | some u =>
        letOwnedTupleGo t0 it u
        assign t0 env u
        let mut yes := true
        for d in f0 do
          if yes then yes ← isTrue d env (eval d env)
        if yes then
          let src ← eval i1 env
          standAt i1.pos
          let src ← foldedSetIterable i1 env src
          let _ ← runOwn (.compStart (two el t0 i0 t1 i1 f0 f1 sco pos) 1 (← holding [src] (pyIter src)) acc env) env
        again (.compLoop (two el t0 i0 t1 i1 f0 f1 sco pos) 0 it acc env)) := by rfl
theorem inner_turn : compTurn (two el t0 i0 t1 i1 f0 f1 sco pos) 1 it acc env = (do
      standAt i1.pos
      match ← pyNext it with
      | none => pure (.done .next)
      | some u =>
        letOwnedTupleGo t1 it u
        assign t1 env u
        let mut yes := true
        for d in f1 do
          if yes then yes ← isTrue d env (eval d env)
        if yes then
          (do let x ← eval el env; standAt el.pos; let _ ← call (.builtin "set.add") [acc, x])
        again (.compLoop (two el t0 i0 t1 i1 f0 f1 sco pos) 1 it acc env)) := by rfl
/-- what the tests of a clause come to -/
abbrev tests (fs : List Expr) (env : Env) : Sem Bool := forIn fs true fun d r => if r = true then do let yes ← isTrue d env (eval d env); pure (ForInStep.yield yes) else pure (ForInStep.yield r)
theorem outer_loop (hs : ∀ x, foldedSetIterable i1 env x = pure x) (I : Nat → Shared → Prop)
    (turn : ∀ n s, I n s → wpAny (model prog w) A (pyNext it) (fun r s1 => match r with
      | none => R (.ok .next) s1
      | some u => wpAny (model prog w) A (letOwnedTupleGo t0 it u) (fun _ s2 => wpAny (model prog w) A (assign t0 env u) (fun _ s3 => wpAny (model prog w) A (tests f0 env) (fun yes s4 =>
          if yes = true then wpAny (model prog w) A (eval i1 env) (fun x s5 => wpAny (model prog w) A (pyIter x) (fun j s6 => codeAny (model prog w) A (.compStart (two el t0 i0 t1 i1 f0 f1 sco pos) 1 j acc env) (fun r s' => match r with
                | .ok _ => ∃ m, m < n ∧ I m s'
                | .error _ => False) s6) (notedBy (model prog w) A env fun e s' => R (.error e) s') s5) (notedBy (model prog w) A env fun e s' => R (.error e) s') s4
          else ∃ m, m < n ∧ I m s4) (notedBy (model prog w) A env fun e s' => R (.error e) s') s3) (notedBy (model prog w) A env fun e s' => R (.error e) s') s2) (notedBy (model prog w) A env fun e s' => R (.error e) s') s1) (notedBy (model prog w) A env fun e s' => R (.error e) s') s)
    (n : Nat) (h : I n s) : codeAny (model prog w) A (.compLoop (two el t0 i0 t1 i1 f0 f1 sco pos) 0 it acc env) R s := by
  refine codeAny_loop rfl I (fun n s hI => ?_) n h
  show wpAny _ A ((compTurn (two el t0 i0 t1 i1 f0 f1 sco pos) 0 it acc env).onRaise (fun x => do noteFrame x env; theTreesLotGoes x)) _ _ s
  refine wpAny_noted ?_; rw [outer_turn]
  refine wpAny_bind (wpAny_standAt (wpAny_bind (wpAny_mono (turn n s hI) (fun r s1 h1 => ?_) fun _ _ z => z)))
  cases r with
  | none => exact wpAny_pure h1
  | some u =>
    refine wpAny_bind (wpAny_mono h1 (fun _ s2 h2 => wpAny_bind (wpAny_mono h2 (fun _ s3 h3 => wpAny_bind (wpAny_mono h3 (fun yes s4 h4 => ?_) fun _ _ z => z)) fun _ _ z => z)) fun _ _ z => z)
    cases yes with
    | false => exact wpAny_pure ⟨rfl, h4⟩
    | true =>
      refine wpAny_bind (wpAny_mono h4 (fun x s5 h5 => wpAny_bind (wpAny_standAt (wpAny_bind (wpAny_of_eq (hs x) (wpAny_bind (wpAny_holding (wpAny_mono h5 (fun j s6 h6 => ?_) fun _ _ z => z))))))) fun _ _ z => z)
      refine wpAny_bind (wpAny_runOwn (by rw [Around.mark_none]; refine codeAny_mono h6 fun r s' hr => ?_; cases r with
        | ok f => first | exact wpAny_pure ⟨rfl, hr⟩ | exact wpAny_bind (wpAny_pure (wpAny_pure ⟨rfl, hr⟩))
        | error e => exact hr.elim))
theorem inner_loop (I : Nat → Shared → Prop)
    (turn : ∀ n s, I n s → wpAny (model prog w) A (pyNext it) (fun r s1 => match r with
      | none => R (.ok .next) s1
      | some u => wpAny (model prog w) A (letOwnedTupleGo t1 it u) (fun _ s2 => wpAny (model prog w) A (assign t1 env u) (fun _ s3 => wpAny (model prog w) A (tests f1 env) (fun yes s4 =>
          if yes = true then wpAny (model prog w) A (eval el env) (fun x s5 => wpAny (model prog w) A (call (.builtin "set.add") [acc, x]) (fun _ s6 => ∃ m, m < n ∧ I m s6) (notedBy (model prog w) A env fun e s' => R (.error e) s') s5) (notedBy (model prog w) A env fun e s' => R (.error e) s') s4
          else ∃ m, m < n ∧ I m s4) (notedBy (model prog w) A env fun e s' => R (.error e) s') s3) (notedBy (model prog w) A env fun e s' => R (.error e) s') s2) (notedBy (model prog w) A env fun e s' => R (.error e) s') s1) (notedBy (model prog w) A env fun e s' => R (.error e) s') s)
    (n : Nat) (h : I n s) : codeAny (model prog w) A (.compLoop (two el t0 i0 t1 i1 f0 f1 sco pos) 1 it acc env) R s := by
  refine codeAny_loop rfl I (fun n s hI => ?_) n h
  show wpAny _ A ((compTurn (two el t0 i0 t1 i1 f0 f1 sco pos) 1 it acc env).onRaise (fun x => do noteFrame x env; theTreesLotGoes x)) _ _ s
  refine wpAny_noted ?_; rw [inner_turn]
  refine wpAny_bind (wpAny_standAt (wpAny_bind (wpAny_mono (turn n s hI) (fun r s1 h1 => ?_) fun _ _ z => z)))
  cases r with
  | none => exact wpAny_pure h1
  | some u =>
    refine wpAny_bind (wpAny_mono h1 (fun _ s2 h2 => wpAny_bind (wpAny_mono h2 (fun _ s3 h3 => wpAny_bind (wpAny_mono h3 (fun yes s4 h4 => ?_) fun _ _ z => z)) fun _ _ z => z)) fun _ _ z => z)
    cases yes with
    | false => exact wpAny_pure ⟨rfl, h4⟩
    | true => exact wpAny_bind (wpAny_bind (wpAny_mono h4 (fun x s5 h5 => wpAny_bind (wpAny_standAt (wpAny_bind (wpAny_mono h5 (fun _ s6 h6 => wpAny_pure (wpAny_pure ⟨rfl, h6⟩)) fun _ _ z => z)))) fun _ _ z => z))
/-- the start of the second clause -/
theorem inner_start (h0 : codeAny (model prog w) A (.compLoop (two el t0 i0 t1 i1 f0 f1 sco pos) 1 it acc env) R s)
    (h : wpAny (model prog w) A (pyIter it) (fun j s' => codeAny (model prog w) A (.compLoop (two el t0 i0 t1 i1 f0 f1 sco pos) 1 j acc env) R s') (notedBy (model prog w) A env fun x s' => R (.error x) s') s) : codeAny (model prog w) A (.compStart (two el t0 i0 t1 i1 f0 f1 sco pos) 1 it acc env) R s := by
  refine codeAny_of_tree ?_
  show wpAny _ _ ((compStart (two el t0 i0 t1 i1 f0 f1 sco pos) 1 it acc env).onRaise (fun x => do noteFrame x env; standAt theWindowsPlace)) _ _ s
  refine wpAny_notedAt ?_; unfold compStart
  show wpAny _ _ (ask >>= _) _ _ s
  refine wpAny_bind (wpAny_askSetting (wpAny_ite ?_)); split
  · first | exact wpAny_bind (wpAny_pure (wpAny_pure ⟨rfl, h0⟩)) | exact wpAny_pure ⟨rfl, h0⟩
  · first
      | exact wpAny_bind (wpAny_rule (wpAny_bind (wpAny_standAt (wpAny_bind (wpAny_mono h (fun j s' z => wpAny_pure ⟨rfl, z⟩) fun _ _ z => z)))))
      | (refine wpAny_bind (wpAny_rule ?_); show wpAny _ _ (standAt i1.pos >>= _) _ _ s; exact wpAny_bind (wpAny_standAt (wpAny_bind (wpAny_mono h (fun j s' z => wpAny_pure ⟨rfl, z⟩) fun _ _ z => z))))
end
/-- as tSg, with a second clause; ow1: the slots of the second target -/
def tSg2 (new : Addr → HO) (r : V → List V → Hp → VK → Prop) (wi : TI) (g : TG) (tt : TT) (wi1 : TI) (g1 : TG) (tt1 : TT) (te : TE) (ow ow1 : List Nat) : TE := fun σ H Q => wi σ H fun J H1 => ∀ D, H1 D = none →
  ∃ W : Nat → Nat → Hp → Prop, (∃ m, W 0 m (upd H1 D (new D))) ∧ ∀ i m G, W i m G → (J.stop i G ∧ Q (.ref D) G) ∨
    (J.go i G ∧ ∃ Nx : Hp → Prop, (∀ G', Nx G' → ∃ m', m' < m ∧ W (i + 1) m' G') ∧ ∀ x G', J.yld i G x G' → g x (wipe σ ow) G' fun τ G2 => wipe τ ow = wipe σ ow ∧ tt τ G2 fun b G3 => if b = true then
      wi1 τ G3 fun J1 G4 => ∃ W1 : Nat → Nat → Hp → Prop, (∃ k, W1 0 k G4) ∧ ∀ j k G, W1 j k G → (J1.stop j G ∧ Nx G) ∨
        (J1.go j G ∧ ∃ Nx1 : Hp → Prop, (∀ G', Nx1 G' → ∃ k', k' < k ∧ W1 (j + 1) k' G') ∧ ∀ y G', J1.yld j G y G' → g1 y (wipe τ ow1) G' fun ρ G5 => wipe ρ ow1 = wipe τ ow1 ∧ tt1 ρ G5 fun c G6 => if c = true then te ρ G6 fun z G7 => r (.ref D) [z] G7 fun _ G8 => Nx1 G8 else Nx1 G6)
      else Nx G3)
section
variable {X : Cx}
theorem pe_sg2 {elt tg iter tg1 iter1 : Expr} {ifs ifs1 : List Expr} {scope : Scope} {own : List (PySem.Str × Nat)} {ow1 : List Nat} {pos : Pos} {wi wi1 : TI} {g g1 : TG} {tt tt1 : TT} {te : TE} {new : Addr → HO} {r : V → List V → Hp → VK → Prop} (hc : X.calm = true) (hN : X.N.Nodup)
    (hnew : ∀ {h : Heap} {H : Hp}, ObjOk X.prog X.w H (h.push (oSet X.w)) h.objs.size (new h.objs.size)) (hadd : ∀ Y : Cx, Y.prog = X.prog → Y.w = X.w → Y.K = X.K → Y.A = X.A → MtR Y "set.add" r) (hi : PI X tg iter wi) (ok : BlkOk X.N X.env.scope scope own) (hv : ∀ i ∈ ow1, i ∈ own.map (·.2))
    (hg : ∀ (s : Shared) (H : Hp) (C : Addr) (cl : List (PySem.Str × Addr)) (fp : List Addr), PG (X.blk s H scope (compEnvC scope cl C X.env) fp) tg g)
    (ht : ∀ (s : Shared) (H : Hp) (C : Addr) (cl : List (PySem.Str × Addr)) (fp : List Addr), PTs (X.blk s H scope (compEnvC scope cl C X.env) fp) ifs tt)
    (hi1 : ∀ (s : Shared) (H : Hp) (C : Addr) (cl : List (PySem.Str × Addr)) (fp : List Addr), PI (X.blk s H scope (compEnvC scope cl C X.env) fp) tg1 iter1 wi1)
    (hg1 : ∀ (s : Shared) (H : Hp) (C : Addr) (cl : List (PySem.Str × Addr)) (fp : List Addr), PG (X.blk s H scope (compEnvC scope cl C X.env) fp) tg1 g1)
    (ht1 : ∀ (s : Shared) (H : Hp) (C : Addr) (cl : List (PySem.Str × Addr)) (fp : List Addr), PTs (X.blk s H scope (compEnvC scope cl C X.env) fp) ifs1 tt1)
    (he : ∀ (s : Shared) (H : Hp) (C : Addr) (cl : List (PySem.Str × Addr)) (fp : List Addr), PE (X.blk s H scope (compEnvC scope cl C X.env) fp) elt te)
    (hs : ∀ x, foldedSetIterable iter X.env x = pure x := by intro _; rfl) (hs1 : ∀ env x, foldedSetIterable iter1 env x = pure x := by intro _ _; rfl) :
    PE X (two elt tg iter tg1 iter1 ifs ifs1 scope pos) (tSg2 new r wi g tt wi1 g1 tt1 te (own.map (·.2)) ow1) := by
  refine ⟨fun pins s σ H Q I h => ?_⟩
  rw [PpSet.eval_SetComp]
  have fr : ∀ y ∈ scope.names, y.2 = .free → ∃ c, X.env.cells.lookup y.1 = some c := fun y hy e => (ok.free y hy e).elim (fun k => I.ok.has _ (.inl k)) fun k => I.ok.has _ (.inr k)
  refine wpAny_comprehension_free (use := none) rfl hs (closure_ok fr) ok.kind (fun y hy e => by rw [ok.uniq y hy, e]) (thn (hi.run pins s σ H _ I h) fun xv s1 hx => thn hx fun itv s2 h2 => ?_)
  obtain ⟨it, fp, tn, J, H2, e, I2, T, st2, f2, q⟩ := h2
  subst e
  refine newSet_ok (newEnv_comp ?_)
  generalize hD : s2.heap.objs.size = D
  have nD : H2 D = none := I2.hok.fresh (Nat.le_of_eq hD)
  obtain ⟨W, ⟨m0, w0⟩, turn⟩ := q D nD
  generalize hs3 : ({ s2 with heap := s2.heap.push (oSet X.w) } : Shared) = s3
  have h3 : s3.heap = s2.heap.push (oSet X.w) := by rw [← hs3]
  have I3 : Inv X pins σ (upd H2 D (new D)) s3 := by
    rw [← hs3]
    refine I2.laid (t' := s2.toks) (fun b o e => Heap.get?_push_of_some _ e) (Nat.le_of_eq hD) ?_
    rw [← hD]
    exact hnew
  have old : ∀ b ∈ fp, b < s2.heap.objs.size := fun b hb => by
    obtain ⟨o, e, _⟩ := T.obj _ _ st2 b hb
    exact Heap.lt_size e
  have f3 : ∀ b ∈ fp, FpOk X pins (upd H2 D (new D)) b ∧ b < s3.heap.objs.size := fun b hb => by
    have lt := old b hb
    refine ⟨⟨?_, (f2 b hb).2⟩, by rw [h3, Heap.size_push]; exact Nat.lt_succ_of_lt lt⟩
    rw [upd_ne (by rw [← hD]; exact Nat.ne_of_lt lt)]
    exact (f2 b hb).1
  have st3 : tn 0 s3.heap := T.keep _ _ _ st2 fun b _ o e => by
    rw [h3]
    exact Heap.get?_push_of_some _ e
  have I4 := block_start I3 ok hN f3
  let cls := cellsFrom (s3.heap.objs.size + 1) scope.names (cloFrom X.env.cells scope.names [])
  have pg := hg s3 (upd H2 D (new D)) s3.heap.objs.size cls fp
  have pt := ht s3 (upd H2 D (new D)) s3.heap.objs.size cls fp
  have pe := he s3 (upd H2 D (new D)) s3.heap.objs.size cls fp
  have pi1 := hi1 s3 (upd H2 D (new D)) s3.heap.objs.size cls fp
  have pg1 := hg1 s3 (upd H2 D (new D)) s3.heap.objs.size cls fp
  have pt1 := ht1 s3 (upd H2 D (new D)) s3.heap.objs.size cls fp
  show codeAny _ _ (.compStart (two elt tg iter tg1 iter1 ifs ifs1 scope pos) 0 (.ref it) (.ref D) (compEnvC scope cls s3.heap.objs.size X.env)) (compPost (model X.prog X.w) X.A X.xe none (EP X pins σ Q) (.ref D) s3.heap.objs.size) { s3 with heap := pushCells (s3.heap.push { cls := .type "dict", data := .dict #[] }) scope.names }
  have nfp : ∀ b ∈ fp, (upd H2 D (new D)) b = none := fun b hb => (f3 b hb).1.1
  generalize hce : compEnvC scope cls s3.heap.objs.size X.env = ce at I4 pg pt pe pi1 pg1 pt1 ⊢
  have cL : ce.locals = s3.heap.objs.size := by
    subst hce
    rfl
  generalize hH3 : upd H2 D (new D) = H3 at I3 I4 pg pt pe pi1 pg1 pt1 w0 nfp f3
  generalize hs4 : ({ s3 with heap := pushCells (s3.heap.push { cls := .type "dict", data := .dict #[] }) scope.names } : Shared) = s4 at I4 ⊢
  have st4 : tn 0 s4.heap := T.keep _ _ _ st3 fun b _ o e => by
    rw [← hs4]
    exact pushCells_keeps _ _ _ _ (Heap.get?_push_of_some _ e)
  have stat : ∀ {τ : L2.St} {G : Hp} {t : Shared}, Inv (X.blk s3 H3 scope ce fp) [] τ G t → (∀ b ∈ fp, G b = none) → ∀ b ∈ fp, FpOk (X.blk s3 H3 scope ce fp) [] G b := fun {τ G t} K hn b hb =>
    ⟨hn b hb, (K.ok.exf b hb).1, K.ok.exfs b hb, .inl hb, fun x c e => (K.ok.exf b hb).2 x c e, fun p hp => absurd (show p ∈ ([] : List (Addr × Obj)) ++ [] from hp) (by simp)⟩
  have loop : codeAny (model X.prog X.w) X.A (.compLoop (two elt tg iter tg1 iter1 ifs ifs1 scope pos) 0 (.ref it) (.ref D) ce) (compPost (model X.prog X.w) X.A X.xe none (EP X pins σ Q) (.ref D) s3.heap.objs.size) s4 := by
    refine outer_loop (hs1 ce) (fun n t => ∃ i G, Inv (X.blk s3 H3 scope ce fp) [] (wipe σ (own.map (·.2))) G t ∧ tn i t.heap ∧ (∀ b ∈ fp, G b = none) ∧ W i n G) ?_ m0 ⟨0, H3, I4, st4, nfp, w0⟩
    rintro n s5 ⟨i, H5, I5, st5, n5, w5⟩
    rcases turn i n H5 w5 with ⟨stop, qq⟩ | ⟨go, Nx, hNx, step⟩
    · refine thnF (T.done (X.blk s3 H3 scope ce fp) rfl rfl rfl hc i [] s5 _ H5 (fun _ _ => False) I5 (stat I5 n5) st5 stop) fun z s6 ⟨hz, I6⟩ => ?_
      subst hz
      have I7 : Inv X pins σ H5 s6 := I3.call' (ch := fp) I6.os I6.base I6.hok I6.bare fun b hb => ⟨(f3 b hb).1.2.2.2.1, (f3 b hb).1.2.1, (f3 b hb).1.2.2.2.2.1, (f3 b hb).1.2.2.2.2.2⟩
      have nC : H5 s3.heap.objs.size = none := by
        rw [← cL]
        exact I6.free
      obtain ⟨m, hn, _⟩ := I6.loc
      have hn2 : s6.heap.Ns s3.heap.objs.size m := by
        rw [← cL]
        exact hn
      obtain ⟨g0, g1, g2, g3, g4, g5⟩ := I3.fpOk (b := s3.heap.objs.size) (Nat.le_refl _) nC
      exact ⟨m, hn2, fun h'' sb => ⟨.ref D, H5, I7.turned (t' := s6.toks) (fun b o hb e => (sb.2 b hb).trans e) g0 g1 g3 g4 g5, rfl, qq⟩⟩
    · refine thnF (T.item (X.blk s3 H3 scope ce fp) rfl rfl rfl hc i [] s5 _ H5 (fun _ _ => False) I5 (stat I5 n5) st5 go) fun z s6 ⟨u, hz, h6⟩ => ?_
      subst hz
      refine thnF h6 fun _ s7 ⟨x, H7, I7, r7, y7, st7, n7⟩ => ?_
      have P7 := I7.pinned (stat I7 n7) (T.obj _ _ st7)
      refine thnF (pg.run _ s7 _ H7 x u _ P7 r7 (step x H7 y7)) fun _ s8 ⟨σ8, H8, I8, hw8, q8⟩ => ?_
      refine thnF (pt.run _ s8 σ8 H8 _ I8 q8) fun b s9 ⟨H9, I9, q9⟩ => ?_
      have fin : ∀ {ρ : L2.St} {t : Shared} {G : Hp}, Inv (X.blk s3 H3 scope ce fp) ([] ++ pinsAt fp s7.heap) ρ G t → (wipe σ (own.map (·.2))).length = ρ.length → (∀ (j : Nat) v, (wipe σ (own.map (·.2)))[j]? = some (some v) → ρ[j]? = some (some v)) → Nx G →
          ∃ m, m < n ∧ ∃ i G, Inv (X.blk s3 H3 scope ce fp) [] (wipe σ (own.map (·.2))) G t ∧ tn i t.heap ∧ (∀ b ∈ fp, G b = none) ∧ W i m G := fun {ρ t G} K hl hk nx => by
        obtain ⟨m', hm, w'⟩ := hNx G nx
        have pin2 : ∀ b ∈ fp, ∀ o, s7.heap.get? b = some o → t.heap.get? b = some o ∧ G b = none := fun b hb o e => by
          have z := K.pin (b, o) (List.mem_append_right _ (List.mem_append_right _ (mem_pinsAt hb e)))
          exact ⟨z.1, z.2.1⟩
        refine ⟨m', hm, i + 1, G, (K.unpinned (pins := [])).weak hl hk, T.keep _ _ _ st7 fun b hb o e => (pin2 b hb o e).1, fun b hb => ?_, w'⟩
        obtain ⟨o, e, _⟩ := T.obj _ _ st7 b hb
        exact (pin2 b hb o e).2
      have l8 : (wipe σ (own.map (·.2))).length = σ8.length := by rw [← hw8, wipe_length]
      have k8 : ∀ (j : Nat) v, (wipe σ (own.map (·.2)))[j]? = some (some v) → σ8[j]? = some (some v) := fun j v e => by
        rw [← hw8] at e
        exact (wipe_some e).1
      have k9 : ∀ (j : Nat) v, (wipe σ (own.map (·.2)))[j]? = some (some v) → (wipe σ8 ow1)[j]? = some (some v) := fun j v e => by
        rw [← hw8] at e
        obtain ⟨e1, e2⟩ := wipe_some e
        rw [wipe_out fun z => e2 (hv j z)]
        exact e1
      cases b with
      | false =>
        rw [if_neg (by simp)] at q9 ⊢
        exact fin I9 l8 k8 q9
      | true =>
        rw [if_pos rfl] at q9 ⊢
        refine thnF (pi1.run _ s9 σ8 H9 _ I9 q9) fun xv s10 hx => thnF hx fun itv s11 h11 => ?_
        obtain ⟨it1, fp1, tn1, J1, H11, e1, I11, T1, st11, f11, W1, ⟨m1, w1⟩, turn1⟩ := h11
        subst e1
        have stat1 : ∀ {G : Hp}, (∀ b ∈ fp1, G b = none) → ∀ b ∈ fp1, FpOk (X.blk s3 H3 scope ce fp) ([] ++ pinsAt fp s7.heap) G b := fun hn b hb => ⟨hn b hb, (f11 b hb).2⟩
        have loop1 : codeAny (model X.prog X.w) X.A (.compLoop (two elt tg iter tg1 iter1 ifs ifs1 scope pos) 1 (.ref it1) (.ref D) ce) (fun r t => match r with
              | .ok _ => ∃ m, m < n ∧ ∃ i G, Inv (X.blk s3 H3 scope ce fp) [] (wipe σ (own.map (·.2))) G t ∧ tn i t.heap ∧ (∀ b ∈ fp, G b = none) ∧ W i m G
              | .error _ => False) s11 := by
          refine inner_loop (fun k t => ∃ j G, Inv (X.blk s3 H3 scope ce fp) ([] ++ pinsAt fp s7.heap) (wipe σ8 ow1) G t ∧ tn1 j t.heap ∧ (∀ b ∈ fp1, G b = none) ∧ W1 j k G) ?_ m1 ⟨0, H11, I11.weak (wipe_length _ _) (fun j v e => (wipe_some e).1), st11, fun b hb => (f11 b hb).1, w1⟩
          rintro k s12 ⟨j, H12, I12, st12, n12, w12⟩
          rcases turn1 j k H12 w12 with ⟨stop1, nx1⟩ | ⟨go1, Nx1, hNx1, step1⟩
          · refine thnF (T1.done (X.blk s3 H3 scope ce fp) rfl rfl rfl hc j _ s12 (wipe σ8 ow1) H12 (fun _ _ => False) I12 (stat1 n12) st12 stop1) fun z s13 ⟨hz, I13⟩ => ?_
            subst hz
            exact fin I13 (l8.trans (wipe_length σ8 ow1).symm) k9 nx1
          · refine thnF (T1.item (X.blk s3 H3 scope ce fp) rfl rfl rfl hc j _ s12 (wipe σ8 ow1) H12 (fun _ _ => False) I12 (stat1 n12) st12 go1) fun z s13 ⟨u1, hz, h13⟩ => ?_
            subst hz
            refine thnF h13 fun _ s14 ⟨x1, H14, I14, r14, y14, st14, n14⟩ => ?_
            have P14 := I14.pinned (stat1 n14) (T1.obj _ _ st14)
            refine thnF (pg1.run _ s14 (wipe σ8 ow1) H14 x1 u1 _ P14 r14 (step1 x1 H14 y14)) fun _ s15 ⟨σ15, H15, I15, hw15, q15⟩ => ?_
            refine thnF (pt1.run _ s15 σ15 H15 _ I15 q15) fun c s16 ⟨H16, I16, q16⟩ => ?_
            have fin1 : ∀ {t : Shared} {G : Hp}, Inv (X.blk s3 H3 scope ce fp) (([] ++ pinsAt fp s7.heap) ++ pinsAt fp1 s14.heap) σ15 G t → Nx1 G → ∃ m, m < k ∧ ∃ j G, Inv (X.blk s3 H3 scope ce fp) ([] ++ pinsAt fp s7.heap) (wipe σ8 ow1) G t ∧ tn1 j t.heap ∧ (∀ b ∈ fp1, G b = none) ∧ W1 j m G := fun {t G} K nx => by
              obtain ⟨m', hm, w'⟩ := hNx1 G nx
              have pin2 : ∀ b ∈ fp1, ∀ o, s14.heap.get? b = some o → t.heap.get? b = some o ∧ G b = none := fun b hb o e => by
                have z := K.pin (b, o) (List.mem_append_right _ (List.mem_append_right _ (mem_pinsAt hb e)))
                exact ⟨z.1, z.2.1⟩
              refine ⟨m', hm, j + 1, G, K.unpinned.weak (by rw [← hw15, wipe_length]) (fun j v e => by rw [← hw15] at e; exact (wipe_some e).1), T1.keep _ _ _ st14 fun b hb o e => (pin2 b hb o e).1, fun b hb => ?_, w'⟩
              obtain ⟨o, e, _⟩ := T1.obj _ _ st14 b hb
              exact (pin2 b hb o e).2
            cases c with
            | false =>
              rw [if_neg (by simp)] at q16 ⊢
              exact fin1 I16 q16
            | true =>
              rw [if_pos rfl] at q16 ⊢
              refine thnF (pe.run _ s16 σ15 H16 _ I16 q16) fun z s17 ⟨yv, H17, I17, r17, qa⟩ => ?_
              refine thnF (hadd (X.blk s3 H3 scope ce fp) rfl rfl rfl rfl _ s17 σ15 H17 (.ref D) [yv] (.ref D) [z] (fun _ G5 => Nx1 G5) I17 rfl (.cons r17 .nil) qa) fun _ s18 ⟨_, H18, I18, _, nx⟩ => ?_
              exact fin1 I18 nx
        exact inner_start loop1 (T1.self X.A 0 _ _ _ st11 loop1)
  exact codeAny_compStart_set loop (T.self X.A 0 _ _ _ st4 loop)
end
end Tp
namespace Sl
open PySem PySem.Spec PyProof.Rows L2
section
variable {X : Cx}
end
end Sl

/-! Data ways: sorted({e for x in xs if .. for y in ys if ..}) of texts. -/
namespace Dw
open PySem PySem.Spec PySem.W PySem.Calls PyProof.Rows L2 Dr Rp
open He (ga)
variable [Dw.LamReg]
section
variable {K : PySem.W.Frag} {He : Hp} {Lc : Addr → Prop} {os : Nat → Option Addr} {p : Pt} {gs : Gh} {H H' : Hp} {σ : L2.St} {ρ : EnvD}
theorem EnvOk.move (E : EnvOk K He Lc os p gs H σ ρ) {vs : List Nat} (hno : noOwn ρ vs) (sr : SameR (ctL (Ls Lc os) H) (ctL (Ls Lc os) H')) (lo : ∀ i a, os i = some a → H' a = H a) (o : LOk (Ls Lc os) p H') : EnvOk K (He0 Lc H') Lc os p {} H' (wipe σ vs) (wipeE ρ vs) := by
  refine ⟨by rw [wipe_length, wipeE_length]; exact E.len, fun i e h => ?_, fun i a h => ?_, E.inj, fun i a h => ⟨(E.fre i a h).1, He0_free (p := p) (E.fre i a h).1⟩, ⟨(fun _ h => nomatch h), (fun _ h => nomatch h)⟩, o.sub (fun b l => .inl l) fun q e => (E.lok.str q e).1, He0_stp⟩
  · rcases wipeE_get h with rfl | ⟨h, n⟩
    · trivial
    · have z := E.val i e h
      cases e with
      | no => trivial
      | own d => exact z
      | py d =>
        obtain ⟨v, h1, h2⟩ := z
        exact ⟨v, by rw [wipe_out n]; exact h1, h2.sameR sr⟩
      | st =>
        obtain ⟨v, h1, h2⟩ := z
        exact ⟨v, by rw [wipe_out n]; exact h1, h2.sameR sr⟩
      | ob C fs =>
        obtain ⟨v, h1, h2⟩ := z
        exact ⟨v, by rw [wipe_out n]; exact h1, h2.sameR sr⟩
      | pk ds =>
        obtain ⟨v, h1, h2⟩ := z
        exact ⟨v, by rw [wipe_out n]; exact h1, h2.sameR sr⟩
      | kp ds =>
        obtain ⟨v, h1, h2⟩ := z
        exact ⟨v, by rw [wipe_out n]; exact h1, h2.sameR sr⟩
      | ol ds =>
        obtain ⟨v, h1, h2⟩ := z
        exact ⟨v, by rw [wipe_out n]; exact h1, h2.sameR sr⟩
      | ot ds =>
        obtain ⟨v, h1, h2⟩ := z
        exact ⟨v, by rw [wipe_out n]; exact h1, h2.sameR sr⟩
      | od ds =>
        obtain ⟨v, h1, h2⟩ := z
        exact ⟨v, by rw [wipe_out n]; exact h1, h2.sameR sr⟩
      | nd ds =>
        obtain ⟨v, h1, h2⟩ := z
        exact ⟨v, by rw [wipe_out n]; exact h1, h2.sameR sr⟩
      | pw ds =>
        obtain ⟨v, h1, h2⟩ := z
        exact ⟨v, by rw [wipe_out n]; exact h1, h2.sameR sr⟩
      | owl d => exact z
  · obtain ⟨d, h1, h2, h3⟩ := E.own i a h
    have n : i ∉ vs := fun hm => hno i hm d h1
    exact ⟨d, by rw [wipeE_out n]; exact h1, by rw [wipe_out n]; exact h2, h3.sameR sr (lo i a h)⟩
end
def wSgGo (g : WGt) (t : WT) (f : WF) (ρ : EnvD) : List EV → List Str → (List Str → Prop) → Prop
  | [], acc, P => P acc
  | x :: r, acc, P => g x ρ fun ρ' => t ρ' fun b => if b = true then f ρ' fun e => match e with
    | .py (.str s) => acc.length + 1 < scanBound ∧ wSgGo g t f ρ r (acc ++ [s]) P
    | _ => False
    else wSgGo g t f ρ r acc P
def wSg2Go (g : WGt) (t : WT) (fi1 : WA) (g1 : WGt) (t1 : WT) (f : WF) (vs1 : List Nat) (ρ : EnvD) : List EV → List Str → (List Str → Prop) → Prop
  | [], acc, P => P acc
  | x :: r, acc, P => g x ρ fun ρ2 => t ρ2 fun b => if b = true then noOwn ρ2 vs1 ∧ fi1 ρ2 fun ys => wSgGo g1 t1 f (wipeE ρ2 vs1) ys acc fun acc' => wSg2Go g t fi1 g1 t1 f vs1 ρ r acc' P
    else wSg2Go g t fi1 g1 t1 f vs1 ρ r acc P
def wSg2 (fi : WA) (g : WGt) (t : WT) (fi1 : WA) (g1 : WGt) (t1 : WT) (f : WF) (vs vs1 : List Nat) : WF := fun ρ P => noOwn ρ vs ∧ fi ρ fun xs => wSg2Go g t fi1 g1 t1 f vs1 (wipeE ρ vs) xs [] fun acc => P (.py (.list ((Sl.sSet acc).map .str)))
/-- a set of texts at D: those told so far -/
def SetS (P : Program) (w : World) (H : Hp) (D : Addr) (acc : List Str) : Prop := ∃ Lk, H D = some (Sl.SetLO P w D Lk) ∧ (∀ y, y ∈ Lk ↔ y ∈ acc.map (Sum.inr (α := Int))) ∧ Lk.length ≤ acc.length
section
variable {X : Cx} {m : Mode}
/-- sorted(d), d a dict by texts -/
def wSortedK : EV → (EV → Prop) → Prop
  | .py (.dict ds), P => ∃ ks : List Str, ds.map (·.1) = ks.map .str ∧ ks.Nodup ∧ ks.length < 64 ∧ P (.py (.list ((Sl.sSet ks).map .str)))
  | _, _ => False
theorem le_of_lt {a b : Str} (h : ltCps b.cps.toList a.cps.toList = false) : Sl.strLe a b = true := by
  rw [Sl.strLe_eq, decide_eq_true_eq]
  rw [PyProof.Rows.ltCps_eq] at h
  exact List.not_lt.mp (of_decide_eq_false h)
end
end Dw

/-! Data ways: objects made by an __init__ that sets fields. -/
namespace Dw
open PySem PySem.Spec PySem.W PySem.Calls PyProof.Rows L2 Dr Rp
open He (ga)
variable [Dw.LamReg]
section
variable {K : PySem.W.Frag} {He : Hp} {Lc : Addr → Prop} {os : Nat → Option Addr} {p : Pt} {gs : Gh} {H H' : Hp} {σ : L2.St} {ρ : EnvD}
theorem ctL_upd {L : Addr → Prop} {x : Addr} {o : HO} (h : L x) : ctL L (upd H x o) = ctL L H := funext fun b => by
  unfold ctL
  by_cases l : L b
  · rw [if_pos l, if_pos l]
  · rw [if_neg l, if_neg l, upd_ne (fun e => l (by rw [e]; exact h))]
abbrev WFl := EnvD → List (Str × PyData) → (List (Str × PyData) → Prop) → Prop
def wFlN : WFl := fun _ fs P => P fs
def wFlC (n : Str) (f : WF) (l : WFl) : WFl := fun ρ fs P => f ρ fun e => match e with
  | .py d => (∀ q ∈ fs, q.1 ≠ n) ∧ fs.length < 900 ∧ l ρ (fs ++ [(n, d)]) P
  | _ => False
def tFlds (K : PySem.W.Frag) (C : Str) (f : WFl) : TS := fun D σ H => ∃ He Lc os p gs ρ P x dx vs fs, EnvOk K He Lc os p gs H σ ρ ∧ σ[0]? = some (some (.ref x)) ∧ Lc x ∧ p.q ≠ some x ∧ H x = some (.ins (ga K C) dx vs) ∧
  vs.map (·.1) = fs.map (·.1) ∧ DtAll K (ctL (Ls Lc os) H) (vs.map (·.2)) (fs.map (·.2)) ∧ f ρ fs P ∧
  ∀ fs' vs' He' H', P fs' → (∀ b, b ≠ x → He' b = He b) → EnvOk K He' Lc os p gs H' σ ρ → H' x = some (.ins (ga K C) dx vs') → vs'.map (·.1) = fs'.map (·.1) → DtAll K (ctL (Ls Lc os) H') (vs'.map (·.2)) (fs'.map (·.2)) → D.nx σ H'
end
section
variable {X : Cx} {C : Str}
end
/-- what an __init__ promises over data: gi tells the fields that it leaves -/
abbrev WI := List EV → (List (Str × PyData) → Prop) → Prop
def spI (K : PySem.W.Frag) (C : Str) (gi : WI) : Sp := fun vs H Q _ => ∃ Lc p x dx rest es P, vs = .ref x :: rest ∧ H x = some (.ins (ga K C) dx []) ∧ Lc x ∧ p.q ≠ some x ∧ LOk Lc p H ∧ Paired (fun v e => e = .no ∨ Rv K p (ctL Lc H) v e) rest es ∧ gi es P ∧
  ∀ fs vs' H', P fs → H' x = some (.ins (ga K C) dx vs') → vs'.map (·.1) = fs.map (·.1) → DtAll K (ctL Lc H') (vs'.map (·.2)) (fs.map (·.2)) → Stp Lc p (upd H x (.ins (ga K C) dx vs')) H' → LOk Lc p H' → Q .non H'
section
variable {P : Program} {w : World} {K : PySem.W.Frag} {mg : Str → Option Value} {base : Heap} {CX : CXT}
def wIni (n j : Nat) (f : WFl) : WI := fun es P => es.length + 1 = j ∧ f (startE n (.no :: es)) [] P
end
section
variable {X : Cx} {m mr : Mode} {CX : CXT} {k : Nat} {f : Addr} {fd : FuncData} {ps : List Str} {gi : WI} {fa : WA} {C : Str} {q pos : Pos} {e : Expr} {es : List Expr}
def wMake (C : Str) (gi : WI) : List EV → (EV → Prop) → Prop := fun es P => gi es fun fs => P (.ob C fs)
end
end Dw

/-! Data ways: conversions of promises by hand, keywords. -/
namespace Dw
open PySem PySem.Spec PySem.W PySem.Calls PyProof.Rows L2 Dr Rp
open He (ga)
variable [Dw.LamReg]
section
variable {P : Program} {w : World} {K : PySem.W.Frag} {mg : Str → Option Value} {base : Heap} {CX : CXT} {k : Nat} {f : Addr} {fd : FuncData} {ps : List Str} {sp sp' : Sp}
end
section
variable {X : Cx} {m mr : Mode} {CX : CXT} {k n : Nat} {f : Addr} {fd : FuncData} {ps ks : List Str} {g : WD} {fa fk : WA} {x C : Str} {q pos apos : Pos} {o e : Expr} {es : List Expr} {kws : List Keyword} {fo : WF}
/-- o.m(e, .., k = v): the keywords' values stand behind the others -/
def wMethK (C m : Str) (g : WD) (n j : Nat) (fo : WF) (fa fk : WA) : WF := fun ρ P => fo ρ fun o => match o with
  | .ob C' fs => C' = C ∧ fs.lookup m = none ∧ fa ρ fun es => fk ρ fun zs => es.length = n ∧ zs.length = j ∧ g (.ob C' fs :: (es ++ zs)) P
  | _ => False
/-- what a classmethod promises: the class comes first -/
def spC (K : PySem.W.Frag) (C : Str) (mr : Mode) (g : WD) : Sp := fun vs H Q E => ∃ rest, vs = .ref (ga K C) :: rest ∧ spW K mr g rest H Q E
def wCMethK (g : WD) (n j : Nat) (fa fk : WA) : WF := fun ρ P => fa ρ fun es => fk ρ fun zs => es.length = n ∧ zs.length = j ∧ g (es ++ zs) P
end
end Dw

/-! HeadX with defs that make lambdas: their empty tables are left out of what is written. -/
namespace Hx
open PySem PySem.Spec PyProof.Rows L2
open He (ga ma)
def obsT (ts : PySem.W.Frag → Bool) (fn : List He.DefD) (tf : List He.Defn) (g : Addr → Option Obj) (K : PySem.W.Frag) : He.AlD := ((ts K && He.tabsB g tf K) && fn.all fun d => d.ok K, fn.map fun d => He.fnW K d.at_)
def obsTG (n : Nat) (ts : PySem.W.Frag → Bool) (fn : List He.DefD) (tf : List He.Defn) (g : Addr → Option Obj) : He.AlD := obsT ts fn tf g (He.frT g (asX g n))
/-- what is told of the written part K and the heap h -/
structure SaysT (ts : PySem.W.Frag → Bool) (fn : List He.DefD) (tf : List He.Defn) (h : Heap) (K : PySem.W.Frag) : Prop where
  c : SaysX ts fn K
  hd : ∀ p ∈ tf, PySem.W.codeHdIn K (He.cT K p).1 (He.cT K p).2 = true
  out : ∀ p ∈ tf, K.lookup (He.cT K p).2 = none
  empty : ∀ p ∈ tf, h.get? (He.cT K p).2 = some { cls := .none, data := .fields #[] }
theorem saysT_of {n : Nat} {ts : PySem.W.Frag → Bool} {fn : List He.DefD} {tf : List He.Defn} {h : Heap} (e : obsTG n ts fn tf h.get? = He.valD fn) : SaysT ts fn tf h (He.frT h.get? (asX h.get? n)) := by
  unfold obsTG obsT at e
  have e1 := congrArg (fun z : He.AlD => z.1) e
  have e2 := congrArg (fun z : He.AlD => z.2) e
  generalize hK : He.frT h.get? (asX h.get? n) = K at e1 e2 ⊢
  obtain ⟨a1, a2⟩ := He.ba (show ((ts K && He.tabsB h.get? tf K) && fn.all fun d => d.ok K) = true from e1)
  obtain ⟨a3, a4⟩ := He.ba a1
  have key : ∀ p ∈ tf, PySem.W.codeHdIn K (He.cT K p).1 (He.cT K p).2 = true ∧ ∃ o, h.get? (He.cT K p).2 = some o ∧ He.emptyTab o = true := fun p hp => by
    obtain ⟨b1, b2⟩ := He.ba (List.all_eq_true.mp a4 p hp)
    refine ⟨b1, ?_⟩
    cases q : h.get? (He.cT K p).2 with
    | none =>
      rw [q] at b2
      cases b2
    | some o =>
      rw [q] at b2
      exact ⟨o, rfl, b2⟩
  refine ⟨Prod.ext ?_ e2, fun p hp => (key p hp).1, fun p hp => ?_, fun p hp => ?_⟩
  · show (ts K && fn.all fun d => d.ok K) = true
    rw [a3, a2] <;> rfl
  · obtain ⟨_, o, q, z⟩ := key p hp
    rw [← hK] at q ⊢
    exact He.frT_none q z
  · obtain ⟨_, o, q, z⟩ := key p hp
    rw [q, He.emptyTab_eq z]
def hookT (n : Nat) (ts : PySem.W.Frag → Bool) (fn : List He.DefD) (tf : List He.Defn) : PySem.W.Hook where
  α := He.AlD
  obs := fun s => obsTG n ts fn tf s.heap.get?
  val := fun _ => He.valD fn
  says := fun _ h => ∃ K : PySem.W.Frag, K.In h ∧ SaysT ts fn tf h K
  of := fun _ _ e => ⟨_, He.frT_in, saysT_of e⟩
  keeps := fun _ _ _ ⟨K, hK, c⟩ k => ⟨K, PySem.W.Frag.In.keeps hK k, ⟨c.c, c.hd, c.out, fun p hp => k _ _ (c.empty p hp)⟩⟩
/-- the keyword-only default y of the def named x, an object -/
def kwA (x y : Str) (K : PySem.W.Frag) : Addr := match K.lookup (ga K x) with
  | some ⟨_, _, .func fd, _⟩ => (match fd.kwdefaults with
    | .ref D => (match PySem.W.nsIn K D y with
      | some (some (.ref a)) => a
      | _ => 0)
    | _ => 0)
  | _ => 0
/-- an empty tuple stands at a -/
def emB (K : PySem.W.Frag) (a : Addr) : Bool := match K.lookup a with
  | some ⟨.type c, .none, .seq its _, _⟩ => decide (c = "tuple") && its.isEmpty
  | _ => false
def exB (K : PySem.W.Frag) (x y : Str) (b : Bool) : Bool := decide (PySem.W.exmOne K (.ref (ga K x)) (.ref (ga K y)) = some b)
def iniB (K : PySem.W.Frag) (b i : String) : Bool := match PySem.W.findCls K (.type b) (.type "type") "__init__" with
  | some (.val (.builtin j)) => j == i
  | _ => false
/-- the class named x: derived without an own __init__ from ValueError -/
def msgB (K : PySem.W.Frag) (x : Str) : Bool := PySem.W.excIn K (ga K x) He.veBase "ValueError.__new__" && (PySem.W.keepIn K (.ref (ga K x)) && decide (PySem.W.typeIn K (.ref (ga K x)) = some (.type "type")))
end Hx

/-! A head with tests of one's own and defs at any address: classes, properties, classmethods. -/
namespace Hy
open PySem PySem.Spec PyProof.Rows L2
open He (ga ma)
open He5 (DefA fnA wf)
def asP (g : Addr → Option Obj) (n : Nat) : List Addr := Hx.asX g n ++ [cStatics]
def obsP (ts : PySem.W.Frag → Bool) (fn : List DefA) (K : PySem.W.Frag) : He.AlD := (ts K && fn.all fun d => d.ok K, fn.map fun d => fnA K (d.at_ K))
def SaysP (ts : PySem.W.Frag → Bool) (fn : List DefA) (K : PySem.W.Frag) : Prop := obsP ts fn K = He5.valA fn
def obsPG (n : Nat) (ts : PySem.W.Frag → Bool) (fn : List DefA) (g : Addr → Option Obj) : He.AlD := obsP ts fn (He.frG g (asP g n))
def hookP (n : Nat) (ts : PySem.W.Frag → Bool) (fn : List DefA) : PySem.W.Hook where
  α := He.AlD
  obs := fun s => obsPG n ts fn s.heap.get?
  val := fun _ => He5.valA fn
  says := fun _ h => ∃ K : PySem.W.Frag, K.In h ∧ SaysP ts fn K
  of := fun _ _ e => ⟨_, He.frG_in, e⟩
  keeps := fun _ _ _ ⟨K, hK, c⟩ k => ⟨K, PySem.W.Frag.In.keeps hK k, c⟩
theorem obsPG_eq {n : Nat} {ts : PySem.W.Frag → Bool} {fn : List DefA} {g : Addr → Option Obj} {s : Shared} (h : ∀ a, g a = s.heap.get? a) : obsPG n ts fn g = (hookP n ts fn).obs s := by
  have e : g = s.heap.get? := funext h
  rw [e] <;> rfl
section
variable {ts : PySem.W.Frag → Bool} {fn : List DefA} {K : PySem.W.Frag}
theorem SaysP.test (c : SaysP ts fn K) : ts K = true :=
  (He.ba (show (ts K && fn.all fun d => d.ok K) = true from congrArg (fun z : He.AlD => z.1) c)).1
theorem SaysP.def_ (c : SaysP ts fn K) (i : Nat) {d : DefA} (h : fn[i]? = some d := by rfl) : ∃ fd, FunD K d.name d.qual d.params d.body d.scope (d.dvs K) (d.kws K) (d.at_ K) fd := by
  have c2 := (He.ba (show (ts K && fn.all fun d => d.ok K) = true from congrArg (fun z : He.AlD => z.1) c)).2
  have e : fn.map (fun d => fnA K (d.at_ K)) = fn.map DefA.val := congrArg (fun z : He.AlD => z.2) c
  have e2 : (fn.map fun d => fnA K (d.at_ K))[i]? = (fn.map DefA.val)[i]? := by rw [e]
  rw [List.getElem?_map, List.getElem?_map, h] at e2
  exact DefA.funD (Option.some.inj e2) (List.all_eq_true.mp c2 d (List.mem_of_getElem? h))
end
/-! ### tests -/
def clB (K : PySem.W.Frag) (x : Str) : Bool := (He.Fa.cls x).ok K
def mkB (K : PySem.W.Frag) (x : Str) : Bool := (He.Fa.mkr x).ok K
def inB (K : PySem.W.Frag) (x : Str) : Bool :=
  clB K x && (Hx.eqF K (ga K x) "__class__" (some (.builtin "object.__class__")) && (decide (PySem.W.specialIn K (.builtin "object.__class__") "__get__" = some (some (.builtin "getset_descriptor.__get__"))) &&
    (decide (PySem.W.takesIn K (.builtin "object.__class__") = some true) && (decide (PySem.W.mroIn K (ga K x) (.type "object") = some true) && decide (PySem.W.kitOne K (.ref (ga K x)) (.ref (ga K x)) = some true)))))
/-- no class of it has these names -/
def naB (K : PySem.W.Frag) (x : Str) (fs : List Str) : Bool := fs.all fun f => Hx.eqF K (ga K x) f none
/-- plain methods -/
def meB (K : PySem.W.Frag) (x : Str) (fs : List Str) : Bool := fs.all fun f => (He.Fa.meth x f).ok K
/-- a constant of the class, an int -/
def coB (K : PySem.W.Frag) (x f : Str) (i : Int) : Bool := match PySem.W.findIn K (.ref (ga K x)) f with
  | some (some (.int j t)) => decide (j = i) && (decide (PySem.W.specialIn K (.int j t) "__get__" = some none) && !(PySem.W.copiedNames.contains f))
  | _ => false
/-- properties -/
def prB (K : PySem.W.Frag) (x : Str) (fs : List Str) : Bool := fs.all fun f => Hx.eqF K (ga K x) f (some (.ref (ma K (ga K x) f))) && (decide (PySem.W.specialIn K (.ref (ma K (ga K x) f)) "__get__" = some (some (.builtin "property.__get__"))) &&
  (decide (PySem.W.takesIn K (.ref (ma K (ga K x) f)) = some true) && (match PySem.W.recIn K (ma K (ga K x) f) "property" with
    | some (.ref _ :: _) => true
    | _ => false)))
/-- a classmethod of the class -/
def cmB (K : PySem.W.Frag) (x m : Str) : Bool := He5.wrapB K (ga K x) "classmethod" "classmethod.__get__" m && (PySem.W.fnIn K (wf K (ga K x) "classmethod" m) && (PySem.W.readsIn K (ga K x) (.type "type") && decide (PySem.W.specialIn K (.ref (ga K x)) "__getattribute__" = some (some (.builtin "type.__getattribute__")))))
end Hy

namespace K60
open PySem PySem.Spec PyProof.Rows L2
open He (ga ma)
open He5 (DefA wf)
def top (i : Nat) : Stmt := PySem.Challenge.pw_pagewise_k60_products.main.body.getD i (.Pass ⟨0, 0, 0, 0⟩)
abbrev s_is_integer : Stmt := top 6
abbrev s_are_integers : Stmt := top 7
abbrev s_is_ascending : Stmt := top 8
abbrev s_is_row : Stmt := top 9
abbrev s_are_rows : Stmt := top 11
abbrev s_grouped : Stmt := top 13
abbrev s_picked : Stmt := top 14
abbrev s_product : Stmt := top 17
abbrev s_is_input : Stmt := top 18
abbrev s_check_relations : Stmt := top 19
abbrev sStream : Stmt := top 21
abbrev sDraw : Stmt := top 22
abbrev sPick : Stmt := top 23
abbrev s__law_relation : Stmt := top 24
abbrev s__law_product : Stmt := top 25
abbrev s__law_turned : Stmt := top 26
abbrev sRight : Stmt := top 27
abbrev s__law_written_right : Stmt := top 28
abbrev sLaw : Stmt := top 29
def aM (C m : Str) (K : PySem.W.Frag) : Addr := ma K (ga K C) m
def aC (C m : Str) (K : PySem.W.Frag) : Addr := wf K (ga K C) "classmethod" m
def aP (C m : Str) (K : PySem.W.Frag) : Addr := wf K (ga K C) "property" m
/-- the i-th default, the keyword-only default x of the def at a, objects -/
def dfA (a : PySem.W.Frag → Addr) (i : Nat) (K : PySem.W.Frag) : Addr := match K.lookup (a K) with
  | some ⟨_, _, .func fd, _⟩ => (match fd.defaults with
    | .ref T => (match K.lookup T with
      | some ⟨_, _, .seq its _, _⟩ => (match its.toList[i]? with
        | some (.ref a) => a
        | _ => 0)
      | _ => 0)
    | _ => 0)
  | _ => 0
def kwO (a : PySem.W.Frag → Addr) (x : Str) (K : PySem.W.Frag) : Addr := match K.lookup (a K) with
  | some ⟨_, _, .func fd, _⟩ => (match fd.kwdefaults with
    | .ref D => (match PySem.W.nsIn K D x with
      | some (some (.ref b)) => b
      | _ => 0)
    | _ => 0)
  | _ => 0
def dA (a : PySem.W.Frag → Addr) (x q : Str) (st : Stmt) (dfl : List He.Dv := []) (kwd : List (Str × He.Dv) := []) : DefA := ⟨a, x, q, defArgs st, defBody st, defScope st, dfl, kwd⟩
def dF (x : Str) (st : Stmt) : DefA := dA (fun K => ga K x) x x st
def fn : List DefA := [dF "is_integer" s_is_integer,
  dF "are_integers" s_are_integers,
  dF "is_ascending" s_is_ascending,
  dF "is_row" s_is_row,
  dF "are_rows" s_are_rows,
  dF "grouped" s_grouped,
  dF "picked" s_picked,
  dF "product" s_product,
  dF "is_input" s_is_input,
  dF "check_relations" s_check_relations,
  dF "_law_stream" sStream,
  dF "_law_draw" sDraw,
  dF "_law_pick" sPick,
  dF "_law_relation" s__law_relation,
  dF "_law_product" s__law_product,
  dF "_law_turned" s__law_turned,
  dF "_law_right" sRight,
  dF "_law_written_right" s__law_written_right,
  dF "law" sLaw]
def pn : List Str := ["is_integer", "are_integers", "is_ascending", "is_row", "are_rows", "grouped", "picked", "product", "is_input", "check_relations"]
def ln : List Str := ["_law_stream", "_law_draw", "_law_pick", "_law_relation", "_law_product", "_law_turned", "_law_right", "_law_written_right"]
def bn : List Str := ["isinstance", "str", "len", "all", "tuple", "sorted", "dict", "set", "list", "int", "abs", "max", "min", "range", "zip", "repr", "bool"]
def gn : List Str := pn ++ ln
def t1 (K : PySem.W.Frag) : Bool := Hx.gloB K ("law" :: gn) && (Hx.freeB K bn && ((He.Fa.int "MAX_SIZE" 10).ok K && (He.Fa.int "MAX_INPUT" 100).ok K))
def ts (K : PySem.W.Frag) : Bool := t1 K && Hx.sysB K
abbrev R : PySem.W.OpenRow := PySem.W.OpenLaw.row PySem.Challenge.rw_pagewise_k60_products
abbrev hk : PySem.W.Hook := Hy.hookP 6 ts fn
def ob (s : PySem.W.SharedT) : He.AlD := Hy.obsPG 6 ts fn (HandSHeadRun.getT s)
theorem ob_eq (s : PySem.W.SharedT) : ob s = hk.obs s.abs := Hy.obsPG_eq (HandSHeadRun.getT_eq s)
def loose : List Str := (["MAX_SIZE", "MAX_INPUT", "PageError", "InvalidRow", "InvalidNumber"] : List Str) ++ gn
theorem run (w : World) : HandSHeadRun.RunEq R (PySem.W.view R.prog [29]) hk ob 8000 loose w := by
  intro os
  kernel_rfl
end K60

/-! tuple * int, once or not at all. -/
namespace Tp
open PySem PySem.Spec PyProof.Rows L2
open AutoSeq1 (wpAny_loadPart')
/-- t * k, t of at least one item, k at most 1 -/
def rRep1 (K : PySem.W.Frag) : R2 := fun x y H Q => ∃ t k xs, x = .ref t ∧ y = .int k ∧ SqT K H t xs ∧ xs ≠ [] ∧ -(2 ^ 63) ≤ k ∧ k ≤ 1 ∧ (k = 1 → Q (.ref t) H) ∧ (k ≤ 0 → ∀ p, H p = none → Q (.ref p) (upd H p (.tup [])))
end Tp

/-! a dict != a tuple; data != data, a dict on the left against a tuple; tuple * int of any number. -/
namespace Tp
open PySem PySem.Spec PyProof.Rows L2 Rp
open AutoSeq1 (wpAny_loadPart')
/-- a tracked dict != a tuple -/
def rNeDT (K : PySem.W.Frag) : R2 := fun x y H Q => ∃ a b kvs ys, x = .ref a ∧ y = .ref b ∧ Rd H a (.dK kvs) ∧ SqT K H b ys ∧ Q (.bl true) H
/-- data != data where either both can be laid, or a dict stands against a tuple -/
def rNeA (K : PySem.W.Frag) : R2 := fun x y H Q => rNeD K x y H Q ∨ rNeDT K x y H Q
/-- data != (), where it is not () -/
def rNeE (K : PySem.W.Frag) : R2 := fun x y H Q => ∃ (d : PyData) (b : Addr), y = .ref b ∧ Dt K H x d ∧ SqT K H b [] ∧ d ≠ .tuple [] ∧ Q (.bl true) H
/-- t * k, t of at least one item -/
def rRepA (K : PySem.W.Frag) : R2 := fun x y H Q => ∃ t k xs, x = .ref t ∧ y = .int k ∧ SqT K H t xs ∧ xs ≠ [] ∧ -(2 ^ 63) ≤ k ∧ k ≤ 1000 ∧ xs.length ≤ 1000 ∧
  ∀ H' p, Same H H' → SqT K H' p (List.replicate k.toNat xs).flatten → Q (.ref p) H'
end Tp
namespace Rp
open PySem PySem.Spec PyProof.Rows L2
/-- data of so many signs, so deep -/
def Sz (e b : Nat) (d : PyData) : Prop := d.showable = true ∧ d.depth ≤ e ∧ d.shown.length ≤ b
theorem Sz.mono {e b e' b' : Nat} {d : PyData} (h : Sz e b d) (he : e ≤ e') (hb : b ≤ b') : Sz e' b' d := ⟨h.1, Nat.le_trans h.2.1 he, Nat.le_trans h.2.2 hb⟩
theorem sz_all {e b : Nat} : ∀ ds : List PyData, (∀ d, d ∈ ds → Sz e b d) → PyData.showableAll ds = true ∧ PyData.depthAll ds ≤ e ∧ ((PyData.shownAll ds).map (·.length)).sum ≤ b * ds.length ∧ (PyData.shownAll ds).length = ds.length
  | [], _ => ⟨rfl, Nat.zero_le _, Nat.zero_le _, rfl⟩
  | d :: r, h => by
    obtain ⟨h1, h2, h3⟩ := h d List.mem_cons_self
    obtain ⟨r1, r2, r3, r4⟩ := sz_all r fun x hx => h x (List.mem_cons_of_mem _ hx)
    refine ⟨?_, ?_, ?_, ?_⟩
    · simp only [PyData.showableAll, h1, r1, Bool.and_self]
    · simp only [PyData.depthAll]
      omega
    · simp only [PyData.shownAll, List.map_cons, List.sum_cons, List.length_cons, Nat.mul_add, Nat.mul_one]
      omega
    · simp only [PyData.shownAll, List.length_cons, r4]
theorem sz_tuple {e b c : Nat} {ds : List PyData} (h : ∀ d, d ∈ ds → Sz e b d) (hc : ds.length ≤ c) : Sz (e + 1) ((b + 2) * c + 3) (.tuple ds) := by
  obtain ⟨r1, r2, r3, r4⟩ := sz_all ds h
  have z := tupleText_len_le (PyData.shownAll ds)
  have m : (b + 2) * ds.length ≤ (b + 2) * c := Nat.mul_le_mul_left _ hc
  rw [Nat.add_mul] at m
  refine ⟨?_, ?_, ?_⟩
  · simp only [PyData.showable, r1]
  · simp only [PyData.depth]
    omega
  · simp only [PyData.shown]
    omega
end Rp

/-! Written data: an expression that gives data d, in one step. -/
namespace Rp
open PySem PySem.Spec PyProof.Rows L2 Ex Dr
/-- data made since H -/
def LDt (K : PySem.W.Frag) (H H' : Hp) (v : V) (d : PyData) : Prop := Dt K H' v d ∧ ∀ p, H p ≠ none → v ≠ .ref p ∧ Dt K (ct p H') v d
def LDts (K : PySem.W.Frag) (H H' : Hp) (vs : List V) (ds : List PyData) : Prop := DtAll K H' vs ds ∧ ∀ p, H p ≠ none → DtAll K (ct p H') vs ds
def tDat (K : PySem.W.Frag) (d : PyData) : TE := fun _ H Q => ∀ H' v, Same H H' → LDt K H H' v d → Q v H'
def aDat (K : PySem.W.Frag) (ds : List PyData) : TA := fun _ H Q => ∀ H' vs, Same H H' → LDts K H H' vs ds → Q vs H'
section
variable {X : Cx} {e : Expr} {es : List Expr} {d : PyData} {ds : List PyData} {pos : Pos}
end
/-- pick from a list of data -/
def spPickD (K : PySem.W.Frag) : Sp := fun vs H Q _ => ∃ (p : Addr) (v : V) (ds : List PyData) (m : Nat), vs = [.ref p, v] ∧ StrAt H p m ∧ m ≤ 100000 ∧ v ≠ .ref p ∧ Dt K (ct p H) v (.list ds) ∧ 0 < ds.length ∧ ds.length < 1000000 ∧
  ∀ H' (i : Nat) x d, ds[i]? = some d → Dt K (ct p H') x d → But p H H' → StrAt H' p (m + 1) → Q x H'
end Rp

/-! a lambda of one parameter, and sorted(.., key=lambda). -/
namespace LamK
open PySem PySem.Spec PyProof.Rows L2 LamX
/-- one parameter x, no other name of its own -/
structure LamP (sc scope : Scope) (x : Str) : Prop where
  kind : scope.kind = .function
  co : scope.isCoroutine = false
  gen : scope.isGenerator = false
  par : scope.names.lookup x = some .local
  cell : ∀ y ∈ scope.names, y.2 ≠ .cell
  loc : ∀ y ∈ scope.names, y.2 = .local → y.1 = x
  free : ∀ y ∈ scope.names, y.2 = .free → sc.names.lookup y.1 = some .cell ∨ sc.names.lookup y.1 = some .free
def lamPB (sc scope : Scope) (x : Str) : Bool :=
  decide (scope.kind = .function) && (!scope.isCoroutine && (!scope.isGenerator && (decide (scope.names.lookup x = some .local) && scope.names.all fun y => !decide (y.2 = .cell) && ((!decide (y.2 = .local) || decide (y.1 = x)) && (!decide (y.2 = .free) || (decide (sc.names.lookup y.1 = some .cell) || decide (sc.names.lookup y.1 = some .free)))))))
/-- the names of the lambda's body: x, then those of the maker, but for what the body does not see -/
def seenB (scope : Scope) (x : Str) (M N : List Str) : Bool := decide (M.length = N.length) && (M.zip N).all fun p => decide (scope.names.lookup p.1 = none) || (!decide (p.1 = x) && decide (p.1 = p.2))
def lamCxP (X : Cx) (A : Around) (outer : List Env) (s : Shared) (H : Hp) (E : XK) (scope : Scope) (f c' : Addr) (N' : List Str) : Cx := { lamCx X A outer s H E scope f c' with N := N' }
section
variable {X : Cx} {pins : List (Addr × Obj)} {σ : L2.St} {H : Hp} {s : Shared} {x : Str} {M : List Str} {v : V} {u : Value}
end
end LamK

/-! sorted(e, key=lambda x: body): the keys are tuples of integers. -/
namespace LamK
open PySem PySem.Spec PyProof.Rows L2 LamX Rp
def keyD (ns : List Int) : PyData := .tuple (ns.map PyData.int)
def sortV (xs : List V) (nss : List (List Int)) : List V := ((xs.zip nss).mergeSort (PySem.W.dataLe false fun p => keyD p.2)).map (·.1)
/-- tuples of these integers -/
inductive KeysAt (K : PySem.W.Frag) (H : Hp) : List V → List (List Int) → Prop
  | nil : KeysAt K H [] []
  | snoc {ks : List V} {nss : List (List Int)} {b : Addr} {ns : List Int} : KeysAt K H ks nss → Tn.SqN K H b (ns.map V.int) → KeysAt K H (ks ++ [.ref b]) (nss ++ [ns])
/-- what is asked of the list, of the lambda at each item, and of what follows -/
def sortIn (K : PySem.W.Frag) (T : List (Addr × Str)) (tb : TE) (σ : L2.St) (Q : VK) (v : V) (H1 : Hp) : Prop := ∃ (a : Addr) (xs : List V) (nss : List (List Int)), v = .ref a ∧ SqL K H1 a xs ∧ xs.length = nss.length ∧ xs.length ≤ 1000 ∧ ((∀ ns ∈ nss, ns ≠ []) ∨ nss.length ≤ 1) ∧ Tabs T H1 ∧
  (∀ (i : Nat) (x : V) (ns : List Int) (G : Hp), xs[i]? = some x → nss[i]? = some ns → ExtN H1 G → Tabs T G → tb (some x :: σ) G fun y G' => Same G G' ∧ ∃ b, y = .ref b ∧ Tn.SqN K G' b (ns.map V.int)) ∧
  ∀ (G : Hp) (p : Addr), ExtN H1 G → Tabs T G → G p = none → Q (.ref p) (upd G p (.lst (sortV xs nss)))
def tSortK (K : PySem.W.Frag) (T : List (Addr × Str)) (te tb : TE) : TE := fun σ H Q => te σ H (sortIn K T tb σ Q)
section
variable {X : Cx} {T : List (Addr × Str)} {c P : Addr} {x : Str} {params : Arguments} {body e : Expr} {scope : Scope} {M : List Str} {lpos kpos p pos : Pos} {te tb : TE} {k : Nat}
end
end LamK

/-! {tuple: value for target in iter if ..}: a dict whose keys are tuples of ints and texts. -/
namespace Tp
open PySem PySem.Spec PyProof.Rows L2
abbrev oDct : Obj := { cls := .type "dict", data := .dict #[] }
/-- D[y] = z, y a tuple: what follows -/
def putT (D : Addr) (y z : V) (G : Hp) (N : Hp → Prop) : Prop := ∃ (kvs : List (List Key × V)) (k : List Key) (b : Addr), y = .ref b ∧ G D = some (.dT kvs) ∧ G b = some (.tup (k.map kV)) ∧ kvs.length < sizeLine ∧ N (upd G D (.dT (putK kvs k z)))
def tDcT (wi : TI) (g : TG) (tt : TT) (tk tv : TE) (ow : List Nat) : TE := fun σ H Q => wi σ H fun J H1 => ∀ D, H1 D = none →
  ∃ W : Nat → Nat → Hp → Prop, (∃ m, W 0 m (upd H1 D (.dT []))) ∧ ∀ i m G, W i m G → (J.stop i G ∧ Q (.ref D) G) ∨
    (J.go i G ∧ ∃ Nx : Hp → Prop, (∀ G', Nx G' → ∃ m', m' < m ∧ W (i + 1) m' G') ∧ ∀ x G', J.yld i G x G' → g x (wipe σ ow) G' fun τ G2 => wipe τ ow = wipe σ ow ∧ tt τ G2 fun b G3 => if b = true then tk τ G3 fun y G4 => tv τ G4 fun z G5 => putT D y z G5 Nx else Nx G3)
section
variable {X : Cx}
end
end Tp

namespace K60
open PySem PySem.Spec PyProof.Rows L2 Dr Ex Rp
open He (ga ma)
abbrev FnP (K : PySem.W.Frag) (x : Str) (st : Stmt) (f : Addr) (fd : FuncData) : Prop := FunD K x x (defArgs st) (defBody st) (defScope st) [] [] f fd
abbrev FnM (K : PySem.W.Frag) (x q : Str) (st : Stmt) (f : Addr) (fd : FuncData) : Prop := FunD K x q (defArgs st) (defBody st) (defScope st) [] [] f fd
/-- what the module's names hold -/
structure TG (K : PySem.W.Frag) (mg : Str → Option Value) : Prop where
  f : ∀ x, x ∈ bn → mg x = none
  g : ∀ x, x ∈ gn → mg x = some (.ref (ga K x))
  c_MAX_SIZE : ∃ t, mg "MAX_SIZE" = some (.int 10 t)
  c_MAX_INPUT : ∃ t, mg "MAX_INPUT" = some (.int 100 t)
def rLenS (K : PySem.W.Frag) : List V → Hp → VK → Prop := fun xs H Q => ∃ p ys, xs = [V.ref p] ∧ (SqL K H p ys ∨ SqT K H p ys) ∧ Q (V.int (ys.length : Nat)) H
end K60

/-! streams, draws, picks. -/
namespace K60
open PySem PySem.Spec PyProof.Rows L2 Dr Ex Rp
open He (ga ma)
abbrev nStream : List Str := ["_law_script", "_law_at", "_law_cell", "_law_great", "_law_mixed"]
theorem scStream : FnScope nStream ["_law_script", "_law_at"] (defScope sStream) := ⟨rfl, rfl, rfl, by decide +kernel, rfl, by decide +kernel, by decide +kernel⟩
section
variable {P : Program} {w : World} {K : PySem.W.Frag} {mg : Str → Option Value} {base : Heap}
theorem ok_stream {f : Addr} {fd : FuncData} (F : FnP K "_law_stream" sStream f fd) (T : TG K mg) : FnOk P w K mg base CX0 1 f fd ["_law_script", "_law_at"] (spStream K) := by
  have tl := T.f "len" (by decide +kernel)
  have ti := T.f "int" (by decide +kernel)
  have ta := T.f "abs" (by decide +kernel)
  have tm := T.f "max" (by decide +kernel)
  refine F.ok scStream (fun vs H Q E h => ?_) (fun cdv A outer s H vs Q E hr h => ?_)
  · obtain ⟨a, ns, i, rfl, _⟩ := h
    rfl
  · obtain ⟨a, ns, i, rfl, hS, hlen, hi1, k⟩ := h
    refine ⟨_, PSs.nox (pss_cons (ps_set (i := 2) scStream.nd rfl (Or.inl rfl) (pe_op op_add (pe_op op_mul pe_int (pv 1)) pe_int))
      (pss_cons (ps_if (pt_cmpR op_lt (pv 1) (pe_callB call_len_seq (by rfl) tl PySem.boot_len (pa_cons (pv 0) pa_nil)) (nomark _)) (pss_one (ps_set (i := 2) scStream.nd rfl (Or.inl rfl) (pe_ix ix_list (pv 0) (pv 1) (fun _ _ => rfl)))) pss_nil)
      (pss_cons (ps_set (i := 3) scStream.nd rfl (Or.inl rfl) (pe_op op_modN (pe_callTy call_int1 (by rfl) ti (by decide +kernel) (pa_cons (pe_callB call_abs (by rfl) ta (by decide +kernel) (pa_cons (pv 2) pa_nil)) pa_nil)) (pe_op op_powW (pe_op op_pow pe_int pe_int) pe_int)))
      (pss_cons (ps_set (i := 4) scStream.nd rfl (Or.inl rfl) (pe_op op_add (pe_op op_add (pe_op op_add (pe_op op_mul (pe_op op_mod (pe_callTy call_int1 (by rfl) ti (by decide +kernel) (pa_cons (pv 3) pa_nil)) pe_int) pe_int) (pe_op op_mul pe_int (pv 1)))
        (pe_op op_mul pe_int (pe_callTy call_int1 (by rfl) ti (by decide +kernel) (pa_cons (pe_cmpR op_lt (pv 2) pe_int (nomark _)) pa_nil)))) pe_int))
      (pss_one (ps_ret (pe_lst (pa_cons (pe_callB (call_max2 rfl) (by rfl) tm (by decide +kernel) (pa_cons pe_int (pa_cons (pe_op op_sub (pv 3) (pe_op op_pow pe_int pe_int)) pa_nil)))
        (pa_cons (pe_op op_mod (pe_callTy call_int1 (by rfl) ti (by decide +kernel) (pa_cons (pv 4) pa_nil)) pe_int) (pa_cons pe_int pa_nil)))))))))), ?_⟩
    refine ⟨_, rfl, _, _, rfl, rfl, .inl ⟨by decide, by decide⟩, _, _, rfl, rfl, ?_⟩
    refine ⟨_, rfl, _, rfl, a, _, rfl, .inl hS, _, _, rfl, rfl, _, rfl, ?_⟩
    have g0 : (0 : Int) < (10 ^ Int.toNat 60) ^ Int.toNat 10 := by decide +kernel
    have g1 : ((10 ^ Int.toNat 60 : Int) ^ Int.toNat 10).natAbs < 2 ^ 2000 := by decide +kernel
    have g2 : (0 : Int) ≤ 10 ∧ (Builtin.Int.intBits (10 ^ Int.toNat 60) : Int) * 10 ≤ 2 ^ 27 := by decide +kernel
    have g3 : (0 : Int) < 10 ^ Int.toNat 18 := by decide +kernel
    have hgr : ∀ c : Int, 0 ≤ c.fmod ((10 ^ Int.toNat 60) ^ Int.toNat 10) ∧ c.fmod ((10 ^ Int.toNat 60) ^ Int.toNat 10) < (10 ^ Int.toNat 60) ^ Int.toNat 10 := by
      intro c
      rw [Int.fmod_eq_emod_of_nonneg _ (Int.le_of_lt g0)]
      exact ⟨Int.emod_nonneg _ (by omega), Int.emod_lt_of_pos _ g0⟩
    refine ite2 (fun hc => ?b1) (fun _ => ?b2)
    case' b2 =>
      refine ⟨_, rfl, _, rfl, .inl ⟨_, rfl, _, _, rfl, rfl, ⟨by decide, by decide, by decide⟩, ?_⟩⟩
    case' b1 =>
      have hlt : i < ns.length := by
        have := of_decide_eq_true hc
        rw [List.length_map] at this
        omega
      refine ⟨_, rfl, _, rfl, a, _, _, V.int ns[i], rfl, rfl, hS, atI_nat (j := i) (by rw [List.getElem?_map, List.getElem?_eq_getElem hlt]; rfl), ?_⟩
      refine ⟨_, rfl, _, rfl, .inl ⟨_, rfl, _, _, rfl, rfl, ⟨by decide, by decide, by decide⟩, ?_⟩⟩
    all_goals
      refine ⟨_, _, rfl, rfl, g2, _, _, rfl, rfl, by (intro z; rw [z] at g0; exact absurd g0 (by decide)), ?_⟩
      refine ⟨_, rfl, .inl ⟨_, rfl, ?_⟩⟩
      refine ⟨_, _, rfl, rfl, (by show (0 : Int) < 2147483543; decide), ?_⟩
      refine ⟨_, _, rfl, rfl, .inr ⟨by decide, by decide⟩, ?_⟩
      refine ⟨_, rfl, _, _, rfl, rfl, .inl ⟨by decide, by decide⟩, ?_⟩
      refine ⟨_, _, rfl, rfl, ?_⟩
      refine ⟨_, rfl, _, _, rfl, rfl, .inr ⟨_, rfl, ?_⟩⟩
      refine ⟨_, _, rfl, rfl, .inl ⟨by decide, by decide⟩, ?_⟩
      refine ⟨_, _, rfl, rfl, ?_⟩
      refine ⟨_, _, rfl, rfl, ?_⟩
      refine ⟨_, rfl, _, _, rfl, rfl, ⟨by decide, by decide, by decide⟩, _, _, rfl, rfl, _, _, rfl, ?_⟩
      refine ⟨_, rfl, .inl ⟨_, rfl, _, _, rfl, rfl, (by show (0 : Int) < 2147483399; decide), ?_⟩⟩
      refine ⟨(by show 3 ≤ sizeLine; decide), fun p hp => ?_⟩
      refine k _ p (fun b o e => by rw [upd_ne (ne_of_none e hp)]; exact e) hp ⟨_, _, 0, upd_same, ?_, ?_, Int.emod_nonneg _ (by decide), ?_, Int.le_refl _⟩
      rotate_right
      · exact Int.lt_trans (Int.emod_lt_of_pos _ (by decide)) (by decide)
      all_goals
        have q := hgr
        generalize (10 ^ Int.toNat 60 : Int) ^ Int.toNat 10 = G at q g0 g1
        generalize (10 : Int) ^ Int.toNat 18 = D at g3
        first
          | (have q1 := q (if (ns[i] : Int) < 0 then -ns[i] else ns[i])
             generalize Int.fmod _ G = z at q1
             split <;> omega)
          | (have q1 := q (if (19 * (i : Int) + 5) < 0 then -(19 * (i : Int) + 5) else 19 * (i : Int) + 5)
             generalize Int.fmod _ G = z at q1
             split <;> omega)
end
abbrev nDraw : List Str := ["_law_stream_here", "_law_high", "_law_found", "_law_one", "_law_two"]
theorem scDraw : FnScope nDraw ["_law_stream_here", "_law_high"] (defScope sDraw) := ⟨rfl, rfl, rfl, by decide +kernel, rfl, by decide +kernel, by decide +kernel⟩
section
variable {P : Program} {w : World} {K : PySem.W.Frag} {mg : Str → Option Value} {base : Heap}
theorem ok_draw {f : Addr} {fd : FuncData} (F : FnP K "_law_draw" sDraw f fd) (T : TG K mg) : FnOk P w K mg base CX0 1 f fd ["_law_stream_here", "_law_high"] spDraw := by
  have ti := T.f "int" (by decide +kernel)
  refine F.ok scDraw (fun vs H Q E h => ?_) (fun cdv A outer s H vs Q E hr h => ?_)
  · obtain ⟨p, n, m, rfl, _⟩ := h
    rfl
  · obtain ⟨p, n, m, rfl, ⟨a, b, c, hp, a0, a1, b0, b1, c0⟩, hm, n0, n1, k⟩ := h
    refine ⟨_, PSs.nox (pss_cons (ps_if (pt_cmpR op_gt (pe_ix ix_list (pv 0) pe_int (fun _ _ => rfl)) pe_int (nomark _))
        (pss_cons (ps_set (i := 2) scDraw.nd rfl (Or.inl rfl) (pe_op op_modN (pe_callTy call_int1 (by rfl) ti (by decide +kernel) (pa_cons (pe_ix ix_list (pv 0) pe_int (fun _ _ => rfl)) pa_nil)) (pv 1)))
          (pss_cons (ps_asg (pe_op op_fdivW (pe_ix ix_list (pv 0) pe_int (fun _ _ => rfl)) (pv 1)) (pg_sub (pv 0) pe_int set_list)) (pss_one (ps_ret (pv 2))))) pss_nil)
      (pss_cons (ps_asg (pe_op op_add (pe_ix ix_list (pv 0) pe_int (fun _ _ => rfl)) pe_int) (pg_sub (pv 0) pe_int set_list))
      (pss_cons (ps_set (i := 3) scDraw.nd rfl (Or.inl rfl) (pe_op op_mod (pe_callTy call_int1 (by rfl) ti (by decide +kernel) (pa_cons (pe_op op_add (pe_ix ix_list (pv 0) pe_int (fun _ _ => rfl)) (pe_op op_mul pe_int (pe_ix ix_list (pv 0) pe_int (fun _ _ => rfl)))) pa_nil)) pe_int))
      (pss_cons (ps_set (i := 4) scDraw.nd rfl (Or.inl rfl) (pe_op op_add (pe_op op_mul (pe_op op_mod (pe_callTy call_int1 (by rfl) ti (by decide +kernel) (pa_cons (pe_op op_mul (pv 3) (pv 3)) pa_nil)) pe_int) (pv 3)) (pe_op op_mul pe_int (pe_ix ix_list (pv 0) pe_int (fun _ _ => rfl)))))
      (pss_cons (ps_set (i := 4) scDraw.nd rfl (Or.inl rfl) (pe_op op_mod (pe_callTy call_int1 (by rfl) ti (by decide +kernel) (pa_cons (pv 4) pa_nil)) pe_int))
      (pss_one (ps_ret (pe_op op_modN (pe_callTy call_int1 (by rfl) ti (by decide +kernel) (pa_cons (pe_op op_fdiv (pv 4) pe_int) pa_nil)) (pv 1))))))))), ?_⟩
    have hS := SqL.of (K := K) hp
    refine ⟨_, rfl, p, _, _, V.int a, rfl, rfl, hS, atI_nat (j := 0) rfl, _, _, rfl, rfl, _, rfl, ?_⟩
    refine ite2 (fun hc => ?_) (fun _ => ?_)
    · refine ⟨_, rfl, p, _, _, V.int a, rfl, rfl, hS, atI_nat (j := 0) rfl, .inl ⟨_, rfl, _, rfl, _, _, rfl, rfl, (by omega), ?_⟩⟩
      refine ⟨_, rfl, p, _, _, V.int a, rfl, rfl, hS, atI_nat (j := 0) rfl, _, rfl, _, _, rfl, rfl, wide_div n0 (b := 20) (by omega) (by decide) (by decide), ?_⟩
      refine ⟨_, rfl, p, _, _, 0, rfl, rfl, hp, rfl, _, rfl, ?_⟩
      have q : a.fmod n = a % n := Int.fmod_eq_emod_of_nonneg _ (by omega)
      refine k _ _ ?_ ?_ (But.upd _ _ _) ⟨_, b, c, upd_same, ?_, ?_, b0, b1, c0⟩
      · show 0 ≤ a.fmod n
        rw [q]
        exact Int.emod_nonneg _ (by omega)
      · show a.fmod n < n
        rw [q]
        exact Int.emod_lt_of_pos _ n0
      · exact Int.ediv_nonneg a0 (by omega)
      · have h1 : a / n ≤ a := Int.ediv_le_self _ a0
        have h2 : 0 ≤ a / n := Int.ediv_nonneg a0 (by omega)
        exact wide_le h2 h1 a1
    · refine ⟨_, rfl, p, _, _, V.int c, rfl, rfl, hS, atI_nat (j := 2) rfl, _, _, rfl, rfl, ?_⟩
      refine ⟨_, rfl, p, _, _, 2, rfl, rfl, hp, rfl, ?_⟩
      have hp2 : SqL K (upd H p (.lst [.int a, .int b, .int (c + 1)])) p [.int a, .int b, .int (c + 1)] := SqL.of upd_same
      refine ⟨_, rfl, p, _, _, V.int b, rfl, rfl, hp2, atI_nat (j := 1) rfl, _, rfl, p, _, _, V.int (c + 1), rfl, rfl, hp2, atI_nat (j := 2) rfl, _, _, rfl, rfl, .inl ⟨by decide, by decide⟩, _, _, rfl, rfl, .inl ⟨_, rfl, ?_⟩⟩
      refine ⟨_, _, rfl, rfl, (by show (0 : Int) < 2305843009213693951; decide), ?_⟩
      have x0 : 0 ≤ (b + 1000117 * (c + 1)) % 2305843009213693951 := Int.emod_nonneg _ (by decide)
      have x1 : (b + 1000117 * (c + 1)) % 2305843009213693951 < 2305843009213693951 := Int.emod_lt_of_pos _ (by decide)
      have y0 : ∀ z : Int, 0 ≤ z % 2305843009213693921 := fun z => Int.emod_nonneg _ (by decide)
      have y1 : ∀ z : Int, z % 2305843009213693921 < 2305843009213693921 := fun z => Int.emod_lt_of_pos _ (by decide)
      refine ⟨_, rfl, _, rfl, _, _, rfl, rfl, .inl ⟨?u1, ?u2⟩, .inl ⟨_, rfl, _, _, rfl, rfl, (by show (0 : Int) < 2305843009213693921; decide), _, rfl, _, _, rfl, rfl, .inl ⟨?u3, ?u4⟩, ?rest⟩⟩
      case u1 => exact Int.lt_of_lt_of_le (by decide) x0
      case u2 => exact Int.lt_trans x1 (by decide)
      case u3 => exact Int.lt_of_lt_of_le (by decide) (y0 _)
      case u4 => exact Int.lt_trans (y1 _) (by decide)
      refine ⟨_, rfl, p, _, _, V.int (c + 1), rfl, rfl, hp2, atI_nat (j := 2) rfl, _, _, rfl, rfl, .inl ⟨by decide, by decide⟩, _, _, rfl, rfl, ?_⟩
      refine ⟨_, rfl, .inl ⟨_, rfl, _, _, rfl, rfl, (by show (0 : Int) < 2305843009213693907; decide), ?_⟩⟩
      refine ⟨_, rfl, _, _, rfl, rfl, ⟨by decide, by decide⟩, .inl ⟨_, rfl, _, rfl, _, _, rfl, rfl, (by omega), ?_⟩⟩
      refine k _ _ ?_ ?_ (But.upd _ _ _) ⟨a, b, c + 1, upd_same, a0, a1, b0, b1, by omega⟩
      · rw [Int.fmod_eq_emod_of_nonneg _ (by omega)]
        exact Int.emod_nonneg _ (by omega)
      · rw [Int.fmod_eq_emod_of_nonneg _ (by omega)]
        exact Int.emod_lt_of_pos _ n0
abbrev nPick : List Str := ["_law_stream_here", "_law_items"]
theorem scPick : FnScope nPick ["_law_stream_here", "_law_items"] (defScope sPick) := ⟨rfl, rfl, rfl, by decide +kernel, rfl, by decide +kernel, by decide +kernel⟩
theorem ok_pick {f fD : Addr} {fd fdD : FuncData} (F : FnP K "_law_pick" sPick f fd) (FD : FnP K "_law_draw" sDraw fD fdD) (T : TG K mg) (gD : mg "_law_draw" = some (.ref fD)) : FnOk P w K mg base CX0 2 f fd ["_law_stream_here", "_law_items"] (spPick K) := by
  have tl := T.f "len" (by decide +kernel)
  have G : FnOk P w K mg base CX0 1 fD fdD ["_law_stream_here", "_law_high"] spDraw := ok_draw FD T
  have bD : Binds K fdD ["_law_stream_here", "_law_high"] [] := FD.bindsN fun _ _ _ _ _ _ us hl => match us, hl with | [_, _], _ => rfl
  refine F.ok scPick (fun vs H Q E h => ?_) (fun cdv A outer s H vs Q E hr h => ?_)
  · obtain ⟨p, q, xs, m, rfl, _⟩ := h
    rfl
  · obtain ⟨p, q, xs, m, rfl, hS, hm, npq, hq, l0, l1, k⟩ := h
    refine ⟨_, PSs.nox (pss_one (ps_ret (pe_ix ix_list (pv 1) (pe_call G hr rfl gD FD.kp bD .nil pass0 (pa_cons (pv 0) (pa_cons (pe_callB call_len_seq (by rfl) tl PySem.boot_len (pa_cons (pv 1) pa_nil)) pa_nil))) (fun _ _ => rfl)))), ?_⟩
    refine ⟨_, rfl, _, rfl, _, rfl, q, _, rfl, .inl hq, p, _, m, rfl, hS, hm, (by omega), (by omega), fun H' v v0 v1 hb hs => ?_⟩
    have hq' : SqL K H' q xs := by
      rcases hq with (h | ⟨o, h⟩) | h
      · exact .inl (.inl (hb _ _ (Ne.symm npq) h))
      · exact .inl (.inr ⟨o, hb _ _ (Ne.symm npq) h⟩)
      · exact .inr h
    have hv : v.toNat < xs.length := by omega
    have ev : ((v.toNat : Nat) : Int) = v := by omega
    refine ⟨q, _, _, xs[v.toNat], rfl, rfl, hq', ?_, ?_⟩
    · have z := atI_nat (xs := xs) (j := v.toNat) (List.getElem?_eq_getElem hv)
      rw [ev] at z
      exact z
    · exact k H' v.toNat _ (List.getElem?_eq_getElem hv) hb hs
end
end K60

/-! law_k60: a base of data ways. -/
namespace K60
end K60

/-! A def with a star parameter: what is left over is a tuple with no dict. -/
namespace Tn
open PySem PySem.Spec PySem.Calls PyProof.Rows L2
section
variable {CX : CXT} {P : Program} {w : World} {K : PySem.W.Frag} {mg : Str → Option Value} {base : Heap}
end
end Tn

/-! Data ways: truth of data, defs with *names. -/
namespace Dw
open PySem PySem.Spec PySem.W PySem.Calls PyProof.Rows L2 Dr Rp
open He (ga)
variable [Dw.LamReg]
section
variable {X : Cx}
def truD : PyData → Option Bool
  | .none => some false
  | .bool b => some b
  | .int i => some (i != 0)
  | .list ds => some (!ds.isEmpty)
  | .tuple ds => some (!ds.isEmpty)
  | .dict ds => some (!ds.isEmpty)
  | .str x => if x.length ≤ sizeLine then some ((x.length : Int) != 0) else none
def wTru : EV → (Bool → Prop) → Prop
  | .py d, P => ∃ b, truD d = some b ∧ P b
  | _, _ => False
end
section
variable {P : Program} {w : World} {K : PySem.W.Frag} {mg : Str → Option Value} {base : Heap} {CX : CXT}
def wDefS (n j : Nat) (f : WS) : WD := fun es P => ∃ ws ds, es = ws ++ ds.map EV.py ∧ ws.length = j ∧ ds.length ≤ sizeLine ∧ f (startE n (ws ++ [.py (.tuple ds)])) { nx := fun _ => P (.py .none), rt := P }
end
section
variable {X : Cx} {m mr : Mode} {CX : CXT} {k : Nat} {f : Addr} {sp : Sp} {E : XK} {g : WD} {fa : WA} {x : Str} {q pos : Pos} {e : Expr} {es : List Expr} {t : TA}
end
end Dw

/-! sorted of a tuple of data. -/
namespace Dw
open PySem PySem.Spec PySem.W PySem.Calls PyProof.Rows L2 Dr Rp
variable [Dw.LamReg]
section
variable {prog : Program} {w : World} {A : Around} {E : Value → Shared → Prop} {s : Shared}
theorem collect_tuple {l : Addr} {vs : List Value} {Q : List Value → Shared → Prop} {o : Obj} {n : Nat} (ho : s.heap.get? l = some o) (hc : o.cls = .type "tuple") (hd : o.data = .seq vs.toArray n)
    (h : Q vs { s with heap := (s.heap.push (seqObj "list" #[] 0)).update s.heap.objs.size (Obj.mapSeq (· ++ vs.toArray)) }) (hsz : vs.length ≤ sizeLine) :
    wpAny (model prog w) A (collect (.ref l)) Q E s := by
  unfold collect
  refine wpAny_bind (wpAny_runValue (codeAny_builtin entry_proto_collect' ?_))
  show wpAny _ _ (do again (.builtin "list.__iadd__" ⟨[← newList [], .ref l], []⟩)) _ _ s
  refine wpAny_bind (wpAny_newList (wpAny_pure ⟨Code.quiet_builtin _ (by decide +kernel), codeAny_builtin entry_list_iadd' ?_⟩))
  show wpAny _ _ (Builtin.List.listExtendWith (.ref s.heap.objs.size) (.ref l) (.ref s.heap.objs.size)) _ _ { s with heap := s.heap.push (seqObj "list" #[] 0) }
  unfold Builtin.List.listExtendWith
  have ho' : (s.heap.push (seqObj "list" #[] 0)).get? l = some o := Heap.get?_push_of_some _ ho
  refine wpAny_bind (wpAny_typeOf (T := "tuple") ⟨o, ho', hc⟩ ?_)
  rw [if_pos (by simp)]
  refine wpAny_bind (listItems_at ho' hd ?_)
  refine wpAny_bind (listItems_at (xs := #[]) (n := 0) (Heap.get?_push_size _ rfl) rfl ?_)
  rw [if_neg (by simp)]
  refine wpAny_bind (listUpdate_at (xs := #[]) (n := 0) (Heap.get?_push_size _ rfl) rfl ?_ (Nat.zero_le _) (by show (#[] ++ vs.toArray).size ≤ sizeLine + 1; simp only [Array.size_append, List.size_toArray, List.length_nil]; omega))
  refine wpAny_pure ?_
  show wpAny (model prog w) A (do
      let o ← load s.heap.objs.size
      match o.data with
      | .seq xs _ => pure xs.toList
      | _ => unsupported "internal:collect") Q E { s with heap := (s.heap.push (seqObj "list" #[] 0)).update s.heap.objs.size (Obj.mapSeq (· ++ vs.toArray)) }
  refine wpAny_bind (wpAny_load (get?_update_seq (Heap.get?_push_size _ rfl) _) ?_)
  show wpAny _ _ (pure ((#[] : Array Value) ++ vs.toArray).toList) Q E _
  rw [show ((#[] : Array Value) ++ vs.toArray).toList = vs by simp]
  exact wpAny_pure h
theorem sorted_dataT {β : Type} {R : Value → β → Prop} {enc : β → PyData} {bs : List β} {vs : List Value} {l : Addr} {Q : Value → Shared → Prop} {o : Obj} {n : Nat} (ho : s.heap.get? l = some o) (hc : o.cls = .type "tuple") (hd : o.data = .seq vs.toArray n) (e : EachIs R vs bs) (er : EachIs (fun v b => ∃ as, Reads s.heap v (enc b) as) vs bs) (hal : AllAlike (bs.map enc)) (hk : Sortable (bs.map enc)) (hL : bs.length ≤ sizeLine)
    (hu : ∀ b, b ∈ bs → A.units + 2 + (enc b).depth < cLine) (h : ∀ out, out.length = bs.length → EachIs R out (bs.mergeSort (dataLe false enc)) → Q (.ref (s.heap.objs.size + 1)) { s with heap := sortedAll s.heap vs (List.toArray out) }) :
    wpAny (model prog w) A (call (.builtin "sorted") [.ref l]) Q E s := by
  have er' : EachIs (fun v b => ∃ as, Reads (sortingHeap (copyHeap s.heap vs) (s.heap.objs.size + 1) vs) v (enc b) as) vs bs := er.mono fun _ _ ⟨as, r⟩ => ⟨as, PyProof.Rows.Reads.keeps (fun _ _ => sorting_copy_old) r⟩
  have S := SortsAt.data (prog := prog) (w := w) (A := A.in1.in1) (s := { s with heap := sortingHeap (copyHeap s.heap vs) (s.heap.objs.size + 1) vs }) (each_map (R := fun v d => ∃ as, Reads (sortingHeap (copyHeap s.heap vs) (s.heap.objs.size + 1) vs) v d as) enc er') hal hk (bound_map hu)
  have hL2 : vs.length ≤ sizeLine := by rw [e.length]; exact hL
  refine call_function_entry_kw kind_sorted plain_sorted entry_sorted (args_sorted1 _) ?_
  unfold Builtin.«sorted»
  refine wpAny_bind (m := checkCount "sorted" 1 1 _) (wpAny_pure ?_)
  refine wpAny_bind (collect_tuple ho hc hd ?_ hL2)
  refine wpAny_bind (wpAny_newList ?_ hL2)
  have hsz : ((s.heap.push (seqObj "list" #[] 0)).update s.heap.objs.size (Obj.mapSeq (· ++ vs.toArray))).objs.size = s.heap.objs.size + 1 := by
    rw [Heap.size_update, PyProof.Rows.size_push']
  show wpAny _ _ _ _ _ { s with heap := copyHeap s.heap vs }
  rw [hsz]
  refine wpAny_bind (wpAny_holding (wpAny_call_entry_kw slot_list_sort ⟨_, copyHeap_at s.heap vs, rfl⟩ entry_list_sort ?body (args_list_sort _)))
  case body =>
    show wpAny (model prog w) A.in1.in1 (Builtin.«list.sort» ⟨[.ref (s.heap.objs.size + 1)], []⟩) _ _ _
    refine list_sort_vals (s := { s with heap := copyHeap s.heap vs }) (copyHeap_at s.heap vs) S hL2 ⟨_, rfl, wpAny_pure ⟨_, rfl, ?_⟩⟩
    exact h _ (by rw [sortVals_length false rfl]; exact e.length) (sortVals_data false e er' hal)
end
section
variable {X : Cx} {m : Mode}
theorem cr_sortedVT (hu : X.A.units + 64 < cLine) : CallR X (.builtin "sorted") (fun xs H Q => ∃ a vs ds, xs = [V.ref a] ∧ SqT X.K H a vs ∧ DpAll X.K H vs ds ∧ vs.length = ds.length ∧ AllAlike ds ∧ Sortable ds ∧ (∀ d ∈ ds, d.depth ≤ 50) ∧
    ∀ p, H p = none → Q (.ref p) (upd H p (.lst (((vs.zip ds).mergeSort (dataLe false (·.2))).map (·.1))))) := by
  intro pins s σ H xs us Q I r h
  obtain ⟨a, vs, ds, rfl, hs, hr, hlen, hal, hk, hd, q⟩ := h
  obtain ⟨its, rv, ⟨o, ho, hc, n, hdat⟩, hz⟩ := I.tuple hs
  rw [Vals.ref1 r]
  obtain ⟨e1, e2⟩ := prs_reads (h := s.heap) (K := X.K) I hr rv
  have es : (vs.zip ds).map (·.2) = ds := zip_snd hlen
  have ll : (vs.zip ds).length = vs.length := by rw [List.length_zip, hlen, Nat.min_self]
  refine sorted_dataT (R := fun u (q : V × PyData) => RelV q.1 u) (enc := fun q : V × PyData => q.2) (bs := vs.zip ds) ho hc hdat e1 e2 (by rw [es]; exact hal) (by rw [es]; exact hk) (by rw [ll]; exact hz) (fun z hz => ?_) fun out ho he => ?_
  · have := hd z.2 (by rw [← es]; exact List.mem_map.mpr ⟨z, hz, rfl⟩)
    omega
  · obtain ⟨ep, he'⟩ := PyProof.Rows.sortedAll_at s.heap its out.toArray
    refine ⟨.ref _, upd H (s.heap.objs.size + 1) (.lst _), I.laid (t' := s.toks) (fun _ _ => PyProof.Rows.sortedAll_old) (Nat.le_succ _) ⟨?_, _, ep, each_vals he, he'⟩, rfl, q _ (I.hok.fresh (Nat.le_succ _))⟩
    rw [List.length_map, List.length_mergeSort, ll]
    exact hz
/-- sorted of a list or a tuple -/
def brSorted2 (hu : X.A.units + 64 < cLine) : BR X m (.builtin "sorted") wSorted where
  r := _
  c := cr_or (cr_sortedV hu) (cr_sortedVT hu)
  s := fun L p H0 H vs es P Q o ra hg k => by
    unfold wSorted at hg
    split at hg
    · obtain ⟨v, rfl, r⟩ := paired1 ra
      obtain ⟨a, vs, rfl, h1, h2⟩ := r.list
      exact .inl (brSorted_s o hg h2 k (.inl h1))
    · obtain ⟨v, rfl, r⟩ := paired1 ra
      obtain ⟨a, vs, rfl, h1, h2⟩ := r.tup
      exact .inr ⟨a, vs, _, rfl, h1, dps_of _ _ (al_nod hg.1.1) (dts_all h2), (DtAll.len h2).symm, hg.1.2.1, hg.1.2.2.1, hg.1.2.2.2, fun r hr => Go.lst k o hg.2 (sort_dts h2) hr⟩
    · exact hg.elim
end
end Dw

/-! Data ways: dict of a dict or of pairs; dicts compared. -/
namespace Dw
open PySem PySem.Spec PySem.W PySem.Calls PyProof.Rows L2 Dr Rp
open He (ga)
variable [Dw.LamReg]
/-- pairs (key, value) -/
def pairsM : List PyData → Option (List (Key × PyData))
  | [] => some []
  | .tuple [k, d] :: r => match keyD k, pairsM r with
    | some key, some ms => some ((key, d) :: ms)
    | _, _ => none
  | _ :: _ => none
theorem pairsM_inv {d : PyData} {r : List PyData} {ms : List (Key × PyData)} (h : pairsM (d :: r) = some ms) : ∃ k key d' ms', d = .tuple [k, d'] ∧ keyD k = some key ∧ pairsM r = some ms' ∧ ms = (key, d') :: ms' := by
  unfold pairsM at h
  split at h
  · exact absurd h (by simp_all)
  · rename_i k d' r' e
    injection e with e1 e2
    subst e1 e2
    split at h
    · rename_i key ms' h1 h2
      cases h
      exact ⟨_, key, _, ms', rfl, h1, h2, rfl⟩
    · cases h
  · cases h
def wDictA : List EV → (EV → Prop) → Prop
  | [.py (.dict ds)], P => P (.py (.dict ds))
  | [.py (.list xs)], P => ∃ ms, pairsM xs = some ms ∧ P (.py (.dict (mergeD [] ms)))
  | _, _ => False
theorem key_of {K : PySem.W.Frag} {G : Hp} {v : V} {d : PyData} {k : Key} (h : Dt K G v d) (e : keyD d = some k) : v = kV k := by
  unfold keyD at e
  split at e
  · cases e
    cases h
    rfl
  · cases e
    cases h
    rfl
  · cases e
theorem pairs_in {K : PySem.W.Frag} {L : Addr → Prop} {H : Hp} : ∀ {vs : List V} {xs : List PyData} {ms : List (Key × PyData)}, DtAll K (ctL L H) vs xs → pairsM xs = some ms →
    ∃ (ps : List Addr) (kvs : List (Key × V)), vs = ps.map V.ref ∧ Paired (fun p kv => SqT K H p [kV kv.1, kv.2]) ps kvs ∧ Paired (fun (a : Key × V) (b : Key × PyData) => a.1 = b.1 ∧ Dt K (ctL L H) a.2 b.2) kvs ms
  | _, [], _, h, e => by
    cases h
    cases e
    exact ⟨[], [], rfl, .nil, .nil⟩
  | _, d :: r, _, h, e => by
    obtain ⟨k, key, d', ms', rfl, h1, h2, rfl⟩ := pairsM_inv e
    cases h with
    | cons a t =>
      obtain ⟨ps, kvs, rfl, g1, g2⟩ := pairs_in t h2
      cases a with
      | tup hq ha =>
        cases ha with
        | cons a1 ha =>
          cases ha with
          | cons a2 ha =>
            cases ha
            cases key_of a1 h1
            exact ⟨_ :: ps, (key, _) :: kvs, rfl, .cons (SameR.sqn ctL_all hq).t g1, .cons ⟨rfl, a2⟩ g2⟩
section
variable {X : Cx} {m : Mode}
def brDictA (hcalm : X.calm = true) : BR X m (.type "dict") wDictA where
  r := _
  c := cr_or call_dictD (call_dictP hcalm)
  s := fun L p H0 H vs es P Q o ra hg k => by
    unfold wDictA at hg
    split at hg
    · obtain ⟨v, rfl, r⟩ := paired1 ra
      obtain ⟨a, kvs, rfl, h1, h2⟩ := r.dict
      exact .inl ⟨a, kvs, rfl, h1, fun l hl => Go.dic k o hg h2 hl⟩
    · obtain ⟨v, rfl, r⟩ := paired1 ra
      obtain ⟨ms, hm, hP⟩ := hg
      obtain ⟨a, xs, rfl, h1, h2⟩ := r.list
      obtain ⟨ps, kvs, rfl, g1, g2⟩ := pairs_in h2 hm
      exact .inr ⟨a, ps, kvs, rfl, .inl h1, g1, fun q hq => Go.dic k o hP (merge_dts g2 .nil) hq⟩
    · exact hg.elim
end
/-- the pairs of one dict found in another: all, none: what is asked cannot be said -/
def eqKv (es : List (PyData × PyData)) : List (PyData × PyData) → Option Bool
  | [] => some true
  | (k, d) :: r => match keyD k with
    | none => none
    | some key => match dGet es key with
      | none => some false
      | some d' => if (eqOk d && eqOk d') = true then (eqKv es r).map fun b => PyData.eqv d d' && b else none
section
variable {X : Cx} {pins : List (Addr × Obj)} {σ : L2.St} {H : Hp} {s : Shared}
def rDD (K : PySem.W.Frag) (neg : Bool) : R2 := fun x y H Q => ∃ a b ks ls ds es c, x = .ref a ∧ y = .ref b ∧ Rd H a (.dK ks) ∧ Rd H b (.dK ls) ∧ DtKv K H ks ds ∧ DtKv K H ls es ∧ eqKv es ds = some c ∧ Q (.bl (xor neg (ds.length == es.length && c))) H
end
def wEqDD (neg : Bool) : EV → EV → (EV → Prop) → Prop
  | .py (.dict ds), .py (.dict es), P => ∃ c, eqKv es ds = some c ∧ P (.py (.bool (xor neg (ds.length == es.length && c))))
  | _, _, _ => False
section
variable {X : Cx}
end
/-- texts compared -/
def wEqS (neg : Bool) : EV → EV → (EV → Prop) → Prop
  | .py (.str a), .py (.str b), P => P (.py (.bool (xor neg (decide (a = b)))))
  | _, _, _ => False
section
variable {X : Cx}
end
end Dw

/-! Data ways: d[k] = e and xs[j] = e of what a name alone holds; y = xs.pop(j). -/
namespace Dw
open PySem PySem.Spec PySem.W PySem.Calls PyProof.Rows L2 Dr Rp
open He (ga)
variable [Dw.LamReg]
section
variable {X : Cx} {mr : Mode}
/-- x[k] = e, x a dict that it alone holds: e first, then k -/
def wSetD (i : Nat) (fk f : WF) : WS := fun ρ kk => ∃ ds, ρ[i]? = some (.own (.dict ds)) ∧ f ρ fun e => fk ρ fun y => match e, y with
  | .py d, .py kd => ∃ key, keyD kd = some key ∧ ds.length < sizeLine ∧ kk.nx (ρ.set i (.own (.dict (putD ds key d))))
  | _, _ => False
/-- xs[j] = e, xs a list that it alone holds -/
def wSetL (i : Nat) (fk f : WF) : WS := fun ρ kk => ∃ ds, ρ[i]? = some (.own (.list ds)) ∧ f ρ fun e => fk ρ fun y => match e, y with
  | .py d, .py (.int n) => ∃ j, ixN ds.length n = some j ∧ kk.nx (ρ.set i (.own (.list (ds.set j d))))
  | _, _ => False
/-- y = xs.pop(e) -/
def wPopAt (i j : Nat) (fe : WF) : WS := fun ρ kk => ∃ xs, i ≠ j ∧ j < ρ.length ∧ ρ[i]? = some (.own (.list xs)) ∧ fe ρ fun e => match e with
  | .py (.int n) => xs.length < 2 ^ 60 ∧ ∃ m d, ixN xs.length n = some m ∧ xs[m]? = some d ∧ kk.nx ((ρ.set i (.own (.list (xs.eraseIdx m)))).set j (.py d))
  | _ => False
end
end Dw

/-! Data ways: key in dict. -/
namespace Dw
open PySem PySem.Spec PySem.W PySem.Calls PyProof.Rows L2 Dr Rp
variable [Dw.LamReg]
section
variable {X : Cx} {m : Mode}
def wInK (neg : Bool) : EV → EV → (EV → Prop) → Prop
  | .py kd, .py (.dict ds), P => ∃ key, keyD kd = some key ∧ P (.py (.bool (xor neg (dGet ds key).isSome)))
  | _, _, _ => False
end
end Dw

/-! Data ways: list of a dict. -/
namespace Dw
open PySem PySem.Spec PySem.W PySem.Calls PyProof.Rows L2 Dr Rp
variable [Dw.LamReg]
section
variable {X : Cx} {m : Mode}
theorem dkv_keysA {K : PySem.W.Frag} {G : Hp} : ∀ {kvs : List (Key × V)} {ds : List (PyData × PyData)}, DtKv K G kvs ds → DtAll K G (kvs.map fun kv => kV kv.1) (ds.map (·.1))
  | _, _, .nil => .nil
  | _, _, .cons _ t => .cons (dt_key _) (dkv_keysA t)
def wListA : List EV → (EV → Prop) → Prop
  | [.py (.dict ds)], P => P (.py (.list (ds.map (·.1))))
  | [.py d], P => ∃ ds, seqD d = some ds ∧ P (.py (.list ds))
  | _, _ => False
/-- list(x), x a list, a tuple or a dict -/
def brListA (hcalm : X.calm = true) : BR X m (.type "list") wListA where
  r := _
  c := cr_or call_list_of (call_listD hcalm)
  s := fun L p H0 H vs es P Q o ra hg k => by
    unfold wListA at hg
    split at hg
    · obtain ⟨v, rfl, r⟩ := paired1 ra
      obtain ⟨a, kvs, rfl, h1, h2⟩ := r.dict
      exact .inr ⟨a, kvs, rfl, h1, fun q hq => Go.lst k o hg (dkv_keysA h2) hq⟩
    · obtain ⟨v, rfl, r⟩ := paired1 ra
      obtain ⟨ds, hs, hP⟩ := hg
      obtain ⟨a, vs, rfl, h1, h2⟩ := r.seq hs
      exact .inl ⟨a, vs, rfl, h1, fun q hq => Go.lst k o hP h2 hq⟩
    · exact hg.elim
/-- ints -/
def intsL : List PyData → Option (List Int)
  | [] => some []
  | .int i :: r => (intsL r).map (i :: ·)
  | _ :: _ => none
theorem ints_of {K : PySem.W.Frag} {G : Hp} : ∀ {vs : List V} {ds : List PyData} {ns : List Int}, DtAll K G vs ds → intsL ds = some ns → vs = ns.map V.int
  | _, _, _, .nil, h => by
    cases h
    rfl
  | _, d :: ds, _, .cons a t, h => by
    cases d with
    | int i =>
      unfold intsL at h
      cases q : intsL ds with
      | none => rw [q] at h; cases h
      | some r =>
        rw [q] at h
        cases h
        cases a
        rw [ints_of t q] <;> rfl
    | _ => unfold intsL at h; cases h
def wSumL : List EV → (EV → Prop) → Prop
  | [.py (.list ds)], P => ∃ ns, intsL ds = some ns ∧ P (.py (.int ns.sum))
  | _, _ => False
def wMaxL : List EV → (EV → Prop) → Prop
  | [.py (.list ds)], P => ∃ ns, intsL ds = some ns ∧ 0 < ns.length ∧ ∀ m, m ∈ ns → (∀ y, y ∈ ns → y ≤ m) → P (.py (.int m))
  | _, _ => False
def wMinL : List EV → (EV → Prop) → Prop
  | [.py (.list ds)], P => ∃ ns, intsL ds = some ns ∧ 0 < ns.length ∧ ∀ m, m ∈ ns → (∀ y, y ∈ ns → m ≤ y) → P (.py (.int m))
  | _, _ => False
def brSumL (hc : X.calm = true) (hm : m ≠ .fresh) : BR X m (.builtin "sum") wSumL where
  r := rSum X.K
  c := cr_sum hc
  s := fun L p H0 H vs es P Q o ra hg k => by
    unfold wSumL at hg
    split at hg
    · obtain ⟨ns, hn, hg⟩ := hg
      obtain ⟨v, rfl, r⟩ := paired1 ra
      obtain ⟨a, vs, rfl, h1, h2⟩ := r.list
      cases ints_of h2 hn
      exact ⟨a, ns, rfl, .inl h1, Go.val k o hm hg (.int _)⟩
    · exact hg.elim
def brMaxL (hc : X.calm = true) (hm : m ≠ .fresh) : BR X m (.builtin "max") wMaxL where
  r := rMax X.K
  c := cr_max hc
  s := fun L p H0 H vs es P Q o ra hg k => by
    unfold wMaxL at hg
    split at hg
    · obtain ⟨ns, hn, hp, hg⟩ := hg
      obtain ⟨v, rfl, r⟩ := paired1 ra
      obtain ⟨a, vs, rfl, h1, h2⟩ := r.list
      cases ints_of h2 hn
      exact ⟨a, ns, rfl, .inl h1, hp, fun x h3 h4 => Go.val k o hm (hg x h3 h4) (.int _)⟩
    · exact hg.elim
def brMinL (hc : X.calm = true) (hm : m ≠ .fresh) : BR X m (.builtin "min") wMinL where
  r := rMin X.K
  c := cr_min hc
  s := fun L p H0 H vs es P Q o ra hg k => by
    unfold wMinL at hg
    split at hg
    · obtain ⟨ns, hn, hp, hg⟩ := hg
      obtain ⟨v, rfl, r⟩ := paired1 ra
      obtain ⟨a, vs, rfl, h1, h2⟩ := r.list
      cases ints_of h2 hn
      exact ⟨a, ns, rfl, .inl h1, hp, fun x h3 h4 => Go.val k o hm (hg x h3 h4) (.int _)⟩
    · exact hg.elim
end
end Dw

/-! Data ways: min of a list of texts. -/
namespace Dw
open PySem PySem.Spec PySem.W PySem.Calls PyProof.Rows L2 Dr Rp
variable [Dw.LamReg]
section
variable {X : Cx} {m : Mode}
theorem dp_strs' {K : PySem.W.Frag} {H : Hp} : ∀ xs : List Str, DpAll K H (xs.map V.str) (xs.map PyData.str)
  | [] => .nil
  | x :: r => .cons (.str x) (dp_strs' r)
theorem str_val : ∀ {xs : List Str} {its : List Value} {i : Nat} {v : Value}, Vals (xs.map V.str) its → its[i]? = some v → ∃ y t, v = .str y t
  | [], _, _, _, h, e => by
    cases h
    cases e
  | x :: r, _, 0, _, h, e => by
    cases h with
    | cons a t =>
      cases e
      obtain ⟨t, rfl⟩ := a
      exact ⟨x, t, rfl⟩
  | x :: r, _, i + 1, _, h, e => by
    cases h with
    | cons a t => exact str_val (i := i) t e
theorem dep_strs1 : ∀ xs : List Str, PyData.depthAll (xs.map PyData.str) ≤ 1
  | [] => Nat.zero_le _
  | x :: r => by
    rw [List.map_cons]
    have := dep_strs1 r
    simp only [PyData.depthAll, PyData.depth]
    omega
def rMinS (K : PySem.W.Frag) : List V → Hp → VK → Prop := fun vs H Q => ∃ (a : Addr) (x : Str) (xs : List Str), vs = [V.ref a] ∧ SqL K H a ((x :: xs).map V.str) ∧ ∀ y, minD (.str x) (xs.map .str) = PyData.str y → Q (.str y) H
theorem cr_minS (hc : X.calm = true) (hu : X.A.units + 64 < cLine) : CallR X (.builtin "min") (rMinS X.K) := by
  intro pins s σ H vs us Q I r h
  obtain ⟨a, x, xs, rfl, hs, q⟩ := h
  obtain ⟨its, rv, hl, hz⟩ := I.list hs
  rw [Vals.ref1 r]
  obtain ⟨as, hr⟩ := Dp.readsAll I ((x :: xs).map PyData.str) _ its (dp_strs' (x :: xs)) rv
  have dd := dep_strs1 (x :: xs)
  refine min_list_data (x := .str x) (xs := xs.map .str) (as := as) (I.ok.hd hc) hl.isList (by simpa using hr) ⟨fun b hb c hc => ?_, fun b hb => ?_⟩ (by rw [List.map_cons] at dd; omega) fun i v h' tk bs hv hrd hk => ?_
  · obtain ⟨y, _, rfl⟩ := List.mem_map.mp (show b ∈ (x :: xs).map PyData.str from hb)
    obtain ⟨z, _, rfl⟩ := List.mem_map.mp (show c ∈ (x :: xs).map PyData.str from hc)
    rfl
  · obtain ⟨y, _, rfl⟩ := List.mem_map.mp (show b ∈ (x :: xs).map PyData.str from hb)
    exact fun e => nomatch e
  · obtain ⟨y, t, rfl⟩ := str_val rv (by simpa using hv)
    generalize hd : minD (.str x) (xs.map .str) = d at hrd q
    cases hrd
    exact ⟨.str y, H, I.kept hk, ⟨t, rfl⟩, q y rfl⟩
def wMinS : List EV → (EV → Prop) → Prop
  | [.py (.list ds)], P => ∃ x xs, ds = (x :: xs).map PyData.str ∧ ∀ y, minD (.str x) (xs.map .str) = PyData.str y → P (.py (.str y))
  | _, _ => False
def brMinS (hc : X.calm = true) (hu : X.A.units + 64 < cLine) (hm : m ≠ .fresh) : BR X m (.builtin "min") wMinS where
  r := rMinS X.K
  c := cr_minS hc hu
  s := fun L p H0 H vs es P Q o ra hg k => by
    unfold wMinS at hg
    split at hg
    · obtain ⟨x, xs, rfl, hg⟩ := hg
      obtain ⟨v, rfl, r⟩ := paired1 ra
      obtain ⟨a, vs, rfl, h1, h2⟩ := r.list
      have e : vs = (x :: xs).map V.str := by
        clear h1 hg ra
        generalize x :: xs = l at h2
        induction l generalizing vs with
        | nil =>
          cases h2
          rfl
        | cons y t ih =>
          cases h2 with
          | cons b c =>
            rw [List.map_cons, ← ih _ c]
            cases b
            rfl
      subst e
      exact ⟨a, x, xs, rfl, .inl h1, fun y hy => Go.val k o hm (hg y hy) (.str y)⟩
    · exact hg.elim
end
end Dw

/-! Data ways: enumerate of a tuple, (*x, y), t.index(s), x.clear(). -/
namespace Dw
open PySem PySem.Spec PySem.W PySem.Calls PyProof.Rows L2 Dr Rp
open He (ga)
variable [Dw.LamReg]
section
variable {X : Cx} {m mr : Mode}
/-- a tuple that is read: its ghost -/
theorem tup_gh {K : PySem.W.Frag} {m : Mode} {L : Addr → Prop} {p : Pt} {H0 H : Hp} {v : V} {ds : List PyData} (hm : m ≠ .fresh) (r : Res K m L p H0 H v (.py (.tuple ds))) (o : LOk L p H) :
    ∃ a g vs, v = .ref a ∧ SqT K H a vs ∧ (∀ H' : Hp, (∀ z ∈ g.ad, H' z.1 = some z.2) → SqT K H' a vs) ∧ ds.length = vs.length ∧ g.vl = vs.zip (ds.map EV.py) ∧ GhM K m p L H g := by
  have data : ∀ {v : V}, Dt K (ctL L H) v (.tuple ds) → ∃ a g vs, v = .ref a ∧ SqT K H a vs ∧ (∀ H' : Hp, (∀ z ∈ g.ad, H' z.1 = some z.2) → SqT K H' a vs) ∧ ds.length = vs.length ∧ g.vl = vs.zip (ds.map EV.py) ∧ GhD K p L H g := by
    intro v hd
    cases hd with
    | @tup a vs _ h1 h2 =>
      have h1 := h1.t
      rcases id h1 with (h | ⟨q, h⟩) | h
      · refine ⟨a, { ad := [(a, .tup vs)], vl := vs.zip (ds.map EV.py) }, vs, rfl, SameR.sqt ctL_all h1, fun H' g => SqT.of (g _ List.mem_cons_self), DtAll.len h2, rfl, fun z hz => ?_, zip_rv h2⟩
        rw [List.mem_singleton.mp hz]
        exact ⟨Rigid.tup, h⟩
      · refine ⟨a, { ad := [(a, .frz q (.tup vs))], vl := vs.zip (ds.map EV.py) }, vs, rfl, SameR.sqt ctL_all h1, fun H' g => .inl (.inr ⟨q, g _ List.mem_cons_self⟩), DtAll.len h2, rfl, fun z hz => ?_, zip_rv h2⟩
        rw [List.mem_singleton.mp hz]
        exact ⟨Rigid.frz, h⟩
      · exact ⟨a, { ad := [], vl := vs.zip (ds.map EV.py) }, vs, rfl, SameR.sqt ctL_all h1, fun H' g => .inr h, DtAll.len h2, rfl, (fun z hz => nomatch hz), zip_rv h2⟩
  cases m with
  | fresh => exact absurd rfl hm
  | data => exact data r
  | read =>
    rcases r with r | ⟨a, d, e1, e2, hl, hw⟩
    · obtain ⟨a, g, vs, h1, h2, h3, h4, h5, h6⟩ := data r
      exact ⟨a, g, vs, h1, h2, h3, h4, h5, h6.read o⟩
    · cases e2
      rcases hw with ⟨vs, xs, e, h1, h2⟩ | ⟨kvs, ys, e, h1, h2⟩ <;> cases e
def wEnumT (fa : WF) : WA := fun ρ P => fa ρ fun x => match x with
  | .py (.tuple xs) => P (enumD 0 xs)
  | _ => False
/-- *x as arguments: the items of a list or a tuple -/
def wStar (fa : WF) (fr : WA) : WA := fun ρ P => fa ρ fun x => match x with
  | .py d => ∃ ds, seqD d = some ds ∧ fr ρ fun xs => P (ds.map EV.py ++ xs)
  | _ => False
end
end Dw

/-! Data ways: t[::-1], s.upper(), s.join(..), a, b = e, [..]. -/
namespace Dw
open PySem PySem.Spec PySem.W PySem.Calls PyProof.Rows L2 Dr Rp
open He (ga)
variable [Dw.LamReg]
section
variable {X : Cx} {m mr : Mode} {W : WX}
def wRevT : EV → (EV → Prop) → Prop
  | .py (.tuple ds), P => P (.py (.tuple ds.reverse))
  | _, _ => False
/-- x.upper() -/
def wUpper : EV → (EV → Prop) → Prop
  | .py (.str a), P => a.length ≤ 5592405 ∧ P (.py (.str (Txt.upper a)))
  | _, _ => False
/-- s.join(..) of texts -/
def wJoin (fo fe : WF) : WF := fun ρ P => fo ρ fun x => match x with
  | .py (.str a) => fe ρ fun y => match y with
    | .py d => ∃ ys : List Str, seqD d = some (ys.map .str) ∧ (ys.map (·.length)).sum + ys.length * a.length ≤ 16777216 ∧ P (.py (.str (Txt.join a ys)))
    | _ => False
  | _ => False
/-- a, b = e1, e2: the second a new list or dict -/
def wParO (i j : Nat) (fa fb : WF) : WS := fun ρ k => i < ρ.length ∧ j < ρ.length ∧ fa ρ fun a => fb ρ fun b => match b with
  | .py d => k.nx ((ρ.set i a).set j (.own d))
  | _ => False
end
end Dw

/-! Data ways: C.m(..) of a classmethod; a, b = e, [..] of locals. -/
namespace Dw
open PySem PySem.Spec PySem.W PySem.Calls PyProof.Rows L2 Dr Rp
open He (ga ma)
variable [Dw.LamReg]
section
variable {X : Cx} {m mr : Mode} {CX : CXT} {k : Nat} {g : WD} {fa : WA} {C : Str} {q pos apos : Pos} {e : Expr} {es : List Expr}
end
section
variable {X : Cx} {m mr : Mode} {W : WX}
end
end Dw

/-! Data ways: the signs of a text as a tuple. -/
namespace Dw
open PySem PySem.Spec PySem.W PySem.Calls PyProof.Rows L2 Dr Rp
variable [Dw.LamReg]
def signS (z : Str) : List Str := z.cps.toList.map fun c => ⟨#[c]⟩
theorem vals_at : ∀ {vs : List V} {us : List Value}, us.length = vs.length → (∀ (i : Nat) (v : V) (u : Value), vs[i]? = some v → us[i]? = some u → RelV v u) → Vals vs us
  | [], [], _, _ => .nil
  | v :: vs, u :: us, l, h => .cons (h 0 v u rfl rfl) (vals_at (by simpa using l) fun i v' u' h1 h2 => h (i + 1) v' u' h1 h2)
theorem call_tupleS {X : Cx} (hc : X.calm = true) : CallR X (.type "tuple") (fun xs H Q => ∃ z : Str, xs = [.str z] ∧ z.length ≤ sizeLine ∧ Tn.NewT H ((signS z).map V.str) Q) := by
  intro pins s σ H xs us Q I r h
  obtain ⟨z, rfl, hz, q⟩ := h
  obtain ⟨u, rfl, rx⟩ := vals1 r
  obtain ⟨t, rfl⟩ := rx
  refine call_tuple_str (I.ok.hd hc) z t (fun h' tk acc kp ia => ?_) hz
  have I1 : Inv X pins σ H { s with heap := h', toks := tk } := I.kept kp
  have rv : Vals ((signS z).map V.str) acc.toList := by
    have l : acc.toList.length = ((signS z).map V.str).length := by
      unfold signS
      rw [List.length_map, List.length_map, Array.length_toList, ia.1]
      simp
    refine vals_at l fun i v u h1 h2 => ?_
    unfold signS at h1
    rw [List.map_map, List.getElem?_map] at h1
    obtain ⟨c, hc, e⟩ := Option.map_eq_some_iff.mp h1
    subst e
    obtain ⟨c2, t2, hc2, rfl⟩ := ia.2 i u (by rw [← Array.getElem?_toList]; exact h2)
    rw [← Array.getElem?_toList, hc] at hc2
    cases hc2
    exact ⟨t2, rfl⟩
  have hz' : ((signS z).map V.str).length ≤ sizeLine := by
    unfold signS
    rw [List.length_map, List.length_map, Array.length_toList]
    exact hz
  have fin := Tn.laidN I1 hz' rv q
  simp only [Array.toArray_toList] at fin
  exact fin
def signD (z : Str) : List PyData := (signS z).map .str
def wTupleS : List EV → (EV → Prop) → Prop
  | [.py (.str z)], P => z.length ≤ sizeLine ∧ P (.py (.tuple (signD z)))
  | _, _ => False
theorem dts_strs {K : PySem.W.Frag} {G : Hp} : ∀ xs : List Str, DtAll K G (xs.map V.str) (xs.map PyData.str)
  | [] => .nil
  | x :: r => .cons (.str x) (dts_strs r)
def brTupleS {X : Cx} {m : Mode} (hm : m ≠ .fresh) (hc : X.calm = true) : BR X m (.type "tuple") wTupleS where
  r := _
  c := call_tupleS hc
  s := fun L p H0 H vs es P Q o ra hg k => by
    unfold wTupleS at hg
    split at hg
    · obtain ⟨v, rfl, r⟩ := paired1 ra
      obtain ⟨hz, hP⟩ := hg
      obtain rfl := r.str
      exact ⟨_, rfl, hz, fun l ob hl nd => Go.tup k o hm hP (dts_strs _) hl nd⟩
    · exact hg.elim
end Dw

/-! [e for x in xs if .. for y in ys if ..] -/
namespace L2c
open PySem PySem.Spec PyProof.Rows L2
section
variable {prog : Program} {w : World} {A : Around} {R : Result → Shared → Prop} {s : Shared} {el t0 i0 t1 i1 : Expr} {f0 f1 : List Expr} {sco : Scope} {pos : Pos} {it acc : Value} {env : Env}
abbrev two (el t0 i0 t1 i1 : Expr) (f0 f1 : List Expr) (sco : Scope) (pos : Pos) : Expr := .ListComp el [⟨t0, i0, f0, 0⟩, ⟨t1, i1, f1, 0⟩] sco pos
/-- what the tests of a clause come to -/
abbrev tests (fs : List Expr) (env : Env) : Sem Bool := forIn fs true fun d r => if r = true then do let yes ← isTrue d env (eval d env); pure (ForInStep.yield yes) else pure (ForInStep.yield r)
end
/-- two clauses; ow1: the slots of the second target -/
def tLc2 (wi : TI) (g : TG) (tt : TT) (wi1 : TI) (g1 : TG) (tt1 : TT) (te : TE) (ow ow1 : List Nat) : TE := fun σ H Q => wi σ H fun J H1 => ∀ D, H1 D = none →
  ∃ W : Nat → Nat → Hp → Prop, (∃ m, W 0 m (upd H1 D (.lst []))) ∧ ∀ i m G, W i m G → (J.stop i G ∧ Q (.ref D) G) ∨
    (J.go i G ∧ ∃ Nx : Hp → Prop, (∀ G', Nx G' → ∃ m', m' < m ∧ W (i + 1) m' G') ∧ ∀ x G', J.yld i G x G' → g x (wipe σ ow) G' fun τ G2 => wipe τ ow = wipe σ ow ∧ tt τ G2 fun b G3 => if b = true then
      wi1 τ G3 fun J1 G4 => ∃ W1 : Nat → Nat → Hp → Prop, (∃ k, W1 0 k G4) ∧ ∀ j k G, W1 j k G → (J1.stop j G ∧ Nx G) ∨
        (J1.go j G ∧ ∃ Nx1 : Hp → Prop, (∀ G', Nx1 G' → ∃ k', k' < k ∧ W1 (j + 1) k' G') ∧ ∀ y G', J1.yld j G y G' → g1 y (wipe τ ow1) G' fun ρ G5 => wipe ρ ow1 = wipe τ ow1 ∧ tt1 ρ G5 fun c G6 => if c = true then te ρ G6 fun z G7 => ∃ acc, G7 D = some (.lst acc) ∧ acc.length < sizeLine ∧ Nx1 (upd G7 D (.lst (acc ++ [z]))) else Nx1 G6)
      else Nx G3)
section
variable {X : Cx}
end
end L2c

/-! Data ways: [e for x in xs if .. for y in ys if ..]; texts compared; zip of two tuples. -/
namespace Dw
open PySem PySem.Spec PySem.W PySem.Calls PyProof.Rows L2 Dr Rp
open He (ga)
variable [Dw.LamReg]
def wLc2Go (g : WGt) (t : WT) (fi1 : WA) (g1 : WGt) (t1 : WT) (f : WF) (vs1 : List Nat) (ρ : EnvD) : List EV → List PyData → (List PyData → Prop) → Prop
  | [], acc, P => P acc
  | x :: r, acc, P => g x ρ fun ρ2 => t ρ2 fun b => if b = true then noOwn ρ2 vs1 ∧ fi1 ρ2 fun ys => wLcGo g1 t1 f (wipeE ρ2 vs1) ys acc fun acc' => wLc2Go g t fi1 g1 t1 f vs1 ρ r acc' P
    else wLc2Go g t fi1 g1 t1 f vs1 ρ r acc P
def wLc2 (fi : WA) (g : WGt) (t : WT) (fi1 : WA) (g1 : WGt) (t1 : WT) (f : WF) (vs vs1 : List Nat) : WF := fun ρ P => noOwn ρ vs ∧ fi ρ fun xs => wLc2Go g t fi1 g1 t1 f vs1 (wipeE ρ vs) xs [] fun ds => P (.py (.list ds))
/-- a list of data at D, in the making -/
def LstS (K : PySem.W.Frag) (L : Addr → Prop) (H : Hp) (D : Addr) (acc : List PyData) : Prop := ∃ va, H D = some (.lst va) ∧ DtAll K (ctL L H) va acc
section
variable {X : Cx} {m : Mode}
/-- a < b, a > b of texts -/
def wLtS : EV → EV → (EV → Prop) → Prop
  | .py (.str a), .py (.str b), P => P (.py (.bool (decide (a.cps.toList < b.cps.toList))))
  | _, _, _ => False
def wGtS : EV → EV → (EV → Prop) → Prop
  | .py (.str a), .py (.str b), P => P (.py (.bool (decide (b.cps.toList < a.cps.toList))))
  | _, _, _ => False
/-- zip of two tuples -/
def wZipT (fa fb : WF) : WA := fun ρ P => fa ρ fun x => fb ρ fun y => match x, y with
  | .py (.tuple xs), .py (.tuple ys) => P (zipD xs ys)
  | _, _ => False
theorem di_zipT {a b : Expr} {fa fb : WF} {q pos tpos : Pos} {elts : List Expr} {kk : Nat} (hg : Gl X "zip") (ht : X.mg "zip" = none) (ha : PE X a (tW X.K m fa)) (hb : PE X b (tW X.K m fb)) (hm : m ≠ .fresh := by decide)
    (hs : starEach [a, b] X.env = (false, eval a X.env) :: starEach [b] X.env := by rfl) (hs2 : starEach [b] X.env = (false, eval b X.env) :: starEach [] X.env := by rfl) (hpl : (backTo pos (starEach [b] X.env)).any (·.1) = false := by rfl) :
    PI X (.Tuple elts kk tpos) (.Call (.Name "zip" q) [a, b] [] pos) (tI X.K m (wZipT fa fb)) := by
  refine pi_mono (RZ.pi_zipA hg ht (pa_cons ha (pa_cons hb pa_nil hs2) hs) hs hpl) fun σ H R q => ?_
  obtain ⟨He, Lc, os, p, gs, ρ, P, E, hf, k⟩ := q
  refine ⟨He, Lc, os, p, gs, ρ, _, E, hf, fun x H1 v hx s o r => ?_⟩
  refine ⟨He, Lc, os, p, gs, ρ, _, E.step s o, hx, fun y H2 w hy s2 o2 r2 => ?_⟩
  split at hy
  · rename_i xs ys
    obtain ⟨a, u, vs, rfl, u1, u2, u3, u4, u5⟩ := tup_gh hm (r.step hm o s2) o2
    obtain ⟨b, t, ws, rfl, t1, t2, t3, t4, t5⟩ := tup_gh hm r2 o2
    refine ⟨a, b, vs, ws, rfl, .inr ⟨u1, t1, k _ _ _ H2 hy (s.trans s2) o2 (u5.app t5) ?_⟩⟩
    have hl : (zipD xs ys).length = min vs.length ws.length := by rw [zipD_len, u3, t3]
    have qa : ∀ {L : Addr → Prop} {G : Hp}, GhR X.K p L G { ad := u.ad ++ t.ad, vl := u.vl ++ t.vl } → SqT X.K G a vs ∧ SqT X.K G b ws := fun g => ⟨u2 _ fun z hz => (g.1 z (List.mem_append_left _ hz)).2.1, t2 _ fun z hz => (g.1 z (List.mem_append_right _ hz)).2.1⟩
    refine ⟨fun L H i _ g hi => ?_, fun L H _ g => ?_, fun L H i x H' ok g hi yy => ?_⟩
    · rw [hl] at hi
      exact ⟨vs, ws, vs[i], ws[i], (qa g).1, (qa g).2, by simp [show i < vs.length by omega], by simp [show i < ws.length by omega]⟩
    · exact ⟨vs, ws, (qa g).1, (qa g).2, by rw [hl]; omega⟩
    · obtain ⟨T, x1, y1, rfl, hT, rfl, f1, f2⟩ := yy
      obtain ⟨d1, h1, h2⟩ := zip_get u3 (f1 vs (qa g).1)
      obtain ⟨d2, h3, h4⟩ := zip_get t3 (f2 ws (qa g).2)
      have sp : Stp L p H (upd H T (.tup [x1, y1])) := Stp.new ok.ne hT
      have r1 : Rv X.K p (ctL L H) x1 (.py d1) := g.2 (x1, .py d1) (List.mem_append_left _ (by rw [u4]; exact h2))
      have r2 : Rv X.K p (ctL L H) y1 (.py d2) := g.2 (y1, .py d2) (List.mem_append_right _ (by rw [t4]; exact h4))
      exact ⟨smu hT, _, zipD_get h1 h3, _, _, rfl, (ok.new hT).sqt (SqT.of upd_same), (.cons (r1.sameR (sp.ct ok)) (.cons (r2.sameR (sp.ct ok)) .nil))⟩
  · exact hy.elim
/-- is, is not between truths -/
def wIsB (neg : Bool) : EV → EV → (EV → Prop) → Prop
  | .py (.bool a), .py (.bool b), P => P (.py (.bool (xor neg (a == b))))
  | _, _, _ => False
end
end Dw

/-! {**d, k: v}: a dict read into a display. -/
namespace Md
open PySem PySem.Spec
section
variable {prog : Program} {w : World} {K : Type} [DecidableEq K] {knd : KeyKind prog w K} {A : Around} {E : Value → Shared → Prop} {s : Shared}
end
end Md

/-! Data ways: {**d, k: v}. -/
namespace Dw
open PySem PySem.Spec PySem.W PySem.Calls PyProof.Rows L2 Dr Rp
variable [Dw.LamReg]
section
variable {prog : Program} {w : World} {A : Around} {E : Value → Shared → Prop} {s : Shared}
end
def tDispM (te : TE) (trs : List (TE × TE)) : TE := fun σ H Q => ∀ D, H D = none → te σ (upd H D (.dK [])) fun x H1 => ∃ d kvs, x = .ref d ∧ d ≠ D ∧ H1 D = some (.dK []) ∧ Rd H1 d (.dK kvs) ∧ kvs.length ≤ 1000 ∧
  ∀ D2, upd H1 D (.dK kvs) D2 = none → tPairs trs σ (upd (upd H1 D (.dK kvs)) D2 (.dK [])) fun ps H3 => H3 D = some (.dK kvs) ∧ H3 D2 = some (.dK []) ∧ ∃ (k : Key) (y : V), ps = [(kV k, y)] ∧ Q (.ref D) (upd (upd H3 D2 (.dK [(k, y)])) D (.dK (putK kvs k y)))
/-- {**d, k: v} -/
def wDispM (fd : WF) (r : WP) : WF := fun ρ P => fd ρ fun e => match e with
  | .py (.dict ds) => ds.length ≤ 1000 ∧ r ρ fun ps => ∃ k d, ps = [(k, d)] ∧ P (.py (.dict (putD ds k d)))
  | _ => False
section
variable {X : Cx} {m : Mode}
end
end Dw

/-! Data ways: xs.remove(text); in of lists of any data; for over a display of objects; ~o. -/
namespace Dw
open PySem PySem.Spec PySem.W PySem.Calls PyProof.Rows L2 Dr Rp
open He (ga)
variable [Dw.LamReg]
/-! ### list.remove of a text -/
def eqs (k : Str) (v : Value) : Bool := match v with
  | .str n _ => n.cps.toList == k.cps.toList
  | _ => false
section
variable {X : Cx}
def rRemS : V → List V → Hp → VK → Prop := fun x xs H Q => ∃ (l : Addr) (ns : List Str) (k : Str) (j : Nat), x = .ref l ∧ xs = [.str k] ∧ H l = some (.lst (ns.map V.str)) ∧ ns[j]? = some k ∧ (∀ m : Nat, m < j → ns[m]? ≠ some k) ∧ Q .non (upd H l (.lst ((ns.eraseIdx j).map V.str)))
end
section
variable {X : Cx} {m mr : Mode}
/-- xs.remove(e) of a list of texts that a name alone holds -/
def wRemS (i : Nat) (f : WF) : WS := fun ρ kk => ∃ ys : List Str, ρ[i]? = some (.own (.list (ys.map .str))) ∧ f ρ fun e => match e with
  | .py (.str k) => ∃ j, ys[j]? = some k ∧ (∀ m : Nat, m < j → ys[m]? ≠ some k) ∧ kk.nx (ρ.set i (.own (.list ((ys.eraseIdx j).map .str))))
  | _ => False
/-! ### in of lists of any data -/
def wInDp (neg : Bool) : EV → EV → (EV → Prop) → Prop
  | .py d, .py (.list ds), P => (eqOk d = true ∧ eqOk (.list ds) = true) ∧ P (.py (.bool (xor neg (ds.any fun z => PyData.eqv z d))))
  | _, _, _ => False
/-! ### for x in (a, b, c), whatever these are -/
def wObjs (fa : WA) : WA := fun ρ P => fa ρ fun es => es.length ≤ sizeLine ∧ P es
end
/-- o.m(..), m's last parameter left out: its default is the empty tuple -/
def wMethE (C n : Str) (g : WD) (fo : WF) (fa : WA) : WF := fun ρ P => fo ρ fun o => match o with
  | .ob C' fs => C' = C ∧ fs.lookup n = none ∧ fa ρ fun es => g (.ob C' fs :: (es ++ [.py (.tuple [])])) P
  | _ => False
/-! ### ~o, o with its own __invert__ -/
section
variable {prog : Program} {w : World} {A : Around} {E : Value → Shared → Prop} {s : Shared} {K : PySem.W.Frag} {x C f : Addr} {ox : Obj} {odd : Option Obj}
end
section
variable {X : Cx} {m mr : Mode} {CX : CXT} {k : Nat} {C f : Addr} {fd : FuncData} {ps : List Str} {sp : Sp} {E : XK}
def rInv (C : Addr) (sp : Sp) (E : XK) : V → Hp → VK → Prop := fun x H Q => ∃ a dx fs, x = .ref a ∧ H a = some (.ins C dx fs) ∧ sp [x] H Q E
def wInvO (C : Str) (g : WD) : EV → (EV → Prop) → Prop
  | .ob C' fs, P => C' = C ∧ g [.ob C' fs] P
  | _, _ => False
end
end Dw

/-! Data ways: == of lists that hold dicts, where these are equal. -/
namespace Dw
open PySem PySem.Spec PySem.W PySem.Calls PyProof.Rows L2 Dr Rp
variable [Dw.LamReg]
def sameI : PyData → PyData → Bool
  | .dict ds, .dict es => ds.length == es.length && decide (eqKv es ds = some true)
  | d, e => eqOk d && (eqOk e && PyData.eqv d e)
def sameL : List PyData → List PyData → Bool
  | [], [] => true
  | d :: r, e :: t => sameI d e && sameL r t
  | _, _ => false
section
variable {X : Cx} {pins : List (Addr × Obj)} {σ : L2.St} {H : Hp} {s : Shared}
def FlatEq (K : PySem.W.Frag) (H : Hp) (x y : V) : Prop := ∃ d e, Dt K H x d ∧ Dt K H y e ∧ eqOk d = true ∧ eqOk e = true ∧ PyData.eqv d e = true
def SamePair (K : PySem.W.Frag) (H : Hp) (x y : V) : Prop := ∃ d e, Dt K H x d ∧ Dt K H y e ∧ sameI d e = true
def rSameL (K : PySem.W.Frag) : R2 := fun x y H Q => ∃ a b xs ys ds es, x = .ref a ∧ y = .ref b ∧ SqL K H a xs ∧ SqL K H b ys ∧ DtAll K H xs ds ∧ DtAll K H ys es ∧ sameL ds es = true ∧ Q (.bl true) H
end
def wEqSame : EV → EV → (EV → Prop) → Prop
  | .py (.list ds), .py (.list es), P => sameL ds es = true ∧ P (.py (.bool true))
  | _, _, _ => False
section
variable {X : Cx} {m : Mode}
end
end Dw

/-! Data ways: != of lists that hold dicts, where these are equal (then False). -/
namespace Sn
open PySem PySem.SeqAt MeetsSeq MeetsSeq2 MeetsSeq3 SeqRoads2
variable [Dw.LamReg]
section
variable {prog : Program} {w : World}
/-- Where `a` stands there is a list of `us`. -/
def Has (s : Shared) (a : Addr) (us : Array Value) (k : Nat) (d : Option Addr) (t : Array (Option Value)) : Prop :=
  s.heap.get? a = some { cls := .type "list", dict := d, data := .seq us k, slots := t }
def Twin (prog : Program) (w : World) (A : Around) (s : Shared) (us vs : Array Value) : Prop :=
  ∀ j (p : j < us.size) (q : j < vs.size), EqP prog w A s us[j] vs[j] true
theorem past (us : Array Value) {i : Nat} (h : us.size ≤ i) : us[((i : Nat) : Int).toNat]? = none := by
  rw [Int.toNat_natCast]; exact Array.getElem?_eq_none h
theorem at_ (us : Array Value) {i : Nat} (h : i < us.size) : us[((i : Nat) : Int).toNat]? = some us[i] := by
  rw [Int.toNat_natCast]; exact Array.getElem?_eq_getElem h
end
end Sn
namespace Dw
variable [Dw.LamReg]
open PySem PySem.Spec PySem.W PySem.Calls PyProof.Rows L2 Dr Rp
section
variable {X : Cx}
def rTwinL (K : PySem.W.Frag) : R2 := fun x y H Q => ∃ a b xs ys ds es, x = .ref a ∧ y = .ref b ∧ SqL K H a xs ∧ SqL K H b ys ∧ DtAll K H xs ds ∧ DtAll K H ys es ∧ sameL ds es = true ∧ Q (.bl false) H
end
def wNeSame : EV → EV → (EV → Prop) → Prop
  | .py (.list ds), .py (.list es), P => sameL ds es = true ∧ P (.py (.bool false))
  | _, _, _ => False
section
variable {X : Cx} {m : Mode}
end
end Dw

/-! Data ways: len(set(x)) of texts; a, b = [], [()]. -/
namespace Dw
open PySem PySem.Spec PySem.W PySem.Calls PyProof.Rows L2 Dr Rp
open He (ga ma)
variable [Dw.LamReg]
section
variable {X : Cx} {m mr : Mode} {W : WX}
def wLenSet : EV → (EV → Prop) → Prop
  | .py d, P => ∃ ds xs, seqD d = some ds ∧ strsD ds = some xs ∧ xs.length + 1 < scanBound ∧ P (.py (.int ((Sl.sSet xs).length : Nat)))
  | _, _ => False
def wParE (i j : Nat) : WS := fun ρ k => i < ρ.length ∧ j < ρ.length ∧ k.nx ((ρ.set i (.own (.list []))).set j (.py (.list [.tuple []])))
end
end Dw

/-! def f(a, b = d, *, k = e, **names), called with all of a, b and nothing else. -/
namespace Mx
open PySem PySem.Spec PyProof.Rows L2 ClX
def KwTo {α : Type} (D : Addr) : List (Str × Value) → Sem α → Sem α → Prop
  | [], t, r => t = r
  | q :: l, t, r => ∃ (β γ : Type) (k1 : Option Value → Sem β) (k2 : β → Sem γ) (k3 : γ → Sem α) (a : β), t = ((nsGet D q.1 >>= k1) >>= k2) >>= k3 ∧ k1 (some q.2) = pure a ∧ KwTo D l (k2 a >>= k3) r
section
variable {P : Program} {w : World} {K : PySem.W.Frag} {mg : Str → Option Value} {base : Heap} {k : Nat} {x qual : Str} {params : Arguments} {body : List Stmt} {scope : Scope} {dvs : List V} {kws : List (Str × V)} {f : Addr} {fd : FuncData} {CX : CXT} {N ps : List Str} {sp : Sp}
end
end Mx

/-! def f(a, b = d, *, k = e, **names), called with a, b and names: the names stand in a new dict; a new object of a class so. -/
namespace Mx
open PySem PySem.Spec PyProof.Rows L2 ClX
theorem push_update (h : Heap) (o : Obj) (f : Obj → Obj) : (h.push o).update h.objs.size f = h.push (f o) := by
  obtain ⟨objs, l⟩ := h
  show Heap.mk ((objs.push o).modify objs.size f) l = Heap.mk (objs.push (f o)) l
  congr 1
  apply Array.ext
  · simp
  · intro i h1 h2
    simp only [Array.getElem_modify, Array.getElem_push]
    by_cases e : i < objs.size
    · rw [if_neg (Nat.ne_of_gt e), dif_pos e, dif_pos e]
    · have e' : objs.size = i := by
        have : i < objs.size + 1 := by simpa using h2
        omega
      rw [if_pos e', dif_neg e, dif_neg e]
section
variable {P : Program} {w : World} {A : Around} {Ex : Value → Shared → Prop}
theorem push_nsSet {s : Shared} {h : Heap} {es : List DictEntry} {n : Nat} {k : Str} {v : Value} {Q : Unit → Shared → Prop} (hs : s.heap = h.push (PySem.W.dictOf es n))
    (hk : ∀ e ∈ es, e.key.isStr k = false) (hr : ∀ e ∈ es, e.refKey = false)
    (q : Q () { s with heap := h.push (PySem.W.dictOf (es ++ [⟨PyData.keyHash w.params k, .str k s.toks, v⟩]) (n + 1)), toks := s.toks + 1 }) : wpAny (model P w) A (nsSet h.objs.size k v) Q Ex s := by
  have e1 : es.any (·.key.isStr k) = false := by
    cases q : es.any (·.key.isStr k) with
    | false => rfl
    | true => obtain ⟨e, he, z⟩ := List.any_eq_true.mp q; rw [hk e he] at z; cases z
  have e2 : es.any (·.refKey) = false := by
    cases q : es.any (·.refKey) with
    | false => rfl
    | true => obtain ⟨e, he, z⟩ := List.any_eq_true.mp q; rw [hr e he] at z; cases z
  have e : Obj.putName k (PyData.keyHash w.params k) (.str k s.toks) v (PySem.W.dictOf es n) = PySem.W.dictOf (es ++ [⟨PyData.keyHash w.params k, .str k s.toks, v⟩]) (n + 1) := by
    rw [PySem.W.putName_dict, PySem.W.putL_new hk]
    show PySem.W.dictOf _ (if es.any (·.key.isStr k) then n else n + 1) = _
    rw [e1, if_neg Bool.false_ne_true]
  have D : s.heap.get? h.objs.size = some (PySem.W.dictOf es n) := by
    rw [hs]
    exact Heap.get?_push_size _ rfl
  have c : aRefKeyMayBeTheName k es.toArray = false := by
    rw [aRefKeyMayBeTheName_at, ← Array.any_toList, ← Array.any_toList]
    show (!es.any (·.key.isStr k) && es.any (·.refKey)) = false
    rw [e2, Bool.and_false]
  have q' : Q () { s with heap := s.heap.update h.objs.size (Obj.putName k (PyData.keyHash w.params k) (.str k s.toks) v), toks := s.toks + 1 } := by
    rw [hs, push_update, e]
    exact q
  unfold nsSet
  refine wpAny_bind (wpAny_bind (wpAny_askSetting (wpAny_pure (wpAny_bind (wpAny_mkText (wpAny_bind (wpAny_loadPart D ?_)))))))
  dsimp only
  rw [c]
  exact wpAny_updatePart D q'
/-- names and values, as a dict holds them -/
def kwK {β : Type} (ks : List Str) (zs : List β) : List (Key × β) := (ks.zip zs).map fun p => (.inr p.1, p.2)
end
/-- what a call with these keywords does -/
def FnRK (P : Program) (w : World) (K : PySem.W.Frag) (mg : Str → Option Value) (base : Heap) (CX : CXT) (k : Nat) (f : Addr) (ks : List Str) (sp : List V → List V → Hp → VK → XK → Prop) : Prop :=
  ∀ (A : Around) (outer : List Env) (s : Shared) (H : Hp) (us ws : List Value) (vs zs : List V) (Q : VK) (E : XK), Room k A → Env0 P w K mg base A outer s H → Vals vs us → Vals zs ws → zs.length = ks.length → sp vs zs H Q E →
    codeAny (model P w) A (.call (.ref f) ⟨us, ks.zip ws⟩) (CR CX outer P w H s Q E) s
section
variable {P : Program} {w : World} {K : PySem.W.Frag} {mg : Str → Option Value} {base : Heap} {k : Nat} {x qual : Str} {params : Arguments} {body : List Stmt} {scope : Scope} {dvs : List V} {kws : List (Str × V)} {f : Addr} {fd : FuncData} {CX : CXT} {N ps ks : List Str} {sp : Sp}
end
/-- C(e, .., k = v, ..) where the names go to **names -/
def tMakeQ (C : Addr) (m : Nat) (sp : List V → List V → Hp → VK → XK → Prop) (E : XK) (t tk : TA) : TE := fun σ H Q => t σ H fun vs H1 => tk σ H1 fun zs H2 => zs.length = m ∧
  ∀ x dx, H2 x = none → H2 dx = none → dx ≠ x → sp (.ref x :: vs) zs (upd (upd H2 dx (.own x)) x (.ins C dx [])) (fun v H3 => v = .non ∧ Q (.ref x) H3) E
section
variable {X : Cx} {CX : CXT} {k n : Nat} {f C : Addr} {ks : List Str} {sp : List V → List V → Hp → VK → XK → Prop} {E : XK} {x : Str} {p pos : Pos} {e : Expr} {es : List Expr} {kws : List Keyword} {t tk : TA}
end
end Mx

/-! Data ways: isinstance of a tuple and an own class; a class called with keywords that go to **names; a method with *rest and a left-out keyword, a method of that kind called. -/
namespace Dw
open PySem PySem.Spec PySem.W PySem.Calls PyProof.Rows L2 Dr Rp
open He (ga ma)
variable [Dw.LamReg]
section
variable {X : Cx} {m mr : Mode} {CX : CXT} {k n : Nat} {f : Addr} {ks : List Str} {g : WD} {fa fk : WA} {x C : Str} {q pos apos : Pos} {o e : Expr} {es : List Expr} {kws : List Keyword} {fo : WF}
def wIsiF : EV → (EV → Prop) → Prop
  | .py (.tuple _), P => P (.py (.bool false))
  | _, _ => False
/-- what an __init__ with named values promises -/
def spIQ (K : PySem.W.Frag) (C : Str) (gi : List EV → List PyData → (List (Str × PyData) → Prop) → Prop) : List V → List V → Hp → VK → XK → Prop := fun vs zs H Q _ => ∃ Lc p x dx rest es ds P, vs = .ref x :: rest ∧ H x = some (.ins (ga K C) dx []) ∧ Lc x ∧ p.q ≠ some x ∧ LOk Lc p H ∧ Paired (fun v e => e = .no ∨ Rv K p (ctL Lc H) v e) rest es ∧ DtAll K (ctL Lc H) zs ds ∧ gi es ds P ∧
  ∀ fs vs' H', P fs → H' x = some (.ins (ga K C) dx vs') → vs'.map (·.1) = fs.map (·.1) → DtAll K (ctL Lc H') (vs'.map (·.2)) (fs.map (·.2)) → Stp Lc p (upd H x (.ins (ga K C) dx vs')) H' → LOk Lc p H' → Q .non H'
def wMakeQ (C : Str) (n : Nat) (gi : List EV → List PyData → (List (Str × PyData) → Prop) → Prop) (fa fk : WA) : WF := fun ρ P => fa ρ fun es => fk ρ fun zs => ∃ ds : List PyData, zs = ds.map .py ∧ ds.length = n ∧ gi es ds fun fs => P (.ob C fs)
end
section
variable {P : Program} {w : World} {K : PySem.W.Frag} {mg : Str → Option Value} {base : Heap} {CX : CXT} {k : Nat}
def wDefSK (n j : Nat) (f : WS) : WD := fun es P => ∃ ws ds, es = ws ++ ds.map EV.py ∧ ws.length = j ∧ ds.length ≤ sizeLine ∧ f (startE n (ws ++ [.py (.tuple []), .py (.tuple ds)])) { nx := fun _ => P (.py .none), rt := P }
end
end Dw

/-! Data ways: s[::-1] of a text; texts sign by sign. -/
namespace Dw
open PySem PySem.Spec PySem.W PySem.Calls PyProof.Rows L2 Dr Rp
variable [Dw.LamReg]
def revS (z : Str) : Str := ⟨((Builtin.Str.strSliceIndices none none (-1) z.length).filterMap (z.cps[·]?)).toArray⟩
def tRevS (te : TE) : TE := fun σ H Q => te σ H fun x H1 => ∃ z, x = .str z ∧ (revS z).length ≤ sizeLine ∧ Q (.str (revS z)) H1
section
variable {X : Cx} {m : Mode}
def wRevS : EV → (EV → Prop) → Prop
  | .py (.str z), P => (revS z).length ≤ sizeLine ∧ P (.py (.str (revS z)))
  | _, _ => False
/-- a text, sign by sign -/
def signsD (z : Str) : List EV := z.cps.toList.map fun c => .py (.str ⟨#[c]⟩)
def wTxtI (f : WF) : WA := fun ρ P => f ρ fun e => match e with
  | .py (.str z) => P (signsD z)
  | _ => False
end
end Dw

/-! Data ways: sorted of a list of any things that are alike, at most one of them or none of them empty. -/
namespace Dw
open PySem PySem.Spec PySem.W PySem.Calls PyProof.Rows L2 Dr Rp
variable [Dw.LamReg]
def SortOk (ds : List PyData) : Prop := Sortable ds ∨ ds.length ≤ 1 ∧ ∀ d ∈ ds, d ≠ .none
section
variable {prog : Program} {w : World} {A : Around} {E : Value → Shared → Prop} {s : Shared}
theorem sorted_dataX {β : Type} {R : Value → β → Prop} {enc : β → PyData} {bs : List β} {vs : List Value} {l : Addr} {Q : Value → Shared → Prop} (hl : s.heap.IsList l vs.toArray) (e : EachIs R vs bs) (er : EachIs (fun v b => ∃ as, Reads s.heap v (enc b) as) vs bs) (hal : AllAlike (bs.map enc)) (hk : SortOk (bs.map enc)) (hL : bs.length ≤ sizeLine)
    (hu : ∀ b, b ∈ bs → A.units + 2 + (enc b).depth < cLine) (h : ∀ out, out.length = bs.length → EachIs R out (bs.mergeSort (dataLe false enc)) → Q (.ref (s.heap.objs.size + 1)) { s with heap := sortedAll s.heap vs (List.toArray out) }) :
    wpAny (model prog w) A (call (.builtin "sorted") [.ref l]) Q E s := by
  have er' : EachIs (fun v b => ∃ as, Reads (sortingHeap (copyHeap s.heap vs) (s.heap.objs.size + 1) vs) v (enc b) as) vs bs := er.mono fun _ _ ⟨as, r⟩ => ⟨as, PyProof.Rows.Reads.keeps (fun _ _ => sorting_copy_old) r⟩
  have S : SortsAt prog w A.in1.in1 { s with heap := sortingHeap (copyHeap s.heap vs) (s.heap.objs.size + 1) vs } (dataKind (sortingHeap (copyHeap s.heap vs) (s.heap.objs.size + 1) vs) (bs.map enc)) vs := by
    rcases hk with hk | ⟨h1, h2⟩
    · exact SortsAt.data (s := { s with heap := sortingHeap (copyHeap s.heap vs) (s.heap.objs.size + 1) vs }) (each_map (R := fun v d => ∃ as, Reads (sortingHeap (copyHeap s.heap vs) (s.heap.objs.size + 1) vs) v d as) enc er') hal hk (bound_map hu)
    · exact SoK.sorts_one (s := { s with heap := sortingHeap (copyHeap s.heap vs) (s.heap.objs.size + 1) vs }) (each_map (R := fun v d => ∃ as, Reads (sortingHeap (copyHeap s.heap vs) (s.heap.objs.size + 1) vs) v d as) enc er') hal h2 h1 (bound_map hu)
  exact sorted_vals hl S (by rw [e.length]; exact hL) (h _ (by rw [sortVals_length false rfl]; exact e.length) (sortVals_data false e er' hal))
end
section
variable {X : Cx} {m : Mode}
theorem cr_sortedX (hu : X.A.units + 64 < cLine) : CallR X (.builtin "sorted") (fun xs H Q => ∃ a vs ds, xs = [V.ref a] ∧ SqL X.K H a vs ∧ DpAll X.K H vs ds ∧ vs.length = ds.length ∧ AllAlike ds ∧ SortOk ds ∧ (∀ d ∈ ds, d.depth ≤ 50) ∧
    ∀ p, H p = none → Q (.ref p) (upd H p (.lst (((vs.zip ds).mergeSort (dataLe false (·.2))).map (·.1))))) := by
  intro pins s σ H xs us Q I r h
  obtain ⟨a, vs, ds, rfl, hs, hr, hlen, hal, hk, hd, q⟩ := h
  obtain ⟨its, rv, hl, hz⟩ := I.list hs
  rw [Vals.ref1 r]
  obtain ⟨e1, e2⟩ := prs_reads (h := s.heap) (K := X.K) I hr rv
  have es : (vs.zip ds).map (·.2) = ds := zip_snd hlen
  have ll : (vs.zip ds).length = vs.length := by rw [List.length_zip, hlen, Nat.min_self]
  refine sorted_dataX (R := fun u (q : V × PyData) => RelV q.1 u) (enc := fun q : V × PyData => q.2) (bs := vs.zip ds) hl.isList e1 e2 (by rw [es]; exact hal) (by rw [es]; exact hk) (by rw [ll]; exact hz) (fun z hz => ?_) fun out ho he => ?_
  · have := hd z.2 (by rw [← es]; exact List.mem_map.mpr ⟨z, hz, rfl⟩)
    omega
  · obtain ⟨ep, he'⟩ := PyProof.Rows.sortedAll_at s.heap its out.toArray
    refine ⟨.ref _, upd H (s.heap.objs.size + 1) (.lst _), I.laid (t' := s.toks) (fun _ _ => PyProof.Rows.sortedAll_old) (Nat.le_succ _) ⟨?_, _, ep, Dw.each_vals he, he'⟩, rfl, q _ (I.hok.fresh (Nat.le_succ _))⟩
    rw [List.length_map, List.length_mergeSort, ll]
    exact hz
def wSortedX : List EV → (EV → Prop) → Prop
  | [.py (.list ds)], P => (noDict (.list ds) = true ∧ AllAlike ds ∧ SortOk ds ∧ ∀ d ∈ ds, d.depth ≤ 50) ∧ P (.py (.list (sortD ds)))
  | _, _ => False
def brSortedX (hu : X.A.units + 64 < cLine) : BR X m (.builtin "sorted") wSortedX where
  r := _
  c := cr_sortedX hu
  s := fun L p H0 H vs es P Q o ra hg k => by
    unfold wSortedX at hg
    split at hg
    · obtain ⟨v, rfl, r⟩ := paired1 ra
      obtain ⟨a, vs, rfl, h1, h2⟩ := r.list
      exact ⟨a, vs, _, rfl, .inl h1, dps_of _ _ (al_nod hg.1.1) (dts_all h2), (DtAll.len h2).symm, hg.1.2.1, hg.1.2.2.1, hg.1.2.2.2, fun r hr => Go.lst k o hg.2 (sort_dts h2) hr⟩
    · exact hg.elim
end
end Dw

/-! Data ways: dict(t) of a tuple of pairs; t.index(x) of texts. -/
namespace Tn
open PySem PySem.Spec PySem.Calls PyProof.Rows L2
variable [Dw.LamReg]
section
variable {X : Cx} {pins : List (Addr × Obj)} {σ : L2.St} {H : Hp} {s : Shared} {a : Addr} {xs : List V}
theorem plain_of (I : Inv X pins σ H s) (h : SqN X.K H a xs) : ∃ its : List Value, Vals xs its ∧ PlainSeq "tuple" s.heap a its.toArray ∧ xs.length ≤ sizeLine := by
  obtain ⟨its, rv, ⟨o2, n2, g2⟩, hz⟩ := I.tuple h.t
  refine ⟨its, rv, ?_, hz⟩
  rcases h with ⟨o, h, nd⟩ | ⟨o, js, n, hk, hc, nd, hs, _⟩
  · have z := (I.hok a _ h).1
    cases z.symm.trans n2
    exact ⟨_, _, z, g2.1, nd, g2.2.choose_spec⟩
  · have z := I.kIn a o hk
    cases z.symm.trans n2
    exact ⟨_, _, z, g2.1, nd, g2.2.choose_spec⟩
theorem two_of (I : Inv X pins σ H s) : ∀ {ps : List Addr} {kvs : List (Key × V)}, Paired (fun p kv => SqT X.K H p [kV kv.1, kv.2]) ps kvs →
    ∃ (pv : List (Value × Value)) (prs : List (Key × Value)), KV kvs prs ∧ prs.length = ps.length ∧ pv.length = ps.length ∧
      ∀ (j : Nat) (u v : Value), pv[j]? = some (u, v) → (∃ k, prs[j]? = some (k, v) ∧ keyIs k u = true) ∧ ∃ b, ps[j]? = some b ∧ IsTup s.heap b #[u, v]
  | _, _, .nil => ⟨[], [], .nil, rfl, rfl, fun j u v e => by simp at e⟩
  | _, _, .cons (a := p) (b := kv) h t => by
    obtain ⟨pv, prs, r, l1, l2, hp⟩ := two_of I t
    obtain ⟨its, rv, ht, _⟩ := I.tuple h
    obtain ⟨u, y, rfl, ru, ry⟩ := vals2 rv
    refine ⟨(u, y) :: pv, (kv.1, y) :: prs, .cons ⟨rfl, ry⟩ r, by simp [l1], by simp [l2], fun j u' v' e => ?_⟩
    match j, e with
    | 0, e =>
      cases (Option.some.inj e : (u, y) = (u', v'))
      exact ⟨⟨kv.1, rfl, kV_is (P := X.prog) (w := X.w) ru⟩, p, rfl, ht⟩
    | j + 1, e => exact hp j u' v' (by simpa using e)
/-- dict(t), t a tuple of pairs -/
theorem call_dictN (hcalm : X.calm = true) : CallR X (.type "dict") (fun xs H Q => ∃ (a : Addr) (ps : List Addr) (kvs : List (Key × V)), xs = [.ref a] ∧ SqN X.K H a (ps.map V.ref) ∧ Paired (fun p kv => SqT X.K H p [kV kv.1, kv.2]) ps kvs ∧
    ∀ p, H p = none → Q (.ref p) (upd H p (.dK (mergeK [] kvs)))) := by
  rintro pins s σ H _ us Q I r ⟨a, ps, kvs, rfl, hq, hp, q⟩
  obtain ⟨u, rfl, rx⟩ := vals1 r
  cases rx
  obtain ⟨its, rv, pl, hz⟩ := plain_of I hq
  obtain rfl := refs_at rv
  rw [List.length_map] at hz
  obtain ⟨pv, prs, rel, l1, l2, two⟩ := two_of I hp
  have P := PairArg.tuple (prog := X.prog) (w := X.w) a (ps.map Value.ref).toArray (fun j => (ps[j]?).getD 0) pv
  refine PySem.call_dict_pairs (knd := mixKind X.prog X.w) (kvs := prs) P (I.ok.hd hcalm) ⟨pl, by simp [l2], fun j k v e => ?_⟩ ⟨l1.trans l2.symm, fun i key v e => (two i key v e).1⟩ (by rw [l2]; exact hz) fun h' tk hd' k => ?_
  · obtain ⟨_, b, e1, e2⟩ := two j k v e
    exact ⟨by simp [e1], .inl (by show IsTup s.heap ((ps[j]?).getD 0) #[k, v]; rw [e1]; exact e2)⟩
  · have hm : (s.heap.objs.size == sysModules) = false := beq_eq_false_iff_ne.mpr (Nat.ne_of_gt I.big)
    have hlen : (mergeK [] kvs).length ≤ sizeLine := by
      refine Nat.le_trans (length_mergeK kvs []) ?_
      rw [List.length_nil, Nat.zero_add, rel.length, l1]
      exact hz
    exact ⟨.ref s.heap.objs.size, upd H s.heap.objs.size (.dK (mergeK [] kvs)), I.laid (t' := tk) (fun b o e => k b o (by simp) e) (Nat.le_refl _) (show ObjOk X.prog X.w _ _ _ (.dK (mergeK [] kvs)) from ⟨hlen, hm, merged [] prs, KV.merge rel .nil, hd'⟩), rfl, q _ (I.hok.fresh (Nat.le_refl _))⟩
end
end Tn
namespace Dw
variable [Dw.LamReg]
open PySem PySem.Spec PySem.Calls PyProof.Rows L2 Rp
def wDictN : List EV → (EV → Prop) → Prop
  | [.py (.tuple xs)], P => ∃ ms, pairsM xs = some ms ∧ P (.py (.dict (mergeD [] ms)))
  | es, P => wDictA es P
section
variable {X : Cx} {m : Mode}
def brDictN (hcalm : X.calm = true) : BR X m (.type "dict") wDictN where
  r := _
  c := cr_or (Tn.call_dictN hcalm) (brDictA (m := m) hcalm).c
  s := fun L p H0 H vs es P Q o ra hg k => by
    unfold wDictN at hg
    split at hg
    · obtain ⟨v, rfl, r⟩ := paired1 ra
      obtain ⟨ms, hm, hP⟩ := hg
      obtain ⟨a, xs, rfl, h1, h2⟩ := r.tupN
      obtain ⟨ps, kvs, rfl, g1, g2⟩ := pairs_in h2 hm
      exact .inl ⟨a, ps, kvs, rfl, h1, g1, fun q hq => Go.dic k o hP (merge_dts g2 .nil) hq⟩
    · exact .inr ((brDictA (m := m) hcalm).s L p H0 H vs _ P Q o ra hg k)
/-- t.index(x) -/
def wIdxT : EV → EV → (EV → Prop) → Prop
  | .py (.tuple ds), .py (.str z), P => ∃ (ys : List Str) (j : Nat), ds = ys.map .str ∧ ys[j]? = some z ∧ (∀ m, m < j → ys[m]? ≠ some z) ∧ P (.py (.int j))
  | _, _, _ => False
def wIdx (fo fe : WF) : WF := w2 (fun ρ P => fo ρ fun x => (∃ ds, x = .py (.tuple ds)) ∧ P x) fe wIdxT
end
end Dw

/-! list(zip(a, b)) of two lists: each pair stays out, so that each step lays a new tuple. -/
namespace Lzp
open PySem PySem.Spec PyProof.Rows L2
/-- behind i steps -/
structure Jz (S z TI TO i1 i2 l1 l2 : Addr) (xs ys : Array Value) (h0 : Heap) (i : Nat) (h : Heap) (Ts : List Addr) : Prop where
  ti : IsPair h TI (.ref i1) (.ref i2)
  it1 : h.IsListIter i1 l1 i
  it2 : h.IsListIter i2 l2 i
  ls1 : h.IsList l1 xs
  ls2 : h.IsList l2 ys
  zp : (IsZip h z TI TO .none ∧ ∃ a b, IsPair h TO a b) ∨ ∃ T f oT, IsZipHeld h z TI TO T f ∧ h.get? T = some oT ∧ T ≠ z ∧ T ≠ i1 ∧ T ≠ i2 ∧ T ≠ S
  to : ∃ o, h.get? TO = some o
  ln : Ts.length = i
  big : ∀ T ∈ Ts, h0.objs.size ≤ T ∧ T ≠ S ∧ T ≠ z ∧ T ≠ TO ∧ T ≠ i1 ∧ T ≠ i2
  nd : Ts.Nodup
  pr : ∀ (j : Nat) (T : Addr), Ts[j]? = some T → ∃ x y, xs[j]? = some x ∧ ys[j]? = some y ∧ IsPair h T x y
  kp : ∀ b o, h0.get? b = some o → h.get? b = some o
section
variable {prog : Program} {w : World} {A : Around} {E : Value → Shared → Prop} {s : Shared} {S z TI TO i1 i2 l1 l2 : Addr} {xs ys : Array Value} {h0 : Heap} {i : Nat} {Ts : List Addr}
/-- what all of it stands apart by -/
structure Ap (S z TI TO i1 i2 l1 l2 : Addr) (h0 : Heap) : Prop where
  D : ZipApart z TI TO i1 i2 l1 l2
  n : S ≠ z ∧ S ≠ TI ∧ S ≠ TO ∧ S ≠ i1 ∧ S ≠ i2 ∧ S ≠ l1 ∧ S ≠ l2
  b : h0.objs.size ≤ S ∧ h0.objs.size ≤ z ∧ h0.objs.size ≤ TO ∧ h0.objs.size ≤ i1 ∧ h0.objs.size ≤ i2
end
section
variable {prog : Program} {w : World} {A : Around} {R : Result → Shared → Prop} {S z TI TO i1 i2 l1 l2 : Addr} {xs ys : Array Value} {h0 : Heap}
abbrev lstO (acc : Array Value) (c : Nat) : Obj := { cls := .type "list", dict := none, data := .seq acc c, slots := #[] }
abbrev Fin1 (S : Addr) (xs ys : Array Value) (h0 : Heap) (h : Heap) : Prop := ∃ (Ts : List Addr) (c : Nat), h.get? S = some (lstO (Ts.map Value.ref).toArray c) ∧ Ts.length = min xs.size ys.size ∧ Ts.Nodup ∧ (∀ T ∈ Ts, h0.objs.size ≤ T ∧ T ≠ S) ∧
  (∀ (j : Nat) (T : Addr), Ts[j]? = some T → ∃ x y, xs[j]? = some x ∧ ys[j]? = some y ∧ IsPair h T x y) ∧ ∀ b o, h0.get? b = some o → h.get? b = some o
end
section
variable {prog : Program} {w : World} {A : Around} {R : Result → Shared → Prop} {S z TI TO i1 i2 l1 l2 : Addr} {xs ys : Array Value} {h0 : Heap} {s : Shared}
/-- what ends a built-in's step: a result, or the next piece of code -/
abbrev Stepped (prog : Program) (w : World) (A : Around) (R : Result → Shared → Prop) : Fin → Shared → Prop := fun fin s' => match fin with
  | .done f => R (.ok f) s'
  | .again c' => c'.quiet = true ∧ codeAny (model prog w) A c' R s'
end
/-- the new tuples at their addresses -/
def putZ (H : Hp) : List (Addr × HO) → Hp
  | [] => H
  | q :: r => upd (putZ H r) q.1 q.2
/-- what the new heap holds -/
structure Zd (H H' : Hp) (S : Addr) (Ts : List Addr) (vs ws : List V) : Prop where
  kp : ∀ b o, H b = some o → H' b = some o
  ns : H S = none
  nt : ∀ t ∈ Ts, H t = none ∧ t ≠ S
  ls : H' S = some (.lst (Ts.map V.ref))
  ln : Ts.length = min vs.length ws.length
  tp : ∀ (j : Nat) (t : Addr), Ts[j]? = some t → ∃ v w, vs[j]? = some v ∧ ws[j]? = some w ∧ Tn.TupA H' t [v, w]
def tListZip (K : PySem.W.Frag) (ta : TA) : TE := fun σ H Q => ta σ H fun us H1 => ∃ a b vs ws, us = [.ref a, .ref b] ∧ SqL K H1 a vs ∧ SqL K H1 b ws ∧ ∀ H' S Ts, Zd H1 H' S Ts vs ws → Q (.ref S) H'
end Lzp

/-! list(zip(a, b)) of two tuples (ListZip for tuples), and of two lists or two tuples. -/
namespace Lzt
open PySem PySem.Spec PyProof.Rows L2 Lzp
section
variable {prog : Program} {w : World} {A : Around} {E : Value → Shared → Prop} {s : Shared} {z TI TO T i1 i2 l1 l2 : Addr} {f : Bool} {oT : Obj} {k1 k2 : Nat} {xs ys : Array Value}
end
/-- behind i steps -/
structure Jz (S z TI TO i1 i2 l1 l2 : Addr) (xs ys : Array Value) (h0 : Heap) (i : Nat) (h : Heap) (Ts : List Addr) : Prop where
  ti : IsPair h TI (.ref i1) (.ref i2)
  it1 : h.IsTupleIter i1 l1 i
  it2 : h.IsTupleIter i2 l2 i
  ls1 : h.IsTuple l1 xs
  ls2 : h.IsTuple l2 ys
  zp : (IsZip h z TI TO .none ∧ ∃ a b, IsPair h TO a b) ∨ ∃ T f oT, IsZipHeld h z TI TO T f ∧ h.get? T = some oT ∧ T ≠ z ∧ T ≠ i1 ∧ T ≠ i2 ∧ T ≠ S
  to : ∃ o, h.get? TO = some o
  ln : Ts.length = i
  big : ∀ T ∈ Ts, h0.objs.size ≤ T ∧ T ≠ S ∧ T ≠ z ∧ T ≠ TO ∧ T ≠ i1 ∧ T ≠ i2
  nd : Ts.Nodup
  pr : ∀ (j : Nat) (T : Addr), Ts[j]? = some T → ∃ x y, xs[j]? = some x ∧ ys[j]? = some y ∧ IsPair h T x y
  kp : ∀ b o, h0.get? b = some o → h.get? b = some o
section
variable {prog : Program} {w : World} {A : Around} {E : Value → Shared → Prop} {s : Shared} {S z TI TO i1 i2 l1 l2 : Addr} {xs ys : Array Value} {h0 : Heap} {i : Nat} {Ts : List Addr}
end
section
variable {prog : Program} {w : World} {A : Around} {R : Result → Shared → Prop} {S z TI TO i1 i2 l1 l2 : Addr} {xs ys : Array Value} {h0 : Heap}
end
section
variable {prog : Program} {w : World} {A : Around} {R : Result → Shared → Prop} {S z TI TO i1 i2 l1 l2 : Addr} {xs ys : Array Value} {h0 : Heap} {s : Shared}
end
def tListZipT (K : PySem.W.Frag) (ta : TA) : TE := fun σ H Q => ta σ H fun us H1 => ∃ a b vs ws, us = [.ref a, .ref b] ∧ ((SqL K H1 a vs ∧ SqL K H1 b ws) ∨ (SqT K H1 a vs ∧ SqT K H1 b ws)) ∧ ∀ H' S Ts, Zd H1 H' S Ts vs ws → Q (.ref S) H'
end Lzt

/-! Data ways: list(zip(a, b)) of two lists; d.clear() of what a name alone holds. -/
namespace Dw
open PySem PySem.Spec PySem.Calls PyProof.Rows L2 Rp
variable [Dw.LamReg]
/-- the pairs of two lists as tuples -/
def zipL (xs ys : List PyData) : List PyData := (xs.zip ys).map fun q => .tuple [q.1, q.2]
def wZipL : EV → EV → (EV → Prop) → Prop
  | .py (.list xs), .py (.list ys), P => P (.py (.list (zipL xs ys)))
  | .py (.tuple xs), .py (.tuple ys), P => P (.py (.list (zipL xs ys)))
  | _, _, _ => False
section
variable {X : Cx} {m : Mode}
/-- d.clear(), d what a name alone holds -/
def wClrD (i : Nat) : WS := fun ρ kk => ∃ ds, ρ[i]? = some (.own (.dict ds)) ∧ kk.nx (ρ.set i (.own (.dict [])))
end
end Dw

/-! Data ways: a <= b <= c of numbers as a test. -/
namespace Dw
open PySem PySem.Spec PySem.W PySem.Calls PyProof.Rows L2 Rp
variable [Dw.LamReg]
def wChI (f f' : Int → Int → Bool) (fa fb fc : WF) : WT := fun ρ P => fa ρ fun x => fb ρ fun y => match x, y with
  | .py (.int i), .py (.int j) => if f i j = true then fc ρ fun z => match z with
    | .py (.int k) => P (f' j k)
    | _ => False
    else P false
  | _, _ => False
section
variable {X : Cx}
theorem tchI {a b c : Expr} {op op' : CmpOp} {pos : Pos} {fa fb fc : WF} {f f' : Int → Int → Bool} (ho : OpR X (compareOp op) (rI0 fun i j => .bl (f i j))) (ho' : OpR X (compareOp op') (rI0 fun i j => .bl (f' i j))) (ha : PE X a (tW X.K .read fa)) (hb : PE X b (tW X.K .read fb)) (hc : PE X c (tW X.K .read fc)) (hm : lastMarks [op, op'] [b, c] = false := by with_unfolding_all rfl) :
    PT X (.Compare a [op, op'] [b, c] pos) (tWT X.K (wChI f f' fa fb fc)) := by
  refine pt_mono (pt_chain ho ho' ha hb hc hm) fun σ H Q q => ?_
  obtain ⟨He, Lc, os, p, gs, ρ, P, E, hf, k⟩ := q
  refine ⟨He, Lc, os, p, gs, ρ, _, E, hf, fun x H1 v hx s o ra => ⟨He, Lc, os, p, gs, ρ, _, E.step s o, hx, fun y H2 u hy s2 o2 rb => ?_⟩⟩
  split at hy
  · rename_i i j
    refine ⟨i, j, (ra.step (by decide) o s2).int, rb.int, f i j, rfl, ?_⟩
    cases e : f i j with
    | true =>
      rw [if_pos rfl]
      rw [e, if_pos rfl] at hy
      refine ⟨He, Lc, os, p, gs, ρ, _, (E.step s o).step s2 o2, hy, fun z H3 w hz s3 o3 rc => ?_⟩
      split at hz
      · rename_i l
        exact ⟨j, l, (rb.step (by decide) o2 s3).int, rc.int, _, rfl, k _ H3 hz ((s.trans s2).trans s3) o3⟩
      · exact hz.elim
    | false =>
      rw [if_neg (by decide)]
      rw [e, if_neg (by decide)] at hy
      exact ⟨_, rfl, k _ H2 hy (s.trans s2) o2⟩
  · exact hy.elim
end
end Dw

/-! Data ways: == of own objects by their own __eq__; [..] * k. -/
namespace Dw
open PySem PySem.Spec PySem.W PySem.Calls PyProof.Rows L2 Rp
open He (ga)
variable [Dw.LamReg]
section
variable {X : Cx} {m mr : Mode} {CX : CXT} {k : Nat} {C f : Addr} {fd : FuncData} {ps : List Str} {sp : Sp} {E : XK}
def rEqO (C : Addr) (sp : Sp) (E : XK) : R2 := fun x y H Q => ∃ a b dx dy fs gs, x = .ref a ∧ y = .ref b ∧ H a = some (.ins C dx fs) ∧ H b = some (.ins C dy gs) ∧ sp [.ref a, .ref b] H (fun v H' => ∃ k, v = .bl k ∧ Q (.bl k) H') E
def wEqO (C : Str) (g : WD) : EV → EV → (EV → Prop) → Prop
  | .ob C1 fs, .ob C2 gs, P => C1 = C ∧ C2 = C ∧ g [.ob C1 fs, .ob C2 gs] fun e => ∃ b, e = .py (.bool b) ∧ P (.py (.bool b))
  | _, _, _ => False
end
/-! ### [..] * k -/
def wRepL (fa : WA) (fk : WF) : WF := fun ρ P => fa ρ fun es => ∃ ds, pys es = some ds ∧ ds.length ≤ sizeLine ∧ fk ρ fun y => match y with
  | .py (.int k) => -(2 ^ 63) ≤ k ∧ k < 2 ^ 63 ∧ ds.length * k.toNat ≤ sizeLine ∧ P (.py (.list (List.replicate k.toNat ds).flatten))
  | _ => False
section
variable {X : Cx} {m : Mode}
end
end Dw

/-! Data ways: t * k of a tuple that holds something, k from 2 to 1000. -/
namespace Tn
open PySem PySem.Spec PyProof.Rows L2
variable [Dw.LamReg]
def rRepN (K : PySem.W.Frag) : R2 := fun x y H Q => ∃ a k xs, x = .ref a ∧ y = .int k ∧ SqT K H a xs ∧ xs ≠ [] ∧ (2 ≤ k ∧ k ≤ 1000) ∧ xs.length ≤ 1000 ∧ NewT H (List.replicate k.toNat xs).flatten Q
end Tn
namespace Dw
variable [Dw.LamReg]
open PySem PySem.Spec PySem.W PySem.Calls PyProof.Rows L2 Dr Rp
open He (ga ma)
def wRepT : EV → EV → (EV → Prop) → Prop
  | .py (.tuple ds), .py (.int k), P => ds ≠ [] ∧ (2 ≤ k ∧ k ≤ 1000) ∧ ds.length ≤ 1000 ∧ P (.py (.tuple (List.replicate k.toNat ds).flatten))
  | _, _, _ => False
section
variable {X : Cx} {m : Mode}
end
end Dw

/-! Data ways: sorted(set(x)) of whole numbers. -/
namespace Dw
open PySem PySem.Spec PySem.W PySem.Calls PyProof.Rows L2 Dr Rp
open He (ga ma)
variable [Dw.LamReg]
def leI (a b : Int) : Bool := Sl.leKey (.inl a) (.inl b)
/-- sorted(set(x)), x of whole numbers: what ascends and holds the same -/
def wSortSetI : EV → (EV → Prop) → Prop
  | .py d, P => ∃ xs : List Int, seqD d = some (xs.map .int) ∧ xs.length + 1 < scanBound ∧ ∀ ys : List Int, ys.Pairwise (· < ·) → (∀ i, i ∈ ys ↔ i ∈ xs) → P (.py (.list (ys.map .int)))
  | _, _ => False
section
variable {X : Cx} {m : Mode}
end
end Dw

/-! Meanings over data: what comprehensions and loops come to. -/
namespace Dw
open PySem PySem.Spec PySem.W PySem.Calls PyProof.Rows L2 Dr Rp
/-- one turn of a comprehension -/
def lstep (g : WGt) (t : WT) (f : WF) (ρ : EnvD) (x : EV) (acc : List PyData) (k : List PyData → Prop) : Prop :=
  g x ρ fun ρ' => t ρ' fun b => if b = true then f ρ' fun e => match e with
    | .py d => acc.length < sizeLine ∧ k (acc ++ [d])
    | _ => False
    else k acc
def sstep (g : WGt) (t : WT) (f : WF) (ρ : EnvD) (x : EV) (acc : List Str) (k : List Str → Prop) : Prop :=
  g x ρ fun ρ' => t ρ' fun b => if b = true then f ρ' fun e => match e with
    | .py (.str s) => acc.length + 1 < scanBound ∧ k (acc ++ [s])
    | _ => False
    else k acc
def sstep2 (g : WGt) (t : WT) (fi1 : WA) (g1 : WGt) (t1 : WT) (f : WF) (vs1 : List Nat) (ρ : EnvD) (x : EV) (acc : List Str) (k : List Str → Prop) : Prop :=
  g x ρ fun ρ2 => t ρ2 fun b => if b = true then noOwn ρ2 vs1 ∧ fi1 ρ2 fun ys => wSgGo g1 t1 f (wipeE ρ2 vs1) ys acc k else k acc
def dstep (g : WGt) (t : WT) (fk fv : WF) (ρ : EnvD) (x : EV) (acc : List (PyData × PyData)) (k : List (PyData × PyData) → Prop) : Prop :=
  g x ρ fun ρ' => t ρ' fun b => if b = true then fk ρ' fun ek => fv ρ' fun ev => match ek, ev with
    | .py kd, .py d => ∃ key, keyD kd = some key ∧ acc.length < sizeLine ∧ k (putD acc key d)
    | _, _ => False
    else k acc
/-- a dict comprehension over different texts -/
theorem putD_new {acc : List (PyData × PyData)} {x : Str} {d : PyData} (h : ∀ q ∈ acc, q.1 ≠ .str x) (hk : ∀ q ∈ acc, ∃ y, q.1 = .str y) : putD acc (.inr x) d = acc ++ [(.str x, d)] := by
  unfold putD
  have : hasD acc (.inr x) = false := by
    unfold hasD
    rw [List.any_eq_false]
    intro q hq
    obtain ⟨y, e⟩ := hk q hq
    rw [e]
    simp only [keyD, decide_eq_true_eq]
    intro z
    have : y = x := Sum.inr.inj (Option.some.inj (of_decide_eq_true z))
    exact h q hq (by rw [e, this])
  rw [this]
  simp [kD, Rp.kD]
/-! ### texts as data -/
def strsT (xs : List Str) : PyData := .tuple (xs.map .str)
def strsL (xs : List Str) : PyData := .list (xs.map .str)
theorem boolsD_map (bs : List Bool) : boolsD (bs.map .bool) = some bs := by
  induction bs with
  | nil => rfl
  | cons b r ih => rw [List.map_cons, boolsD, ih] <;> rfl
end Dw

/-! Data ways: what a way gives, rule by rule. -/
namespace Dw
open PySem PySem.Spec PySem.W PySem.Calls PyProof.Rows L2 Dr Rp
variable [Dw.LamReg]
/-- the expression gives e -/
def Gv (f : WF) (ρ : EnvD) (e : EV) : Prop := ∀ P : EV → Prop, P e → f ρ P
def Gt (f : WT) (ρ : EnvD) (b : Bool) : Prop := ∀ P : Bool → Prop, P b → f ρ P
def Ga (f : WA) (ρ : EnvD) (es : List EV) : Prop := ∀ P : List EV → Prop, P es → f ρ P
def Gd (f : WD) (es : List EV) (e : EV) : Prop := ∀ P : EV → Prop, P e → f es P
def Gg (g : WGt) (x : EV) (ρ ρ' : EnvD) : Prop := ∀ P : EnvD → Prop, P ρ' → g x ρ P
/-- the block goes on, or hands back -/
inductive Ot where
  | nx (ρ : EnvD) | rt (e : EV)
def Ot.to (k : WK) : Ot → Prop
  | .nx ρ => k.nx ρ
  | .rt e => k.rt e
def Gs (f : WS) (ρ : EnvD) (o : Ot) : Prop := ∀ k : WK, o.to k → f ρ k
section
variable {ρ ρ' : EnvD} {e x y : EV} {fa fb f : WF} {b : Bool}
theorem Gv.cast (h : Gv f ρ e) {e' : EV} (q : e = e') : Gv f ρ e' := q ▸ h
theorem Gs.cast {f : WS} {o o' : Ot} (h : Gs f ρ o) (q : o = o') : Gs f ρ o' := q ▸ h
theorem Gt.cast {f : WT} {b' : Bool} (h : Gt f ρ b) (q : b = b') : Gt f ρ b' := q ▸ h
/-! ### names -/
theorem g_C (d : PyData) : Gv (wC d) ρ (.py d) := fun P h => h
theorem g_V {m : Mode} {i : Nat} {d : PyData} (h : ρ[i]? = some (.py d)) : Gv (wVar m i) ρ (.py d) := fun P p => by
  unfold wVar
  rw [h]
  exact p
theorem g_Vst {m : Mode} {i : Nat} (h : ρ[i]? = some .st) : Gv (wVar m i) ρ .st := fun P p => by
  unfold wVar
  rw [h]
  exact p
theorem g_Vown {i : Nat} {d : PyData} (h : ρ[i]? = some (.own d)) : Gv (wVar .read i) ρ (.py d) := fun P p => by
  unfold wVar
  rw [h]
  exact ⟨rfl, p⟩
theorem g_w1 {g : EV → (EV → Prop) → Prop} {r : EV} (ha : Gv fa ρ x) (hg : ∀ P : EV → Prop, P r → g x P) : Gv (w1 fa g) ρ r := fun P p => ha _ (hg P p)
theorem g_w2 {g : EV → EV → (EV → Prop) → Prop} {r : EV} (ha : Gv fa ρ x) (hb : Gv fb ρ y) (hg : ∀ P : EV → Prop, P r → g x y P) : Gv (w2 fa fb g) ρ r := fun P p => ha _ (hb _ (hg P p))
theorem g_call {g : List EV → (EV → Prop) → Prop} {fs : WA} {es : List EV} {r : EV} (ha : Ga fs ρ es) (hg : ∀ P : EV → Prop, P r → g es P) : Gv (wCallA g fs) ρ r := fun P p => ha _ (hg P p)
theorem g_nil : Ga wNil ρ [] := fun P h => h
theorem g_cons {fr : WA} {es : List EV} (ha : Gv fa ρ x) (hr : Ga fr ρ es) : Ga (wCons fa fr) ρ (x :: es) := fun P p => ha _ (hr _ p)
/-! ### tests -/
theorem g_TB (ha : Gv fa ρ (.py (.bool b))) : Gt (wT1 fa wTB) ρ b := fun P p => ha _ p
theorem g_not {t : WT} (h : Gt t ρ b) : Gt (wTNot t) ρ (!b) := fun P p => h _ p
theorem g_and {t u : WT} {c : Bool} (h : Gt t ρ b) (k : b = true → Gt u ρ c) : Gt (wTAnd t u) ρ (b && c) := fun P p => h _ (by
  cases b with
  | true => exact k rfl _ p
  | false => exact p)
theorem g_or {t u : WT} {c : Bool} (h : Gt t ρ b) (k : b = false → Gt u ρ c) : Gt (wTOr t u) ρ (b || c) := fun P p => h _ (by
  cases b with
  | false => exact k rfl _ p
  | true => exact p)
theorem g_yes : Gt wYes ρ true := fun P h => h
theorem g_andV {c : Bool} (h : Gv fa ρ (.py (.bool b))) (k : b = true → Gv fb ρ (.py (.bool c))) : Gv (wAndV fa fb) ρ (.py (.bool (b && c))) := fun P p => h _ (by
  cases b with
  | true => exact k rfl _ p
  | false => exact p)
theorem g_notV (h : Gv fa ρ (.py (.bool b))) : Gv (w1 fa wNotV) ρ (.py (.bool (!b))) := fun P p => h _ p
/-! ### walks -/
theorem g_seqL {α : Type} {xs : List α} {val : α → PyData} (h : Gv f ρ (.py (.list (xs.map val)))) : Ga (wSeqI f) ρ (xs.map fun x => .py (val x)) := fun P p => h _ ⟨_, rfl, by
  rw [List.map_map]
  exact p⟩
theorem g_seqT {α : Type} {xs : List α} {val : α → PyData} (h : Gv f ρ (.py (.tuple (xs.map val)))) : Ga (wSeqI f) ρ (xs.map fun x => .py (val x)) := fun P p => h _ ⟨_, rfl, by
  rw [List.map_map]
  exact p⟩
def Gstep (g : WGt) (t : WT) (f : WF) (ρ : EnvD) (x : EV) (b : Bool) (d : PyData) : Prop := ∃ ρ', Gg g x ρ ρ' ∧ Gt t ρ' b ∧ (b = true → Gv f ρ' (.py d))
theorem g_lc {α : Type} {xs : List α} {enc : α → EV} {p : α → Bool} {val : α → PyData} {fi : WA} {g : WGt} {t : WT} {vs : List Nat} (hno : noOwn ρ vs) (hi : Ga fi ρ (xs.map enc)) (hl : xs.length ≤ sizeLine) (hb : ∀ x ∈ xs, Gstep g t f (wipeE ρ vs) (enc x) (p x) (val x)) :
    Gv (wLc fi g t f vs) ρ (.py (.list ((xs.filter p).map val))) := fun P hp => ⟨hno, hi _ (by
  have key : ∀ (ys : List α) (acc : List PyData), (∀ x ∈ ys, x ∈ xs) → acc.length + ys.length ≤ sizeLine → P (.py (.list (acc ++ (ys.filter p).map val))) → wLcGo g t f (wipeE ρ vs) (ys.map enc) acc fun ds => P (.py (.list ds)) := by
    intro ys
    induction ys with
    | nil => intro acc _ _ h; simpa [wLcGo] using h
    | cons x r ih =>
      intro acc hs hn h
      rw [List.length_cons] at hn
      obtain ⟨ρ', hg, ht, hf⟩ := hb x (hs x List.mem_cons_self)
      rw [List.map_cons]
      refine hg _ (ht _ ?_)
      cases hc : p x with
      | true =>
        rw [if_pos rfl]
        refine hf hc _ ⟨by omega, ih (acc ++ [val x]) (fun y hy => hs y (List.mem_cons_of_mem _ hy)) (by rw [List.length_append, List.length_singleton]; omega) ?_⟩
        rw [List.filter_cons, if_pos hc, List.map_cons, ← List.singleton_append, ← List.append_assoc] at h
        exact h
      | false =>
        rw [if_neg (by decide)]
        refine ih acc (fun y hy => hs y (List.mem_cons_of_mem _ hy)) (by omega) ?_
        rw [List.filter_cons, if_neg (by simp [hc])] at h
        exact h
  exact key xs [] (fun _ h => h) (by simpa using hl) (by simpa using hp))⟩
theorem g_lc0 {α : Type} {xs : List α} {enc : α → EV} {val : α → PyData} {fi : WA} {g : WGt} {vs : List Nat} (hno : noOwn ρ vs) (hi : Ga fi ρ (xs.map enc)) (hl : xs.length ≤ sizeLine) (hb : ∀ x ∈ xs, ∃ ρ', Gg g (enc x) (wipeE ρ vs) ρ' ∧ Gv f ρ' (.py (val x))) :
    Gv (wLc fi g wYes f vs) ρ (.py (.list (xs.map val))) := by
  have z := g_lc (p := fun _ => true) (t := wYes) (f := f) (val := val) hno hi hl fun x hx => by
    obtain ⟨ρ', h1, h2⟩ := hb x hx
    exact ⟨ρ', h1, g_yes, fun _ => h2⟩
  rwa [List.filter_eq_self.mpr (fun _ _ => rfl)] at z
theorem gg_N {i : Nat} {u : EV} (h : ρ[i]? = some u) (n : (match u with | .own _ => false | .owl _ => false | _ => true) = true := by rfl) : Gg (gN i) x ρ (ρ.set i x) := fun P p => by
  unfold gN
  rw [h]
  cases u with
  | own d => cases n
  | owl d => cases n
  | _ => exact p
theorem gg_T2 {g1 g2 : WGt} {a c : PyData} {ρ1 ρ2 : EnvD} (h1 : Gg g1 (.py a) ρ ρ1) (h2 : Gg g2 (.py c) ρ1 ρ2) : Gg (gT [g1, g2]) (.py (.tuple [a, c])) ρ ρ2 := fun P p => ⟨rfl, h1 _ (h2 _ p)⟩
theorem gg_K2 {g1 g2 : WGt} {a c : PyData} {ρ1 ρ2 : EnvD} (h1 : Gg g1 (.py a) ρ ρ1) (h2 : Gg g2 (.py c) ρ1 ρ2) : Gg (gT [g1, g2]) (.pk [a, c]) ρ ρ2 := fun P p => ⟨rfl, h1 _ (h2 _ p)⟩
/-! ### statements -/
theorem g_seq {f g : WS} {o : Ot} (h : Gs f ρ (.nx ρ')) (k : Gs g ρ' o) : Gs (wSeq f g) ρ o := fun kk p => h _ (k kk p)
theorem g_next : Gs wNext ρ (.nx ρ) := fun k p => p
theorem g_set {i : Nat} (hi : i < ρ.length) (h : Gv f ρ e) : Gs (wSet i f) ρ (.nx (ρ.set i e)) := fun k p => ⟨hi, h _ p⟩
theorem g_own {i : Nat} {d : PyData} (hi : i < ρ.length) (h : Gv f ρ (.py d)) : Gs (wOwn i f) ρ (.nx (ρ.set i (.own d))) := fun k p => ⟨hi, h _ p⟩
theorem g_ret (h : Gv f ρ e) : Gs (wRet f) ρ (.rt e) := fun k p => h _ p
theorem g_drop (h : Gv f ρ e) : Gs (wDrop f) ρ (.nx ρ) := fun k p => h _ p
theorem g_if {t : WT} {f g : WS} {o : Ot} (ht : Gt t ρ b) (h1 : b = true → Gs f ρ o) (h2 : b = false → Gs g ρ o) : Gs (wIfS t f g) ρ o := fun k p => ht _ (by
  cases b with
  | true => exact h1 rfl k p
  | false => exact h2 rfl k p)
theorem g_def {n j : Nat} {f : WS} {es : List EV} {e : EV} (hl : es.length = j) (h : Gs f (startE n es) (.rt e)) : Gd (wDef n j f) es e := fun P p => ⟨hl, h _ p⟩
/-! ### values -/
theorem v_all {α : Type} {ys : List α} {q : α → Bool} {P : EV → Prop} (p : P (.py (.bool (ys.all q)))) : wAll [.py (.list (ys.map fun y => .bool (q y)))] P := ⟨ys.map q, by rw [← boolsD_map, List.map_map]; rfl, by rw [List.all_map]; exact p⟩
theorem v_lenT {ds : List PyData} {P : EV → Prop} (p : P (.py (.int (ds.length : Nat)))) : wLen [.py (.tuple ds)] P := ⟨_, rfl, p⟩
end
end Dw

/-! Data ways: what a way gives: cuts, walks by number, equality of texts, loops. -/
namespace Dw
open PySem PySem.Spec PySem.W PySem.Calls PyProof.Rows L2 Dr Rp
variable [Dw.LamReg]
theorem six_nat (n len : Nat) (d : Nat) : HT.sIx len d (some (n : Int)) = min n len := by
  unfold HT.sIx
  have : ¬ ((n : Int) < 0) := by omega
  simp [this]
theorem cutD_to (ds : List PyData) (n : Nat) : cutD ds none (some (n : Int)) = ds.take n := by
  unfold cutD
  rw [six_nat]
  show (ds.drop 0).take (min n ds.length - 0) = _
  rw [List.drop_zero, Nat.sub_zero, ← List.take_take, List.take_length]
theorem cutD_from (ds : List PyData) (n : Nat) : cutD ds (some (n : Int)) none = ds.drop n := by
  unfold cutD
  rw [six_nat]
  show (ds.drop (min n ds.length)).take (ds.length - min n ds.length) = _
  rcases Nat.le_total n ds.length with h | h
  · rw [Nat.min_eq_left h, List.take_of_length_le (by simp)]
  · rw [Nat.min_eq_right h, List.drop_eq_nil_of_le (Nat.le_refl _), List.drop_eq_nil_of_le h]
    simp
section
variable {ρ ρ' : EnvD} {e x y : EV} {fa fb f : WF} {b : Bool}
/-- the arguments' values decide, the rest is told of the values -/
def Gw (g : EV → (EV → Prop) → Prop) (x r : EV) : Prop := ∀ P : EV → Prop, P r → g x P
def Gop (fo : WO) (ρ : EnvD) (o : Option Int) : Prop := ∀ P : Option Int → Prop, P o → fo ρ P
theorem go_no : Gop wNoP ρ none := fun P h => h
theorem go_part {i : Int} (h : Gv f ρ (.py (.int i))) : Gop (wPart f) ρ (some i) := fun P p => h _ p
theorem g_cutT {ds : List PyData} {fl fh : WO} {lo hi : Option Int} (h : Gv f ρ (.py (.tuple ds))) (hl : Gop fl ρ lo) (hh : Gop fh ρ hi) : Gv (wCut cutA f fl fh) ρ (.py (.tuple (cutD ds lo hi))) := fun P p => h _ (hl _ (hh _ p))
theorem ga_rng1 {n : Nat} (h : Gv fa ρ (.py (.int (n : Nat)))) (hn : n < 4611686018427387904) : Ga (wRng1 fa) ρ ((List.range n).map fun i => EV.py (.int (i : Nat))) := fun P p => h _ ⟨by omega, by
  show P (intsD 0 _)
  unfold intsD
  simpa using p⟩
theorem g_negI {i : Int} (h : Gv fa ρ (.py (.int i))) : Gv (w1 fa wNeg) ρ (.py (.int (-i))) := fun P p => h _ p
theorem g_eq {d e : PyData} {neg : Bool} (ha : Gv fa ρ (.py d)) (hb : Gv fb ρ (.py e)) (h1 : eqOk d = true) (h2 : eqOk e = true) : Gv (w2 fa fb (wEq neg)) ρ (.py (.bool (if neg then !PyData.eqv d e else PyData.eqv d e))) := fun P p => ha _ (hb _ ⟨⟨h1, h2⟩, p⟩)
theorem g_ix {ds : List PyData} {i : Int} {d : PyData} (ha : Gv fa ρ (.py (.tuple ds))) (hb : Gv fb ρ (.py (.int i))) (h : atI ds i = some d) : Gv (w2 fa fb wIx) ρ (.py d) := fun P p => ha _ (hb _ ⟨d, h, p⟩)
theorem g_cmp {i j : Int} {q : Int → Int → Bool} (ha : Gv fa ρ (.py (.int i))) (hb : Gv fb ρ (.py (.int j))) : Gv (w2 fa fb (wCmpI q)) ρ (.py (.bool (q i j))) := fun P p => ha _ (hb _ p)
theorem v_tupL {ds : List PyData} {P : EV → Prop} (p : P (.py (.tuple ds))) : wTupleOf [.py (.list ds)] P := p
theorem v_lst {es : List EV} {ds : List PyData} {P : EV → Prop} (h : pys es = some ds) (hl : ds.length ≤ sizeLine) (p : P (.py (.list ds))) : wLst es P := ⟨ds, h, hl, p⟩
theorem v_tup {es : List EV} {ds : List PyData} {P : EV → Prop} (h : pys es = some ds) (hl : ds.length ≤ sizeLine) (p : P (.py (.tuple ds))) : wTup es P := ⟨ds, h, hl, p⟩
end
/-! ### walks over rows that hand back -/
def plE (ρ : EnvD) : Bool := ρ.all fun e => match e with
  | .own _ => false
  | .owl _ => false
  | _ => true
def nOw (u : EV) : Prop := (match u with | .own _ => false | .owl _ => false | _ => true) = true
theorem no_ownP {ρ : EnvD} {vs : List Nat} (h : plE ρ = true) : noOwn ρ vs := fun i _ d e => by
  have := List.all_eq_true.mp h _ (List.mem_of_getElem? e)
  cases d <;> cases this
theorem gg_Np {ρ : EnvD} {i : Nat} {x u : EV} (h : ρ[i]? = some u) (n : nOw u) : Gg (gN i) x ρ (ρ.set i x) := fun P p => by
  unfold gN
  rw [h]
  cases u with
  | own d => cases n
  | owl d => cases n
  | _ => exact p
/-- rows one after another, all go on -/
theorem g_forOn {α : Type} {xs : List α} {enc : α → EV} {fi : WA} {g : WGt} {b : WS} {ρ : EnvD} (I : List α → EnvD → Prop) (hi : Ga fi ρ (xs.map enc)) (h0 : I [] ρ)
    (hs : ∀ (d : List α) (x : α) (r : List α), xs = d ++ x :: r → ∀ ρ, I d ρ → ∃ ρ1 ρ2, Gg g (enc x) ρ ρ1 ∧ Gs b ρ1 (.nx ρ2) ∧ I (d ++ [x]) ρ2) {h : WS} {o : Ot} (ha : ∀ ρ, I xs ρ → Gs h ρ o) : Gs (wSeq (wFor fi g b) h) ρ o := fun k q => hi _ (by
  have key : ∀ (ys d : List α), xs = d ++ ys → ∀ ρ, I d ρ → ∀ (k2 : WK), (∀ ρ, I xs ρ → k2.nx ρ) → wForGo g b (ys.map enc) ρ k2 := by
    intro ys
    induction ys with
    | nil => intro d hd ρ hI k2 h1; exact h1 ρ (by rw [hd, List.append_nil]; exact hI)
    | cons x r ih =>
      intro d hd ρ hI k2 h1
      obtain ⟨ρ1, ρ2, q1, q2, q3⟩ := hs d x r hd ρ hI
      rw [List.map_cons]
      refine q1 _ (q2 _ ?_)
      exact ih (d ++ [x]) (by rw [hd]; simp) ρ2 q3 _ h1
  exact key xs [] rfl ρ h0 _ fun ρ hI => ha ρ hI k q)
theorem no_own1 {ρ : EnvD} {i : Nat} {u : EV} (h : ρ[i]? = some u) (n : nOw u) : noOwn ρ [i] := fun j hj d e => by
  rw [List.mem_singleton] at hj
  subst hj
  rw [h] at e
  cases d <;> cases e <;> cases n
theorem g_ext {ρ : EnvD} {i : Nat} {xs ds : List PyData} {f : WF} (h : ρ[i]? = some (.own (.list xs))) (hf : Gv f ρ (.py (.list ds))) (hl : xs.length + ds.length ≤ sizeLine) : Gs (wExt i f) ρ (.nx (ρ.set i (.own (.list (xs ++ ds))))) := fun k p => ⟨xs, h, hf _ ⟨ds, rfl, hl, p⟩⟩
end Dw

/-! Data ways: what a way may give: for what is drawn. -/
namespace Dw
open PySem PySem.Spec PySem.W PySem.Calls PyProof.Rows L2 Dr Rp
variable [Dw.LamReg]
def Nv (f : WF) (ρ : EnvD) (Q : EV → Prop) : Prop := ∀ P : EV → Prop, (∀ e, Q e → P e) → f ρ P
def Nt (f : WT) (ρ : EnvD) (Q : Bool → Prop) : Prop := ∀ P : Bool → Prop, (∀ b, Q b → P b) → f ρ P
def Na (f : WA) (ρ : EnvD) (Q : List EV → Prop) : Prop := ∀ P : List EV → Prop, (∀ es, Q es → P es) → f ρ P
def Nd (f : WD) (es : List EV) (Q : EV → Prop) : Prop := ∀ P : EV → Prop, (∀ e, Q e → P e) → f es P
def Ns (f : WS) (ρ : EnvD) (I : EnvD → Prop) (R : EV → Prop) : Prop := ∀ k : WK, (∀ ρ', I ρ' → k.nx ρ') → (∀ e, R e → k.rt e) → f ρ k
section
variable {ρ ρ' : EnvD} {e x y : EV} {fa fb f : WF} {b : Bool} {Q Q1 Q2 R : EV → Prop} {I J : EnvD → Prop}
theorem Gv.n (h : Gv f ρ e) (q : Q e) : Nv f ρ Q := fun P p => h P (p e q)
theorem Gt.n {t : WT} {Q : Bool → Prop} (h : Gt t ρ b) (q : Q b) : Nt t ρ Q := fun P p => h P (p b q)
theorem Nv.mono (h : Nv f ρ Q) (m : ∀ e, Q e → R e) : Nv f ρ R := fun P p => h P fun e q => p e (m e q)
theorem n_nx {f : WS} (h : Gs f ρ (.nx ρ')) (i : I ρ') : Ns f ρ I R := fun k p _ => h k (p ρ' i)
theorem n_w2 {g : EV → EV → (EV → Prop) → Prop} (ha : Nv fa ρ Q1) (hb : Nv fb ρ Q2) (hg : ∀ x y, Q1 x → Q2 y → ∀ P : EV → Prop, (∀ e, R e → P e) → g x y P) : Nv (w2 fa fb g) ρ R := fun P p => ha _ fun x q1 => hb _ fun y q2 => hg x y q1 q2 P p
theorem n_callG {g : WD} {fs : WA} {es : List EV} (ha : Ga fs ρ es) (hg : Nd g es R) : Nv (wCallA g fs) ρ R := fun P p => ha _ (hg P p)
theorem n_TB {Q : Bool → Prop} (ha : Nv fa ρ fun e => ∃ b, e = .py (.bool b) ∧ Q b) : Nt (wT1 fa wTB) ρ Q := fun P p => ha _ fun e ⟨b, h, q⟩ => by
  subst h
  exact p b q
theorem n_seq {f g : WS} (h : Ns f ρ I R) (k : ∀ ρ', I ρ' → Ns g ρ' J R) : Ns (wSeq f g) ρ J R := fun kk p r => h _ (fun ρ' i => k ρ' i kk p r) r
theorem n_if {t : WT} {f g : WS} {Q : Bool → Prop} (ht : Nt t ρ Q) (h1 : Q true → Ns f ρ I R) (h2 : Q false → Ns g ρ I R) : Ns (wIfS t f g) ρ I R := fun k p r => ht _ fun b q => by
  cases b with
  | true => exact h1 q k p r
  | false => exact h2 q k p r
theorem n_next (i : I ρ) : Ns wNext ρ I R := fun k p _ => p ρ i
theorem n_set {i : Nat} (hi : i < ρ.length) (h : Nv f ρ Q) (m : ∀ e, Q e → I (ρ.set i e)) : Ns (wSet i f) ρ I R := fun k p _ => ⟨hi, h _ fun e q => p _ (m e q)⟩
theorem n_ret (h : Nv f ρ R) : Ns (wRet f) ρ I R := fun k _ r => h _ r
theorem n_app {i : Nat} {xs : List PyData} (h : ρ[i]? = some (.own (.list xs))) (hl : xs.length < sizeLine) (hf : Nv f ρ fun e => ∃ d, e = .py d ∧ I (ρ.set i (.own (.list (xs ++ [d]))))) : Ns (wApp i f) ρ I R := fun k p _ => ⟨xs, h, hf _ fun e ⟨d, q, m⟩ => by
  subst q
  exact ⟨hl, p _ m⟩⟩
/-- rows one after another; I holds before each and at the end -/
theorem n_for {fi : WA} {g : WGt} {b : WS} {xs : List EV} (hi : Ga fi ρ xs) (h0 : I ρ) (hs : ∀ x ∈ xs, ∀ ρ, I ρ → ∃ ρ1, Gg g x ρ ρ1 ∧ Ns b ρ1 I R) : Ns (wFor fi g b) ρ I R := fun k p r => hi _ (by
  have key : ∀ (ys : List EV), (∀ x ∈ ys, x ∈ xs) → ∀ ρ, I ρ → ∀ (k2 : WK), (∀ ρ', I ρ' → k2.nx ρ') → (∀ e, R e → k2.rt e) → wForGo g b ys ρ k2 := by
    intro ys
    induction ys with
    | nil => intro _ ρ hI k2 h1 _; exact h1 ρ hI
    | cons x r ih =>
      intro hm ρ hI k2 h1 h2
      obtain ⟨ρ1, q1, q2⟩ := hs x (hm x List.mem_cons_self) ρ hI
      exact q1 _ (q2 _ (fun ρ2 i => ih (fun y hy => hm y (List.mem_cons_of_mem _ hy)) ρ2 i k2 h1 h2) h2)
  exact key xs (fun _ h => h) ρ h0 k p r)
/-- rows one after another, told by number -/
theorem n_forN {fi : WA} {g : WGt} {b : WS} {X : List EV → Prop} {I : Nat → EnvD → Prop} {J : EnvD → Prop} (hi : Na fi ρ X) (h0 : I 0 ρ) (hs : ∀ xs, X xs → ∀ x ∈ xs, ∀ k, k < xs.length → ∀ ρ, I k ρ → ∃ ρ1, Gg g x ρ ρ1 ∧ Ns b ρ1 (I (k + 1)) R) (he : ∀ xs, X xs → ∀ ρ, I xs.length ρ → J ρ) : Ns (wFor fi g b) ρ J R := fun k p r => hi _ fun xs hx => by
  have key : ∀ (ys : List EV) (n : Nat), (∀ x ∈ ys, x ∈ xs) → n + ys.length = xs.length → ∀ ρ, I n ρ → ∀ (k2 : WK), (∀ ρ', J ρ' → k2.nx ρ') → (∀ e, R e → k2.rt e) → wForGo g b ys ρ k2 := by
    intro ys
    induction ys with
    | nil => intro n _ hn ρ hI k2 h1 _; exact h1 ρ (he xs hx ρ (by rw [← hn]; exact hI))
    | cons x r ih =>
      intro n hm hn ρ hI k2 h1 h2
      rw [List.length_cons] at hn
      obtain ⟨ρ1, q1, q2⟩ := hs xs hx x (hm x List.mem_cons_self) n (by omega) ρ hI
      exact q1 _ (q2 _ (fun ρ2 i => ih (n + 1) (fun y hy => hm y (List.mem_cons_of_mem _ hy)) (by omega) ρ2 i k2 h1 h2) h2)
  exact key xs 0 (fun _ h => h) (by omega) ρ h0 k p r
/-- a comprehension of drawn parts -/
theorem n_lc {fi : WA} {g : WGt} {vs : List Nat} {xs : List EV} {D : PyData → Prop} (hno : noOwn ρ vs) (hi : Ga fi ρ xs) (hl : xs.length ≤ sizeLine) (hb : ∀ x ∈ xs, ∃ ρ', Gg g x (wipeE ρ vs) ρ' ∧ Nv f ρ' fun e => ∃ d, e = .py d ∧ D d) :
    Nv (wLc fi g wYes f vs) ρ fun e => ∃ ds, e = .py (.list ds) ∧ ds.length = xs.length ∧ ∀ d ∈ ds, D d := fun P hp => ⟨hno, hi _ (by
  have key : ∀ (ys : List EV) (acc : List PyData), (∀ x ∈ ys, x ∈ xs) → acc.length + ys.length ≤ sizeLine → (∀ d ∈ acc, D d) → (∀ ds : List PyData, ds.length = acc.length + ys.length → (∀ d ∈ ds, D d) → P (.py (.list ds))) → wLcGo g wYes f (wipeE ρ vs) ys acc fun ds => P (.py (.list ds)) := by
    intro ys
    induction ys with
    | nil => intro acc _ _ h1 h2; exact h2 acc rfl h1
    | cons x r ih =>
      intro acc hs hn h1 h2
      rw [List.length_cons] at hn
      obtain ⟨ρ', hg, hf⟩ := hb x (hs x List.mem_cons_self)
      refine hg _ ?_
      show wYes ρ' _
      refine g_yes _ ?_
      rw [if_pos rfl]
      refine hf _ fun e ⟨d, q, hd⟩ => ?_
      subst q
      refine ⟨by omega, ih (acc ++ [d]) (fun y hy => hs y (List.mem_cons_of_mem _ hy)) (by rw [List.length_append, List.length_singleton]; omega) (fun z hz => ?_) fun ds e1 e2 => h2 ds (by rw [e1, List.length_append, List.length_singleton, List.length_cons]; omega) e2⟩
      rcases List.mem_append.mp hz with hz | hz
      · exact h1 z hz
      · rw [List.mem_singleton] at hz
        subst hz
        exact hd
  exact key xs [] (fun _ h => h) (by simpa using hl) (fun _ h => nomatch h) fun ds e1 e2 => hp _ ⟨ds, rfl, by simpa using e1, e2⟩)⟩
theorem n_def {n j : Nat} {f : WS} {es : List EV} (hl : es.length = j) (h : Ns f (startE n es) (fun _ => False) R) : Nd (wDef n j f) es R := fun P p => ⟨hl, h _ (fun _ q => q.elim) p⟩
theorem nd_draw {n : Int} (h0 : 0 < n) (h1 : n < 1000000) : Nd dDraw [.st, .py (.int n)] fun e => ∃ v : Nat, e = .py (.int v) ∧ (v : Int) < n := fun P p => ⟨n, rfl, h0, h1, fun v v0 v1 => p _ ⟨v.toNat, by rw [Int.toNat_of_nonneg v0], by rw [Int.toNat_of_nonneg v0]; exact v1⟩⟩
theorem nd_pick {ds : List PyData} (h0 : 0 < ds.length) (h1 : ds.length < 1000000) : Nd dPick [.st, .py (.list ds)] fun e => ∃ d ∈ ds, e = .py d := fun P p => ⟨ds, rfl, h0, h1, fun i d q => p _ ⟨d, List.mem_of_getElem? q, rfl⟩⟩
theorem g_tup {fs : WA} {es : List EV} {ds : List PyData} (ha : Ga fs ρ es) (h : pys es = some ds) (hl : ds.length ≤ sizeLine) : Gv (wCallA wTup fs) ρ (.py (.tuple ds)) := g_call ha fun P p => v_tup h hl p
theorem g_lst {fs : WA} {es : List EV} {ds : List PyData} (ha : Ga fs ρ es) (h : pys es = some ds) (hl : ds.length ≤ sizeLine) : Gv (wCallA wLst fs) ρ (.py (.list ds)) := g_call ha fun P p => v_lst h hl p
theorem g_intB {i j : Int} {C : Int → Int → Prop} {q : Int → Int → Int} (ha : Gv fa ρ (.py (.int i))) (hb : Gv fb ρ (.py (.int j))) (hc : C i j) : Gv (w2 fa fb (wIntB C q)) ρ (.py (.int (q i j))) := fun P p => ha _ (hb _ ⟨hc, p⟩)
theorem g_addI {i j : Int} (ha : Gv fa ρ (.py (.int i))) (hb : Gv fb ρ (.py (.int j))) : Gv (w2 fa fb wAdd) ρ (.py (.int (i + j))) := fun P p => ha _ (hb _ p)
end
end Dw

/-! Data ways: texts that show data. -/
namespace Dw
open PySem PySem.Spec PySem.W PySem.Calls PyProof.Rows L2 Dr Rp
variable [Dw.LamReg]
theorem strOk_app (a b : Str) : PyData.strOk (a ++ b) = (PyData.strOk a && PyData.strOk b) := by
  unfold PyData.strOk
  show (a.cps ++ b.cps).all _ = _
  exact Array.all_append
theorem strOk_two {a b : Str} (h : PyData.strOk a = true) (k : PyData.strOk b = true) : PyData.strOk (a ++ b) = true := by rw [strOk_app, h, k] <;> rfl
theorem join_ok {sep : Str} (h : PyData.strOk sep = true) : ∀ ts : List Str, (∀ t ∈ ts, PyData.strOk t = true) → PyData.strOk (Str.join sep ts) = true
  | [], _ => (by decide +kernel : PyData.strOk Str.empty = true)
  | [t], hs => hs t List.mem_cons_self
  | t :: y :: r, hs => by
    have ih := join_ok h (y :: r) fun x hx => hs x (List.mem_cons_of_mem _ hx)
    show PyData.strOk (t ++ sep ++ Str.join sep (y :: r)) = true
    exact strOk_two (strOk_two (hs t List.mem_cons_self) h) ih
/-- data of so many signs, so deep, shown by signs that are -/
structure Sx (e b : Nat) (d : PyData) : Prop where
  sz : Sz e b d
  ok : PyData.strOk d.shown = true
theorem Sx.mono {e b e' b' : Nat} {d : PyData} (h : Sx e b d) (he : e ≤ e') (hb : b ≤ b') : Sx e' b' d := ⟨h.sz.mono he hb, h.ok⟩
theorem sx_all {e b : Nat} : ∀ ds : List PyData, (∀ d ∈ ds, Sx e b d) → ∀ t ∈ PyData.shownAll ds, PyData.strOk t = true
  | [], _, t, h => nomatch h
  | d :: r, h, t, ht => by
    rw [PyData.shownAll] at ht
    rcases List.mem_cons.mp ht with rfl | ht
    · exact (h d List.mem_cons_self).ok
    · exact sx_all r (fun x hx => h x (List.mem_cons_of_mem _ hx)) t ht
theorem sx_tuple {e b c : Nat} {ds : List PyData} (h : ∀ d ∈ ds, Sx e b d) (hc : ds.length ≤ c) : Sx (e + 1) ((b + 2) * c + 3) (.tuple ds) := by
  refine ⟨sz_tuple (fun d hd => (h d hd).sz) hc, ?_⟩
  rw [PyData.shown]
  unfold tupleText
  refine strOk_two (strOk_two (by decide +kernel) (join_ok (by decide +kernel) _ (sx_all ds h))) ?_
  split <;> decide +kernel
section
variable {ρ : EnvD} {f : WF}
theorem g_repr {d : PyData} (h : Gv f ρ (.py d)) (h1 : d.showable = true) (h2 : d.depth ≤ 60) (h3 : d.shown.length ≤ sizeLine) : Gv (wCallA wRepr (wCons f wNil)) ρ (.py (.str d.shown)) := g_call (g_cons h g_nil) fun P p => ⟨⟨h1, h2, h3⟩, p⟩
end
end Dw

/-! Generators: if, for. -/
namespace Gf
open PySem PySem.Spec PyProof.Rows GenW L2
section
variable {M : Model} {A : Around} {R : GenEnd} {Y : Protocol} {n : Nat} {s₀ : Shared} {c : Code} {fs : List Frame} {s : Shared} {env : Env}
  {K : Flow → Sem PySem.Fin} {J : Value → Sem PySem.Fin} {gd : Bool → Bool} {lv : List Value → List Value}
end
section
variable {prog : Program} {w : World} {A : Around} {R : GenEnd} {Y : Protocol} {n : Nat} {s₀ : Shared} {fs : List Frame} {s : Shared} {env : Env}
abbrev jn (env : Env) (e : Value) : Sem PySem.Fin := (do noteFrame e env; theTreesLotGoes e : Sem Unit).wrap (fun _ => .raise e) .raise id id
end
end Gf

/-! Generators: if, for. -/
namespace Gf
open PySem PySem.Spec PyProof.Rows GenW L2
section
variable {X : Cx}
def tGIf (tc : TT) (t u : TGn) : TGn := fun D ys σ H => tc σ H fun b H1 => if b = true then t D ys σ H1 else u D ys σ H1
def tGFor (wi : TI) (g : TG) (tb : TGn) : TGn := fun D ys σ H => wi σ H fun J H1 => ∃ W : Nat → Nat → List V → L2.St → Hp → Prop, (∃ m, W 0 m ys σ H1) ∧ ∀ i m ys σ H, W i m ys σ H →
  (J.stop i H ∧ D.nx ys σ H) ∨ (J.go i H ∧ ∃ N : List V → L2.St → Hp → Prop, (∀ ys' σ' H', N ys' σ' H' → ∃ m', m' < m ∧ W (i + 1) m' ys' σ' H') ∧ ∀ x H', J.yld i H x H' → g x σ H' fun σ2 H2 => tb { D with nx := N, ct := N, bk := D.nx } ys σ2 H2)
end
end Gf

/-! Data ways: generators. -/
namespace Dw
open PySem PySem.Spec PySem.W PySem.Calls PyProof.Rows L2 Dr Rp Gf
open He (ga)
variable [Dw.LamReg]
/-- what is wanted behind a statement of a generator; the list: what is out -/
structure YK where
  nx : EnvD → List PyData → Prop
  en : List PyData → Prop
  bk : EnvD → List PyData → Prop := fun _ _ => False
  ct : EnvD → List PyData → Prop := fun _ _ => False
  ex : EX → Prop := fun _ => False
abbrev WY := EnvD → List PyData → YK → Prop
def YOk (gs : Gh) (ys : List V) (ds : List PyData) : Prop := ys.length = ds.length ∧ ∀ z ∈ ys.zip (ds.map EV.py), z ∈ gs.vl
def GSub (g g' : Gh) : Prop := (∀ z ∈ g.ad, z ∈ g'.ad) ∧ ∀ z ∈ g.vl, z ∈ g'.vl
def tWY (K : PySem.W.Frag) (W : WX) (f : WY) : TGn := fun D ys σ H => ∃ He Lc os p gs ρ ds k, EnvOk K He Lc os p gs H σ ρ ∧ YOk gs ys ds ∧ f ρ ds k ∧
  (∀ ρ' os' gs' ys' ds' H' σ', k.nx ρ' ds' → GSub gs gs' → YOk gs' ys' ds' → EnvOk K He Lc os' p gs' H' σ' ρ' → D.nx ys' σ' H') ∧
  (∀ ρ' os' gs' ys' ds' H' σ', k.bk ρ' ds' → GSub gs gs' → YOk gs' ys' ds' → EnvOk K He Lc os' p gs' H' σ' ρ' → D.bk ys' σ' H') ∧
  (∀ ρ' os' gs' ys' ds' H' σ', k.ct ρ' ds' → GSub gs gs' → YOk gs' ys' ds' → EnvOk K He Lc os' p gs' H' σ' ρ' → D.ct ys' σ' H') ∧
  (∀ ys' ds' H', k.en ds' → Stp Lc p He H' → LOk Lc p H' → DtAll K (ctL Lc H') ys' ds' → D.rt ys' .non H') ∧
  (∀ x cls d σ' H', k.ex x → Stp Lc p He H' → LOk Lc p H' → XRel K Lc H' cls d x → W cls d σ' H')
section
variable {X : Cx} {m : Mode} {W : WX}
/-- a statement that hands out nothing -/
def yPlain (f : WS) : WY := fun ρ ds k => f ρ { nx := fun ρ' => k.nx ρ' ds, rt := fun _ => False, bk := fun ρ' => k.bk ρ' ds, ct := fun ρ' => k.ct ρ' ds, ex := k.ex }
def yNext : WY := fun ρ ds k => k.nx ρ ds
def ySeq (f g : WY) : WY := fun ρ ds k => f ρ ds { k with nx := fun ρ' ds' => g ρ' ds' k }
def yIf (t : WT) (f g : WY) : WY := fun ρ ds k => t ρ fun b => if b = true then f ρ ds k else g ρ ds k
/-- yield e -/
def yYield (f : WF) : WY := fun ρ ds k => ds.length < sizeLine ∧ f ρ fun e => match e with
  | .py d => k.nx ρ (ds ++ [d])
  | _ => False
def yForGo (g : WGt) (b : WY) : List EV → EnvD → List PyData → YK → Prop
  | [], ρ, ds, k => k.nx ρ ds
  | x :: r, ρ, ds, k => g x ρ fun ρ' => b ρ' ds { nx := fun ρ2 ds2 => yForGo g b r ρ2 ds2 k, ct := fun ρ2 ds2 => yForGo g b r ρ2 ds2 k, bk := k.nx, en := k.en, ex := k.ex }
def yFor (fi : WA) (g : WGt) (b : WY) : WY := fun ρ ds k => fi ρ fun xs => yForGo g b xs ρ ds k
def yWhileN (t : WT) (b : WY) : Nat → WY
  | 0, _, _, _ => False
  | n + 1, ρ, ds, k => t ρ fun c => if c = true then b ρ ds { nx := fun ρ2 ds2 => yWhileN t b n ρ2 ds2 k, ct := fun ρ2 ds2 => yWhileN t b n ρ2 ds2 k, bk := k.nx, en := k.en, ex := k.ex } else k.nx ρ ds
def yWhile (t : WT) (b : WY) : WY := fun ρ ds k => ∃ n, yWhileN t b n ρ ds k
end
/-! ### a generator def, list(g(..)) -/
abbrev WYD := List EV → (List PyData → Prop) → (EX → Prop) → Prop
def spY (K : PySem.W.Frag) (g : WYD) : SpG := fun vs H Q E => ∃ Lc p es P X, LOk Lc p H ∧ Paired (fun v e => Rv K p (ctL Lc H) v e) vs es ∧ g es P X ∧
  (∀ ds ys H', P ds → Stp Lc p H H' → LOk Lc p H' → DtAll K (ctL Lc H') ys ds → Q ys H') ∧ (∀ x H' cls d, X x → Stp Lc p H H' → LOk Lc p H' → XRel K Lc H' cls d x → E cls d H')
def wDefY (n j : Nat) (f : WY) : WYD := fun es P X => es.length = j ∧ f (startE n es) [] { nx := fun _ ds => P ds, en := P, ex := X }
section
variable {P : Program} {w : World} {K : PySem.W.Frag} {mg : Str → Option Value} {base : Heap}
end
section
variable {X : Cx} {m : Mode} {k : Nat} {f : Addr} {fd : FuncData} {ps : List Str} {g : WYD} {fa : WA} {x nm : Str} {q pos p : Pos} {e : Expr} {es : List Expr}
/-- list(g(..)), nothing is raised -/
def wListY (g : WYD) : List EV → (EV → Prop) → Prop := fun es P => g es (fun ds => P (.py (.list ds))) fun _ => False
/-- list(o.m(..)) -/
def wListYM (C n : Str) (g : WYD) (fo : WF) (fa : WA) : WF := fun ρ P => fo ρ fun o => match o with
  | .ob C' fs => C' = C ∧ fs.lookup n = none ∧ fa ρ fun es => g (.ob C' fs :: es) (fun ds => P (.py (.list ds))) fun _ => False
  | _ => False
end
end Dw

/-! Data ways: list(g(..)) again; is not between truths. -/
namespace Dw
open PySem PySem.Spec PySem.W PySem.Calls PyProof.Rows L2 Dr Rp
open He (ga ma)
variable [Dw.LamReg]
section
variable {X : Cx} {m : Mode} {k : Nat} {f : Addr} {fd : FuncData} {ps : List Str} {g : WYD} {fa : WA} {x nm : Str} {q pos p : Pos} {e : Expr} {es : List Expr}
end
section
variable {X : Cx} {m : Mode}
end
end Dw

/-! Data ways: what two-clause comprehensions give; generators that yield what a test likes. -/
namespace Dw
open PySem PySem.Spec PySem.W PySem.Calls PyProof.Rows L2 Dr Rp
variable [Dw.LamReg]
section
variable {ρ : EnvD} {e x y : EV} {fa fb f : WF}
end
end Dw

/-! Data ways: what the ways of Dw28, Dw29, Dw30 give. -/
namespace Dw
open PySem PySem.Spec PySem.W PySem.Calls PyProof.Rows L2 Dr Rp
variable [Dw.LamReg]
section
variable {ρ : EnvD} {fa fb f : WF}
/-- texts as arguments -/
def sE (xs : List Str) : List EV := xs.map fun x => .py (.str x)
end
end Dw

/-! Data ways: what is given by dict comprehensions, t.index, methods with keywords; what may be given by cases, cuts. -/
namespace Dw
open PySem PySem.Spec PySem.W PyProof.Rows L2 Dr Rp
variable [Dw.LamReg]
variable {ρ ρ' : EnvD} {fa fb f : WF}
theorem g_par {a b : EV} {i j : Nat} (hi : i < ρ.length) (hj : j < ρ.length) (ha : Gv fa ρ a) (hb : Gv fb ρ b) : Gs (wPar i j fa fb) ρ (.nx ((ρ.set i a).set j b)) := fun k p => ⟨hi, hj, ha _ (hb _ p)⟩
end Dw

/-! Data ways: a two-clause comprehension whose second walk hangs on the first one's item; the set of texts counted; t * k. -/
namespace Dw
open PySem PySem.Spec PySem.W PySem.Calls PyProof.Rows L2 Dr Rp
variable [Dw.LamReg]
section
variable {ρ : EnvD} {e x y : EV} {fa fb f : WF}
end
end Dw

/-! Data ways: lists of plain things (whole numbers, pairs of them) and their ==; range(a, b). -/
namespace Dw
open PySem PySem.Spec PySem.W PySem.Calls PyProof.Rows L2 Dr Rp
variable [Dw.LamReg]
structure Enc {α : Type} [DecidableEq α] (enc : α → PyData) (k : Nat) : Prop where
  nd : ∀ a, Dw.noDict (enc a) = true
  lay : ∀ a, PyData.canLay0 (enc a) = true
  dep : ∀ a, (enc a).depth ≤ k
  eq : ∀ a b, PyData.eqv (enc a) (enc b) = decide (a = b)
section
variable {α : Type} [DecidableEq α] {enc : α → PyData} {k : Nat}
end
end Dw

/-! Data ways: a loop that goes on or hands back, as a statement; sets counted and sorted; zip of a list and its rest. -/
namespace Dw
open PySem PySem.Spec PySem.W PySem.Calls PyProof.Rows L2 Dr Rp
variable [Dw.LamReg]
section
variable {ρ : EnvD} {e x y : EV} {fa fb f : WF}
theorem few_of_sub : ∀ {ys xs : List Str}, ys.Nodup → (∀ c ∈ ys, c ∈ xs) → ys.length ≤ xs.length
  | ys, [], _, h => by
    cases ys with
    | nil => exact Nat.le_refl _
    | cons a r => exact absurd (h a List.mem_cons_self) (by simp)
  | ys, c :: r, nd, h => by
    have z := few_of_sub (ys := ys.erase c) (xs := r) (nd.erase c) fun a ha => by
      obtain ⟨h1, h2⟩ := (List.Nodup.mem_erase_iff nd).mp ha
      exact (List.mem_cons.mp (h a h2)).resolve_left h1
    rw [List.length_cons]
    have := List.length_erase (a := c) (l := ys)
    split at this <;> omega
end
end Dw
namespace Dw
variable [Dw.LamReg]
open PySem PySem.Spec PySem.W PySem.Calls PyProof.Rows L2 Dr Rp
section
variable {ρ : EnvD} {e x y : EV} {fa fb f : WF}
theorem g_eqI {i j : Int} {neg : Bool} (ha : Gv fa ρ (.py (.int i))) (hb : Gv fb ρ (.py (.int j))) : Gv (w2 fa fb (wEq neg)) ρ (.py (.bool (neg ^^ decide (i = j)))) := by
  refine Gv.cast (g_eq (neg := neg) ha hb rfl rfl) ?_
  rw [PyData.eqv, show (i == j) = decide (i = j) by rw [Bool.eq_iff_iff]; simp]
  cases neg <;> simp
end
end Dw

/-! Data ways: a, b, c = e1, e2, e3. -/
namespace Dw
open PySem PySem.Spec PySem.W PySem.Calls PyProof.Rows L2 Dr Rp
variable [Dw.LamReg]
def wPar3 (i j l : Nat) (fa fb fc : WF) : WS := fun ρ k => (i < ρ.length ∧ j < ρ.length ∧ l < ρ.length) ∧ fa ρ fun a => fb ρ fun b => fc ρ fun c => k.nx (((ρ.set i a).set j b).set l c)
end Dw

/-! Data ways: min of a tuple of texts. -/
namespace Dw
open PySem PySem.Spec PySem.W PySem.Calls PyProof.Rows L2 Dr Rp
variable [Dw.LamReg]
section
variable {X : Cx} {m : Mode}
def rMinT (K : PySem.W.Frag) : List V → Hp → VK → Prop := fun vs H Q => ∃ (a : Addr) (x : Str) (xs : List Str), vs = [V.ref a] ∧ SqT K H a ((x :: xs).map V.str) ∧ ∀ y, minD (.str x) (xs.map .str) = PyData.str y → Q (.str y) H
theorem cr_minT (hc : X.calm = true) (hu : X.A.units + 64 < cLine) : CallR X (.builtin "min") (rMinT X.K) := by
  intro pins s σ H vs us Q I r h
  obtain ⟨a, x, xs, rfl, hs, q⟩ := h
  obtain ⟨its, rv, hl, hz⟩ := I.tuple hs
  rw [Vals.ref1 r]
  obtain ⟨as, hr⟩ := Dp.readsAll I ((x :: xs).map PyData.str) _ its (dp_strs' (x :: xs)) rv
  have dd := dep_strs1 (x :: xs)
  refine min_tuple_data (vs := its.toArray) (x := .str x) (xs := xs.map .str) (as := as) (I.ok.hd hc) hl (by simpa using hr) ⟨fun b hb c hc => ?_, fun b hb => ?_⟩ (by rw [List.map_cons] at dd; omega) fun i v h' tk bs hv hrd hk => ?_
  · obtain ⟨y, _, rfl⟩ := List.mem_map.mp (show b ∈ (x :: xs).map PyData.str from hb)
    obtain ⟨z, _, rfl⟩ := List.mem_map.mp (show c ∈ (x :: xs).map PyData.str from hc)
    rfl
  · obtain ⟨y, _, rfl⟩ := List.mem_map.mp (show b ∈ (x :: xs).map PyData.str from hb)
    exact fun e => nomatch e
  · obtain ⟨y, t, rfl⟩ := str_val rv (by simpa using hv)
    generalize hd : minD (.str x) (xs.map .str) = d at hrd q
    cases hrd
    exact ⟨.str y, H, I.kept hk, ⟨t, rfl⟩, q y rfl⟩
def wMinT : List EV → (EV → Prop) → Prop
  | [.py (.tuple ds)], P => ∃ x xs, ds = (x :: xs).map PyData.str ∧ ∀ y, minD (.str x) (xs.map .str) = PyData.str y → P (.py (.str y))
  | _, _ => False
def brMinT (hc : X.calm = true) (hu : X.A.units + 64 < cLine) (hm : m ≠ .fresh) : BR X m (.builtin "min") wMinT where
  r := rMinT X.K
  c := cr_minT hc hu
  s := fun L p H0 H vs es P Q o ra hg k => by
    unfold wMinT at hg
    split at hg
    · obtain ⟨x, xs, rfl, hg⟩ := hg
      obtain ⟨v, rfl, r⟩ := paired1 ra
      obtain ⟨a, vs, rfl, h1, h2⟩ := r.tup
      have e : vs = (x :: xs).map V.str := by
        clear h1 hg ra
        generalize x :: xs = l at h2
        induction l generalizing vs with
        | nil =>
          cases h2
          rfl
        | cons y t ih =>
          cases h2 with
          | cons b c =>
            rw [List.map_cons, ← ih _ c]
            cases b
            rfl
      subst e
      exact ⟨a, x, xs, rfl, h1, fun y hy => Go.val k o hm (hg y hy) (.str y)⟩
    · exact hg.elim
end
end Dw

/-! Data ways: {**d, **e}. -/
namespace Dw
open PySem PySem.Spec PySem.W PySem.Calls PyProof.Rows L2 Dr Rp
variable [Dw.LamReg]
section
variable {prog : Program} {w : World} {A : Around} {E : Value → Shared → Prop} {s : Shared}
end
def tDispMM (te tf : TE) : TE := fun σ H Q => ∀ D, H D = none → te σ (upd H D (.dK [])) fun x H1 => ∃ d kvs, x = .ref d ∧ d ≠ D ∧ H1 D = some (.dK []) ∧ Rd H1 d (.dK kvs) ∧ kvs.length ≤ 1000 ∧
  tf σ (upd H1 D (.dK kvs)) fun y H2 => ∃ e kws, y = .ref e ∧ e ≠ D ∧ H2 D = some (.dK kvs) ∧ Rd H2 e (.dK kws) ∧ kws.length ≤ 1000 ∧ (mergeK kvs kws).length ≤ 2000 ∧ Q (.ref D) (upd H2 D (.dK (mergeK kvs kws)))
/-- ds with what es holds put in -/
def mergeDD (ds : List (PyData × PyData)) : List (PyData × PyData) → List (PyData × PyData)
  | [] => ds
  | (k, d) :: r => match keyD k with
    | some key => mergeDD (putD ds key d) r
    | none => ds
def wDispMM (fd fe : WF) : WF := fun ρ P => fd ρ fun e => match e with
  | .py (.dict ds) => ds.length ≤ 1000 ∧ fe ρ fun e2 => match e2 with
    | .py (.dict es) => es.length ≤ 1000 ∧ P (.py (.dict (mergeDD ds es)))
    | _ => False
  | _ => False
section
variable {X : Cx} {m : Mode}
end
end Dw

/-! Data ways: d.get(k, x). -/
namespace Dw
open PySem PySem.Spec PySem.W PySem.Calls PyProof.Rows L2 Dr Rp
variable [Dw.LamReg]
def wGetV : EV → EV → EV → (EV → Prop) → Prop
  | .py (.dict ds), .py kd, .py d, P => ∃ key, keyD kd = some key ∧ P (.py ((dGet ds key).getD d))
  | _, _, _, _ => False
def wGet (fo fe fx : WF) : WF := fun ρ P => fo ρ fun o => (∃ ds, o = .py (.dict ds)) ∧ fe ρ fun k => fx ρ fun x => wGetV o k x P
section
variable {X : Cx} {m : Mode}
end
end Dw

/-! list(d.items()): its tuples are known to have no dict. -/
namespace LiN
open PySem PySem.Spec PyProof.Rows L2
variable [Dw.LamReg]
abbrev hoT (O : Addr → Obj) (a : Addr) (p : Key × V) : HO := .frz (O a) (.tup [kV p.1, p.2])
def putF (O : Addr → Obj) : Hp → List Addr → List (Key × V) → Hp
  | H, a :: as, p :: kvs => putF O (upd H a (hoT O a p)) as kvs
  | H, _, _ => H
theorem putF_off {O : Addr → Obj} {b : Addr} : ∀ (as : List Addr) (kvs : List (Key × V)) (H : Hp), b ∉ as → putF O H as kvs b = H b
  | [], _, _, _ => rfl
  | _ :: _, [], _, _ => rfl
  | a :: as, p :: kvs, H, h => by
    show putF O (upd H a (hoT O a p)) as kvs b = H b
    rw [putF_off as kvs _ (fun z => h (List.mem_cons_of_mem _ z)), upd_ne (fun z => h (by rw [z]; exact List.mem_cons_self))]
variable {X : Cx}
end LiN
namespace Dw
variable [Dw.LamReg]
open PySem PySem.Spec PySem.W PySem.Calls PyProof.Rows L2 Rp
section
variable {X : Cx} {m : Mode}
/-- the pairs of a dict as tuples -/
def pairL (ds : List (PyData × PyData)) : List PyData := ds.map fun q => .tuple [q.1, q.2]
def wItemsL : EV → (EV → Prop) → Prop
  | .py (.dict ds), P => P (.py (.list (pairL ds)))
  | _, _ => False
end
end Dw

/-! Data ways: a, b, c = e1, e2, e3, the first and the third new lists or dicts that their names alone hold. -/
namespace Dw
open PySem PySem.Spec PySem.W PySem.Calls PyProof.Rows L2 Dr Rp
variable [Dw.LamReg]
section
variable {K : PySem.W.Frag} {He : Hp} {Lc : Addr → Prop} {os : Nat → Option Addr} {p : Pt} {gs : Gh} {H H1 : Hp} {σ : L2.St} {ρ : EnvD} {a : Addr} {d : PyData}
end
def wPar3O (i j l : Nat) (fa fb fc : WF) : WS := fun ρ k => (i < ρ.length ∧ j < ρ.length ∧ l < ρ.length) ∧ fa ρ fun a => fb ρ fun b => fc ρ fun c => match a, c with
  | .py da, .py dc => k.nx (((ρ.set i (.own da)).set j b).set l (.own dc))
  | _, _ => False
end Dw

/-! Data ways: y = xs.pop(); d[k] = d.pop(j), of what a name alone holds. -/
namespace Dw
open PySem PySem.Spec PySem.W PySem.Calls PyProof.Rows L2 Dr Rp
variable [Dw.LamReg]
def wPop0 (i j : Nat) : WS := fun ρ kk => ∃ xs d, i ≠ j ∧ j < ρ.length ∧ ρ[i]? = some (.own (.list xs)) ∧ xs[xs.length - 1]? = some d ∧ kk.nx ((ρ.set i (.own (.list xs.dropLast))).set j (.py d))
def dropD (ds : List (PyData × PyData)) (k : Key) : List (PyData × PyData) := ds.filter fun q => decide (keyD q.1 ≠ some k)
/-- d[y] = d.pop(x) -/
def wPopSetD (i : Nat) (fa fk : WF) : WS := fun ρ kk => ∃ ds, ρ[i]? = some (.own (.dict ds)) ∧ fa ρ fun e => match e with
  | .py ka => ∃ k1 d, keyD ka = some k1 ∧ dGet ds k1 = some d ∧ fk (ρ.set i (.own (.dict (dropD ds k1)))) fun y => match y with
    | .py kd => ∃ key, keyD kd = some key ∧ ds.length < sizeLine ∧ kk.nx ((ρ.set i (.own (.dict (dropD ds k1)))).set i (.own (.dict (putD (dropD ds k1) key d))))
    | _ => False
  | _ => False
section
variable {X : Cx} {mr : Mode} {W : WX}
end
end Dw

/-! Data ways: f-strings of ints and texts. -/
namespace Dw
open PySem PySem.Spec PySem.W PySem.Calls PyProof.Rows L2 Dr Rp
variable [Dw.LamReg]
/-- {x}, x an int or a text -/
def wFmt (f : WF) : WF := fun ρ P => f ρ fun e => match e with
  | .py (.int i) => i.natAbs.log2 < 1920 ∧ P (.py (.str (toString i)))
  | .py (.str y) => y.length ≤ sizeLine ∧ P (.py (.str y))
  | _ => False
def wJs : List WF → Str → EnvD → (EV → Prop) → Prop
  | [], acc, _, P => P (.py (.str acc))
  | f :: fs, acc, ρ, P => f ρ fun e => match e with
    | .py (.str y) => (acc ++ y).length ≤ sizeLine ∧ wJs fs (acc ++ y) ρ P
    | _ => False
/-- f'..' of two parts or more -/
def wFStr (fs : List WF) : WF := fun ρ P => wJs fs Str.empty ρ P
section
variable {X : Cx} {m : Mode}
end
end Dw

/-! Data ways: len(o) and str(o) of own objects by their own __len__, __str__. -/
namespace Dw
open PySem PySem.Spec PySem.W PySem.Calls PyProof.Rows L2 Dr Rp
open He (ga)
variable [Dw.LamReg]
section
variable {prog : Program} {w : World} {A : Around} {E : Value → Shared → Prop} {s : Shared} {K : PySem.W.Frag} {x C f : Addr} {ox : Obj} {odd : Option Obj} {v : Value}
end
section
variable {X : Cx} {m : Mode} {CX : CXT} {k : Nat} {C f : Addr} {fd : FuncData} {ps : List Str} {sp : Sp} {E : XK}
def rLenO (C : Addr) (sp : Sp) (E : XK) : List V → Hp → VK → Prop := fun xs H Q => ∃ a dx fs, xs = [.ref a] ∧ H a = some (.ins C dx fs) ∧ sp [.ref a] H (fun z H' => ∃ n, z = .int n ∧ 0 ≤ n ∧ n < 2 ^ 63 ∧ Q (.int n) H') E
def rStrO (C : Addr) (sp : Sp) (E : XK) : List V → Hp → VK → Prop := fun xs H Q => ∃ a dx fs, xs = [.ref a] ∧ H a = some (.ins C dx fs) ∧ sp [.ref a] H (fun z H' => ∃ n, z = .str n ∧ Q (.str n) H') E
def wLenO (C : Str) (g : WD) : EV → (EV → Prop) → Prop
  | .ob C1 fs, P => C1 = C ∧ g [.ob C1 fs] fun e => ∃ n, e = .py (.int n) ∧ 0 ≤ n ∧ n < 2 ^ 63 ∧ P (.py (.int n))
  | _, _ => False
def wStrO (C : Str) (g : WD) : EV → (EV → Prop) → Prop
  | .ob C1 fs, P => C1 = C ∧ g [.ob C1 fs] fun e => ∃ n, e = .py (.str n) ∧ P (.py (.str n))
  | _, _ => False
end
end Dw

/-! Data ways: == and != of an own object and anything (own __eq__, the default __ne__), isinstance of anything and an own class, in of an own object as a value, in of tuples by deep equality. -/
namespace Dw
open PySem PySem.Spec PySem.W PySem.Calls PyProof.Rows L2 Dr Rp
open He (ga ma)
variable [Dw.LamReg]
section
variable {prog : Program} {w : World} {A : Around} {E : Value → Shared → Prop} {s : Shared} {K : PySem.W.Frag} {x C f : Addr} {ox : Obj} {od : Option Obj} {b tb : Value}
end
/-- what == and != ask of an own class -/
structure EqC (K : PySem.W.Frag) (C : Addr) : Prop where
  ins : C8.InsC K C
  ne : findIn K (.ref C) "__ne__" = some (some (.builtin "object.__ne__"))
  tu : kitOne K (.type "tuple") (.ref C) = some false
section
variable {X : Cx} {m mr : Mode} {CX : CXT} {k : Nat} {C f : Addr} {fd : FuncData} {ps : List Str} {sp : Sp} {E : XK}
/-- another thing, of a type of which C is no part, or of C itself -/
def OthX (K : PySem.W.Frag) (C : Addr) (H : Hp) (y : V) : Prop := ∃ t, TyX K H y t ∧ notFirst K C t = true
def rEqX (C : Addr) (sp : Sp) (E : XK) (neg : Bool) (K : PySem.W.Frag) : R2 := fun x y H Q => ∃ a dx fs, x = .ref a ∧ H a = some (.ins C dx fs) ∧ OthX K C H y ∧ sp [.ref a, y] H (fun v H' => ∃ k, v = .bl k ∧ Q (.bl (if neg then !k else k)) H') E
/-- an own object of C, or data -/
def othE (C : Str) : EV → Prop
  | .ob C' _ => C' = C
  | .py _ => True
  | _ => False
def wEqX (C : Str) (g : WD) (neg : Bool) : EV → EV → (EV → Prop) → Prop
  | .ob C1 fs, e, P => C1 = C ∧ othE C e ∧ g [.ob C1 fs, e] fun z => ∃ b, z = .py (.bool b) ∧ P (.py (.bool (if neg then !b else b)))
  | _, _, _ => False
/-- isinstance(x, C), x an object of C or data -/
def wIsiX (C : Str) : EV → (EV → Prop) → Prop
  | .ob C' _, P => C' = C ∧ P (.py (.bool true))
  | .py _, P => P (.py (.bool false))
  | _, _ => False
def rInT (K : PySem.W.Frag) : R2 := fun x y H Q => ∃ d ds, Dp K H x d ∧ Dp K H y (.tuple ds) ∧ SeqAt.shaped d = true ∧ SeqAt.shaped (.tuple ds) = true ∧ Q (.bl (ds.any fun z => PyData.eqv z d)) H
def wInT : EV → EV → (EV → Prop) → Prop
  | .py d, .py (.tuple ds), P => (eqOk d = true ∧ eqOk (.tuple ds) = true) ∧ P (.py (.bool (ds.any fun z => PyData.eqv z d)))
  | _, _, _ => False
end
end Dw

/-! Data ways: a, b, c = e1, e2, e3 of plain locals. -/
namespace Dw
open PySem PySem.Spec PySem.W PySem.Calls PyProof.Rows L2 Dr Rp
variable [Dw.LamReg]
section
variable {W : WX} {X : Cx} {mr : Mode} {i j l : Nat} {x y z : Str} {a b c : Expr} {fa fb fc : WF} {px py pz pt pos : Pos} {kt : Nat}
end
end Dw

/-! Data ways: == and != of own objects and anything, as tests. -/
namespace Dw
open PySem PySem.Spec PySem.W PySem.Calls PyProof.Rows L2 Dr Rp
open He (ga ma)
variable [Dw.LamReg]
section
variable {X : Cx} {CX : CXT} {k : Nat} {f : Addr} {fd : FuncData} {ps : List Str}
end
end Dw

/-! list(d.items()) of what a name alone holds. -/
namespace Dw
open PySem PySem.Spec PySem.W PySem.Calls PyProof.Rows L2 Rp
variable [Dw.LamReg]
section
variable {X : Cx} {m : Mode}
end
end Dw

/-! def f(a, b = d, *, k = e, **names), called with fewer places, or with k among the names. -/
namespace Mx
open PySem PySem.Spec PyProof.Rows L2 ClX
section
variable {P : Program} {w : World} {K : PySem.W.Frag} {mg : Str → Option Value} {base : Heap} {k : Nat} {x qual : Str} {params : Arguments} {body : List Stmt} {scope : Scope} {dvs : List V} {kws : List (Str × V)} {f : Addr} {fd : FuncData} {CX : CXT} {N ps ks ks' : List Str} {sp : Sp}
end
end Mx

/-! C(k = v, ..) without places; C.f of a class. -/
namespace Mx
open PySem PySem.Spec PyProof.Rows L2 ClX
variable [Dw.LamReg]
section
variable {X : Cx} {k : Nat} {f C : Addr} {ks : List Str} {sp : List V → List V → Hp → VK → XK → Prop} {CX : CXT} {E : XK} {x : Str} {kws : List Keyword} {tk : TA} {p pos : Pos}
end
end Mx
namespace Dw
variable [Dw.LamReg]
open PySem PySem.Spec PySem.W PySem.Calls PyProof.Rows L2 Dr Rp
open He (ga ma)
section
variable {X : Cx} {m mr : Mode} {CX : CXT} {k n : Nat} {f : Addr} {ks : List Str} {g : WD} {fa fk : WA} {x C : Str} {q pos apos : Pos} {o e : Expr} {es : List Expr} {kws : List Keyword} {fo : WF}
end
end Dw

/-! f() of a def that calls repr. -/
namespace Dw
open PySem PySem.Spec PySem.W PySem.Calls PyProof.Rows L2 Dr Rp
variable [Dw.LamReg]
section
variable {X : Cx} {m mr : Mode} {CX : CXT} {k : Nat} {f : Addr} {fd : FuncData} {ps : List Str} {g : WD} {x : Str} {q pos : Pos}
end
end Dw

/-! try with several except clauses, of which each may name what it holds. -/
namespace Ex
open PySem PySem.Spec PyProof.Rows L2
/-- a clause: its class, the slot of its name if it has one, its suite -/
structure Cl where
  c : Value
  i : Option Nat
  ts : Addr → Value → Option Addr → TS
/-- the ends behind a suite: its name is gone -/
def offN (o : Option Nat) (D : Ends) : Ends := match o with
  | none => D
  | some i => { nx := fun σ H => D.nx (σ.set i none) H, rt := D.rt, bk := fun σ H => D.bk (σ.set i none) H, ct := fun σ H => D.ct (σ.set i none) H }
def onN (o : Option Nat) (a : Addr) (σ : L2.St) : L2.St := match o with
  | none => σ
  | some i => σ.set i (some (.ref a))
/-- what the clauses wish of an exception of the body -/
def wCl (K : PySem.W.Frag) (m : Nat) (Wout : WX) (D : Ends) : List Cl → WX
  | [] => Wout
  | k :: r => fun cls d σ H => ∃ b, PySem.W.exmOne K cls k.c = some b ∧ (b = true → ∀ a, H a = none → σ.length = m → k.ts a cls d (offN k.i D) (onN k.i a σ) H) ∧ (b = false → wCl K m Wout D r cls d σ H)
/-- how a clause names -/
def NameOk (X : Cx) : Option Str → Option Nat → Prop
  | none, none => True
  | some n, some i => X.N[i]? = some n ∧ X.env.kindOf n = some .local
  | _, _ => False
inductive ClsOk (X : Cx) : List ExceptHandler → List Cl → Prop
  | nil : ClsOk X [] []
  | cons {x : Str} {k : Cl} {nm : Option Str} {b0 : Stmt} {suite : List Stmt} {np pos : Pos} {hds : List ExceptHandler} {l : List Cl} (hc : Names X x k.c) (hn : NameOk X nm k.i)
      (hsu : ∀ (a : Addr) (oe : Obj) (cls : Value) (d : Option Addr) (pn : List (Addr × Obj)), Zc cls d oe → (∃ vs, oe.data = .fields vs) → PSs (X.suite a ((a, oe) :: pn)) (b0 :: suite) (k.ts a cls d)) (r : ClsOk X hds l) :
      ClsOk X (.ExceptHandler (some (.Name x np)) nm (b0 :: suite) pos :: hds) (k :: l)
section
variable {X : Cx} {body : List Stmt} {h0 : ExceptHandler} {hds : List ExceptHandler} {l : List Cl} {pos : Pos} {tb : WX → TS} {Wout : WX}
end
end Ex

/-! A new own exception raised: younger than the entry, so it may be forgotten. -/
namespace Ex
open PySem PySem.Spec PySem.Calls PyProof.Rows L2
/-- C(e, ..), a value younger than the entry -/
def tXmk2 (X : Cx) (C : Addr) (sp : Sp) (ta : TA) : TE := fun σ H Q => ta σ H fun vs H1 => vs.length ≤ 1000 ∧ ∀ a, H1 a = none → X.s_0.heap.objs.size ≤ a → sp (.ref a :: vs) (upd H1 a (exo a C none)) (fun v H2 => v = .non ∧ Q (.ref a) H2) (fun _ _ _ => False)
section
variable {X : Cx} {o e : Expr} {es : List Expr} {to te : TE} {ta : TA} {f : Str} {p p' p1 p2 pos : Pos} {C fI : Addr} {B nid iid : String} {ml : List Value}
end
/-- the entry's heap without the object at a -/
abbrev offX (X : Cx) (a : Addr) : Cx := { X with H_0 := fun b => if b = a then none else X.H_0 b }
section
variable {X : Cx} {pins : List (Addr × Obj)} {σ : L2.St} {H : Hp} {s : Shared} {a : Addr}
end
section
variable {X : Cx} {e : Expr} {te : TE} {f : Str} {pos : Pos} {C fI : Addr} {nid : String} {ml : List Value}
end
end Ex

/-! Data ways that raise: calls, statements, defs. -/
namespace Dw
open PySem PySem.Spec PySem.W PySem.Calls PyProof.Rows L2 Dr Rp Ex
open He (ga ma)
variable [Dw.LamReg]
abbrev WFX := EnvD → (EV → Prop) → (EX → Prop) → Prop
abbrev WDX := List EV → (EV → Prop) → (EX → Prop) → Prop
/-- an expression's way: f tells what may come out, what may be raised -/
def tX (K : PySem.W.Frag) (m : Mode) (E : XK) (f : WFX) : TE := fun σ H Q => ∃ He Lc os p gs ρ P Xp, EnvOk K He Lc os p gs H σ ρ ∧ f ρ P Xp ∧
  (∀ e H' v, P e → Stp (Ls Lc os) p H H' → LOk (Ls Lc os) p H' → Res K m (Ls Lc os) p H H' v e → Q v H') ∧
  (∀ x H' cls d, Xp x → Stp (Ls Lc os) p H H' → LOk (Ls Lc os) p H' → XRel K (Ls Lc os) H' cls d x → E cls d H')
/-- a def's contract over data, with what it raises -/
def spX (K : PySem.W.Frag) (mr : Mode) (g : WDX) : Sp := fun vs H Q E => ∃ Lc p es P Xp, LOk Lc p H ∧ Paired (fun v e => Rv K p (ctL Lc H) v e) vs es ∧ g es P Xp ∧
  (∀ e H' v, P e → Stp Lc p H H' → LOk Lc p H' → Res K mr Lc p H H' v e → Q v H') ∧
  (∀ x H' cls d, Xp x → Stp Lc p H H' → LOk Lc p H' → XRel K Lc H' cls d x → E cls d H')
def wDefX (n j : Nat) (f : WS) : WDX := fun es P Xp => es.length = j ∧ f (startE n es) { nx := fun _ => P (.py .none), rt := P, ex := Xp }
/-- what is wanted of an exception, whatever the names hold -/
def EW (W : WX) : XK := fun cls d H => ∀ σ, W cls d σ H
section
variable {P : Program} {w : World} {K : PySem.W.Frag} {mg : Str → Option Value} {base : Heap}
abbrev CXp (P : Program) (w : World) : CXT := L2.CX P w
end
section
variable {X : Cx} {m mr : Mode} {W : WX} {E : XK}
/-! ### statements -/
def wRetX (f : WFX) : WS := fun ρ k => f ρ k.rt k.ex
def wDropX (f : WFX) : WS := fun ρ k => f ρ (fun _ => k.nx ρ) k.ex
def wSetX (i : Nat) (f : WFX) : WS := fun ρ k => i < ρ.length ∧ f ρ (fun e => k.nx (ρ.set i e)) k.ex
/-! ### raise -/
/-- raise C("..") -/
def wRaiseM (C : Str) : WS := fun _ k => k.ex ⟨C, none⟩
/-- what the head tells of a class of errors with a message -/
structure MsgC (K : PySem.W.Frag) (C : Addr) : Prop where
  exc : PySem.W.excIn K C He.veBase "ValueError.__new__" = true
  kp : PySem.W.keepIn K (.ref C) = true
  ty : PySem.W.typeIn K (.ref C) = some (.type "type")
  sub : PySem.W.subIn K (.ref C) (.type "BaseException") = some true
/-- raise C(e), C with its own __init__ that keeps e as f -/
def raiseP (C f : Str) (k : WK) : List EV → Prop
  | [.py d] => k.ex ⟨C, some (f, d)⟩
  | _ => False
def wRaiseV (C f : Str) (fe : WF) : WS := fun ρ k => fe ρ fun e => raiseP C f k [e]
def spIni (C : Addr) (f : Str) : Sp := fun vs H Q _ => ∃ (a : Addr) (v : V), vs = [.ref a, v] ∧ H a = some (exo a C none) ∧ ∀ dx, H dx = none → dx ≠ a → Q .non (upd (upd H dx (exd dx [(f, v)])) a (exo a C (some dx)))
end
end Dw

/-! a | b of own objects of one class. -/
namespace Dw
open PySem PySem.Spec PySem.W PySem.Calls PyProof.Rows L2 Dr Rp Ex
open He (ga ma)
variable [Dw.LamReg]
/-- the class stands first in its own order -/
def MroC (K : PySem.W.Frag) (C : Addr) : Prop := ∃ cd ml, PySem.W.clsIn K C = some cd ∧ cd.mro = .ref C :: ml
section
variable {prog : Program} {w : World} {A : Around} {E : Value → Shared → Prop} {s : Shared} {K : PySem.W.Frag} {x y C f : Addr} {ox oy : Obj} {odd odd2 : Option Obj}
end
section
variable {X : Cx} {m mr : Mode} {CX : CXT} {k : Nat} {C f : Addr} {fd : FuncData} {ps : List Str} {sp : Sp} {E : XK}
def rOr (C : Addr) (sp : Sp) (E : XK) : V → V → Hp → VK → Prop := fun x y H Q => ∃ a b dx dy fs gs, x = .ref a ∧ y = .ref b ∧ H a = some (.ins C dx fs) ∧ H b = some (.ins C dy gs) ∧ sp [x, y] H (fun v H' => (∃ c, v = .ref c) ∧ Q v H') E
def wOrX (C : Str) (g : WDX) : EV → EV → (EV → Prop) → (EX → Prop) → Prop
  | .ob C1 fs, .ob C2 gs, P, Xp => C1 = C ∧ C2 = C ∧ g [.ob C1 fs, .ob C2 gs] (fun e => (∃ C3 hs, e = .ob C3 hs) ∧ P e) Xp
  | _, _, _, _ => False
def w2X (fa fb : WF) (g : EV → EV → (EV → Prop) → (EX → Prop) → Prop) : WFX := fun ρ P Xp => fa ρ fun x => fb ρ fun y => g x y P Xp
end
end Dw

/-! Raising ways: C.m(e, k = v); a lambda handed to a def that tells what it lets out. -/
namespace Dw
open PySem PySem.Spec PySem.W PySem.Calls PyProof.Rows L2 Dr Rp Ex
open He (ga ma)
variable [Dw.LamReg]
def spCX (K : PySem.W.Frag) (C : Str) (mr : Mode) (g : WDX) : Sp := fun vs H Q E => ∃ rest, vs = .ref (ga K C) :: rest ∧ spX K mr g rest H Q E
def wCMethKX (g : WDX) (n j : Nat) (fa fk : WA) : WFX := fun ρ P Xp => fa ρ fun es => fk ρ fun zs => es.length = n ∧ zs.length = j ∧ g (es ++ zs) P Xp
section
variable {X : Cx} {m mr : Mode} {CX : CXT} {k n : Nat} {f : Addr} {fd : FuncData} {ps ks : List Str} {g : WDX} {fa fk : WA} {x C : Str} {q pos apos : Pos} {o e : Expr} {es : List Expr} {kws : List Keyword} {fo : WF} {E : XK}
end
/-! ### x(lambda: e) -/
/-- the word for what is raised -/
abbrev WordX := EX → Str → Prop
/-- what is wanted of an exception: its word comes out -/
def OutX (K : PySem.W.Frag) (wd : WordX) (Q : VK) : XK := fun cls d H' => ∃ (L : Addr → Prop) (x : EX) (s : Str), XRel K L H' cls d x ∧ wd x s ∧ Q (.str s) H'
/-- told: what it makes of the lambda's reading -/
def TTX (K : PySem.W.Frag) (wd : WordX) (fine : Str) : (XK → Hp → VK → Prop) → Hp → VK → Prop := fun tl H Q => tl (OutX K wd Q) H fun _ H' => Q (.str fine) H'
def wWord (f : WFX) (wd : WordX) (fine : Str) : WF := fun ρ P => f ρ (fun _ => P (.py (.str fine))) fun x => ∃ s, wd x s ∧ P (.py (.str s))
end Dw

/-! Data ways: tuples and lists that hold own objects: displays, walks, targets. -/
namespace Dw
open PySem PySem.Spec PySem.W PySem.Calls PyProof.Rows L2 Dr Rp
open He (ga)
variable [Dw.LamReg]
def PU.ev : PU → EV
  | .d z => .py z
  | .o C fs => .ob C fs
def PV.ev : PV → EV
  | .d z => .py z
  | .o C fs => .ob C fs
  | .t xs => .ot xs
  | .x ds => .od ds
  | .n kvs => .nd kvs
def pus : List EV → Option (List PU)
  | [] => some []
  | .py d :: r => (pus r).map (.d d :: ·)
  | .ob C fs :: r => (pus r).map (.o C fs :: ·)
  | _ :: _ => none
def pvs : List EV → Option (List PV)
  | [] => some []
  | .py d :: r => (pvs r).map (.d d :: ·)
  | .ob C fs :: r => (pvs r).map (.o C fs :: ·)
  | .ot xs :: r => (pvs r).map (.t xs :: ·)
  | .od ds :: r => (pvs r).map (.x ds :: ·)
  | .nd kvs :: r => (pvs r).map (.n kvs :: ·)
  | _ :: _ => none
section
variable {K : PySem.W.Frag} {p : Pt} {G : Hp}
end
def wTupO (es : List EV) (P : EV → Prop) : Prop := ∃ xs, pus es = some xs ∧ xs.length ≤ sizeLine ∧ P (.ot xs)
def wLstO (es : List EV) (P : EV → Prop) : Prop := ∃ xs, pvs es = some xs ∧ xs.length ≤ sizeLine ∧ P (.ol xs)
section
variable {X : Cx} {m : Mode} {e : Expr} {es : List Expr} {fa : WA} {pos q : Pos}
end
def wOlI (f : WF) : WA := fun ρ P => f ρ fun e => match e with
  | .ol xs => P (xs.map PV.ev)
  | _ => False
section
variable {X : Cx} {m : Mode}
def gTO (gs : List WGt) : WGt := fun e ρ P => match e with
  | .ot xs => xs.length = gs.length ∧ gTs gs (xs.map PU.ev) ρ P
  | _ => False
end
end Dw

/-! Data ways: dicts with tuple keys (EV nd): d.get(k, x), k in d. -/
namespace Dw
open PySem PySem.Spec PySem.W PySem.Calls PyProof.Rows L2 Dr Rp _root_.Nd
variable [Dw.LamReg]
/-- what is kept at k -/
def ndAt (kvs : List (NestedKey × PyData)) (k : NestedKey) : Option PyData := (kvs.find? fun x => decide (x.1 = k)).map (·.2)
/-- the tuple kd is the key k -/
def KeyN (kd : PyData) (k : NestedKey) : Prop := (∃ ks, k = .tup ks) ∧ kd = k.data ∧ k.depth ≤ 8
theorem KeyN.ref {K : PySem.W.Frag} {G : Hp} {kd : PyData} {k : NestedKey} {v : V} (h : KeyN kd k) (r : Dt K G v kd) : ∃ b, v = .ref b ∧ Dt K G (.ref b) k.data ∧ k.depth ≤ 8 := by
  obtain ⟨⟨ks, rfl⟩, e, h8⟩ := h
  subst e
  have r' : Dt K G v (.tuple (NestedKey.datas ks)) := r
  cases r' with
  | tup h1 h2 => exact ⟨_, rfl, .tup h1 h2, h8⟩
theorem ndp_at {K : PySem.W.Frag} {G : Hp} {k : NestedKey} : ∀ {kas : List KAV} {kvs : List (NestedKey × PyData)}, Paired (NdP K G) kas kvs → (atN kas k = none ∧ ndAt kvs k = none) ∨ ∃ v d, atN kas k = some v ∧ ndAt kvs k = some d ∧ Dt K G v d
  | _, _, .nil => .inl ⟨rfl, rfl⟩
  | _, _, .cons (a := p) (b := q) a t => by
    have ih := ndp_at (k := k) t
    unfold atN ndAt at ih ⊢
    rw [List.find?_cons, List.find?_cons, ← a.1]
    by_cases e : p.1 = k
    · rw [decide_eq_true e]
      exact .inr ⟨_, _, rfl, rfl, a.2.2.2⟩
    · rw [decide_eq_false e]
      exact ih
theorem ndp_keys {K : PySem.W.Frag} {G : Hp} {kas : List KAV} {kvs : List (NestedKey × PyData)} (h : Paired (NdP K G) kas kvs) : KeysD K G kas := by
  induction h with
  | nil => exact fun _ z => nomatch z
  | cons a t ih =>
    intro x hx
    rcases List.mem_cons.mp hx with rfl | hx
    · exact ⟨a.2.2.1, a.2.1⟩
    · exact ih x hx
theorem keysD_up {K : PySem.W.Frag} {L : Addr → Prop} {H : Hp} {kas : List KAV} (h : KeysD K (ctL L H) kas) : KeysD K H kas := fun x hx => ⟨Dt.sameR ctL_all _ _ (h x hx).1, (h x hx).2⟩
section
variable {X : Cx} {m : Mode}
def tNGet2 (X : Cx) (td ty tx : TE) : TE := fun σ H Q => td σ H fun x H1 => ∃ d kvs, x = .ref d ∧ H1 d = some (NdO X.w d kvs) ∧ ty σ H1 fun y H2 => tx σ H2 fun z H3 => ∃ b k kvs, y = .ref b ∧ H3 d = some (NdO X.w d kvs) ∧ KeysD X.K H3 kvs ∧ Dt X.K H3 (.ref b) k.data ∧ k.depth ≤ 8 ∧ Q ((atN kvs k).getD z) H3
theorem nd_dict {pins : List (Addr × Obj)} {σ : L2.St} {H : Hp} {s : Shared} (I : Inv X pins σ H s) {w : World} {d : Addr} {kvs : List KAV} (h : H d = some (NdO w d kvs)) : s.TypeIs (.ref d) "dict" ∧ ∀ b, Value.ref d = .ref b → ∃ ob, s.heap.get? b = some ob ∧ ob.dict = none := by
  obtain ⟨_, _, _, xs, _, o, es, ep, h1, h2, h3, _⟩ := nd_obj I h
  exact ⟨⟨o, h1, h2.1⟩, fun b q => by cases q; exact ⟨o, h1, h2.2.1⟩⟩
theorem pe_nget2 {o e f : Expr} {apos cpos : Pos} {td ty tx : TE} (hu : X.A.units + 9 < cLine) (ho : PE X o td) (he : PE X e ty) (hf : PE X f tx) (mm : M2 X o "get" apos e f cpos) : PE X (.Call (.Attribute o "get" apos) [e, f] [] cpos) (tNGet2 X td ty tx) := by
  refine ⟨fun pins s σ H Q I h => ?_⟩
  refine wpAny_Call_method mm.base mm.few mm.line PySem.F.plainAttrs_dict PySem.F.slot_dict_get PySem.F.type_dict_get (thn (ho.run pins s σ H _ I h) fun u s1 ⟨x, H1, I1, rx, d, kvs, ex, hd, q1⟩ => ?_)
  subst ex
  obtain rfl : u = Value.ref d := rx
  obtain ⟨t1, t2⟩ := nd_dict I1 hd
  refine ⟨t1, t2, ?_⟩
  rw [mm.trees]
  refine Calls.callWith_builtin rfl (Calls.evalArgs_plain (Calls.spliced_cons (thn (he.run pins s1 σ H1 _ I1 q1) fun iv s2 ⟨y, H2, I2, ry, q2⟩ => Calls.spliced_cons (thn (hf.run pins s2 σ H2 _ I2 q2) fun jv s3 ⟨z, H3, I3, rz, b, k, kvs3, ey, h3, hk, hb, h8, q3⟩ => Calls.spliced_nil ?_))))
  subst ey
  obtain rfl : iv = Value.ref b := ry
  exact n_get2 hu I3 h3 hk hb h8 rz fun u s4 I4 ru => ⟨_, H3, I4, ru, q3⟩
def wGetNV : EV → EV → EV → (EV → Prop) → Prop
  | .nd kvs, .py kd, .py d, P => ∃ k, KeyN kd k ∧ P (.py ((ndAt kvs k).getD d))
  | _, _, _, _ => False
def wGetN (fo fe fx : WF) : WF := fun ρ P => fo ρ fun o => (∃ kvs, o = .nd kvs) ∧ fe ρ fun k => fx ρ fun x => wGetNV o k x P
theorem NdR.get {K : PySem.W.Frag} {L : Addr → Prop} {H : Hp} {v : V} {kvs : List (NestedKey × PyData)} {w : World} (hw : LamReg.w = some w) (h : NdR K (ctL L H) v kvs) : ∃ d kas, v = .ref d ∧ ctL L H d = some (NdO w d kas) ∧ Paired (NdP K (ctL L H)) kas kvs := by
  obtain ⟨w', d, kas, e, rfl, h1, h2⟩ := h
  rw [hw] at e
  cases e
  exact ⟨d, kas, rfl, h1, h2⟩
theorem dgetN {o e f : Expr} {fo fe fx : WF} {apos cpos : Pos} (hw : LamReg.w = some X.w) (hu : X.A.units + 9 < cLine) (ho : PE X o (tW X.K .data fo)) (he : PE X e (tW X.K .data fe)) (hf2 : PE X f (tW X.K .data fx)) (hm : m ≠ .fresh := by decide) (mm : M2 X o "get" apos e f cpos := by exact ⟨rfl, rfl, rfl, rfl⟩) :
    PE X (.Call (.Attribute o "get" apos) [e, f] [] cpos) (tW X.K m (wGetN fo fe fx)) := by
  refine pe_mono (pe_nget2 hu ho he hf2 mm) fun σ H Q q => ?_
  obtain ⟨He, Lc, os, p, gs, ρ, P, E, hf, k⟩ := q
  refine ⟨He, Lc, os, p, gs, ρ, _, E, hf, fun x H1 v hx s o1 r => ?_⟩
  obtain ⟨⟨kvs, rfl⟩, hx⟩ := hx
  obtain ⟨d, kas, rfl, h1, h2⟩ := NdR.get hw (show NdR X.K (ctL (Ls Lc os) H1) v kvs from r)
  refine ⟨d, kas, rfl, (ctL_of h1).2.1, He, Lc, os, p, gs, ρ, _, E.step s o1, hx, fun y H2 u hy s2 o2 r2 => ?_⟩
  refine ⟨He, Lc, os, p, gs, ρ, _, (E.step s o1).step s2 o2, hy, fun z H3 w hz s3 o3 r3 => ?_⟩
  unfold wGetNV at hz
  split at hz
  · rename_i kvs' kd d0 e1
    cases e1
    obtain ⟨nk, hk, hP⟩ := hz
    have ra : NdR X.K (ctL (Ls Lc os) H3) (.ref d) kvs := (r.step (by decide) o1 s2).step (by decide) o2 s3
    obtain ⟨d', kas', e, h1', h2'⟩ := NdR.get hw ra
    cases e
    obtain ⟨b, rfl, hb, h8⟩ := hk.ref (show Dt X.K (ctL (Ls Lc os) H3) u kd from r2.step (by decide) o2 s3)
    have r3' : Dt X.K (ctL (Ls Lc os) H3) w d0 := r3
    refine ⟨b, nk, kas', rfl, (ctL_of h1').2.1, keysD_up (ndp_keys h2'), Dt.sameR ctL_all _ _ hb, h8, ?_⟩
    refine k _ H3 _ hP ((s.trans s2).trans s3) o3 (Res.of_data hm ?_)
    show Dt X.K (ctL (Ls Lc os) H3) ((atN kas' nk).getD w) ((ndAt kvs nk).getD d0)
    rcases ndp_at (k := nk) h2' with ⟨e1, e2⟩ | ⟨v, d2, e1, e2, hv⟩
    · rw [e1, e2]
      exact r3'
    · rw [e1, e2]
      exact hv
  · exact hz.elim
/-! ### in -/
def rND (X : Cx) (neg : Bool) : R2 := fun x y H Q => ∃ b d k kvs, x = .ref b ∧ y = .ref d ∧ H d = some (NdO X.w d kvs) ∧ KeysD X.K H kvs ∧ Dt X.K H (.ref b) k.data ∧ k.depth ≤ 8 ∧ Q (.bl (xor neg (atN kvs k).isSome)) H
def wInN (neg : Bool) : EV → EV → (EV → Prop) → Prop
  | .py kd, .nd kvs, P => ∃ k, KeyN kd k ∧ P (.py (.bool (xor neg (ndAt kvs k).isSome)))
  | _, _, _ => False
end
end Dw

/-! {k: v for x in xs if t}, the keys tuples. -/
namespace Nd
open PySem PySem.Spec PyProof.Rows L2 Rp
section
variable {X : Cx}
def tDcN (X : Cx) (wi : TI) (g : TG) (tt : TT) (tk tv : TE) (vs : List Nat) : TE := fun σ H Q => wi σ H fun J H1 => ∀ D, H1 D = none → ∃ W : Nat → Nat → Hp → Prop, (∃ m, W 0 m (upd H1 D (NdO X.w D []))) ∧
  ∀ i m H, W i m H → (J.stop i H ∧ Q (.ref D) H) ∨ (J.go i H ∧ ∃ Nx : Hp → Prop, (∀ H', Nx H' → ∃ m', m' < m ∧ W (i + 1) m' H') ∧
    ∀ x H', J.yld i H x H' → g x (wipe σ vs) H' fun σ2 H2 => wipe σ2 vs = wipe σ vs ∧ tt σ2 H2 fun c H3 => if c = true then
      tk σ2 H3 fun y H4 => tv σ2 H4 fun z H5 => ∃ kvs k b, y = .ref b ∧ H5 D = some (NdO X.w D kvs) ∧ KeysD X.K H5 kvs ∧ kvs.length < sizeLine ∧ Dt X.K H5 (.ref b) k.data ∧ k.depth ≤ 8 ∧ Nx (upd H5 D (NdO X.w D (putN kvs k b z))) else Nx H3)
end
end Nd

/-! Data ways: {k: v for x in xs if t}, the keys tuples. -/
namespace Dw
open PySem PySem.Spec PySem.W PySem.Calls PyProof.Rows L2 Dr Rp _root_.Nd
open He (ga)
variable [Dw.LamReg]
theorem NTb.nd {w : World} {D : Addr} {L : List KAV} : NTb (NdO w D L) := by
  refine ⟨(fun _ e => nomatch e), fun c q e => ?_⟩
  unfold NdO LamX.CodeO at e
  have e := HO.ext.inj e
  let ob : Obj := { cls := .none, dict := none, data := .fields #[.none, .str q 0] }
  have g : ∀ a, a < c + D + 1 → (⟨Array.replicate (c + D + 1) ob, {}⟩ : Heap).get? a = some ob := fun a h => by
    unfold Heap.get?
    rw [Array.getElem?_replicate, if_pos h]
  have z : NdF w D L ⟨Array.replicate (c + D + 1) ob, {}⟩ := by
    rw [congrFun e ⟨Array.replicate (c + D + 1) ob, {}⟩]
    exact ⟨ob, _, 0, g c (Nat.lt_succ_of_le (Nat.le_add_right c D)), rfl, rfl⟩
  obtain ⟨_, _, _, xs, _, o, es, ep, h1, h2, h3, _⟩ := z
  rw [g D (Nat.lt_succ_of_le (Nat.le_add_left D c))] at h1
  cases h1
  cases h3
theorem NT.nd {w : World} {D : Addr} {L : List KAV} : NT (NdO w D L) := ⟨fun _ => ⟨(fun e => nomatch e), (fun _ e => nomatch e)⟩, fun _ e => nomatch e⟩
def putNd (kvs : List (NestedKey × PyData)) (k : NestedKey) (d : PyData) : List (NestedKey × PyData) := if (ndAt kvs k).isSome = true then kvs.map (fun x => if x.1 = k then (x.1, d) else x) else kvs ++ [(k, d)]
theorem pd_snoc {α β : Type} {R : α → β → Prop} {p : α} {q : β} (h : R p q) : ∀ {xs : List α} {ys : List β}, Paired R xs ys → Paired R (xs ++ [p]) (ys ++ [q])
  | _, _, .nil => .cons h .nil
  | _, _, .cons a t => .cons a (pd_snoc h t)
def wDcNGo (g : WGt) (t : WT) (fk fv : WF) (ρ : EnvD) : List EV → List (NestedKey × PyData) → (List (NestedKey × PyData) → Prop) → Prop
  | [], acc, P => P acc
  | x :: r, acc, P => g x ρ fun ρ' => t ρ' fun b => if b = true then fk ρ' fun ek => fv ρ' fun ev => match ek, ev with
    | .py kd, .py d => ∃ k, KeyN kd k ∧ acc.length < sizeLine ∧ wDcNGo g t fk fv ρ r (putNd acc k d) P
    | _, _ => False
    else wDcNGo g t fk fv ρ r acc P
def wDcN (fi : WA) (g : WGt) (t : WT) (fk fv : WF) (vs : List Nat) : WF := fun ρ P => noOwn ρ vs ∧ fi ρ fun xs => wDcNGo g t fk fv (wipeE ρ vs) xs [] fun ds => P (.nd ds)
section
variable {X : Cx} {m : Mode}
end
end Dw

/-! Data ways: sorted({e for x in xs if t}) of whole numbers; reversed(list); list(range(n)), tuple(range(n)); tuples of whole numbers compared; sum of a tuple. -/
namespace Dw
open PySem PySem.Spec PySem.W PySem.Calls PyProof.Rows L2 Dr Rp
open He (ga)
variable [Dw.LamReg]
/-! ### reversed -/
section
variable {K : PySem.W.Frag} {p : Pt} {a : Addr}
end
def wRevI (f : WF) : WA := fun ρ P => f ρ fun e => match e with
  | .py (.list ds) => P (ds.map EV.py).reverse
  | _ => False
section
variable {X : Cx} {m : Mode}
/-! ### ranges -/
def natsD (n : Nat) : List PyData := (List.range n).map fun i => PyData.int (i : Nat)
def wLRng : EV → (EV → Prop) → Prop
  | .py (.int n), P => 0 ≤ n ∧ n ≤ 16777216 ∧ P (.py (.list (natsD n.toNat)))
  | _, _ => False
def wTRng : EV → (EV → Prop) → Prop
  | .py (.int n), P => 0 ≤ n ∧ n ≤ 16777216 ∧ P (.py (.tuple (natsD n.toNat)))
  | _, _ => False
/-- (two, in one) that start elsewhere -/
def intsFrom (a n : Nat) : List PyData := (List.range n).map fun i => PyData.int ((a + i : Nat) : Int)
/-! ### tuples of whole numbers compared -/
def wLtT : EV → EV → (EV → Prop) → Prop
  | .py (.tuple ds), .py (.tuple es), P => ∃ ns ms, intsL ds = some ns ∧ intsL es = some ms ∧ P (.py (.bool (HT.lexLt ns ms)))
  | _, _, _ => False
theorem ltT_read {L : Addr → Prop} {p : Pt} {H0 H : Hp} {v u : V} {a b : EV} {P : EV → Prop} {Q : VK} (o : LOk L p H) (ra : Res X.K .read L p H0 H v a) (rb : Res X.K .read L p H0 H u b) (hg : wLtT a b P) (hm : m ≠ .fresh) (k : Go X.K m L p H P Q) : rLtT X.K v u H Q := by
  unfold wLtT at hg
  split at hg
  · obtain ⟨ns, ms, h1, h2, hP⟩ := hg
    obtain ⟨x, vs, rfl, q1, q2⟩ := ra.tup
    obtain ⟨y, us, rfl, q3, q4⟩ := rb.tup
    rw [ints_of q2 h1] at q1
    rw [ints_of q4 h2] at q3
    exact ⟨x, y, ns, ms, rfl, rfl, q1, q3, Go.val k o hm hP (.bl _)⟩
  · exact hg.elim
theorem dltT {a b : Expr} {pos : Pos} {fa fb : WF} (hu : X.A.units < cLine) (ha : PE X a (tW X.K .read fa)) (hb : PE X b (tW X.K .read fb)) (hm : m ≠ .fresh := by decide) (h1 : behindInMarks .Lt b = false := by rfl) : PE X (.Compare a [.Lt] [b] pos) (tW X.K m (w2 fa fb wLtT)) :=
  k2 (ma := .read) (mb := .read) (g := wLtT) (rLtT X.K) (by decide) (by decide) (pe_cmpR (op_ltT hu) ha hb h1) fun L p H0 H v a u b P Q o ra rb hg k => ltT_read o ra rb hg hm k
end
end Dw

/-! Data ways: sorted({e for x in xs if t}) of whole numbers; sum of a tuple. -/
namespace Dw
open PySem PySem.Spec PySem.W PySem.Calls PyProof.Rows L2 Dr Rp
open He (ga)
variable [Dw.LamReg]
/-! ### sum of a tuple -/
theorem sum_tupI {prog : Program} {w : World} {A : Around} {E : Value → Shared → Prop} {s : Shared} {l : Addr} {its : List Value} {ns : List Int} {Q : Value → Shared → Prop} (hh : A.handled = none) (hl : s.heap.IsTuple l its.toArray) (hi : IntsAre its ns)
    (h : ∀ h' tk t', (∀ b o, s.heap.get? b = some o → h'.get? b = some o) → Q (.int ns.sum t') { s with heap := h', toks := tk }) : wpAny (model prog w) A (call (.builtin "sum") [.ref l]) Q E s := by
  obtain ⟨xs, e⟩ := hi.allInts.items
  have hn : numsOf (intItems xs).toList = ns := by rw [← e]; exact hi.numsOf
  rw [nums_intItems] at hn
  rw [e] at hl
  obtain ⟨o, ho, _⟩ := id hl
  have lt : l < s.heap.objs.size := Heap.lt_size ho
  refine call_sum_walkG (wpAny_pyIter_tuple hl ?_)
  have keep : ∀ b o, s.heap.get? b = some o → (s.heap.push { cls := .type "tuple_iterator", data := .fields #[.ref l, .int 0 0] }).get? b = some o := fun b o e => Heap.get?_push_of_some _ e
  refine ⟨_, _, _, _, _, _, numAt xs, rfl, Walks.tuple (A := A.in1) hh _ l (Nat.ne_of_lt lt) (intItems xs), ⟨⟨_, Heap.get?_push_size _ rfl, rfl, rfl⟩, ?_⟩, fun b hb => ?_, (fun _ _ => intItems_at), fun h' tk t' hk => ?_⟩
  · obtain ⟨o, q1, q2, q3⟩ := hl
    exact ⟨o, keep _ _ q1, q2, q3⟩
  · rw [Heap.size_push]
    rcases List.mem_cons.mp hb with rfl | hb
    · exact Nat.lt_succ_self _
    · rw [List.mem_singleton.mp hb]
      exact Nat.lt_succ_of_lt lt
  · have z := h h' tk t' fun b o e => hk b o (fun z => by rw [List.mem_singleton.mp z] at e; exact absurd (Heap.lt_size e) (Nat.lt_irrefl _)) (keep _ _ e)
    rw [preSum_eq, List.take_of_length_le (by simp [intItems]), hn]
    exact z
def rSumT (K : PySem.W.Frag) : List V → Hp → VK → Prop := fun vs H Q => ∃ (a : Addr) (ns : List Int), vs = [V.ref a] ∧ SqT K H a (ns.map V.int) ∧ Q (.int ns.sum) H
section
variable {X : Cx} {m : Mode}
theorem cr_sumT (hc : X.calm = true) : CallR X (.builtin "sum") (rSumT X.K) := by
  intro pins s σ H vs us Q I r h
  obtain ⟨a, ns, rfl, hs, q⟩ := h
  obtain ⟨its, rv, hl, _⟩ := I.tuple hs
  rw [Vals.ref1 r]
  exact sum_tupI (I.ok.hd hc) hl rv.ints fun h' tk t' hk => ⟨.int _, H, I.kept hk, ⟨_, rfl⟩, q⟩
def wSumT : List EV → (EV → Prop) → Prop
  | [.py (.tuple ds)], P => ∃ ns, intsL ds = some ns ∧ P (.py (.int ns.sum))
  | _, _ => False
def brSumT (hc : X.calm = true) (hm : m ≠ .fresh) : BR X m (.builtin "sum") wSumT where
  r := rSumT X.K
  c := cr_sumT hc
  s := fun L p H0 H vs es P Q o ra hg k => by
    unfold wSumT at hg
    split at hg
    · obtain ⟨ns, hn, hg⟩ := hg
      obtain ⟨v, rfl, r⟩ := paired1 ra
      obtain ⟨a, vs, rfl, h1, h2⟩ := r.tup
      cases ints_of h2 hn
      exact ⟨a, ns, rfl, h1, Go.val k o hm hg (.int _)⟩
    · exact hg.elim
/-! ### sorted({..}) -/
end
def wSgIGo (g : WGt) (t : WT) (f : WF) (ρ : EnvD) : List EV → List Int → (List Int → Prop) → Prop
  | [], acc, P => P acc
  | x :: r, acc, P => g x ρ fun ρ' => t ρ' fun b => if b = true then f ρ' fun e => match e with
    | .py (.int i) => acc.length + 1 < scanBound ∧ wSgIGo g t f ρ r (acc ++ [i]) P
    | _ => False
    else wSgIGo g t f ρ r acc P
def wSgI (fi : WA) (g : WGt) (t : WT) (f : WF) (vs : List Nat) : WF := fun ρ P => noOwn ρ vs ∧ fi ρ fun xs => wSgIGo g t f (wipeE ρ vs) xs [] fun acc => ∀ ys : List Int, ys.Pairwise (· < ·) → (∀ i, i ∈ ys ↔ i ∈ acc) → P (.py (.list (ys.map .int)))
/-- a set of whole numbers at D: those told so far -/
def SetI (P : Program) (w : World) (H : Hp) (D : Addr) (acc : List Int) : Prop := ∃ Lk, H D = some (Sl.SetLO P w D Lk) ∧ (∀ y, y ∈ Lk ↔ y ∈ acc.map (Sum.inl (β := Str))) ∧ Lk.length ≤ acc.length ∧ Lk.Nodup
section
variable {X : Cx} {m : Mode}
end
end Dw

/-! A dict of texts that takes one more key, which is no text: None, a truth, a tuple. -/
namespace Od
open PySem PySem.Spec PyProof.Rows L2
open Sem (wp)
section
variable {P : Program} {w : World} {A : Around} {E : Value → Shared → Prop} {s : Shared}
/-- texts for keys -/
def TxtKeys (es : Array DictEntry) : Prop := ∀ e ∈ es.toList, ∃ x t, e.key = .str x t
/-- a key that is no text -/
def NoTxt : NestedKey → Prop
  | .text _ => False
  | _ => True
theorem eq_no {x : Str} {t : Tok} {k : NestedKey} {u : Value} {Q : Bool → Shared → Prop} (hk : NestedIs s.heap k u) (n : NoTxt k) (hu : A.units + 8 < cLine) (hd : k.depth ≤ 8) (h : Q false s) : wpAny (model P w) A (eqBool (.str x t) u) Q E s := by
  have e : NestedKey.beq (.text x) k = false := by
    cases k with
    | text y => exact n.elim
    | none => rfl
    | num i => rfl
    | tup ks => rfl
  have q := eqAt_key (.text x) k A s (.str x t) u (.text x t) hk (by have : min (NestedKey.text x).depth k.depth ≤ k.depth := Nat.min_le_right _ _; omega)
  rw [e] at q
  exact q _ _ _ _ h
/-- the walk over the keys of one hash ends with nothing -/
theorem walk_no {d : Addr} {o : Obj} {es : Array DictEntry} {ep : Nat} {k : NestedKey} {u : Value} {n : Int} {Q : Option Nat → Shared → Prop} (ho : s.heap.get? d = some o) (hd : o.data = .dict es ep) (hs : TxtKeys es) (hk : NestedIs s.heap k u) (nt : NoTxt k) (hu : A.units + 8 < cLine) (hdp : k.depth ≤ 8) (h : Q none s) (ps : List Nat) :
    wpAny (model P w) A (dictWalkPlain d u n es ps) Q E s := by
  unfold dictWalkPlain
  refine wpAny_bind ?_
  refine wpAny_forIn_list _ (fun rest b s' => s' = s ∧ b = (none, ())) _ ?_ ?_ _ _ ⟨rfl, rfl⟩
  · rintro i rest b s' ⟨rfl, rfl⟩
    cases he : es[i]? with
    | none => exact wpAny_pure ⟨rfl, rfl⟩
    | some e =>
      dsimp only
      by_cases hh : (e.hash == n) = true
      · rw [if_pos hh]
        obtain ⟨x, t, hx⟩ := hs e (Array.mem_toList_iff.mpr (Array.mem_of_getElem? he))
        rw [hx]
        refine wpAny_bind (wpAny_dictEpoch ho hd (wpAny_bind (eq_no hk nt hu hdp (wpAny_bind (wpAny_dictEpoch ho hd ?_)))))
        show wpAny _ _ (if (ep != ep) = true then _ else _) _ E _
        rw [if_neg (by simp)]
        exact wpAny_bind (wpAny_rule (wpAny_pure ⟨rfl, rfl⟩))
      · rw [if_neg hh]
        exact wpAny_pure ⟨rfl, rfl⟩
  · rintro b s' ⟨rfl, rfl⟩
    exact wpAny_pure h
theorem mem_stored {es : Array DictEntry} {ps : List Nat} {v : Value} (hs : TxtKeys es) (hv : v ∈ ps.filterMap fun i => es[i]?.map (·.key)) : ∃ x t, v = .str x t := by
  obtain ⟨i, _, hi⟩ := List.mem_filterMap.mp hv
  cases he : es[i]? with
  | none => rw [he] at hi; cases hi
  | some e =>
    rw [he] at hi
    obtain rfl : e.key = v := by simpa using hi
    exact hs e (Array.mem_toList_iff.mpr (Array.mem_of_getElem? he))
theorem tell_no {a : Addr} {k : NestedKey} {l : List Value} {Q : Bool → Shared → Prop} (hk : NestedIs s.heap k (.ref a)) (hdp : k.depth ≤ 8) (hl : ∀ v ∈ l, ∃ x t, v = .str x t) (h : Q false s) : wpAny (model P w) A (tableMayTell (.ref a) l) Q E s := by
  unfold tableMayTell
  split
  · exact wpAny_pure h
  · refine wpAny_bind (quiet_key k _ 8 s hk hdp _ _ _ ?_)
    simp only [Bool.not_true, Bool.false_eq_true, if_false]
    refine wpAny_bind ?_
    refine wpAny_forIn_list _ (fun rest r s' => s' = s ∧ r = (none, ()) ∧ ∀ v ∈ rest, ∃ x t, v = .str x t) _ ?_ ?_ _ _ ⟨rfl, rfl, hl⟩
    · rintro x rest r s' ⟨rfl, rfl, hr⟩
      obtain ⟨y, t, rfl⟩ := hr x List.mem_cons_self
      refine wpAny_bind (QuietAt.byValue (prog := P) (w := w) (n := 8) (s := s') (v := .str y t) rfl _ _ _ ?_)
      simp only [Bool.not_true, Bool.false_eq_true, if_false]
      exact wpAny_pure ⟨rfl, rfl, fun v hv => hr v (List.mem_cons_of_mem _ hv)⟩
    · rintro r s' ⟨rfl, rfl, _⟩
      exact wpAny_pure h
theorem find_no {d : Addr} {o : Obj} {es : Array DictEntry} {ep : Nat} {k : NestedKey} {u : Value} {n : Int} {Q : Option Nat → Shared → Prop} (ho : s.heap.get? d = some o) (hd : o.data = .dict es ep) (hs : TxtKeys es) (hk : NestedIs s.heap k u) (nt : NoTxt k) (hu : A.units + 8 < cLine) (hdp : k.depth ≤ 8) (h : Q none s) :
    wpAny (model P w) A (dictFind d u n) Q E s := by
  have val : carriedByValue u = true → (∀ x t, u ≠ .str x t) → wpAny (model P w) A (dictFind d u n) Q E s := fun hv hn => by
    have hall : ((u :: (placesWithHash es.size (fun i => es[i]?.map (·.hash)) n).filterMap fun i => es[i]?.map (·.key)).all carriedByValue) = true := by
      rw [List.all_cons, hv, Bool.true_and, List.all_eq_true]
      intro v hv
      obtain ⟨x, t, rfl⟩ := mem_stored hs hv
      rfl
    unfold dictFind
    try with_reducible refine wpAny_holding ?_
    refine wpAny_bind (wpAny_dictEntries ho hd ?_)
    dsimp only
    rw [if_pos hall]
    split
    · exact absurd rfl (hn _ _)
    · exact walk_no ho hd hs hk nt hu hdp h _
  cases hk with
  | none => exact val rfl fun _ _ z => nomatch z
  | int i t => exact val rfl fun _ _ z => nomatch z
  | bool q => exact val rfl fun _ _ z => nomatch z
  | text x t => exact nt.elim
  | tup g1 g2 g3 g4 =>
    rename_i a ob vs m ks
    have hk : NestedIs s.heap (.tup ks) (.ref a) := .tup g1 g2 g3 g4
    have hst : ∀ v ∈ (placesWithHash es.size (fun i => es[i]?.map (·.hash)) n).filterMap (fun i => es[i]?.map (·.key)), ∃ x t, v = .str x t := fun v hv => mem_stored hs hv
    have hany : ¬ (es.any fun e => e.key == Value.ref a && e.hash != n) = true := by
      rw [← Array.any_toList, List.any_eq_true]
      rintro ⟨e, hin, hc⟩
      obtain ⟨x, t, hx⟩ := hs e hin
      rw [hx, Bool.and_eq_true] at hc
      exact absurd (beq_iff_eq.mp hc.1) (fun z => nomatch z)
    unfold dictFind
    try with_reducible refine wpAny_holding ?_
    refine wpAny_bind (wpAny_dictEntries ho hd ?_)
    dsimp only
    rw [if_neg (show ¬ ((Value.ref a :: (placesWithHash es.size (fun i => es[i]?.map (·.hash)) n).filterMap (fun i => es[i]?.map (·.key))).all carriedByValue) = true by simp [carriedByValue])]
    rw [if_neg hany]
    have hone : ¬ (((placesWithHash es.size (fun i => es[i]?.map (·.hash)) n).filterMap (fun i => es[i]?.map (·.key))) == [Value.ref a]) = true := fun z => by
      have z := beq_iff_eq.mp z
      obtain ⟨x, t, q⟩ := hst (.ref a) (by rw [z]; exact List.mem_cons_self)
      cases q
    rw [if_neg hone]
    refine wpAny_bind (tell_no hk hdp hst ?_)
    rw [if_neg (by simp)]
    refine wpAny_bind ?_
    refine wpAny_forIn_list _ (fun rest b s' => s' = s ∧ b = (none, none)) _ ?_ ?_ _ _ ⟨rfl, rfl⟩
    · rintro i rest b s' ⟨rfl, rfl⟩
      cases he : es[i]? with
      | none => exact wpAny_pure ⟨rfl, rfl⟩
      | some e =>
        dsimp only
        by_cases hh : (e.hash == n) = true
        · rw [if_pos hh]
          obtain ⟨x, t, hx⟩ := hs e (Array.mem_toList_iff.mpr (Array.mem_of_getElem? he))
          rw [hx]
          refine wpAny_bind (wpAny_dictEpoch ho hd (wpAny_bind (eq_no hk trivial hu hdp (wpAny_bind (wpAny_dictEpoch ho hd ?_)))))
          show wpAny _ _ (if (ep != ep) = true then _ else _) _ E _
          rw [if_neg (by simp)]
          refine wpAny_bind (wpAny_rule ?_)
          simp only [Bool.false_and, Bool.false_eq_true, if_false]
          exact wpAny_pure ⟨rfl, rfl⟩
        · rw [if_neg hh]
          exact wpAny_pure ⟨rfl, rfl⟩
    · rintro b s' ⟨rfl, rfl⟩
      exact wpAny_pure h
/-- d[u] = v of such a key: it comes last -/
theorem set_odd {d : Addr} {o : Obj} {es : Array DictEntry} {ep : Nat} {k : NestedKey} {u v : Value} {Q : Unit → Shared → Prop} (ho : s.heap.get? d = some o) (hx : o.ExactDict) (hd : o.data = .dict es ep) (hs : TxtKeys es) (hz : es.size ≤ sizeLine) (hk : NestedIs s.heap k u) (nt : NoTxt k) (hu : A.units + 8 < cLine) (hdp : k.depth ≤ 8)
    (hQ : ∀ o' h' tk, h'.get? d = some o' → o'.ExactDict → o'.data = .dict (es.push ⟨k.hash w, u, v⟩) (ep + 1) → Heap.SameBut d s.heap h' → Q () { s with heap := h', toks := tk }) :
    wpAny (model P w) A (dictSet d u v) Q E s := by
  unfold dictSet
  try with_reducible refine wpAny_holding ?_
  refine wpAny_bind (pyHash_key k u A s _ hk (by omega) ?_)
  unfold dictSetHashed
  try with_reducible refine wpAny_holding ?_
  refine wpAny_bind (find_no (s := { s with toks := s.toks + k.draws }) ho hd hs hk nt hu hdp ?_)
  exact wpAny_bind (wpAny_rule (wpAny_updateDictKeys (hz := hz) (s := { s with toks := s.toks + k.draws }) ho hd (hQ _ _ _ (Heap.get?_update_self _ ho (Obj.isFreed_of_dict (Obj.data_mapDictKeys hd _))) (hx.mapDictKeys _) (Obj.data_mapDictKeys hd _) (Heap.SameBut.update ..))))
theorem merged_key : ∀ (ms acc : List (L2.Key × Value)) (q : L2.Key × Value), q ∈ merged acc ms → ∃ z ∈ acc ++ ms, q.1 = z.1
  | [], acc, q, h => ⟨q, by rw [List.append_nil]; exact h, rfl⟩
  | m :: ms, acc, q, h => by
    obtain ⟨z, hz, e⟩ := merged_key ms (stored acc m.1 m.2) q h
    rcases List.mem_append.mp hz with hz | hz
    · unfold stored at hz
      split at hz
      · obtain ⟨y, hy, rfl⟩ := List.mem_map.mp hz
        refine ⟨y, List.mem_append_left _ hy, e.trans ?_⟩
        split <;> rfl
      · rcases List.mem_append.mp hz with hz | hz
        · exact ⟨z, List.mem_append_left _ hz, e⟩
        · rw [List.mem_singleton.mp hz] at e
          exact ⟨m, List.mem_append_right _ List.mem_cons_self, e⟩
    · exact ⟨z, List.mem_append_right _ (List.mem_cons_of_mem _ hz), e⟩
theorem pairs_txt {es : Array DictEntry} {kvs : List (L2.Key × Value)} (h : Pairs (mixKind P w) es.toList kvs) (k : ∀ q ∈ kvs, ∃ x : Str, q.1 = Sum.inr x) : TxtKeys es := by
  unfold TxtKeys
  generalize es.toList = l at h
  induction h with
  | nil => intro e he; cases he
  | cons h1 h2 h3 ih =>
    intro e he
    rcases List.mem_cons.mp he with rfl | he
    · obtain ⟨x, hx⟩ := k _ List.mem_cons_self
      rw [hx] at h1
      rcases keyIs_shape (k := (Sum.inr x : L2.Key)) (v := e.key) h1 with ⟨i, t, q, _⟩ | ⟨y, t, _, hy⟩
      · exact absurd q (fun z => nomatch z)
      · exact ⟨y, t, hy⟩
    · exact ih (fun q hq => k q (List.mem_cons_of_mem _ hq)) e he
/-- dict(xs) of a list of pairs: texts for keys, the last one no text -/
theorem call_dict_odd {a : Addr} {items : Array Value} {Ts : Nat → Addr} {qs : List (Value × Value)} {prs : List (L2.Key × Value)} {k : NestedKey} {u v : Value} {Q : Value → Shared → Prop} (hh : A.handled = none) (hu : A.units + 16 < cLine) (hl : PlainSeq "list" s.heap a items) (hp : PairItems s.heap items Ts (qs ++ [(u, v)])) (hz : qs.length + 1 ≤ sizeLine)
    (hn : prs.length = qs.length) (hq : ∀ (i : Nat) (p : Value × Value), qs[i]? = some p → ∃ x : Str, prs[i]? = some ((Sum.inr x : L2.Key), p.2) ∧ keyIs (Sum.inr x : L2.Key) p.1 = true) (hk : NestedIs s.heap k u) (nt : NoTxt k) (hdp : k.depth ≤ 8)
    (h : ∀ (o' : Obj) (es : Array DictEntry) (ep : Nat) (h' : Heap) (tk : Nat), h'.get? s.heap.objs.size = some o' → o'.ExactDict → o'.data = .dict (es.push ⟨k.hash w, u, v⟩) ep → Pairs (mixKind P w) es.toList (merged [] prs) → (∀ b o, s.heap.get? b = some o → h'.get? b = some o) → Q (.ref s.heap.objs.size) { s with heap := h', toks := tk }) :
    wpAny (model P w) A (call (.type "dict") [.ref a]) Q E s := by
  have A1 := PairArg.list (prog := P) (w := w) a items Ts (qs ++ [(u, v)])
  have hlen : (qs ++ [(u, v)]).length = qs.length + 1 := by simp
  refine call_dict_arg A1 ⟨hl, hp⟩ fun s₁ hs₁ hdf ok₁ => ?_
  subst hs₁
  let d := s.heap.objs.size
  let Fin : Heap → Prop := fun h' => ∃ (o' : Obj) (es : Array DictEntry) (ep : Nat), h'.get? d = some o' ∧ o'.ExactDict ∧ o'.data = .dict (es.push ⟨k.hash w, u, v⟩) ep ∧ Pairs (mixKind P w) es.toList (merged [] prs)
  let Tab : Nat → Heap → Prop := fun i h' => ((i ≤ qs.length ∧ h'.DictOf (mixKind P w) d (merged [] (prs.take i))) ∨ (i = qs.length + 1 ∧ Fin h')) ∧ ∀ b o, b ≠ d → s.heap.get? b = some o → h'.get? b = some o
  refine updateFrom_arg (A := A.in1) (Tab := Tab) A1 .none hh ok₁ hdf ⟨.inl ⟨Nat.zero_le _, Heap.DictOf.new s.heap⟩, fun b o hb e => Heap.get?_push_of_some _ e⟩ (fun i h' tb => ?_) (fun i h1 h2 wr' hd hw tb hk2 => ?_) ?_ ?_
  · rcases tb.1 with ⟨_, tb⟩ | ⟨_, o', es, ep, ho, _⟩
    · exact tb.lt_size
    · exact Heap.lt_size ho
  · refine ⟨?_, fun b o hb e => hk2 b o (fun hm => ?_) (tb.2 b o hb e)⟩
    · rcases tb.1 with ⟨hi, tb⟩ | ⟨hi, o', es, ep, ho, r⟩
      · exact .inl ⟨hi, tb.at' fun o e => hk2 d o hd e⟩
      · exact .inr ⟨hi, o', es, ep, hk2 d o' hd ho, r⟩
    · rcases hw b hm with q | q
      · cases q
      · have q : (s.heap.push _).get? b = none := q
        rw [Heap.get?_push_of_some _ e] at q
        cases q
  · intro i key x s' Q' E' hi hrel tb _ hQ
    rw [hlen] at hi
    have hrel : (qs ++ [(u, v)])[i]? = some (key, x) := hrel
    rcases tb.1 with ⟨hle, tbd⟩ | ⟨he, _⟩
    · by_cases hlt : i < qs.length
      · rw [List.getElem?_append_left hlt] at hrel
        obtain ⟨y, e1, e2⟩ := hq i _ hrel
        refine wpAny_dictSet_pairs (knd := mixKind P w) (k := (Sum.inr y : L2.Key)) (hsz := by have := merged_length [] (prs.take i); rw [List.length_take] at this; simp at this; omega) e2 tbd fun h' hm' hs => ?_
        refine hQ h' _ ⟨.inl ⟨hlt, ?_⟩, fun b o hb e => hs.extBut b o hb (tb.2 b o hb e)⟩ hs
        rw [merged_take_succ [] prs i ((Sum.inr y : L2.Key), x) e1]
        exact hm'
      · have ei : i = qs.length := by omega
        subst ei
        rw [List.getElem?_append_right (Nat.le_refl _), Nat.sub_self] at hrel
        cases hrel
        obtain ⟨o, es, ep, ho, hx, hd, hks, hps, hnd⟩ := tbd
        have etk : prs.take qs.length = prs := List.take_of_length_le (by omega)
        rw [etk] at hps
        have hkk : NestedIs s'.heap k u := NestedIs.at (fun b ob vs n hb hc => tb.2 b ob (Nat.ne_of_lt (Heap.lt_size hb)) hb) k u hk
        have txt : TxtKeys es := pairs_txt hps fun q hq' => by
          obtain ⟨z, hz1, hz2⟩ := merged_key prs [] q hq'
          rw [List.nil_append] at hz1
          obtain ⟨j, hj⟩ := List.mem_iff_getElem?.mp hz1
          have hj2 : j < qs.length := by rw [← hn]; exact (List.getElem?_eq_some_iff.mp hj).1
          obtain ⟨x', e1, _⟩ := hq j _ (List.getElem?_eq_getElem hj2)
          rw [hj] at e1
          cases e1
          exact ⟨x', hz2⟩
        refine set_odd ho hx hd txt ?_ hkk nt (show A.units + 1 + 1 + 8 < cLine by omega) hdp fun o' h' tk e1 e2 e3 hs => ?_
        · have e1 := hps.length
          have e2 := merged_length [] prs
          have e3 : es.toList.length = es.size := by simp
          rw [List.length_nil] at e2
          omega
        · exact hQ h' tk ⟨.inr ⟨rfl, o', es, _, e1, e2, e3, hps⟩, fun b o hb e => hs.extBut b o hb (tb.2 b o hb e)⟩ hs
    · omega
  · intro h' tk tb hk2
    rcases tb.1 with ⟨hle, _⟩ | ⟨_, o', es, ep, e1, e2, e3, e4⟩
    · rw [hlen] at hle
      omega
    · exact ⟨rfl, h o' es ep h' tk e1 e2 e3 e4 fun b o e => tb.2 b o (Nat.ne_of_lt (Heap.lt_size e)) e⟩
end
end Od

/-! dict(pairs), the last key of them no text. -/
namespace Dw
open PySem PySem.Spec PySem.W PySem.Calls PyProof.Rows L2 Dr Rp Od
open He (ga)
variable [Dw.LamReg]
theorem paired_cat {α β : Type} {F : α → β → Prop} : ∀ {a c : List α} {b d : List β}, Paired F a b → Paired F c d → Paired F (a ++ c) (b ++ d)
  | _, _, _, _, .nil, h => h
  | _, _, _, _, .cons x t, h => .cons x (paired_cat t h)
def OddV (K : PySem.W.Frag) (H : Hp) (v : V) (k : NestedKey) : Prop := (v = .non ∧ k = .none) ∨ (∃ b, v = .bl b ∧ k = .num (if b = true then 1 else 0)) ∨ ∃ a x, v = .ref a ∧ SqT K H a [.str x] ∧ k = .tup [.text x]
section
variable {X : Cx} {pins : List (Addr × Obj)} {σ : L2.St} {H : Hp} {s : Shared}
theorem OddV.raw (I : Inv X pins σ H s) {v : V} {k : NestedKey} {u : Value} (h : OddV X.K H v k) (r : RelV v u) : NestedIs s.heap k u ∧ NoTxt k ∧ k.depth ≤ 8 := by
  rcases h with ⟨rfl, rfl⟩ | ⟨b, rfl, rfl⟩ | ⟨a, x, rfl, ha, rfl⟩
  · obtain rfl : u = Value.none := r
    exact ⟨.none, trivial, by decide⟩
  · obtain rfl : u = Value.bool b := r
    exact ⟨.bool rfl, trivial, by simp [NestedKey.depth]⟩
  · obtain rfl : u = Value.ref a := r
    obtain ⟨its, rv, ht, _⟩ := I.tuple ha
    obtain ⟨u1, eu, ru⟩ := vals1 rv
    subst eu
    obtain ⟨t, rfl⟩ : ∃ t, u1 = Value.str x t := ru
    obtain ⟨o, ho, hc, n, hd⟩ := ht
    exact ⟨.tup ho hc hd (.cons (.text x t) .nil), trivial, by simp [NestedKey.depth, NestedKey.depthAll]⟩
theorem pairs_raw (I : Inv X pins σ H s) : ∀ {ps : List Addr} {kvs : List (L2.Key × V)}, Paired (fun p kv => SqT X.K H p [kV kv.1, kv.2]) ps kvs → (∀ kv ∈ kvs, ∃ x : Str, kv.1 = Sum.inr x) →
    ∃ (prs : List (L2.Key × Value)) (qs : List (Value × Value)), KV kvs prs ∧ qs.length = ps.length ∧ prs.length = ps.length ∧ (∀ (i : Nat) (p : Value × Value), qs[i]? = some p → ∃ x : Str, prs[i]? = some ((Sum.inr x : L2.Key), p.2) ∧ keyIs (Sum.inr x : L2.Key) p.1 = true) ∧
      ∀ (i : Nat) (p : Value × Value), qs[i]? = some p → ∃ b, ps[i]? = some b ∧ IsTup s.heap b #[p.1, p.2]
  | _, _, .nil, _ => ⟨[], [], .nil, rfl, rfl, fun j q e => by simp at e, fun j q e => by simp at e⟩
  | _, _, .cons (a := p) (b := kv) h t, hk => by
    obtain ⟨prs, qs, r, h1, h2, h3, h4⟩ := pairs_raw I t fun z hz => hk z (List.mem_cons_of_mem _ hz)
    obtain ⟨its, rv, ht, _⟩ := I.tuple h
    obtain ⟨u, y, ei, ru, ry⟩ := vals2 rv
    subst ei
    obtain ⟨x, hx⟩ := hk kv List.mem_cons_self
    refine ⟨(kv.1, y) :: prs, (u, y) :: qs, .cons ⟨rfl, ry⟩ r, by simp [h1], by simp [h2], fun i p e => ?_, fun i p e => ?_⟩
    · cases i with
      | zero =>
        cases e
        refine ⟨x, by rw [← hx] <;> rfl, ?_⟩
        rw [← hx]
        exact kV_is (P := X.prog) (w := X.w) ru
      | succ i => exact h3 i p e
    · cases i with
      | zero =>
        cases e
        exact ⟨_, rfl, ht⟩
      | succ i => exact h4 i p e
theorem ent_pairs {es : List DictEntry} {kvs : List (L2.Key × V)} {prs : List (L2.Key × Value)} (h : Pairs (mixKind X.prog X.w) es prs) (r : KV kvs prs) : Paired EntV (kvs.map fun kv => (kV kv.1, kv.2)) es := by
  induction h generalizing kvs with
  | nil =>
    cases r
    exact .nil
  | cons h1 h2 h3 ih =>
    rename_i e kv es' prs'
    cases r with
    | cons a t =>
      rename_i kw kvs'
      obtain ⟨a1, a2⟩ := a
      refine .cons ⟨?_, ?_⟩ (ih t)
      · show RelV (kV kw.1) e.key
        rw [a1]
        rcases keyIs_shape (k := kv.1) (v := e.key) h1 with ⟨i, t, q, z⟩ | ⟨y, t, q, z⟩
        · rw [q, z]
          exact ⟨t, rfl⟩
        · rw [q, z]
          exact ⟨t, rfl⟩
      · show RelV kw.2 e.val
        rw [h2]
        exact a2
def rDictO (K : PySem.W.Frag) : List V → Hp → VK → Prop := fun xs H Q => ∃ (a : Addr) (ps : List Addr) (q : Addr) (kvs : List (L2.Key × V)) (uk uv : V) (k : NestedKey), xs = [.ref a] ∧ SqL K H a ((ps ++ [q]).map V.ref) ∧ Paired (fun p kv => SqT K H p [kV kv.1, kv.2]) ps kvs ∧ (∀ kv ∈ kvs, ∃ x : Str, kv.1 = Sum.inr x) ∧ SqT K H q [uk, uv] ∧ OddV K H uk k ∧
  ∀ p o es ep, H p = none → o.ExactDict → o.data = .dict es ep → es.size ≤ sizeLine → (p == sysModules) = false → Paired EntV (((mergeK [] kvs).map fun kv => (kV kv.1, kv.2)) ++ [(uk, uv)]) es.toList → Q (.ref p) (upd H p (OddO p o))
theorem call_dictO (hcalm : X.calm = true) (hu : X.A.units + 64 < cLine) : CallR X (.type "dict") (rDictO X.K) := by
  intro pins s σ H xs us Q I r q
  obtain ⟨a, ps, q1, kvs, uk, uv, k, ex, hq, hp, hk, hq1, ho, q⟩ := q
  subst ex
  obtain ⟨u, eu, rx⟩ := vals1 r
  subst eu
  cases rx
  obtain ⟨its, rv, pl, hz⟩ := I.list hq
  have ei := refs_at rv
  subst ei
  obtain ⟨prs, qs, rel, l1, l2, g1, g2⟩ := pairs_raw I hp hk
  obtain ⟨its2, rv2, ht2, _⟩ := I.tuple hq1
  obtain ⟨ku, vu, ei, rk, rvv⟩ := vals2 rv2
  subst ei
  obtain ⟨n1, n2, n3⟩ := ho.raw I rk
  obtain ⟨o, n, hho, hc, hd, hdat⟩ := pl
  rw [List.length_map, List.length_append, List.length_singleton] at hz
  refine call_dict_odd (Ts := fun j => (ps ++ [q1]).getD j 0) (qs := qs) (prs := prs) (k := k) (u := ku) (v := vu) (I.ok.hd hcalm) (by omega) ⟨o, n, hho, hc, hd, hdat⟩ ⟨by simp [l1], fun j k' v' e => ?_⟩ (by omega) (by omega) g1 n1 n2 n3 fun o' es ep h' tk e1 e2 e3 e4 kp => ?_
  · by_cases hj : j < qs.length
    · rw [List.getElem?_append_left hj] at e
      obtain ⟨b, e1, e2⟩ := g2 j _ e
      have hj2 : j < ps.length := by omega
      have eb : (ps ++ [q1])[j]? = some b := by rw [List.getElem?_append_left hj2]; exact e1
      have eb2 : ((ps ++ [q1]).map Value.ref).toArray[j]? = some (.ref ((ps ++ [q1]).getD j 0)) := by
        rw [List.getElem?_toArray, List.getElem?_map, List.getD_eq_getElem?_getD, eb] <;> rfl
      refine ⟨eb2, .inl ?_⟩
      show s.heap.IsTuple ((ps ++ [q1]).getD j 0) _
      rw [List.getD_eq_getElem?_getD, eb]
      obtain ⟨o2, y1, y2, y3⟩ := e2
      exact ⟨o2, y1, y2, y3⟩
    · have hj2 : j = qs.length := by
        have := (List.getElem?_eq_some_iff.mp e).1
        rw [List.length_append, List.length_singleton] at this
        omega
      subst hj2
      rw [List.getElem?_append_right (Nat.le_refl _), Nat.sub_self] at e
      cases e
      have eb : (ps ++ [q1])[qs.length]? = some q1 := by rw [List.getElem?_append_right (by omega), l1, Nat.sub_self] <;> rfl
      have eb2 : ((ps ++ [q1]).map Value.ref).toArray[qs.length]? = some (.ref ((ps ++ [q1]).getD qs.length 0)) := by
        rw [List.getElem?_toArray, List.getElem?_map, List.getD_eq_getElem?_getD, eb] <;> rfl
      refine ⟨eb2, .inl ?_⟩
      show s.heap.IsTuple ((ps ++ [q1]).getD qs.length 0) _
      rw [List.getD_eq_getElem?_getD, eb]
      obtain ⟨o2, y1, y2, y3⟩ := ht2
      exact ⟨o2, y1, y2, y3⟩
  · have hm : (s.heap.objs.size == sysModules) = false := beq_eq_false_iff_ne.mpr (Nat.ne_of_gt I.big)
    have kk : KV (mergeK [] kvs) (merged [] prs) := KV.merge rel .nil
    have lm := merged_length [] prs
    have le := e4.length
    have hsz : (es.push ⟨k.hash X.w, ku, vu⟩).size ≤ sizeLine := by
      rw [Array.size_push]
      have e5 : es.toList.length = es.size := by simp
      rw [List.length_nil] at lm
      omega
    refine ⟨.ref s.heap.objs.size, upd H s.heap.objs.size (OddO s.heap.objs.size o'), I.laid (t' := tk) kp (Nat.le_refl _) (show ObjOk X.prog X.w _ _ _ (OddO _ o') from ⟨e1, ⟨o', e1⟩⟩), rfl, q _ o' (es.push ⟨k.hash X.w, ku, vu⟩) ep (I.hok.fresh (Nat.le_refl _)) e2 e3 hsz hm ?_⟩
    rw [Array.toList_push]
    exact paired_cat (ent_pairs e4 kk) (.cons ⟨rk, rvv⟩ .nil)
end
end Dw

/-! Data ways: a dict with one key that is no text (EV od): made, asked, walked. -/
namespace Dw
open PySem PySem.Spec PySem.W PySem.Calls PyProof.Rows L2 Dr Rp Od
open He (ga)
variable [Dw.LamReg]
/-- the key as the model has it -/
def oddKey : PyData → Option NestedKey
  | .none => some .none
  | .bool b => some (.num (if b = true then 1 else 0))
  | .tuple [.str x] => some (.tup [.text x])
  | _ => none
/-- pairs (text, value), the last with another key -/
def oddM : List PyData → Option (List (L2.Key × PyData) × PyData × PyData)
  | [] => none
  | d :: r => match r with
    | [] => match d with
      | .tuple [kd, v] => if (oddKey kd).isSome = true then some ([], kd, v) else none
      | _ => none
    | _ :: _ => match d with
      | .tuple [.str x, v] => (oddM r).map fun q => ((Sum.inr x, v) :: q.1, q.2)
      | _ => none
theorem oddM_inv {d : PyData} {r : List PyData} {ms : List (L2.Key × PyData)} {kd kv : PyData} (h : oddM (d :: r) = some (ms, kd, kv)) :
    (r = [] ∧ ms = [] ∧ d = .tuple [kd, kv] ∧ (oddKey kd).isSome = true) ∨ ∃ x d' ms', d = .tuple [.str x, d'] ∧ oddM r = some (ms', kd, kv) ∧ ms = (Sum.inr x, d') :: ms' := by
  cases r with
  | nil =>
    unfold oddM at h
    dsimp only at h
    split at h
    · split at h
      · rename_i ho
        cases h
        exact .inl ⟨rfl, rfl, rfl, ho⟩
      · cases h
    · cases h
  | cons d2 r2 =>
    unfold oddM at h
    dsimp only at h
    split at h
    · cases q : oddM (d2 :: r2) with
      | none => rw [q] at h; cases h
      | some z =>
        obtain ⟨m, k, v⟩ := z
        rw [q] at h
        cases h
        exact .inr ⟨_, _, m, rfl, rfl, rfl⟩
    · cases h
theorem odd_v {K : PySem.W.Frag} {L : Addr → Prop} {H : Hp} {v : V} {d : PyData} (h : Dt K (ctL L H) v d) (e : (oddKey d).isSome = true) : ∃ k, OddV K H v k := by
  unfold oddKey at e
  split at e
  · cases h
    exact ⟨_, .inl ⟨rfl, rfl⟩⟩
  · cases h
    exact ⟨_, .inr (.inl ⟨_, rfl, rfl⟩)⟩
  · cases h with
    | tup h1 h2 =>
      cases h2 with
      | cons a t =>
        cases t
        cases a
        exact ⟨_, .inr (.inr ⟨_, _, rfl, (SameR.sqn ctL_all h1).t, rfl⟩)⟩
  · cases e
theorem odd_in {K : PySem.W.Frag} {L : Addr → Prop} {H : Hp} : ∀ {vs : List V} {xs : List PyData} {ms : List (L2.Key × PyData)} {kd d : PyData}, DtAll K (ctL L H) vs xs → oddM xs = some (ms, kd, d) →
    ∃ (ps : List Addr) (q : Addr) (kvs : List (L2.Key × V)) (uk uv : V) (k : NestedKey), vs = (ps ++ [q]).map V.ref ∧ Paired (fun p kv => SqT K H p [kV kv.1, kv.2]) ps kvs ∧ (∀ kv ∈ kvs, ∃ x : Str, kv.1 = Sum.inr x) ∧ SqT K H q [uk, uv] ∧ OddV K H uk k ∧
      Paired (fun (a : L2.Key × V) (b : L2.Key × PyData) => a.1 = b.1 ∧ Dt K (ctL L H) a.2 b.2) kvs ms ∧ Dt K (ctL L H) uk kd ∧ Dt K (ctL L H) uv d
  | _, [], _, _, _, h, e => by
    unfold oddM at e
    cases e
  | _, d0 :: r, _, _, _, h, e => by
    rcases oddM_inv e with ⟨rfl, rfl, rfl, ho⟩ | ⟨x, d', ms', rfl, e2, rfl⟩
    · cases h with
      | cons a t =>
        cases t
        cases a with
        | tup hq ha =>
          cases ha with
          | cons a1 ha =>
            cases ha with
            | cons a2 ha =>
              cases ha
              obtain ⟨k, hk⟩ := odd_v a1 ho
              exact ⟨[], _, [], _, _, k, rfl, .nil, (fun _ h => nomatch h), (SameR.sqn ctL_all hq).t, hk, .nil, a1, a2⟩
    · cases h with
      | cons a t =>
        obtain ⟨ps, q, kvs, uk, uv, k, rfl, g1, g2, g3, g4, g5, g6, g7⟩ := odd_in t e2
        cases a with
        | tup hq ha =>
          cases ha with
          | cons a1 ha =>
            cases ha with
            | cons a2 ha =>
              cases ha
              cases a1
              refine ⟨_ :: ps, q, (Sum.inr x, _) :: kvs, uk, uv, k, rfl, .cons (SameR.sqn ctL_all hq).t g1, fun kv hk => ?_, g3, g4, .cons ⟨rfl, a2⟩ g5, g6, g7⟩
              rcases List.mem_cons.mp hk with rfl | hk
              · exact ⟨x, rfl⟩
              · exact g2 kv hk
def wDictO : List EV → (EV → Prop) → Prop
  | [.py (.list xs)], P => ∃ ms kd d, oddM xs = some (ms, kd, d) ∧ P (.od (mergeD [] ms ++ [(kd, d)]))
  | _, _ => False
theorem dkv_maps {K : PySem.W.Frag} {G : Hp} : ∀ {kvs : List (L2.Key × V)} {ds : List (PyData × PyData)}, DtKv K G kvs ds → DtAll K G ((kvs.map fun kv => (kV kv.1, kv.2)).map (·.1)) (ds.map (·.1)) ∧ DtAll K G ((kvs.map fun kv => (kV kv.1, kv.2)).map (·.2)) (ds.map (·.2))
  | _, _, .nil => ⟨.nil, .nil⟩
  | _, _, .cons a t => ⟨.cons (dt_key _) (dkv_maps t).1, .cons a (dkv_maps t).2⟩
section
variable {X : Cx} {m : Mode}
def brDictO (hcalm : X.calm = true) (hu : X.A.units + 64 < cLine) (hm : m ≠ .fresh) : BR X m (.type "dict") wDictO where
  r := _
  c := call_dictO hcalm hu
  s := fun L p H0 H vs es P Q o ra hg k => by
    unfold wDictO at hg
    split at hg
    · obtain ⟨v, rfl, r⟩ := paired1 ra
      obtain ⟨ms, kd, d, hm2, hP⟩ := hg
      obtain ⟨a, xs, rfl, h1, h2⟩ := r.list
      obtain ⟨ps, q, kvs, uk, uv, kk, rfl, g1, g2, g3, g4, g5, g6, g7⟩ := odd_in h2 hm2
      refine ⟨a, ps, q, kvs, uk, uv, kk, rfl, .inl h1, g1, g2, g3, g4, fun p' o' es ep hp e1 e2 e3 e4 e5 => ?_⟩
      have st : Stp L p H (upd H p' (OddO p' o')) := Stp.new o.ne hp
      obtain ⟨y1, y2⟩ := dkv_maps (merge_dts g5 .nil)
      refine k _ _ (.ref p') hP st (o.new hp) (Res.of_data hm ⟨p', o', es, ep, _, rfl, ctL_at upd_same (fun l => o.ne p' l hp) (fun ps e => nomatch e), e1, e2, e3, e4, e5, ?_, ?_⟩)
      · rw [List.map_append, List.map_append]
        exact Dt.sameRAll (st.ct o) _ _ (dts_append y1 (.cons g6 .nil))
      · rw [List.map_append, List.map_append]
        exact Dt.sameRAll (st.ct o) _ _ (dts_append y2 (.cons g7 .nil))
    · exact hg.elim
/-! ### asked -/
/-- an odd dict at a, as the program's object -/
def IsOdd (H : Hp) (v : V) (kvs : List (V × V)) : Prop := ∃ (a : Addr) (o : Obj) (es : Array DictEntry) (ep : Nat), v = .ref a ∧ H a = some (OddO a o) ∧ o.ExactDict ∧ o.data = .dict es ep ∧ es.size ≤ sizeLine ∧ (a == sysModules) = false ∧ Paired EntV kvs es.toList
def wIsiOd : EV → (EV → Prop) → Prop
  | .od _, P => P (.py (.bool true))
  | _, _ => False
def wTruOd : EV → (Bool → Prop) → Prop
  | .od ds, P => ds ≠ [] ∧ P true
  | _, _ => False
end
end Dw

/-! Data ways: the items of a dict with one key that is no text. -/
namespace Dw
open PySem PySem.Spec PySem.W PySem.Calls PyProof.Rows L2 Dr Rp Od
open He (ga)
variable [Dw.LamReg]
def Itx (a : Addr) (o : Obj) (kvs : List (V × V)) : It :=
  ⟨fun i H => H a = some (OddO a o) ∧ i < kvs.length, fun i H x H' => ∃ T kv, kvs[i]? = some kv ∧ x = .ref T ∧ H T = none ∧ H' = upd H T (.tup [kv.1, kv.2]), fun i H => H a = some (OddO a o) ∧ kvs.length ≤ i⟩
section
variable {X : Cx} {m : Mode}
def iOdd (td : TE) : TI := fun σ H R => td σ H fun x H1 => ∃ (a : Addr) (o : Obj) (es : Array DictEntry) (ep : Nat) (kvs : List (V × V)), x = .ref a ∧ H1 a = some (OddO a o) ∧ o.ExactDict ∧ o.data = .dict es ep ∧ (a == sysModules) = false ∧ Paired EntV kvs es.toList ∧ R (Itx a o kvs) H1
def wOdI (f : WF) : WA := fun ρ P => f ρ fun e => match e with
  | .od ds => P (pairsD ds)
  | _ => False
end
end Dw

/-! Data ways: a name's own list takes in objects and dicts with one key that is no text; its length, an item of it. -/
namespace Dw
open PySem PySem.Spec PySem.W PySem.Calls PyProof.Rows L2 Dr Rp
open He (ga)
variable [Dw.LamReg]
def evPV : EV → Option PV
  | .py d => some (.d d)
  | .ob C fs => some (.o C fs)
  | .ot xs => some (.t xs)
  | .od ds => some (.x ds)
  | .nd kvs => some (.n kvs)
  | _ => none
/-- the list at a name: of data, or of what may be objects -/
def lstPV : EV → Option (List PV)
  | .own (.list ds) => some (ds.map .d)
  | .owl xs => some xs
  | _ => none
def wAppX (i : Nat) (f : WF) : WS := fun ρ k => ∃ u xs, ρ[i]? = some u ∧ lstPV u = some xs ∧ f ρ fun e => ∃ x, evPV e = some x ∧ xs.length < sizeLine ∧ k.nx (ρ.set i (.owl (xs ++ [x])))
section
variable {X : Cx} {mr : Mode} {W : WX} {m : Mode}
def wLenL : EV → (EV → Prop) → Prop
  | .ol xs, P => P (.py (.int (xs.length : Nat)))
  | _, _ => False
def wIxO : EV → EV → (EV → Prop) → Prop
  | .ol xs, .py (.int i), P => ∃ d, atI xs i = some d ∧ P d.ev
  | _, _, _ => False
def wDictAO : List EV → (EV → Prop) → Prop := fun es P => wDictA es P ∨ wDictO es P
def brDictAO (hcalm : X.calm = true) (hu : X.A.units + 64 < cLine) (hm : m ≠ .fresh) : BR X m (.type "dict") wDictAO where
  r := fun xs H Q => (brDictA (m := m) hcalm).r xs H Q ∨ (brDictO hcalm hu hm).r xs H Q
  c := cr_or (brDictA (m := m) hcalm).c (brDictO hcalm hu hm).c
  s := fun L p H0 H vs es P Q o ra hg k => hg.elim (fun h => .inl ((brDictA hcalm).s L p H0 H vs es P Q o ra h k)) fun h => .inr ((brDictO hcalm hu hm).s L p H0 H vs es P Q o ra h k)
end
end Dw

/-! Data ways: [e for x in xs if t], the items dicts with tuple keys or objects; enumerate of such a list. -/
namespace Dw
open PySem PySem.Spec PySem.W PySem.Calls PyProof.Rows L2 Dr Rp
open He (ga)
variable [Dw.LamReg]
def wLcOGo (g : WGt) (t : WT) (f : WF) (ρ : EnvD) : List EV → List PV → (List PV → Prop) → Prop
  | [], acc, P => P acc
  | x :: r, acc, P => g x ρ fun ρ' => t ρ' fun b => if b = true then f ρ' fun e => ∃ y, evPV e = some y ∧ acc.length < sizeLine ∧ wLcOGo g t f ρ r (acc ++ [y]) P
    else wLcOGo g t f ρ r acc P
def wLcO (fi : WA) (g : WGt) (t : WT) (f : WF) (vs : List Nat) : WF := fun ρ P => noOwn ρ vs ∧ fi ρ fun xs => wLcOGo g t f (wipeE ρ vs) xs [] fun ds => P (.ol ds)
section
variable {X : Cx} {m : Mode}
/-! ### enumerate -/
def enumO : Nat → List PV → List EV
  | _, [] => []
  | n, a :: r => .pw [.d (.int (n : Nat)), a] :: enumO (n + 1) r
def wEnumO (fa : WF) : WA := fun ρ P => fa ρ fun x => match x with
  | .ol xs => P (enumO 0 xs)
  | _ => False
/-- what enumerate hands out, taken apart -/
def gTW (gs : List WGt) : WGt := fun e ρ P => match e with
  | .pw xs => xs.length = gs.length ∧ gTs gs (xs.map PV.ev) ρ P
  | _ => False
end
end Dw
namespace Dw
open PySem PySem.Spec PySem.W PySem.Calls PyProof.Rows L2 Dr Rp
variable [Dw.LamReg]
section
variable {X : Cx} {mr : Mode} {W : WX}
end
theorem u9_of {n : Nat} (h : n + 64 < cLine) : n + 9 < cLine := by omega
theorem u0_of {n : Nat} (h : n + 64 < cLine) : n < cLine := by omega
end Dw
namespace Dw
open PySem PySem.Spec PySem.W PySem.Calls PyProof.Rows L2 Dr Rp
variable [Dw.LamReg]
section
variable {X : Cx}
def rNotInT (K : PySem.W.Frag) : R2 := fun x y H Q => ∃ d ds, Dp K H x d ∧ Dp K H y (.tuple ds) ∧ SeqAt.shaped d = true ∧ SeqAt.shaped (.tuple ds) = true ∧ Q (.bl (!(ds.any fun z => PyData.eqv z d))) H
def wNinT : EV → EV → (EV → Prop) → Prop
  | .py d, .py (.tuple ds), P => (eqOk d = true ∧ eqOk (.tuple ds) = true) ∧ P (.py (.bool (!(ds.any fun z => PyData.eqv z d))))
  | _, _, _ => False
end
end Dw

/-! Data ways: a, b = e1, e2 of locals, the first a new list or dict that its name alone holds. -/
namespace Dw
open PySem PySem.Spec PySem.W PySem.Calls PyProof.Rows L2 Dr Rp
variable [Dw.LamReg]
def wParM (i j : Nat) (fa fb : WF) : WS := fun ρ k => (i < ρ.length ∧ j < ρ.length) ∧ fa ρ fun a => fb ρ fun b => match a with
  | .py da => k.nx ((ρ.set i (.own da)).set j b)
  | _ => False
end Dw

/-! Rows grouped by some of their places: as data. -/
namespace Dw
open PySem PySem.Spec PySem.W PySem.Calls PyProof.Rows L2 Dr Rp
variable [Dw.LamReg]
def tupI (r : List Int) : PyData := .tuple (r.map .int)
def natL (ps : List Nat) : PyData := .list (ps.map fun i => .int (i : Nat))
def keyI (r : List Int) : NestedKey := .tup (r.map .num)
def pickI (r : List Int) (ps : List Nat) : List Int := ps.map fun i => r.getD i 0
theorem datas_num : ∀ r : List Int, NestedKey.datas (r.map .num) = r.map PyData.int
  | [] => rfl
  | x :: r => by
    show NestedKey.data (.num x) :: NestedKey.datas (r.map .num) = _
    rw [datas_num r]
    rfl
theorem keyI_data (r : List Int) : (keyI r).data = tupI r := by
  show PyData.tuple (NestedKey.datas (r.map .num)) = _
  rw [datas_num]
  rfl
theorem depth_num : ∀ r : List Int, NestedKey.depthAll (r.map .num) = 0
  | [] => rfl
  | x :: r => by
    show max (NestedKey.depth (.num x)) (NestedKey.depthAll (r.map .num)) = 0
    rw [depth_num r]
    rfl
theorem keyI_depth (r : List Int) : (keyI r).depth ≤ 8 := by
  show NestedKey.depthAll (r.map .num) + 1 ≤ 8
  rw [depth_num]
  decide
theorem keyN_I (r : List Int) : KeyN (tupI r) (keyI r) := ⟨⟨_, rfl⟩, (keyI_data r).symm, keyI_depth r⟩
theorem keyI_inj {r s : List Int} (h : keyI r = keyI s) : r = s := by
  have h := NestedKey.tup.inj h
  have q := congrArg (List.map fun k => match k with | .num i => i | _ => (0 : Int)) h
  rw [List.map_map, List.map_map] at q
  have e : ∀ l : List Int, List.map ((fun k : NestedKey => match k with | .num i => i | _ => (0 : Int)) ∘ NestedKey.num) l = l := fun l => List.map_id'' (fun _ => rfl) l
  rw [e, e] at q
  exact q
/-- groups: keys with the lists of what is theirs -/
abbrev Grp := List (List Int × List (List Int))
def addG (g : Grp) (k : List Int) (d : List Int) : Grp := if g.any (fun x => decide (x.1 = k)) = true then g.map (fun x => if x.1 = k then (x.1, x.2 ++ [d]) else x) else g ++ [(k, [d])]
def groupedI (rows : List (List Int)) (ps os : List Nat) : Grp := rows.foldl (fun g r => addG g (pickI r ps) (pickI r os)) []
def grpD (g : Grp) : List (NestedKey × PyData) := g.map fun x => (keyI x.1, .list (x.2.map tupI))
def dGrouped : WD := fun es P => ∃ (rows : List (List Int)) (ps os : List Nat), es = [.py (.tuple (rows.map tupI)), .py (natL ps), .py (natL os)] ∧ (∀ r ∈ rows, ∀ i ∈ ps ++ os, i < r.length) ∧ rows.length ≤ 1000 ∧ (ps.length ≤ 1000 ∧ os.length ≤ 1000) ∧ P (.nd (grpD (groupedI rows ps os)))
end Dw

/-! A table of 2 ^ k places: from any place the steps i, 5 i + 1 come to every one, for every k. -/
namespace Tab
/-- the steps without a bound -/
def far (i : Nat) : Nat → Nat
  | 0 => i
  | n + 1 => 5 * far i n + 1
def gone : Nat → Nat
  | 0 => 0
  | n + 1 => 5 * gone n + 1
theorem far_eq (i : Nat) : ∀ n, far i n = (4 * gone n + 1) * i + gone n
  | 0 => by simp [far, gone]
  | n + 1 => by
    show 5 * far i n + 1 = (4 * (5 * gone n + 1) + 1) * i + (5 * gone n + 1)
    rw [far_eq i n]
    grind
theorem far_add (i a : Nat) : ∀ b, far i (a + b) = far (far i a) b
  | 0 => rfl
  | b + 1 => by
    show 5 * far i (a + b) + 1 = 5 * far (far i a) b + 1
    rw [far_add i a b]
theorem gone_two (n : Nat) : gone (n + n) = 2 * gone n * (2 * gone n + 1) := by
  have h1 := far_add 0 n n
  rw [far_eq 0 (n + n), far_eq (far 0 n) n, far_eq 0 n] at h1
  grind
theorem gone_pow : ∀ k : Nat, ∃ q, gone (2 ^ k) = 2 ^ k * (2 * q + 1)
  | 0 => ⟨0, rfl⟩
  | k + 1 => by
    obtain ⟨q, e⟩ := gone_pow k
    have z : 2 ^ (k + 1) = 2 ^ k + 2 ^ k := by rw [Nat.pow_succ]; omega
    rw [z, gone_two, e]
    refine ⟨q + (2 * q + 1) * (2 ^ k * (2 * q + 1)), ?_⟩
    grind
theorem far_pow (k X : Nat) : ∃ r, far X (2 ^ k) = X + 2 ^ k * (2 * r + 1) := by
  obtain ⟨q, e⟩ := gone_pow k
  rw [far_eq, e]
  refine ⟨q + 2 * X * (2 * q + 1), ?_⟩
  grind
theorem half {M X j : Nat} (hM : 0 < M) (h : X % M = j % M) (n : X % (M + M) ≠ j % (M + M)) : (X + M) % (M + M) = j % (M + M) := by
  have h1 := Nat.mod_lt X (show 0 < M + M by omega)
  have h2 := Nat.mod_lt j (show 0 < M + M by omega)
  have a1 : X % (M + M) % M = X % M := Nat.mod_mod_of_dvd _ ⟨2, by omega⟩
  have a2 : j % (M + M) % M = j % M := Nat.mod_mod_of_dvd _ ⟨2, by omega⟩
  rw [Nat.add_mod, Nat.mod_eq_of_lt (show M < M + M by omega)]
  generalize X % (M + M) = x at *
  generalize j % (M + M) = y at *
  have e : x % M = y % M := by rw [a1, a2, h]
  have low : ∀ z, z < M + M → z % M = if z < M then z else z - M := fun z hz => by
    split
    · exact Nat.mod_eq_of_lt ‹_›
    · rw [Nat.mod_eq_sub_mod (by omega)]
      exact Nat.mod_eq_of_lt (by omega)
  rw [low x h1, low y h2] at e
  by_cases c : x < M
  · rw [if_pos c] at e
    split at e
    · omega
    · rw [Nat.mod_eq_of_lt (by omega)]
      omega
  · rw [if_neg c] at e
    split at e
    · rw [Nat.mod_eq_sub_mod (by omega), Nat.mod_eq_of_lt (by omega)]
      omega
    · omega
/-- every place is come to, within as many steps as there are places -/
theorem cover : ∀ (k i j : Nat), ∃ n, n < 2 ^ k ∧ far i n % 2 ^ k = j % 2 ^ k
  | 0, i, j => ⟨0, by decide, by rw [Nat.pow_zero, Nat.mod_one, Nat.mod_one]⟩
  | k + 1, i, j => by
    obtain ⟨n, hn, e⟩ := cover k i j
    have z : 2 ^ (k + 1) = 2 ^ k + 2 ^ k := by rw [Nat.pow_succ]; omega
    have p : 0 < 2 ^ k := Nat.pow_pos (by decide)
    rw [z]
    by_cases c : far i n % (2 ^ k + 2 ^ k) = j % (2 ^ k + 2 ^ k)
    · exact ⟨n, by omega, c⟩
    · obtain ⟨r, er⟩ := far_pow k (far i n)
      refine ⟨n + 2 ^ k, by omega, ?_⟩
      rw [far_add, er, show far i n + 2 ^ k * (2 * r + 1) = (far i n + 2 ^ k) + (2 ^ k + 2 ^ k) * r by grind, Nat.add_mul_mod_self_left]
      exact half p e c
open PySem
theorem lcg_far (m i : Nat) (hi : i ≤ m) : ∀ n, L2.lcgI m i n = far i n % (m + 1)
  | 0 => (Nat.mod_eq_of_lt (Nat.lt_succ_of_le hi)).symm
  | n + 1 => by
    show (L2.lcgI m i n * 5 + 1) % (m + 1) = (5 * far i n + 1) % (m + 1)
    rw [lcg_far m i hi n, Nat.mul_comm, Nat.add_mod, Nat.mul_mod, Nat.mod_mod, ← Nat.mul_mod, ← Nat.add_mod]
/-- the search comes to every place of a table of 2 ^ k places, within its bound -/
theorem meets {m k : Nat} (hm : m + 1 = 2 ^ k) (h : Int) {j : Nat} (hj : j ≤ m) : ∃ n, n < 10 * SetTable.turns m ∧ (L2.nth m (L2.runAt m (SetTable.bits h % (m + 1)) (SetTable.bits h)) n).j = j := by
  obtain ⟨a, ha, ea⟩ := cover k (L2.runI m (SetTable.bits h) 12) j
  obtain ⟨n, hn, en⟩ := L2.run_nth m (SetTable.bits h) (12 + a)
  refine ⟨n, by unfold SetTable.turns; omega, ?_⟩
  rw [en]
  show L2.runI m (SetTable.bits h) (12 + a) = j
  rw [L2.runI_tail (L2.bits_lt h), lcg_far _ _ (L2.runI_le m _ 12), hm, ea, Nat.mod_eq_of_lt (by omega)]
end Tab

/-! A set's table of 2 ^ k places, for every k: its places, and one more hash put in. -/
namespace Tab
open PySem PySem.Spec PyProof.Rows L2
/-- the hashes that a table holds, in the order of their places, each found on its own way -/
structure Tb (t : SetTable) (hs : List Int) : Prop where
  asc : Ris t.place.toList
  clean : t.dummies = #[]
  many : t.place.size = hs.length
  pow : ∃ k, t.mask + 1 = 2 ^ k
  low : ∀ x ∈ t.place.toList, x ≤ t.mask
  road : ∀ (i : Nat) (h : Int) (j : Nat), hs[i]? = some h → t.place.toList[i]? = some j → ∃ n, way t.mask h n = j ∧ ∀ n', n' < n → way t.mask h n' ∈ t.place.toList
section
variable {t : SetTable} {hs : List Int}
theorem Tb.len (T : Tb t hs) : t.place.toList.length = hs.length := by rw [Array.length_toList, T.many]
/-- where room is left, the way of any hash comes to an empty place, the first one after full ones -/
theorem Tb.open_ (T : Tb t hs) (room : hs.length ≤ t.mask) (h : Int) : ∃ n, n < 10 * SetTable.turns t.mask ∧ way t.mask h n ∉ t.place.toList ∧ ∀ n', n' < n → way t.mask h n' ∈ t.place.toList := by
  obtain ⟨j, hj, out⟩ := st_missing t.place.toList (t.mask + 1) (by rw [T.len]; omega)
  obtain ⟨k, hk⟩ := T.pow
  obtain ⟨a, ha, ea⟩ := meets hk h (j := j) (by omega)
  obtain ⟨n, h1, h2, h3⟩ := st_least (p := fun n => way t.mask h n ∉ t.place.toList) a (by
    show way t.mask h a ∉ _
    rw [show way t.mask h a = j from ea]
    exact out)
  exact ⟨n, by omega, h2, fun n' l => Classical.byContradiction (h3 n' l)⟩
/-- a hash that is there lies ahead of the first empty place -/
theorem Tb.ahead (T : Tb t hs) {h : Int} {n i j : Nat} (he : way t.mask h n ∉ t.place.toList) (hi : hs[i]? = some h) (hj : t.place.toList[i]? = some j) : ∃ a, a < n ∧ way t.mask h a = j := by
  obtain ⟨a, e, full⟩ := T.road i h j hi hj
  have hm := List.mem_of_getElem? hj
  refine ⟨a, Nat.lt_of_not_le fun c => ?_, e⟩
  rcases Nat.lt_or_eq_of_le c with c | c
  · exact he (full n c)
  · exact he (by rw [c, e]; exact hm)
theorem way_in {m : Nat} {h : Int} {n : Nat} : way m h n ≤ m := by
  have l : SetTable.bits h % (m + 1) ≤ m := Nat.lt_succ_iff.mp (Nat.mod_lt _ (by omega))
  have e := runEnd_bd l
  have z : (way m h n) + (nth m (runAt m (SetTable.bits h % (m + 1)) (SetTable.bits h)) n).more ≤ m := nth_in n (runAt m (SetTable.bits h % (m + 1)) (SetTable.bits h)) (by
    unfold runAt
    dsimp only
    omega)
  omega
/-- a hash put in at its first empty place -/
theorem Tb.more (T : Tb t hs) {h : Int} {n j p : Nat} (ej : way t.mask h n = j) (ep : SetTable.below t.place j = p) (he : j ∉ t.place.toList) (full : ∀ n', n' < n → way t.mask h n' ∈ t.place.toList) :
    p ≤ hs.length ∧ Tb (t.put j).1 (hs.take p ++ h :: hs.drop p) ∧ (t.put j).1.fill = hs.length + 1 := by
  have c1 : p ≤ t.place.size := ep ▸ (below_cut T.asc j).1
  have pl : p ≤ t.place.toList.length := by rw [Array.length_toList]; exact c1
  have ph : p ≤ hs.length := T.many ▸ c1
  have pp : (t.put j).1.place.toList = t.place.toList.take p ++ j :: t.place.toList.drop p := ep ▸ put_place t j
  have nw : t.place[SetTable.below t.place j]? ≠ some j := fun e => he (by
    rw [← Array.getElem?_toList] at e
    exact List.mem_of_getElem? e)
  have sz : (t.put j).1.place.size = hs.length + 1 := by
    rw [← Array.length_toList, pp, len_ins _ pl, T.len]
  have stay : ∀ x ∈ t.place.toList, x ∈ (t.put j).1.place.toList := fun x hx => by
    rw [pp, mem_ins]
    exact .inr hx
  have mk : (t.put j).1.mask = t.mask := rfl
  refine ⟨ph, ⟨ris_insert T.asc nw, put_dm T.clean j, by rw [sz, len_ins _ ph], T.pow, fun x hx => ?_, fun i h' j' e1 e2 => ?_⟩, ?_⟩
  · rw [pp, mem_ins] at hx
    rcases hx with rfl | hx
    · rw [mk, ← ej]
      exact way_in
    · exact T.low x hx
  · rw [tins_get hs ph] at e1
    rw [pp, tins_get _ pl] at e2
    rw [mk]
    have old : ∀ i, hs[i]? = some h' → t.place.toList[i]? = some j' → ∃ n, way t.mask h' n = j' ∧ ∀ n', n' < n → way t.mask h' n' ∈ (t.put j).1.place.toList := fun i a b => by
      obtain ⟨n, e, f⟩ := T.road i h' j' a b
      exact ⟨n, e, fun n' l => stay _ (f n' l)⟩
    by_cases c : i < p
    · rw [if_pos c] at e1 e2
      exact old i e1 e2
    · rw [if_neg c] at e1 e2
      by_cases d : i = p
      · rw [if_pos d] at e1 e2
        cases e1
        cases e2
        exact ⟨n, ej, fun n' l => stay _ (full n' l)⟩
      · rw [if_neg d] at e1 e2
        exact old _ e1 e2
  · unfold SetTable.fill
    rw [sz, put_dm T.clean j] <;> rfl
end
end Tab

/-! A set's table of 2 ^ k places laid anew, for every k. -/
namespace Tab
open PySem PySem.Spec PyProof.Rows L2
theorem runs {m k : Nat} (hm : m + 1 = 2 ^ k) (h : Int) {j : Nat} (hj : j ≤ m) : ∃ n, n ≤ m + 12 ∧ runI m (SetTable.bits h) n = j := by
  obtain ⟨a, ha, ea⟩ := cover k (runI m (SetTable.bits h) 12) j
  exact ⟨12 + a, by omega, by rw [runI_tail (bits_lt h), lcg_far _ _ (runI_le m _ 12), hm, ea, Nat.mod_eq_of_lt (by omega)]⟩
/-- the empty place that a hash is given -/
theorem seat {m k : Nat} (hm : m + 1 = 2 ^ k) (w : Array (Option Nat)) (h : Int) (ex : ∃ j, j ≤ m ∧ oAt w j = none) :
    ∃ n, SetTable.layClean.free m w (SetTable.turns m) (SetTable.bits h % (m + 1)) (SetTable.bits h) = some (way m h n) ∧ oAt w (way m h n) = none ∧ ∀ n', n' < n → oAt w (way m h n') ≠ none := by
  obtain ⟨j, hj, hf⟩ := ex
  obtain ⟨r, hr, er⟩ := runs hm h hj
  have hit : way m h (off m (SetTable.bits h % (m + 1)) (SetTable.bits h) r) = j := by
    unfold way
    rw [nth_off, itL_run]
    exact er
  obtain ⟨n, n1, n2, n3⟩ := st_least (p := fun n => oAt w (way m h n) = none) _ (show oAt w (way m h _) = none by rw [hit]; exact hf)
  exact ⟨n, free_spec m w _ r _ _ n (by unfold SetTable.turns; omega) n1 (fun a ha => Bool.eq_false_iff.mpr fun z => n3 a ha (Option.isNone_iff_eq_none.mp z)) (Option.isNone_iff_eq_none.mpr n2), n2, n3⟩
theorem sit {m k : Nat} (hm : m + 1 = 2 ^ k) {done : List Int} {w : Array (Option Nat)} (W : Own m done w) (room : done.length ≤ m) (h : Int) :
    ∃ j, SetTable.layClean.free m w (SetTable.turns m) (SetTable.bits h % (m + 1)) (SetTable.bits h) = some j ∧ Own m (done ++ [h]) (w.setIfInBounds j (some done.length)) := by
  obtain ⟨ps, l, mem⟩ := W.ps
  obtain ⟨e, he, ne⟩ := st_missing ps (m + 1) (by omega)
  obtain ⟨n, a1, a2, a3⟩ := seat hm w h ⟨e, by omega, Classical.byContradiction fun c => ne (mem e (by omega) c)⟩
  have jm : way m h n ≤ m := way_in
  obtain ⟨j, ej⟩ : ∃ j, way m h n = j := ⟨_, rfl⟩
  rw [ej] at a1 a2 jm
  have here : oAt (w.setIfInBounds j (some done.length)) j = some done.length := oAt_set_self _ (by rw [W.sz]; omega)
  have there : ∀ i, i ≠ j → oAt (w.setIfInBounds j (some done.length)) i = oAt w i := fun i c => oAt_set_ne _ c
  have keep : ∀ i, oAt w i ≠ none → oAt (w.setIfInBounds j (some done.length)) i ≠ none := fun i q => by
    by_cases c : i = j
    · rw [c, here]
      simp
    · rw [there i c]
      exact q
  refine ⟨j, a1, by rw [Array.size_setIfInBounds, W.sz], fun i q hi e => ?_, fun q hq => ?_, j :: ps, by simp [l], fun i hi e => ?_⟩
  · by_cases c : i = j
    · rw [c, here] at e
      cases e
      exact ⟨h, n, by simp, by rw [c, ej], fun a ha => keep _ (a3 a ha)⟩
    · rw [there i c] at e
      obtain ⟨h', n', b1, b2, b3⟩ := W.at_ i q hi e
      exact ⟨h', n', by rw [List.getElem?_append_left (List.getElem?_eq_some_iff.mp b1).1, b1], b2, fun a ha => keep _ (b3 a ha)⟩
  · rcases Nat.lt_or_ge q done.length with c | c
    · obtain ⟨i, hi, e⟩ := W.all q c
      refine ⟨i, hi, ?_⟩
      rw [there i (fun z => by rw [z, a2] at e; cases e), e]
    · rw [List.length_append, List.length_singleton] at hq
      exact ⟨j, jm, by rw [here, show done.length = q by omega]⟩
  · by_cases c : i = j
    · rw [c]
      simp
    · rw [there i c] at e
      exact List.mem_cons_of_mem _ (mem i hi e)
theorem lay {m k : Nat} (hm : m + 1 = 2 ^ k) (rest : List Int) : ∀ (done : List Int) (w : Array (Option Nat)), Own m done w → done.length + rest.length ≤ m →
    ∃ w', rest.foldl (stepF m) (some (w, done.length)) = some (w', done.length + rest.length) ∧ Own m (done ++ rest) w' := by
  induction rest with
  | nil => exact fun done w W _ => ⟨w, rfl, by rw [List.append_nil]; exact W⟩
  | cons h rest ih =>
    intro done w W hl
    rw [List.length_cons] at hl
    obtain ⟨j, e, W1⟩ := sit hm W (by omega) h
    obtain ⟨w', f, W2⟩ := ih (done ++ [h]) _ W1 (by rw [List.length_append, List.length_singleton]; omega)
    rw [List.length_append, List.length_singleton] at f
    rw [List.append_assoc] at W2
    refine ⟨w', ?_, W2⟩
    rw [List.foldl_cons, stepF_some e, f, List.length_cons, show done.length + 1 + rest.length = done.length + (rest.length + 1) by omega]
theorem layAll {m k : Nat} (hm : m + 1 = 2 ^ k) {hs : Array Int} (hn : hs.size ≤ m) : ∃ w, SetTable.layClean m hs = some w ∧ Own m hs.toList w := by
  obtain ⟨w, f, W⟩ := lay hm hs.toList [] _ (Own.init m) (by show 0 + hs.toList.length ≤ m; rw [Array.length_toList]; omega)
  refine ⟨w, ?_, W⟩
  have f : List.foldl (stepF m) (some (Array.replicate (m + 1) none, 0)) hs.toList = some (w, 0 + hs.toList.length) := f
  rw [layClean_eq, f] <;> rfl
/-- all hashes laid anew in a table of 2 ^ k places that has room -/
theorem anew (t : SetTable) {hs : Array Int} {wanted M k : Nat} (hw : SetTable.sizeAbove wanted - 1 = M) (hM : M + 1 = 2 ^ k) (hn : hs.size ≤ M) :
    ∃ t' order, t.relaid hs wanted = some (t', order) ∧ order.toList.Perm (List.range hs.size) ∧ Tb t' (order.toList.map fun i => hs.getD i 0) ∧ t'.mask = M ∧ t'.led = t.led ∧ t'.plain = t.plain := by
  obtain ⟨w, e, W⟩ := layAll hM hn
  obtain ⟨z1, z2⟩ := ris_live (fun j => w.getD j none) (List.range (M + 1)) List.pairwise_lt_range
  have z1 : Ris ((liveOf M w).map (·.1)) := z1
  have z2 : ∀ x ∈ (liveOf M w).map (·.1), x ∈ List.range (M + 1) := z2
  have one : ((liveOf M w).map (·.1)).Nodup := z1.imp fun h => Nat.ne_of_lt h
  have back : ∀ {q}, q < hs.size → q ∈ (liveOf M w).map (·.2) := fun {q} hq => by
    obtain ⟨j, b1, b2⟩ := W.all q (by rw [Array.length_toList]; exact hq)
    exact List.mem_map.mpr ⟨(j, q), (mem_live W.sz).2 ⟨b1, b2⟩, rfl⟩
  have cnt : (liveOf M w).length = hs.size := by
    obtain ⟨ps, p1, p2⟩ := W.ps
    have a := nat_nodup_len _ ps one fun x hx => by
      obtain ⟨⟨y, q⟩, hq, rfl⟩ := List.mem_map.mp hx
      obtain ⟨b1, b2⟩ := (mem_live W.sz).1 hq
      exact p2 y b1 (by rw [b2]; simp)
    have b := nat_nodup_len (List.range hs.size) _ List.nodup_range fun q hq => back (List.mem_range.mp hq)
    have p1 : ps.length = hs.size := p1.trans Array.length_toList
    rw [List.length_map, p1] at a
    rw [List.length_map, List.length_range] at b
    exact Nat.le_antisymm a b
  refine ⟨tabOf t M w, ((liveOf M w).map (·.2)).toArray, by rw [relaid_eq, hw, e] <;> rfl, perm_range _ _ (by rw [List.length_map, cnt]) fun q hq => back hq, ⟨z1, rfl, ?_, ⟨k, hM⟩, fun x hx => Nat.lt_succ_iff.mp (List.mem_range.mp (z2 x hx)), fun i h j h1 h2 => ?_⟩, rfl, rfl, rfl⟩
  · show ((liveOf M w).map (·.1)).toArray.size = _
    rw [List.size_toArray, List.length_map, List.length_map, List.length_map]
  · have h1 : (((liveOf M w).map (·.2)).map fun i => hs.getD i 0)[i]? = some h := h1
    have h2 : ((liveOf M w).map (·.1))[i]? = some j := h2
    rw [List.map_map, List.getElem?_map] at h1
    rw [List.getElem?_map] at h2
    obtain ⟨⟨y, q⟩, at1, rfl⟩ := Option.map_eq_some_iff.mp h2
    rw [at1] at h1
    have h1 : hs.getD q 0 = h := Option.some.inj h1
    obtain ⟨b1, b2⟩ := (mem_live W.sz).1 (List.mem_of_getElem? at1)
    obtain ⟨h0, n, a1, a2, a3⟩ := W.at_ y q b1 b2
    rw [Array.getElem?_toList] at a1
    have eh : h0 = h := by
      rw [← h1, Array.getD_eq_getD_getElem?, a1] <;> rfl
    subst eh
    refine ⟨n, a2, fun n' l => ?_⟩
    obtain ⟨q', eq'⟩ := Option.ne_none_iff_exists'.mp (a3 n' l)
    exact List.mem_map.mpr ⟨(way M h0 n', q'), (mem_live W.sz).2 ⟨way_in, eq'⟩, rfl⟩
end Tab

/-! How often a set's search comes to one place: once a run at the most. -/
namespace Tab
open PySem PySem.Spec PyProof.Rows L2
/-- how many runs are begun behind the first one when q steps are gone -/
def ri (m : Nat) (p : SetTable.Probe) : Nat → Nat
  | 0 => 0
  | q + 1 => ri m p q + if (nth m p q).more > 0 then 0 else 1
theorem ri_up (m : Nat) (p : SetTable.Probe) (a : Nat) : ∀ d, ri m p a ≤ ri m p (a + d)
  | 0 => Nat.le_refl _
  | d + 1 => Nat.le_trans (ri_up m p a d) (Nat.le_add_right _ _)
theorem ri_mono {m : Nat} {p : SetTable.Probe} {a b : Nat} (h : a ≤ b) : ri m p a ≤ ri m p b := by
  have z := ri_up m p a (b - a)
  rwa [Nat.add_sub_cancel' h] at z
/-- within one run the places go up -/
theorem ri_same (m : Nat) (p : SetTable.Probe) (a : Nat) : ∀ d, ri m p (a + d) = ri m p a → (nth m p (a + d)).j = (nth m p a).j + d
  | 0, _ => rfl
  | d + 1, h => by
    have h0 : ri m p (a + d) + (if (nth m p (a + d)).more > 0 then 0 else 1) = ri m p a := h
    have up := ri_up m p a d
    split at h0
    · rename_i hm
      have e := ri_same m p a d (by omega)
      rw [← Nat.add_assoc, nth_succ]
      unfold adv
      rw [if_pos hm]
      show (nth m p (a + d)).j + 1 = _
      rw [e]
      omega
    · omega
theorem ri_place {m : Nat} {p : SetTable.Probe} {a b : Nat} (h : a < b) (e : (nth m p b).j = (nth m p a).j) : ri m p a < ri m p b := by
  rcases Nat.lt_or_eq_of_le (ri_mono (m := m) (p := p) (Nat.le_of_lt h)) with c | c
  · exact c
  · have z := ri_same m p a (b - a) (by rw [Nat.add_sub_cancel' (Nat.le_of_lt h)]; exact c.symm)
    rw [Nat.add_sub_cancel' (Nat.le_of_lt h), e] at z
    omega
theorem ri_in {m N r i b : Nat} {p : SetTable.Probe} (hN : nth m p N = runAt m i b) (hr : ri m p N = r) : ∀ k, k ≤ SetTable.runEnd m i - i → ri m p (N + k) = r
  | 0, _ => hr
  | k + 1, hk => by
    have e : nth m p (N + k) = _ := (nth_add m N p k).trans ((congrArg (nth m · k) hN).trans (nth_run m i b k (by omega)))
    show ri m p (N + k) + (if (nth m p (N + k)).more > 0 then 0 else 1) = r
    rw [ri_in hN hr k (by omega), e]
    exact congrArg (r + ·) (if_pos (by show SetTable.runEnd m i - i - k > 0; omega))
/-- the r-th run begins -/
theorem ri_run (m b : Nat) : ∀ r, ∃ N, ri m (runAt m (b % (m + 1)) b) N = r ∧ nth m (runAt m (b % (m + 1)) b) N = runAt m (runI m b r) (b / 32 ^ r)
  | 0 => ⟨0, rfl, by rw [Nat.pow_zero, Nat.div_one] <;> rfl⟩
  | r + 1 => by
    obtain ⟨N, h1, h2⟩ := ri_run m b r
    have k := ri_in h2 h1 _ (Nat.le_refl _)
    have e := (nth_add m N (runAt m (b % (m + 1)) b) (SetTable.runEnd m (runI m b r) - runI m b r)).trans ((congrArg (nth m · _) h2).trans (nth_run m (runI m b r) (b / 32 ^ r) _ (Nat.le_refl _)))
    refine ⟨N + (SetTable.runEnd m (runI m b r) - runI m b r + 1), ?_, ?_⟩
    · show ri m _ (N + (SetTable.runEnd m (runI m b r) - runI m b r)) + (if (nth m (runAt m (b % (m + 1)) b) (N + (SetTable.runEnd m (runI m b r) - runI m b r))).more > 0 then 0 else 1) = r + 1
      rw [k, e]
      exact congrArg (r + ·) (if_neg (by show ¬ (SetTable.runEnd m (runI m b r) - runI m b r - (SetTable.runEnd m (runI m b r) - runI m b r) > 0); omega))
    · rw [nth_add, h2, nth_leap]
      show runAt m ((runI m b r * 5 + 1 + b / 32 ^ r / 32) % (m + 1)) (b / 32 ^ r / 32) = _
      rw [pow_div] <;> rfl
/-- the runs up to the first empty place -/
theorem Tb.few {t : SetTable} {hs : List Int} (T : Tb t hs) (room : hs.length ≤ t.mask) (h : Int) {n : Nat} (full : ∀ n', n' < n → way t.mask h n' ∈ t.place.toList) : ri t.mask (runAt t.mask (SetTable.bits h % (t.mask + 1)) (SetTable.bits h)) n ≤ t.mask + 12 := by
  obtain ⟨j, hj, out⟩ := st_missing t.place.toList (t.mask + 1) (by rw [T.len]; omega)
  obtain ⟨k, hk⟩ := T.pow
  obtain ⟨r, hr, er⟩ := runs hk h (j := j) (by omega)
  obtain ⟨N, e1, e2⟩ := ri_run t.mask (SetTable.bits h) r
  have le : n ≤ N := Nat.le_of_not_lt fun c => out (by
    have z := full N c
    rw [show way t.mask h N = j from (congrArg SetTable.Probe.j e2).trans er] at z
    exact z)
  exact Nat.le_trans (ri_mono le) (by rw [e1]; exact hr)
end Tab

/-! A set of tuples of whole numbers, up to 10,000: looked through by its table. -/
namespace Tab
open PySem PySem.Spec PyProof.Rows L2
/-- the c-th step of a hash's way -/
def stn (t : SetTable) (h : Int) (c : Nat) : SetTable.Probe := nth t.mask (runAt t.mask (SetTable.bits h % (t.mask + 1)) (SetTable.bits h)) c
theorem stn_add (t : SetTable) (h : Int) (c q : Nat) : nth t.mask (stn t h c) q = stn t h (c + q) := (nth_add t.mask c _ q).symm
theorem nth_dummy {m : Nat} : ∀ (c : Nat) (p : SetTable.Probe), p.dummy = none → (nth m p c).dummy = none
  | 0, _, h => h
  | c + 1, p, h => nth_dummy c (adv m p) (by unfold adv; split <;> exact h)
structure Bag (P : Program) (w : World) (hp : Heap) (a : Addr) (L : List (Addr × List Int)) (es : Array (Int × Value)) (ep : Nat) (t : SetTable) : Prop where
  obj : ∃ o, hp.get? a = some o ∧ o.ExactSet ∧ o.data = .set es ep t
  row : es.toList = rowsOf P w L
  tb : Tb t (L.map fun p => thash P w p.2)
  nd : (L.map (·.2)).Nodup
  ist : ∀ p ∈ L, IsT P w hp p.2 p.1
  pl : t.plain = true
  ld : w.params.followText "set-order" = true ∨ t.led = true
  room : L.length * 5 < t.mask * 3
  small : t.mask ≤ 8191 ∨ (2000 < L.length ∧ t.mask ≤ 65535)
section
variable {P : Program} {w : World} {A : Around} {E : Value → Shared → Prop} {s : Shared} {a : Addr} {L : List (Addr × List Int)} {es : Array (Int × Value)} {ep : Nat} {t : SetTable}
theorem Bag.size (R : Bag P w s.heap a L es ep t) : es.size = L.length := by
  rw [← Array.length_toList, R.row]
  exact List.length_map ..
theorem Bag.places (R : Bag P w s.heap a L es ep t) : t.place.size = L.length := R.tb.many.trans (List.length_map ..)
theorem Bag.fits (R : Bag P w s.heap a L es ep t) : t.fits es.size = true := by
  have h1 := R.places
  have h2 := R.room
  rw [R.size]
  unfold SetTable.fits SetTable.fill
  rw [R.tb.clean, h1]
  simp
  omega
theorem Bag.at_ (R : Bag P w s.heap a L es ep t) {i : Nat} {p : Addr × List Int} (h : L[i]? = some p) : es[i]? = some (thash P w p.2, Value.ref p.1) := by
  rw [← Array.getElem?_toList, R.row, show (rowsOf P w L)[i]? = _ from List.getElem?_map .., h] <;> rfl
theorem odd_pow {m k : Nat} (h : m + 1 = 2 ^ k) (hm : 0 < m) : m % 2 = 1 := by
  cases k with
  | zero => simp at h; omega
  | succ k => rw [Nat.pow_succ] at h; omega
theorem Bag.holds (R : Bag P w s.heap a L es ep t) : ¬ t.gaveWay = true := by
  obtain ⟨k, hk⟩ := R.tb.pow
  have r := R.room
  unfold SetTable.gaveWay
  rw [odd_pow hk (by omega)]
  decide
/-- a place of the way that holds another tuple of the same hash -/
def Met (P : Program) (w : World) (L : List (Addr × List Int)) (t : SetTable) (h : Int) (k : List Int) (q : Nat) : Prop := ∃ (i : Nat) (p : Addr × List Int), L[i]? = some p ∧ t.place.toList[i]? = some (way t.mask h q) ∧ thash P w p.2 = h ∧ p.2 ≠ k
theorem look (R : Bag P w s.heap a L es ep t) {x : Addr} {k : List Int} {h : Int} (eh : thash P w k = h) (hx : IsT P w s.heap k x) (hu : A.units < cLine) {n : Nat} (hn : n < 10 * SetTable.turns t.mask)
    (he : way t.mask h n ∉ t.place.toList) (full : ∀ c, c < n → way t.mask h c ∈ t.place.toList) (μ : Nat → Nat) (dec : ∀ q q', q < q' → q' < n → Met P w L t h k q → Met P w L t h k q' → μ q' < μ q) {Q : SetFound → Shared → Prop} (yes : k ∈ L.map (·.2) → Q (.there none) s) (no : k ∉ L.map (·.2) → Q (.free (way t.mask h n) false) s) :
    ∀ (f c : Nat) (stand : Option SetTable.Probe), stand.getD (t.probeStart h) = stn t h c → c ≤ n → 0 < f → (∀ q, c ≤ q → q < n → Met P w L t h k q → μ q + 1 < f) →
      (∀ (i : Nat) p, L[i]? = some p → p.2 = k → ∃ c', c ≤ c' ∧ c' < n ∧ t.place.toList[i]? = some (way t.mask h c')) → wpAny (model P w) A (setSearchFrom a (.ref x) h true f stand) Q E s := by
  obtain ⟨o, ho, hex, hd⟩ := R.obj
  intro f
  induction f with
  | zero => exact fun _ _ _ _ l => absurd l (Nat.lt_irrefl _)
  | succ f ih =>
    intro c stand hst hc _ hf ahead
    rw [setSearchFrom_succ]
    refine wpAny_bind (wpAny_setState_of ho hd R.fits ?_)
    dsimp only
    refine wp_if_neg R.holds ?_
    try refine wpAny_bind (wpAny_pure ?_)
    have hash : ∀ {i : Nat} {p}, L[i]? = some p → (es[i]?.map (·.1)).getD 0 = thash P w p.2 := fun hp => by
      rw [R.at_ hp] <;> rfl
    have hashK : ∀ {i : Nat} {p}, L[i]? = some p → p.2 = k → (es[i]?.map (·.1)).getD 0 = h := fun hp e => by rw [hash hp, e, eh]
    have at' : ∀ q, (nth t.mask (stn t h c) q).j = way t.mask h (c + q) := fun q => by rw [stn_add] <;> rfl
    rcases go_spec t R.tb.asc R.tb.clean (fun i => (es[i]?.map (·.1)).getD 0) h (10 * SetTable.turns t.mask) (n - c) (stn t h c) (nth_dummy _ _ rfl) (by omega) (fun q hq => by rw [at']; exact full _ (by omega)) (by rw [at', Nat.add_sub_cancel' hc]; exact he) with ⟨q, i, hq, hi, hh, first, pr⟩ | ⟨none_, pr⟩
    · have met : t.probe (fun i => (es[i]?.map (·.1)).getD 0) h (stand.getD (t.probeStart h)) = some (.candidate (way t.mask h (c + q)) i (nth t.mask (stn t h c) (q + 1))) := by
        rw [hst, ← at']
        exact pr
      rw [met]
      dsimp only
      rw [at'] at hi
      have il : i < L.length := by
        have z := (List.getElem?_eq_some_iff.mp hi).1
        rw [Array.length_toList, R.places] at z
        exact z
      obtain ⟨p, hp⟩ : ∃ p, L[i]? = some p := ⟨_, List.getElem?_eq_getElem il⟩
      have pm : p ∈ L := List.mem_of_getElem? hp
      have rest : wpAny (model P w) A (searchRest a (.ref x) h true f es t (way t.mask h (c + q)) i (nth t.mask (stn t h c) (q + 1))) Q E s := by
        unfold searchRest
        rw [R.at_ hp]
        dsimp only
        refine wpAny_bind (wpAny_holding (wpAny_eqBool_tuple hu (R.ist p pm) hx (wpAny_bind (wpAny_setState_of ho hd R.fits ?_))))
        dsimp only
        by_cases same : p.2 = k
        · exact wp_if_pos (by simp [same]) (wpAny_pure (yes (List.mem_map.mpr ⟨p, pm, same⟩)))
        · refine wp_if_neg (by simp [same]) ?_
          try refine wpAny_bind (wpAny_pure ?_)
          have live := slot_live R.tb.asc hi
          rw [sameMem]
          dsimp only
          simp only [if_true, live, R.at_ hp]
          refine wpAny_bind (wpAny_isSame_ref_self (wpAny_bind (wpAny_pure ?_)))
          simp only [if_true]
          refine wp_if_neg (by simp [same]) ?_
          have mq : Met P w L t h k (c + q) := ⟨i, p, hp, hi, (hash hp).symm.trans hh, same⟩
          have low := hf (c + q) (Nat.le_add_right _ _) (by omega) mq
          refine ih (c + (q + 1)) _ (by rw [stn_add] <;> rfl) (by omega) (by omega) (fun q' h1 h2 h3 => ?_) fun j r hr er => ?_
          · have := dec (c + q) q' (by omega) h2 mq h3
            omega
          obtain ⟨c', b1, b2, b3⟩ := ahead j r hr er
          refine ⟨c', ?_, b2, b3⟩
          rcases Nat.lt_trichotomy c' (c + q) with l | l | l
          · exact absurd (hashK hr er) (first (c' - c) j (by omega) (by rw [at', Nat.add_sub_cancel' b1]; exact b3))
          · rw [l] at b3
            have e := slot_live R.tb.asc b3
            rw [live] at e
            cases e
            rw [hp] at hr
            cases hr
            exact absurd er same
          · omega
      by_cases led : t.led = true
      · refine wp_if_neg (by simp [led]) ?_
        try refine wpAny_bind (wpAny_pure ?_)
        exact rest
      · refine wp_if_pos (by simp [led]) (wpAny_bind (seen_tup hx (fun y hy => ?_) ?_))
        · obtain ⟨e, m1, m2⟩ := List.mem_map.mp hy
          have m3 : e ∈ es.toList := by
            have z : e ∈ es ∧ e.1 = h := by simpa using m1
            exact Array.mem_toList_iff.mpr z.1
          rw [R.row] at m3
          obtain ⟨r, m4, rfl⟩ := List.mem_map.mp m3
          exact ⟨r.2, r.1, m2.symm, R.ist r m4⟩
        · refine wp_if_neg (by decide) ?_
          try refine wpAny_bind (wpAny_pure ?_)
          exact rest
    · have met : t.probe (fun i => (es[i]?.map (·.1)).getD 0) h (stand.getD (t.probeStart h)) = some (.empty (way t.mask h n) none) := by
        rw [hst, show way t.mask h n = (nth t.mask (stn t h c) (n - c)).j by rw [at', Nat.add_sub_cancel' hc]]
        exact pr
      rw [met]
      dsimp only
      refine wpAny_pure (no fun hm => ?_)
      obtain ⟨r, m1, m2⟩ := List.mem_map.mp hm
      obtain ⟨j, hj⟩ := List.mem_iff_getElem?.mp m1
      obtain ⟨c', b1, b2, b3⟩ := ahead j r hj m2
      exact none_ (c' - c) j (by omega) (by rw [at', Nat.add_sub_cancel' b1]; exact b3) (hashK hj m2)
/-- at most one other tuple has the hash of k -/
def Rare (P : Program) (w : World) (L : List (List Int)) (k : List Int) : Prop := ∀ a ∈ L, ∀ b ∈ L, thash P w a = thash P w k → thash P w b = thash P w k → a ≠ k → b ≠ k → a = b
/-- the search as adding asks for it: the tuple is there, or its place is told -/
theorem lookUp (R : Bag P w s.heap a L es ep t) {x : Addr} {k : List Int} {h : Int} (eh : thash P w k = h) (hx : IsT P w s.heap k x) (hu : A.units < cLine) (ok : t.mask ≤ 8191 ∨ (t.mask ≤ 65535 ∧ Rare P w (L.map (·.2)) k)) {Q : SetFound → Shared → Prop} (yes : k ∈ L.map (·.2) → Q (.there none) s)
    (no : ∀ n, k ∉ L.map (·.2) → way t.mask h n ∉ t.place.toList → (∀ c, c < n → way t.mask h c ∈ t.place.toList) → Q (.free (way t.mask h n) false) s) : wpAny (model P w) A (setSearch a (.ref x) h true) Q E s := by
  have r := R.room
  obtain ⟨n, h1, h2, h3⟩ := R.tb.open_ (by rw [List.length_map]; omega) h
  have few := R.tb.few (by rw [List.length_map]; omega) h h3
  have ahead : ∀ (i : Nat) p, L[i]? = some p → p.2 = k → ∃ c', 0 ≤ c' ∧ c' < n ∧ t.place.toList[i]? = some (way t.mask h c') := fun i p hp e => by
    obtain ⟨j, hj⟩ : ∃ j, t.place.toList[i]? = some j := ⟨_, List.getElem?_eq_getElem (by
      rw [Array.length_toList, R.places]
      exact (List.getElem?_eq_some_iff.mp hp).1)⟩
    obtain ⟨c, b1, b2⟩ := R.tb.ahead h2 (i := i) (by rw [List.getElem?_map, hp, ← eh, ← e] <;> rfl) hj
    exact ⟨c, Nat.zero_le _, b1, by rw [hj, b2]⟩
  unfold setSearch
  rcases ok with sm | ⟨sm, rare⟩
  · refine look R eh hx hu h1 h2 h3 (fun q => n - q) (fun q q' l1 l2 _ _ => by omega) yes (fun z => no n z h2 h3) 100000 0 none rfl (Nat.zero_le _) (by omega) (fun q _ _ _ => by unfold SetTable.turns at h1; omega) ahead
  · refine look R eh hx hu h1 h2 h3 (fun q => ri t.mask (runAt t.mask (SetTable.bits h % (t.mask + 1)) (SetTable.bits h)) n - ri t.mask (runAt t.mask (SetTable.bits h % (t.mask + 1)) (SetTable.bits h)) q) (fun q q' l1 l2 m1 m2 => ?_) yes (fun z => no n z h2 h3) 100000 0 none rfl (Nat.zero_le _) (by omega) (fun q _ _ _ => by omega) ahead
    obtain ⟨i, p, a1, a2, a3, a4⟩ := m1
    obtain ⟨i', p', b1, b2, b3, b4⟩ := m2
    have ep' := rare p.2 (List.mem_map_of_mem (List.mem_of_getElem? a1)) p'.2 (List.mem_map_of_mem (List.mem_of_getElem? b1)) (a3.trans eh.symm) (b3.trans eh.symm) a4 b4
    have ei : i = i' := by
      have n1 := R.nd
      have x1 : (L.map (·.2))[i]? = some p.2 := by rw [List.getElem?_map, a1] <;> rfl
      have x2 : (L.map (·.2))[i']? = some p.2 := by rw [List.getElem?_map, b1, ep'] <;> rfl
      exact (List.getElem?_inj (List.getElem?_eq_some_iff.mp x1).1 n1).mp (x1.trans x2.symm)
    rw [← ei, a2] at b2
    have z := ri_place l1 (m := t.mask) (p := runAt t.mask (SetTable.bits h % (t.mask + 1)) (SetTable.bits h)) (Option.some.inj b2).symm
    have up : ri t.mask (runAt t.mask (SetTable.bits h % (t.mask + 1)) (SetTable.bits h)) q' ≤ _ := ri_mono (Nat.le_of_lt l2)
    omega
end
end Tab

/-! How such a set's table grows: up to 10,000 tuples. -/
namespace Tab
open PySem PySem.Spec PyProof.Rows L2
def growB (n : Nat) : Bool :=
  let z := SetTable.sizeAbove (SetTable.grown n)
  decide (z = 2 ^ z.log2) && (decide (z ≤ 65536) && (decide (z ≤ 8192 ∨ 2000 < n) && (decide (n * 5 < (z - 1) * 3) && decide (1 ≤ z))))
theorem grow_all : ((List.range 10001).all fun n => n == 0 || growB n) = true := by decide +kernel
theorem grow {n : Nat} (h0 : 0 < n) (h : n ≤ 10000) : ∃ k, SetTable.sizeAbove (SetTable.grown n) - 1 + 1 = 2 ^ k ∧ (SetTable.sizeAbove (SetTable.grown n) - 1 ≤ 8191 ∨ (2000 < n ∧ SetTable.sizeAbove (SetTable.grown n) - 1 ≤ 65535)) ∧ n * 5 < (SetTable.sizeAbove (SetTable.grown n) - 1) * 3 ∧ n ≤ SetTable.sizeAbove (SetTable.grown n) - 1 := by
  have z := List.all_eq_true.mp grow_all n (List.mem_range.mpr (by omega))
  have z : growB n = true := by
    cases e : growB n with
    | true => rfl
    | false =>
      rw [e, Bool.or_false, beq_iff_eq] at z
      omega
  unfold growB at z
  simp only [Bool.and_eq_true, decide_eq_true_eq] at z
  obtain ⟨z1, z2, z5, z3, z4⟩ := z
  exact ⟨_, by rw [Nat.sub_add_cancel z4]; exact z1, by omega, z3, by omega⟩
end Tab

/-! A set of tuples of whole numbers, up to 10,000: one more added. -/
namespace Tab
open PySem PySem.Spec PyProof.Rows L2
section
variable {P : Program} {w : World} {A : Around} {E : Value → Shared → Prop} {s : Shared} {a : Addr} {L : List (Addr × List Int)} {es : Array (Int × Value)} {ep : Nat} {t : SetTable}
theorem rows_size {es : Array (Int × Value)} {L : List (Addr × List Int)} (h : es.toList = rowsOf P w L) : es.size = L.length := by
  rw [← Array.length_toList, h]
  exact List.length_map ..
theorem relay {o : Obj} (ho : s.heap.get? a = some o) (ex : o.ExactSet) (hd : o.data = .set es ep t) (row : es.toList = rowsOf P w L) (T : Tb t (L.map fun p => thash P w p.2)) (fill : L.length ≤ t.mask) (nd : (L.map (·.2)).Nodup)
    (ist : ∀ p ∈ L, IsT P w s.heap p.2 p.1) (pl : t.plain = true) (ld : w.params.followText "set-order" = true ∨ t.led = true) (h0 : 0 < L.length) (few : L.length ≤ 10000) {Q : Unit → Shared → Prop}
    (hQ : ∀ h' L' es' ep' t', Heap.SameBut a s.heap h' → Bag P w h' a L' es' ep' t' → L'.Perm L → Q () { s with heap := h' }) : wpAny (model P w) A (setRelay a (SetTable.grown L.length)) Q E s := by
  obtain ⟨k, g1, g2, g3, g4⟩ := grow h0 few
  have n1 := rows_size row
  have n2 : t.place.size = L.length := T.many.trans (List.length_map ..)
  have fits : t.fits es.size = true := by
    unfold SetTable.fits SetTable.fill
    rw [T.clean, n1, n2]
    simp
    exact fill
  obtain ⟨t', order, e, perm, T', em, el, epl⟩ := anew t (hs := es.map (·.1)) (wanted := SetTable.grown L.length) rfl g1 (by rw [Array.size_map, n1]; exact g4)
  rw [Array.size_map, n1] at perm
  obtain ⟨L2, r1, r2, r3⟩ := order_rows L es order row perm
  rw [← r3] at T'
  have n3 := (rows_size r1).trans (r2.length_eq.trans n1.symm)
  rw [setRelay_eq]
  refine wpAny_bind (wpAny_setState_of ho hd fits ?_)
  dsimp only
  refine wp_if_neg (by rw [sizeLine_eq]; omega) ?_
  try refine wpAny_bind (wpAny_pure ?_)
  rw [e]
  dsimp only
  refine wpAny_bind (wp_if_neg (by rw [n3]; simp) ?_)
  try refine wpAny_bind (wpAny_pure ?_)
  refine wpAny_pure ?_
  dsimp only
  refine wpAny_storeSet_of ho hd ?_ (by rw [n3, n1, sizeLine_eq]; omega)
  have sb : Heap.SameBut a s.heap (s.heap.update a (Obj.putSet (order.filterMap (es[·]?)) t')) := Heap.SameBut.update ..
  exact hQ _ L2 _ (ep + 1) t' sb ⟨⟨_, store_at ho hd, ⟨ex.1, ex.2.1, ex.2.2⟩, rfl⟩, r1, T', (r2.map (·.2)).nodup_iff.mpr nd, fun p hp => isT_same (ist p (r2.mem_iff.mp hp)) ho hd sb, epl.trans pl, by rw [el]; exact ld, by rw [r2.length_eq, em]; exact g3, by rw [r2.length_eq, em]; exact g2⟩ r2
theorem addB (R : Bag P w s.heap a L es ep t) {x : Addr} {k : List Int} (hx : IsT P w s.heap k x) (hu : A.units < cLine) (ok : L.length ≤ 2000 ∨ Rare P w (L.map (·.2)) k) (few : k ∉ L.map (·.2) → L.length + 1 ≤ 10000) {Q : Bool → Shared → Prop}
    (hQ : ∀ b h' L' es' ep' t', Heap.SameBut a s.heap h' → Bag P w h' a L' es' ep' t' → (k ∈ L.map (·.2) → L' = L) → (k ∉ L.map (·.2) → L'.Perm ((x, k) :: L)) → Q b { s with heap := h' }) :
    wpAny (model P w) A (setAddHashed a (.ref x) (thash P w k)) Q E s := by
  obtain ⟨o, ho, ex, hd⟩ := R.obj
  have room := R.room
  unfold setAddHashed
  refine wpAny_holding ?_
  rw [show (100000 : Nat) = 99999 + 1 from rfl, setAddHashedIn_succ]
  refine wpAny_bind (wpAny_setState_of ho hd R.fits ?_)
  dsimp only
  refine wp_if_neg (by simp [byScan, Value.scannable]) ?_
  try refine wpAny_bind (wpAny_pure ?_)
  have small := R.small
  refine wpAny_bind (lookUp R rfl hx hu (small.elim (fun c => .inl c) fun c => .inr ⟨c.2, ok.elim (fun d => by have := c.1; omega) id⟩) (fun yes => wpAny_pure (hQ false s.heap L es ep t (Heap.SameBut.refl a s.heap) R (fun _ => rfl) fun z => absurd yes z)) fun n no he full => ?_)
  dsimp only
  have few := few no
  refine wpAny_bind (wpAny_setState_of ho hd R.fits ?_)
  dsimp only
  obtain ⟨p, ep_⟩ : ∃ p, SetTable.below t.place (way t.mask (thash P w k) n) = p := ⟨_, rfl⟩
  obtain ⟨q1, q2, q3⟩ := R.tb.more rfl ep_ he full
  have row1 : (SetTable.insertAt es p (thash P w k, Value.ref x)).toList = rowsOf P w (L.take p ++ (x, k) :: L.drop p) := by
    rw [SetTable.toList_insertAt, rows_put, R.row]
  have pos : (t.put (way t.mask (thash P w k) n)).2 = p := ep_
  have k1 : (t.put (way t.mask (thash P w k) n)).1.mask = t.mask := rfl
  have k2 : (t.put (way t.mask (thash P w k) n)).1.led = t.led := rfl
  have k3 : (t.put (way t.mask (thash P w k) n)).1.plain = t.plain := rfl
  generalize t.put (way t.mask (thash P w k) n) = pt at q2 q3 pos k1 k2 k3 ⊢
  obtain ⟨t1, p'⟩ := pt
  dsimp only at q2 q3 pos k1 k2 k3 ⊢
  subst pos
  have pl1 : t1.plain = true := k3.trans R.pl
  first
    | (refine wpAny_bind ?_; refine wp_if_pos pl1 ?_; refine hashBy_tup hx ?_)
    | refine wp_if_pos pl1 (wpAny_bind (hashBy_tup hx ?_))
  simp only [if_true]
  have pm := put_perm L p' (x, k)
  have hashes : (L.map fun p => thash P w p.2).take p' ++ thash P w k :: (L.map fun p => thash P w p.2).drop p' = (L.take p' ++ (x, k) :: L.drop p').map fun p => thash P w p.2 := by
    rw [List.map_append, List.map_cons, List.map_take, List.map_drop]
  rw [hashes] at q2
  have len := pm.length_eq
  rw [List.length_cons] at len
  have n1 := (rows_size row1).trans len
  have nd1 : ((L.take p' ++ (x, k) :: L.drop p').map (·.2)).Nodup := (pm.map (·.2)).nodup_iff.mpr (List.nodup_cons.mpr ⟨no, R.nd⟩)
  generalize SetTable.insertAt es p' (thash P w k, Value.ref x) = es1 at row1 n1 ⊢
  generalize L.take p' ++ (x, k) :: L.drop p' = L1 at pm len q2 nd1 row1
  refine wpAny_bind (wpAny_storeSet_of ho hd ?_ (by rw [n1, sizeLine_eq]; omega))
  have sb : Heap.SameBut a s.heap (s.heap.update a (Obj.putSet es1 t1)) := Heap.SameBut.update ..
  have ho1 := store_at (es' := es1) (t' := t1) ho hd
  generalize s.heap.update a (Obj.putSet es1 t1) = h1 at sb ho1 ⊢
  have ist1 : ∀ r ∈ L1, IsT P w h1 r.2 r.1 := fun r hr => by
    rcases List.mem_cons.mp (pm.mem_iff.mp hr) with rfl | hr
    · exact isT_same hx ho hd sb
    · exact isT_same (R.ist r hr) ho hd sb
  have ld1 : w.params.followText "set-order" = true ∨ t1.led = true := by rw [k2]; exact R.ld
  rw [List.length_map] at q3
  by_cases hf : t1.tooFull = true
  · first
      | (refine wpAny_bind ?_; refine wp_if_pos (by simp [hf]) ?_)
      | (refine wp_if_pos (by simp [hf]) ?_; refine wpAny_bind ?_)
    rw [R.size, ← len]
    exact relay (s := { s with heap := h1 }) ho1 ⟨ex.1, ex.2.1, ex.2.2⟩ rfl row1 q2 (by rw [k1]; omega) nd1 ist1 pl1 ld1 (by omega) (by omega) fun h2 L2 es2 ep2 t2 sb2 R2 pm2 => wpAny_pure (hQ true h2 L2 es2 ep2 t2 (sb.trans sb2) R2 (fun z => absurd z no) fun _ => pm2.trans pm)
  · first
      | refine wp_if_neg (by simp [hf]) ?_
      | (refine wpAny_bind ?_; refine wp_if_neg (by simp [hf]) ?_; refine wpAny_pure ?_)
    have low : (L.length + 1) * 5 < t1.mask * 3 := by
      unfold SetTable.tooFull at hf
      rw [decide_eq_true_eq, q3] at hf
      omega
    exact wpAny_pure (hQ true h1 L1 es1 (ep + 1) t1 sb ⟨⟨_, ho1, ⟨ex.1, ex.2.1, ex.2.2⟩, rfl⟩, row1, q2, nd1, ist1, pl1, ld1, by rw [len]; exact low, by rw [k1, len]; omega⟩ (fun z => absurd z no) fun _ => pm)
end
end Tab

/-! A set of tuples of whole numbers: empty; fed by what is walked, up to 10,000. -/
namespace Tab
open PySem PySem.Spec PyProof.Rows L2
section
variable {P : Program} {w : World} {A : Around} {a : Addr} {L : List (Addr × List Int)} {es : Array (Int × Value)} {ep : Nat} {t : SetTable}
/-- what may be put into one set: 2,000 tuples, or 10,000 of which no three have one hash -/
def Roomy (P : Program) (w : World) (F : List (List Int)) : Prop := F.length ≤ 2000 ∨ (F.length ≤ 10000 ∧ ∀ k ∈ F, Rare P w F k)
theorem Rare.sub {P : Program} {w : World} {F G : List (List Int)} {k : List Int} (h : Rare P w F k) (s : ∀ x ∈ G, x ∈ F) : Rare P w G k := fun a ha b hb => h a (s a ha) b (s b hb)
/-- a set of some of F takes one more of F -/
theorem Roomy.ok {P : Program} {w : World} {F : List (List Int)} {M : List (Addr × List Int)} {k : List Int} (h : Roomy P w F) (nd : (M.map (·.2)).Nodup) (sub : ∀ x ∈ M.map (·.2), x ∈ F) (hk : k ∈ F) : M.length ≤ 2000 ∨ Rare P w (M.map (·.2)) k := by
  have z := List.Nodup.length_le_of_subset nd sub
  rw [List.length_map] at z
  rcases h with h | ⟨h, r⟩
  · exact .inl (by omega)
  · exact .inr ((r k hk).sub sub)
theorem Roomy.few {P : Program} {w : World} {F : List (List Int)} {M : List (Addr × List Int)} {k : List Int} (h : Roomy P w F) (nd : (M.map (·.2)).Nodup) (sub : ∀ x ∈ M.map (·.2), x ∈ F) (hk : k ∈ F) (out : k ∉ M.map (·.2)) : M.length + 1 ≤ 10000 := by
  have z := List.Nodup.length_le_of_subset (List.nodup_cons.mpr ⟨out, nd⟩) (fun x hx => (List.mem_cons.mp hx).elim (fun e => e ▸ hk) (sub x) : (k :: M.map (·.2)) ⊆ F)
  rw [List.length_cons, List.length_map] at z
  rcases h with h | ⟨h, _⟩ <;> omega
theorem Bag.keep {h h' : Heap} (R : Bag P w h a L es ep t) (ha : ∀ o, h.get? a = some o → h'.get? a = some o) (it : ∀ p ∈ L, IsT P w h' p.2 p.1) : Bag P w h' a L es ep t := by
  obtain ⟨o, ho, x⟩ := R.obj
  exact { R with obj := ⟨o, ha o ho, x⟩, ist := it }
theorem bag_new {h : Heap} (ho : h.get? a = some { cls := .type "set", dict := none, data := .set #[] 0 (.fresh 0 0 (!w.params.followText "set-order")) }) : Bag P w h a [] #[] 0 (.fresh 0 0 (!w.params.followText "set-order")) := by
  refine ⟨⟨_, ho, ⟨rfl, rfl, rfl⟩, rfl⟩, rfl, ⟨.nil, rfl, rfl, ⟨3, rfl⟩, (fun x hx => nomatch hx), fun i h j hi => by simp at hi⟩, .nil, (fun p hp => nomatch hp), rfl, ?_, (show 0 * 5 < 7 * 3 by decide), .inl (show 7 ≤ 8191 by decide)⟩
  cases e : w.params.followText "set-order" with
  | true => exact .inl rfl
  | false => exact .inr rfl
theorem feed {I : Addr} {fp wr : List Addr} {G : Array GenState → Array GenState → Prop} {n : Nat} {Pv : Nat → Value → Prop} {St : Nat → Shared → Prop} {R : Result → Shared → Prop}
    (W : WalksS P w A.in1 I fp wr G n Pv St) (S : Addr) (out : S ∉ fp) (ks : List (Addr × List Int)) (en : n = ks.length) (few : Roomy P w (ks.map (·.2))) (val : ∀ i v, Pv i v → ∃ p, ks[i]? = some p ∧ v = .ref p.1)
    (old : Heap) (ist : ∀ p ∈ ks, IsT P w old p.2 p.1) (nS : old.get? S = none) (nw : ∀ b ∈ wr, old.get? b = none) (hu : A.in1.units < cLine)
    (s0 : Shared) (st0 : St 0 s0) (fin : ∀ s' L es ep t, Bag P w s'.heap S L es ep t → Got ks n L → (∀ b o, old.get? b = some o → s'.heap.get? b = some o) → Moved (S :: wr) G s0 s' → R (.ok (.ret .none)) s') :
    ∀ (d i : Nat) (s : Shared), n - i = d → i ≤ n → St i s → (i = 0 → s = s0) → (0 < i → Moved (S :: wr) G s0 s) → (∀ b o, old.get? b = some o → s.heap.get? b = some o) → (∃ L es ep t, Bag P w s.heap S L es ep t ∧ Got ks i L) →
      codeAny (model P w) A (.builtin "set.update.loop" ⟨[.ref S, .ref I], []⟩) R s := by
  have nSw : S ∉ wr := fun z => out (W.sub _ z)
  have more : ∀ b ∈ wr, b ∈ S :: wr := fun b hb => List.mem_cons_of_mem _ hb
  have far_ : ∀ {s s' : Shared}, Moved wr G s s' → (∀ b o, old.get? b = some o → s.heap.get? b = some o) → ∀ b o, old.get? b = some o → s'.heap.get? b = some o := fun m k b o e => m.heap b o (fun z => by rw [nw b z] at e; cases e) (k b o e)
  have from0 : ∀ {i : Nat} {s s' : Shared}, (i = 0 → s = s0) → (0 < i → Moved (S :: wr) G s0 s) → Moved (S :: wr) G s s' → Moved (S :: wr) G s0 s' := fun {i s s'} z p m => by
    rcases Nat.eq_zero_or_pos i with c | c
    · rw [← z c]
      exact m
    · exact Moved.trans W.gtrans (p c) m
  intro d
  induction d with
  | zero =>
    rintro i s hd hi st z p k ⟨L, es, ep, t, B, g⟩
    obtain rfl : i = n := by omega
    refine codeAny_builtin F.entry_set_update_loop (by
      rw [Around.under_plainId F.plain_set_update_loop _]
      refine wpAny_bind (m := pyNext (.ref I)) (W.done s _ _ st fun s' m => wpAny_pure ?_)
      have k' := far_ m k
      exact fin s' L es ep t (B.keep (fun o e => m.heap S o nSw e) fun q hq => isT_keep (ist q (List.mem_of_mem_take (g.sub q hq))) k') g k' (from0 z p (m.mono more)))
  | succ d ih =>
    rintro i s hd hi st z p k ⟨L, es, ep, t, B, g⟩
    have lt : i < n := by omega
    refine codeAny_builtin F.entry_set_update_loop (by
      rw [Around.under_plainId F.plain_set_update_loop _]
      refine wpAny_bind (m := pyNext (.ref I)) (W.item i s _ _ lt st fun v s' pv st' m => ?_)
      obtain ⟨q, hq, rfl⟩ := val i v pv
      have k' := far_ m k
      have B' : Bag P w s'.heap S L es ep t := B.keep (fun o e => m.heap S o nSw e) fun r hr => isT_keep (ist r (List.mem_of_mem_take (g.sub r hr))) k'
      have hx : IsT P w s'.heap q.2 q.1 := isT_keep (ist q (List.mem_of_getElem? hq)) k'
      have sub' : ∀ z ∈ L.map (·.2), z ∈ ks.map (·.2) := fun z hz => by
        obtain ⟨r, hr, rfl⟩ := List.mem_map.mp hz
        exact List.mem_map_of_mem (List.mem_of_mem_take (g.sub r hr))
      refine wpAny_bind (m := holding [Value.ref q.1] (setAdd S (.ref q.1))) (wpAny_holding ?_)
      unfold setAdd
      refine wpAny_holding (wpAny_bind (wpAny_pyHash_tuple hu hx (addB (s := { s' with toks := s'.toks + (q.2.length + 1) }) B' hx hu (few.ok B'.nd sub' (List.mem_map_of_mem (List.mem_of_getElem? hq))) (few.few B'.nd sub' (List.mem_map_of_mem (List.mem_of_getElem? hq))) fun b h2 L2 es2 ep2 t2 sb B2 c1 c2 => ?_)))
      have g2 : Got ks (i + 1) L2 := (Classical.em (q.2 ∈ L.map (·.2))).elim (fun c => by rw [c1 c]; exact g.same hq c) fun c => g.more hq (c2 c)
      have k2 : ∀ b o, old.get? b = some o → h2.get? b = some o := fun b o e => (sb.2 b fun z => by rw [z, nS] at e; cases e).trans (k' b o e)
      have m2 : Moved (S :: wr) G s { s' with heap := h2, toks := s'.toks + (q.2.length + 1) } := (m.mono more).then_heap (Nat.le_add_right _ _) fun b o hb e => (sb.2 b fun z => hb (z ▸ List.mem_cons_self)).trans e
      refine wpAny_pure ⟨plainId_quiet F.plain_set_update_loop _, ih (i + 1) _ (by omega) lt (W.frame _ s' _ _ st' (Nat.le_add_right _ _) fun b hb o e => (sb.2 b fun z => out (z ▸ hb)).trans e) (fun z => by omega) (fun _ => from0 z p m2) k2 ⟨L2, es2, ep2, t2, B2, g2⟩⟩)
end
end Tab

/-! Such a set walked, its tuples collected: of any size. -/
namespace Tab
open PySem PySem.Spec PySem.Calls PyProof.Rows L2
section
variable {P : Program} {w : World} {A : Around} {E : Value → Shared → Prop} {s : Shared} {a : Addr} {L : List (Addr × List Int)} {es : Array (Int × Value)} {ep : Nat} {t : SetTable}
theorem Bag.setAt (R : Bag P w s.heap a L es ep t) : SetAt s.heap a es ep t := by
  obtain ⟨o, g1, g2, g3⟩ := R.obj
  exact ⟨o, g1, g2.1, g3⟩
theorem bag_iter (R : Bag P w s.heap a L es ep t) {Q : Value → Shared → Prop} (q : ∀ s₂ I, SetIt P w s a es s₂ I → Q (.ref I) s₂) : wpAny (model P w) A (pyIter (.ref a)) Q E s := by
  have R' := R.setAt
  obtain ⟨so, g1, g2, g3⟩ := R.obj
  have ty : s.TypeIs (.ref a) "set" := ⟨so, g1, g2.1⟩
  have young : a ≠ s.heap.objs.size := Nat.ne_of_lt (Heap.lt_size g1)
  refine wpAny_pyIter_slot ty F.slot_set_iter (wpAny_call_entry F.slot_set_iter ty entry_s_iter ?_ (F.args_set_iter_1 _))
  unfold Builtin.«frozenset.__iter__»
  refine wpAny_bind (m := Builtin.Frozenset.slot0 "__iter__" _) (wpAny_of_eq (a := a) (by rfl) (wpAny_bind (m := Builtin.Frozenset.sizeOf a) ?_))
  unfold Builtin.Frozenset.sizeOf
  refine wpAny_bind (wpAny_setEntries_of g1 g3 R.fits (wpAny_pure ?_))
  have undrawn : (!t.plain && decide (es.size > 1)) = false := by rw [R.pl] <;> rfl
  first | refine wpAny_bind (setDrawn_at R' R.fits ?_) | refine wpAny_bind (wpAny_bind (setDrawn_at R' R.fits ?_))
  cases txt : w.params.followText "set-order" with
  | true =>
    refine wp_if_neg (by simp) ?_
    first | refine wpAny_bind (wpAny_pure ?_) | refine wpAny_pure ?_
    refine wpAny_bind (wpAny_setEpoch_of g1 g3 R.fits (wpAny_bind (wpAny_newObj_type (wpAny_pure ⟨_, rfl, "set_iterator", _, ⟨_, Heap.get?_push_size _ rfl, rfl⟩, slot_si_next.lookup, ?_⟩))))
    have pp := pick_perm (w.params.setOrder a ep) es
    refine q _ _ (SetIt.of (fun B hB => walks_text (P := P) (ep := ep) hB young R.fits txt) (by rw [List.length_map, Array.length_toList]) (fun b u e => Heap.get?_push_of_some _ e) rfl rfl rfl (Nat.le_refl _) (fun b hb => ?_) (pp.map _) (fun j v e => by rw [List.getElem?_map, Array.getElem?_toList]; exact e) ⟨⟨_, Heap.get?_push_size _ rfl, rfl, rfl⟩, R'.at fun u e => Heap.get?_push_of_some _ e⟩)
    rcases List.mem_cons.mp hb with rfl | hb
    · exact .inr (Nat.le_refl _)
    · exact .inl (List.mem_singleton.mp hb)
  | false =>
    have led : t.led = true := R.ld.elim (fun z => by rw [txt] at z; cases z) id
    refine wp_if_neg (by rw [undrawn]; simp) ?_
    first | refine wpAny_bind (wpAny_pure ?_) | refine wpAny_pure ?_
    refine wpAny_bind (wpAny_setEpoch_of g1 g3 R.fits (wpAny_bind (wpAny_newObj_type (wpAny_pure ⟨_, rfl, "set_iterator", _, ⟨_, Heap.get?_push_size _ rfl, rfl⟩, slot_si_next.lookup, ?_⟩))))
    refine q _ _ (SetIt.of (fun B hB => walks_led (P := P) (ep := ep) hB young R.fits R.tb.asc txt undrawn led) (by rw [List.length_map, Array.length_toList]) (fun b u e => Heap.get?_push_of_some _ e) rfl rfl rfl (Nat.le_refl _) (fun b hb => ?_) (List.Perm.refl _) (fun j v e => by rw [List.getElem?_map, Array.getElem?_toList]; exact e) ⟨⟨_, Heap.get?_push_size _ rfl, rfl, rfl⟩, R'.at fun u e => Heap.get?_push_of_some _ e⟩)
    rcases List.mem_cons.mp hb with rfl | hb
    · exact .inr (Nat.le_refl _)
    · exact .inl (List.mem_singleton.mp hb)
theorem bag_collect (R : Bag P w s.heap a L es ep t) {Q : List Value → Shared → Prop} (hh : A.handled = none) (big : L.length ≤ sizeLine)
    (q : ∀ s' vs, (∀ b o, s.heap.get? b = some o → s'.heap.get? b = some o) → s.heap.objs.size ≤ s'.heap.objs.size → s'.gens = s.gens → s'.os = s.os → vs.Perm (es.toList.map (·.2)) → Q vs s') : wpAny (model P w) A (collect (.ref a)) Q E s := by
  obtain ⟨so, g1, g2, g3⟩ := R.obj
  have old := Heap.lt_size g1
  have ne : s.heap.objs.size ≠ a := Nat.ne_of_gt old
  unfold collect
  refine wpAny_bind (wpAny_runValue (codeAny_builtin F.entry_proto_collect ?_))
  rw [Around.under_plainId F.plain_proto_collect _]
  show wpAny _ A.in1 (newList [] >>= fun l => again (.builtin "list.__iadd__" ⟨[l, .ref a], []⟩)) _ _ s
  refine wpAny_bind (wpAny_newObj_type (wpAny_pure ⟨plainId_quiet F.plain_list_iadd _, codeAny_builtin F.entry_list_iadd ?_⟩))
  rw [Around.under_plainId F.plain_list_iadd _]
  let l0 : Obj := { cls := .type "list", data := .seq ([] : List Value).toArray }
  have p0 : (s.heap.push l0).get? s.heap.objs.size = some l0 := Heap.get?_push_size _ rfl
  have z0 : (s.heap.push l0).objs.size = s.heap.objs.size + 1 := size_push' _ _
  have R0 : Bag P w (s.heap.push l0) a L es ep t := R.keep (fun o e => Heap.get?_push_of_some _ e) fun p hp => isT_keep (R.ist p hp) fun c o e => Heap.get?_push_of_some _ e
  show wpAny _ A.in1 (Builtin.List.listExtendWith (.ref s.heap.objs.size) (.ref a) (.ref s.heap.objs.size)) _ _ _
  unfold Builtin.List.listExtendWith
  refine wpAny_bind (wpAny_typeOf (T := "set") ⟨so, Heap.get?_push_of_some _ g1, g2.1⟩ ?_)
  have n1 : Builtin.List.listSameRef (.ref s.heap.objs.size) (.ref a) = false := by simp [Builtin.List.listSameRef, ne]
  have n2 : (Value.type "set" == Value.type "list") = false := by decide
  have n3 : (Value.type "set" == Value.type "tuple") = false := by decide
  simp only [n1, n2, n3, Bool.or_false, Bool.false_eq_true, if_false]
  refine wpAny_bind (bag_iter (s := { s with heap := s.heap.push l0 }) R0 fun s2 I hit => ?_)
  obtain ⟨fp, St, out, Pv, kp, eg, eo, et, hI, hfp, pm, walk, pv, st⟩ := hit
  have hI1 : s.heap.objs.size + 1 ≤ I := by rw [← z0]; exact hI
  have away : s.heap.objs.size ∉ fp := fun m => (hfp _ m).elim ne fun z => by
    have z : s.heap.objs.size + 1 ≤ s.heap.objs.size := by rw [← z0]; exact z
    omega
  have ty2 : s2.TypeIs (.ref a) "set" := ⟨so, kp a so (Heap.get?_push_of_some _ g1), g2.1⟩
  refine wpAny_bind (wpAny_holding ?_)
  unfold Builtin.List.listLengthHint
  refine wpAny_bind (wpAny_specialOf ty2 F.slot_set_len.lookup ?_)
  (generalize hid : ("set.__len__" : String) = idn; (fail_if_success (clear hid idn)); wp_delta; rw [show splitId idn = some ("set", "__len__") from by subst hid; decide +kernel]; subst hid)
  refine wpAny_bind (wpAny_isInstance (b := true) ty2 sub_set_self ?_)
  show wpAny _ A.in1 (typeOf (.ref a) >>= _) _ _ _
  refine wpAny_bind (wpAny_typeOf ty2 (wpAny_pure ?_))
  show wpAny _ A.in1 (rule "list.extend.makes-room" >>= fun _ => Builtin.List.listTouch (.ref s.heap.objs.size) >>= fun _ => again (.builtin "list.extend.loop" ⟨[.ref s.heap.objs.size, .ref I, .ref s.heap.objs.size], []⟩)) _ _ _
  have p2 := kp _ _ p0
  refine wpAny_bind (wpAny_rule (wpAny_bind ?_))
  show wpAny _ A.in1 (updateSeq s.heap.objs.size (·.push .none) >>= fun _ => updateSeq s.heap.objs.size (·.pop)) _ _ _
  refine wpAny_bind (wpAny_updateSeq p2 rfl ?_)
  have p3 := Heap.get?_update_self (Obj.mapSeq (·.push Value.none)) p2 rfl
  refine wpAny_updateSeq p3 rfl ?_
  have p4 := Heap.get?_update_self (Obj.mapSeq (·.pop)) p3 rfl
  have side : ∀ b u, b ≠ s.heap.objs.size → s2.heap.get? b = some u → ((s2.heap.update s.heap.objs.size (Obj.mapSeq (·.push Value.none))).update s.heap.objs.size (Obj.mapSeq (·.pop))).get? b = some u := fun b u hb e => (Heap.get?_update_other _ _ (Ne.symm hb)).trans ((Heap.get?_update_other _ _ (Ne.symm hb)).trans e)
  have many : out.length ≤ sizeLine := by rw [pm.length_eq, List.length_map, Array.length_toList, R.size]; exact big
  have wk := walk A.in1 hh
  have st' := wk.frame 0 _ ((s2.heap.update s.heap.objs.size (Obj.mapSeq (·.push Value.none))).update s.heap.objs.size (Obj.mapSeq (·.pop))) st fun b hb u e => side b u (fun z => away (z ▸ hb)) e
  refine wpAny_pure ⟨plainId_quiet F.plain_extend_loop _, codeAny_extend_loopS wk.toS many _ away _ out.length 0 _ _ _ rfl (Nat.zero_le _) st' p4 (ItemsOf.nil Pv) fun s' acc cc mv hl hacc => ?_⟩
  show wpAny _ A (load s.heap.objs.size >>= _) _ _ s'
  refine wpAny_bind (wpAny_load hl (wpAny_pure ?_))
  show Q acc.toList s'
  rw [items_out hacc pv]
  refine q s' out (fun b u e => ?_) (Nat.le_of_lt (Heap.lt_size hl)) (Eq.trans mv.gens eg) (Eq.trans mv.os eo) pm
  have lb := Heap.lt_size e
  refine mv.heap b u (fun z => ?_) (side b u (Nat.ne_of_lt lb) (kp b u (Heap.get?_push_of_some _ e)))
  have both : b = s.heap.objs.size ∨ b = I := (List.mem_cons.mp z).imp id List.mem_singleton.mp
  rcases both with rfl | rfl
  · exact Nat.lt_irrefl _ lb
  · exact Nat.lt_irrefl _ (Nat.lt_trans lb hI1)
end
end Tab

/-! Sets of tuples of texts: small questions asked of such tuples; the set; the search in it. -/
namespace TxS
open PySem PySem.Spec PyProof.Rows L2
abbrev hx (P : Program) (w : World) (k : List Str) : Int := tupleKeyHash (strKind P w) k
/-- the tuple at b has the texts k -/
abbrev IsX (P : Program) (w : World) (h : Heap) (k : List Str) (b : Addr) : Prop := IsTupleKey (strKind P w) h k b
section
variable {P : Program} {w : World} {A : Around} {E : Value → Shared → Prop} {s : Shared}
end
end TxS

/-! Sets of tuples of texts: the set, the search in it. -/
namespace TxS
open PySem PySem.Spec PyProof.Rows L2
/-- the set at a: its tuples and where they stand, in the table's order -/
structure TSet (P : Program) (w : World) (h : Heap) (a : Addr) (L : List (Addr × List Str)) (es : Array (Int × Value)) (ep : Nat) (t : SetTable) : Prop where
  ob : ∃ o, h.get? a = some o ∧ o.ExactSet ∧ o.data = .set es ep t
  el : es.toList = L.map fun q => (hx P w q.2, Value.ref q.1)
  tab : TabOk t (L.map fun q => hx P w q.2)
  nd : (L.map (·.2)).Nodup
  tup : ∀ q ∈ L, IsX P w h q.2 q.1
  led : w.params.followText "set-order" = true ∨ t.led = true
  room : L.length * 5 < t.mask * 3
  few : L.length < 64
abbrev st0 (t : SetTable) (h : Int) : SetTable.Probe := runAt t.mask (SetTable.bits h % (t.mask + 1)) (SetTable.bits h)
section
variable {P : Program} {w : World} {A : Around} {E : Value → Shared → Prop} {s : Shared} {a : Addr} {L : List (Addr × List Str)} {es : Array (Int × Value)} {ep : Nat} {t : SetTable}
end
end TxS

/-! Sets of tuples of texts: the table laid anew, a tuple added. -/
namespace TxS
open PySem PySem.Spec PyProof.Rows L2
section
variable {P : Program} {w : World} {A : Around} {E : Value → Shared → Prop} {s : Shared} {a : Addr} {L : List (Addr × List Str)} {es : Array (Int × Value)} {ep : Nat} {t : SetTable}
abbrev rw_ (P : Program) (w : World) (q : Addr × List Str) : Int × Value := (hx P w q.2, Value.ref q.1)
end
end TxS

/-! Sets of tuples of texts: a tuple added; what has been put in so far. -/
namespace TxS
open PySem PySem.Spec PyProof.Rows L2
section
variable {P : Program} {w : World} {A : Around} {E : Value → Shared → Prop} {s : Shared} {a : Addr} {L : List (Addr × List Str)} {es : Array (Int × Value)} {ep : Nat} {t : SetTable}
end
end TxS

/-! set(xs) of a list of tuples of texts. -/
namespace TxS
open PySem PySem.Spec PyProof.Rows L2
section
variable {P : Program} {w : World} {A : Around} {E : Value → Shared → Prop}
/-- what the first i of ks have given -/
structure Had (ks : List (Addr × List Str)) (i : Nat) (L : List (Addr × List Str)) : Prop where
  sub : ∀ q ∈ L, q ∈ ks.take i
  all : ∀ q ∈ ks.take i, q.2 ∈ L.map (·.2)
  len : L.length ≤ i
end
end TxS

/-! set(xs) of a list of tuples of texts: the call. -/
namespace TxS
open PySem PySem.Spec PyProof.Rows L2
section
variable {P : Program} {w : World} {A : Around} {E : Value → Shared → Prop} {s : Shared} {l : Addr} {items : Array Value} {ks : List (Addr × List Str)} {Q : Value → Shared → Prop}
set_option maxHeartbeats 8000000 in
end
end TxS

/-! set(xs) of a list of tuples of whole numbers, up to 10,000: the call. -/
namespace Tab
open PySem PySem.Spec PyProof.Rows L2
section
variable {P : Program} {w : World} {A : Around} {E : Value → Shared → Prop} {s : Shared} {l : Addr} {items : Array Value} {ks : List (Addr × List Int)} {Q : Value → Shared → Prop}
set_option maxHeartbeats 8000000 in
theorem call_set_listB (hh : A.handled = none) (hl : s.heap.IsList l items) (hit : items.toList = ks.map fun q => Value.ref q.1) (hk : ∀ q ∈ ks, IsT P w s.heap q.2 q.1) (few : Roomy P w (ks.map (·.2))) (hu : A.units + 3 < cLine)
    (h : ∀ (h' : Heap) (tk : Nat) L es ep t, Bag P w h' s.heap.objs.size L es ep t → Got ks ks.length L → (∀ b o, s.heap.get? b = some o → h'.get? b = some o) → Q (.ref s.heap.objs.size) { s with heap := h', toks := tk }) : wpAny (model P w) A (call (.type "set") [.ref l]) Q E s := by
  obtain ⟨c, tl, hmro⟩ := F.called_set.mro; have hmade := F.called_set.made; have hsub := F.called_set.sub
  refine wpAny_call (codeAny_of_tree ?_); show wpAny _ _ (callAny (.type "set") _) _ _ _
  refine wpAny_pure ⟨Code.quiet_builtin _ (by decide +kernel), codeAny_builtin F.entry_type_call ?_⟩; rw [Around.under_plain (weight_type_call_type "set" [.ref l] []) rfl]
  have h1 := F.called_set.notType; have h2 := F.called_set.canCreate; have hct := F.typeCall_set_1 (.ref l)
  repeat (any_goals (first | assumption | wp_step))
  refine codeAny_mono (code_set_led1 (.ref l) (E := E) (Q₁ := fun obj s₁ => obj = .ref s.heap.objs.size ∧ s₁ = { s with heap := s.heap.push (Tp.oSet w) }) ⟨rfl, rfl⟩) fun r s₁ hr => ?_
  match r, hr with
  | .error _, hr => exact hr
  | .ok (.ret obj), hr =>
    obtain ⟨rfl, rfl⟩ := hr
    have hS : (s.heap.push (Tp.oSet w)).get? s.heap.objs.size = some (Tp.oSet w) := Heap.get?_push_size s.heap rfl
    have hT : Shared.TypeIs { s with heap := s.heap.push (Tp.oSet w) } (.ref s.heap.objs.size) "set" := ⟨_, hS, rfl⟩
    have hli := F.called_set.init.lookup; have hbi := F.called_set.init.bind (.ref s.heap.objs.size)
    repeat (any_goals (first | assumption | wp_step))
    refine codeAny_mono (codeAny_call_builtin (R := wants (fun r s₂ => r = .none ∧ ∃ h' tk L es ep t, s₂ = { s with heap := h', toks := tk } ∧ Bag P w h' s.heap.objs.size L es ep t ∧ Got ks ks.length L ∧ ∀ b o, s.heap.get? b = some o → h'.get? b = some o) E) F.called_set.init.plain F.entry_set_init (check_set_init_1 hT ?_)) fun r₂ s₂ hr₂ => ?_
    · obtain ⟨⟨ocls, odict, odata, oslots⟩, hol, hcl, nl, hdl⟩ := hl
      simp only at hcl hdl
      subst hcl hdl
      have hol' : (s.heap.push (Tp.oSet w)).get? l = some { cls := .type "list", dict := odict, data := .seq items nl, slots := oslots } := Heap.get?_push_of_some (Tp.oSet w) hol
      have hsls := F.sub_list_set; have hslf := F.sub_list_frozenset; have hne : (Value.type "list" == Value.type "dict") = false := by decide
      have hl1 : (s.heap.push (Tp.oSet w)).IsList l items := ⟨_, hol', rfl, nl, rfl⟩
      unfold Builtin.«set.__init__» noKeywords Builtin.Frozenset.updateFrom
      generalize hPI : pyIter = PI; wp_walk; subst hPI
      refine wpAny_pyIter_list hl1 (wpAny_bind (wpAny_runValue ?_))
      have lt : l < s.heap.objs.size := Heap.lt_size hol
      have sz : (s.heap.push (Tp.oSet w)).objs.size = s.heap.objs.size + 1 := Heap.size_push ..
      have nI : l ≠ (s.heap.push (Tp.oSet w)).objs.size := by rw [sz]; exact Nat.ne_of_lt (Nat.lt_succ_of_lt lt)
      have isz : items.size = ks.length := by rw [← Array.length_toList, hit, List.length_map]
      have none_ : ∀ c, s.heap.objs.size ≤ c → s.heap.get? c = none := fun c hc => by
        cases q : s.heap.get? c with
        | none => rfl
        | some o => exact absurd (Nat.lt_of_lt_of_le (Heap.lt_size q) hc) (Nat.lt_irrefl _)
      have begin_ : Bag P w (s.heap.push (Tp.oSet w)) s.heap.objs.size [] #[] 0 (.fresh 0 0 (!w.params.followText "set-order")) := bag_new hS
      refine feed ((Walks.list (show A.in1.in1.in1.handled = none by simp [hh]) _ l nI items).toS) s.heap.objs.size (by
        rw [sz]; simp only [List.mem_cons, List.not_mem_nil, or_false, not_or]
        exact ⟨Nat.ne_of_lt (Nat.lt_succ_self _), Nat.ne_of_gt lt⟩) ks isz few (fun i v hv => by
          have q : items.toList[i]? = some v := by rw [Array.getElem?_toList]; exact hv
          rw [hit, List.getElem?_map] at q
          cases hq : ks[i]? with
          | none => rw [hq] at q; cases q
          | some p => rw [hq] at q; exact ⟨p, rfl, (Option.some.inj q).symm⟩) s.heap hk (none_ _ (Nat.le_refl _)) (fun c hc => none_ c (by
            rw [List.mem_singleton.mp hc, sz]; exact Nat.le_succ _)) (by show A.units + 3 < cLine; exact hu) _ ⟨⟨_, Heap.get?_push_size _ rfl, rfl, rfl⟩, hl1.push _⟩ (fun s' L es ep t R m kp mv => ?_) (items.size - 0) 0 _ rfl (Nat.zero_le _) ⟨⟨_, Heap.get?_push_size _ rfl, rfl, rfl⟩, hl1.push _⟩ (fun _ => rfl) (fun z => absurd z (Nat.lt_irrefl _)) (fun c o e => Heap.get?_push_of_some _ (Heap.get?_push_of_some _ e)) ⟨[], _, _, _, begin_.keep (fun o e => Heap.get?_push_of_some _ e) (fun q hq => nomatch hq), Got.zero ks⟩
      obtain ⟨h', g', d', tk', os'⟩ := s'
      obtain rfl : g' = s.gens := mv.gens
      obtain rfl : d' = s.drawn := mv.drawn
      obtain rfl : os' = s.os := mv.os
      exact wpAny_pure (show wpAny _ _ (ret Value.none) _ _ _ from wpAny_pure ⟨rfl, h', tk', L, es, ep, t, rfl, R, isz ▸ m, kp⟩)
    · match r₂, hr₂ with
      | .error _, hr₂ => exact hr₂
      | .ok (.ret r), hr₂ =>
        obtain ⟨rfl, h', tk, L, es, ep, t, rfl, R, m, k⟩ := hr₂
        repeat (any_goals (first | assumption | wp_step))
        exact h h' tk L es ep t R m k
end
end Tab

/-! Data ways: what is drawn, told by predicates on items: tuples, lists of a length, lists of at most one. -/
namespace Dw
open PySem PySem.Spec PySem.W PySem.Calls PyProof.Rows L2 Dr Rp
variable [Dw.LamReg]
section
variable {ρ : EnvD} {f fa fb g : WF} {D E : PyData → Prop} {k n m : Nat}
def isD (D : PyData → Prop) (e : EV) : Prop := ∃ d, e = .py d ∧ D d
structure Sm (D : PyData → Prop) (n : Nat) (ds : List PyData) : Prop where
  len : ds.length ≤ n
  ok : ∀ d ∈ ds, D d
def isSm (D : PyData → Prop) (n : Nat) (e : EV) : Prop := ∃ ds, e = .py (.tuple ds) ∧ Sm D n ds
def isTL (D : PyData → Prop) (k : Nat) (e : EV) : Prop := ∃ ds, e = .py (.list ds) ∧ ds.length = k ∧ ∀ d ∈ ds, D d
def isLe (D : PyData → Prop) (n : Nat) (e : EV) : Prop := ∃ ds, e = .py (.list ds) ∧ ds.length ≤ n ∧ ∀ d ∈ ds, D d
def tames (D : PyData → Prop) (k : Nat) (es : List EV) : Prop := ∃ ds, pys es = some ds ∧ ds.length = k ∧ ∀ d ∈ ds, D d
def NOp (fo : WO) (ρ : EnvD) : Prop := ∀ P : Option Int → Prop, (∀ o, P o) → fo ρ P
theorem n_not {t : WT} {Q : Bool → Prop} (h : Nt t ρ fun b => Q (!b)) : Nt (wTNot t) ρ Q := fun P p => h _ fun b q => p _ q
end
end Dw

/-! Tuples of texts: their order, by length and then by the texts; all tuples of different texts, level by level. -/
namespace Lxs
open PySem PySem.Spec PySem.W PyProof.Rows L2 Dr Rp Dw
/-! ### texts -/
def ltS (a b : Str) : Bool := decide (a.cps.toList < b.cps.toList)
def Up (cs : List Str) : Prop := cs.Pairwise fun a b => ltS a b = true
theorem lt_irr (a : Str) : ltS a a = false := by
  unfold ltS
  rw [decide_eq_false_iff_not]
  exact List.lt_irrefl _
theorem lt_trans {a b c : Str} (h : ltS a b = true) (k : ltS b c = true) : ltS a c = true := by
  unfold ltS at *
  rw [decide_eq_true_eq] at *
  exact List.lt_trans h k
theorem lt_asymm {a b : Str} (h : ltS a b = true) : ltS b a = false := by
  cases q : ltS b a with
  | false => rfl
  | true =>
    have := lt_trans h q
    rw [lt_irr] at this
    cases this
theorem lt_total {a b : Str} (h : ltS a b = false) (k : ltS b a = false) : a = b := by
  unfold ltS at h k
  rw [decide_eq_false_iff_not] at h k
  have e : a.cps.toList = b.cps.toList := List.le_antisymm (List.not_lt.mp k) (List.not_lt.mp h)
  have e2 : a.cps = b.cps := Array.toList_inj.mp e
  cases a
  cases b
  exact congrArg Str.mk e2
/-! ### tokens -/
def tk (z : List (Int ⊕ List Nat)) (o : List Str) : List (Int ⊕ List Nat) := keyToksAll (o.map .str) ++ z
variable {z : List (Int ⊕ List Nat)}
def tupS (o : List Str) : PyData := .tuple (o.map .str)
def keyS (o : List Str) : PyData := .tuple [.int (o.length : Nat), tupS o]
theorem tk_cons (x : Str) (r : List Str) : tk z (x :: r) = .inl 1 :: .inr x.cps.toList :: tk z r := by
  unfold tk
  simp only [List.map_cons, keyToks, keyToksAll, List.singleton_append, List.cons_append, List.nil_append]
abbrev lx (a b : List (Int ⊕ List Nat)) : Bool := PyProof.Rows.lexLt itemOrd a b
theorem lx_same {a : Int ⊕ List Nat} (h : itemLt a a = false) (r t : List (Int ⊕ List Nat)) : lx (a :: r) (a :: t) = lx r t := by
  unfold lx
  rw [PyProof.Rows.lex_cons]
  show (itemLt a a || (!itemLt a a && _)) = _
  rw [h]
  rfl
theorem lx_gt {a b : Int ⊕ List Nat} (h : itemLt a b = true) (k : itemLt b a = false) (r t : List (Int ⊕ List Nat)) : lx (b :: r) (a :: t) = false := by
  unfold lx
  rw [PyProof.Rows.lex_cons]
  show (itemLt b a || (!itemLt a b && _)) = _
  rw [h, k]
  rfl
theorem lt_str (a b : Str) : itemLt (.inr a.cps.toList) (.inr b.cps.toList) = ltS a b := by
  show strKind.blt _ _ = _
  rfl
theorem lt_int (a b : Int) : itemLt (.inl a) (.inl b) = decide (a < b) := rfl
theorem lx_head (c : Str) (a b : List Str) : lx (tk z (c :: b)) (tk z (c :: a)) = lx (tk z b) (tk z a) := by
  rw [tk_cons, tk_cons, lx_same (by decide), lx_same (by rw [lt_str]; exact lt_irr c)]
theorem lx_up {c d : Str} (h : ltS c d = true) (a b : List Str) : lx (tk z (d :: b)) (tk z (c :: a)) = false := by
  rw [tk_cons, tk_cons, lx_same (by decide), lx_gt (by rw [lt_str]; exact h) (by rw [lt_str]; exact lt_asymm h)]
theorem lx_pre : ∀ o a b : List Str, lx (tk z (o ++ b)) (tk z (o ++ a)) = lx (tk z b) (tk z a)
  | [], a, b => rfl
  | c :: r, a, b => by rw [List.cons_append, List.cons_append, lx_head, lx_pre r]
theorem lx_cons {x y : Str} {r t : List Str} (h : lx (tk z (y :: t)) (tk z (x :: r)) = false) : ltS y x = false := by
  rw [tk_cons, tk_cons, lx_same (by decide)] at h
  unfold lx at h
  rw [PyProof.Rows.lex_cons] at h
  have h1 : (itemLt (.inr y.cps.toList) (.inr x.cps.toList) || _) = false := h
  rw [Bool.or_eq_false_iff, lt_str] at h1
  exact h1.1
theorem lx_app : ∀ {a b : List Str}, a.length = b.length → a ≠ b → lx (tk z b) (tk z a) = false → ∀ c d, lx (tk z (b ++ d)) (tk z (a ++ c)) = false
  | [], [], _, n, _, _, _ => absurd rfl n
  | x :: r, y :: t, hl, n, h, c, d => by
    by_cases e : x = y
    · subst e
      rw [lx_head] at h
      rw [List.cons_append, List.cons_append, lx_head]
      exact lx_app (by simpa using hl) (fun q => n (by rw [q])) h c d
    · refine lx_up ?_ _ _
      cases q : ltS x y with
      | true => rfl
      | false => exact absurd (lt_total q (lx_cons h)) e
/-- o stands before p or is p: as keys (length, tuple) -/
def leK (o p : List Str) : Bool := dataLe false id (keyS o) (keyS p)
def leT (o p : List Str) : Bool := dataLe false id (tupS o) (tupS p)
theorem keyK (p : List Str) : keyToks (keyS p) = .inl 1 :: .inl (p.length : Nat) :: .inl 1 :: tk [.inl 0] p := by
  unfold keyS tupS tk
  simp only [keyToks, keyToksAll, List.singleton_append, List.cons_append, List.nil_append]
theorem leK_eq (o p : List Str) : leK o p = !lx (keyToks (keyS p)) (keyToks (keyS o)) := rfl
theorem leK_len {o p : List Str} (h : o.length < p.length) : leK o p = true := by
  rw [leK_eq, keyK, keyK, lx_same (by decide), lx_gt (by rw [lt_int]; simp; omega) (by rw [lt_int]; simp; omega)]
  rfl
theorem leK_tk {o p : List Str} (h : o.length = p.length) : leK o p = !lx (tk [.inl 0] p) (tk [.inl 0] o) := by
  rw [leK_eq, keyK, keyK, lx_same (by decide), h, lx_same (by rw [lt_int]; simp), lx_same (by decide)]
/-! ### all tuples of different texts -/
def nexts (cs : List Str) (o : List Str) : List (List Str) := (cs.filter fun c => !decide (c ∈ o)).map fun c => o ++ [c]
def ords (cs : List Str) : Nat → List (List Str)
  | 0 => [[]]
  | k + 1 => (ords cs k).flatMap (nexts cs)
theorem nexts_len (cs o : List Str) : (nexts cs o).length ≤ cs.length := by
  unfold nexts
  rw [List.length_map]
  exact List.length_filter_le _ _
theorem flat_le {α β : Type} {f : α → List β} {n : Nat} (h : ∀ x, (f x).length ≤ n) : ∀ L : List α, (L.flatMap f).length ≤ L.length * n
  | [] => Nat.zero_le _
  | x :: r => by
    rw [List.flatMap_cons, List.length_append, List.length_cons, Nat.succ_mul]
    have := flat_le h r
    have := h x
    omega
theorem ords_mem {cs : List Str} : ∀ {k : Nat} {o : List Str}, o ∈ ords cs k ↔ (∀ c ∈ o, c ∈ cs) ∧ o.length = k ∧ o.Nodup
  | 0, o => by
    rw [ords, List.mem_singleton]
    constructor
    · rintro rfl
      exact ⟨(fun _ q => nomatch q), rfl, List.Pairwise.nil⟩
    · rintro ⟨_, h, _⟩
      exact List.eq_nil_of_length_eq_zero h
  | k + 1, o => by
    rw [ords, List.mem_flatMap]
    constructor
    · rintro ⟨p, hp, h⟩
      obtain ⟨q1, q2, q3⟩ := ords_mem.mp hp
      obtain ⟨c, hc, rfl⟩ := List.mem_map.mp h
      obtain ⟨hc1, hc2⟩ := List.mem_filter.mp hc
      refine ⟨fun d hd => ?_, by rw [List.length_append, q2]; rfl, List.nodup_append.mpr ⟨q3, by simp, fun a ha b hb e => ?_⟩⟩
      · rcases List.mem_append.mp hd with hd | hd
        · exact q1 d hd
        · rw [List.mem_singleton] at hd
          subst hd
          exact hc1
      · rw [List.mem_singleton] at hb
        subst hb
        subst e
        simp [ha] at hc2
    · rintro ⟨h1, h2, h3⟩
      have hne : o ≠ [] := fun e => by rw [e] at h2; cases h2
      have eo := List.dropLast_concat_getLast hne
      rw [← eo] at h1 h2 h3
      rw [List.length_append] at h2
      have h2 : o.dropLast.length + 1 = k + 1 := h2
      obtain ⟨n1, _, n3⟩ := List.nodup_append.mp h3
      refine ⟨o.dropLast, ords_mem.mpr ⟨fun c hc => h1 c (List.mem_append_left _ hc), by omega, n1⟩, ?_⟩
      rw [← eo, List.dropLast_concat]
      refine List.mem_map.mpr ⟨o.getLast hne, List.mem_filter.mpr ⟨h1 _ (by simp), ?_⟩, rfl⟩
      simpa using fun hc => n3 _ hc _ (List.mem_singleton_self _) rfl
/-- before, and another one -/
def Rl (a b : List Str) : Prop := (∀ z, lx (tk z b) (tk z a) = false) ∧ a ≠ b
theorem ords_up {cs : List Str} (h : Up cs) : ∀ k, (ords cs k).Pairwise Rl
  | 0 => List.pairwise_singleton _ _
  | k + 1 => by
    rw [ords, List.pairwise_flatMap]
    refine ⟨fun o _ => ?_, (ords_up h k).imp_of_mem fun {a b} ha hb r x hx y hy => ?_⟩
    · unfold nexts
      rw [List.pairwise_map]
      refine (List.Pairwise.sublist List.filter_sublist h).imp fun {c d} q => ⟨fun z => ?_, fun e => ?_⟩
      · rw [lx_pre]
        exact lx_up q [] []
      · have := List.append_cancel_left e
        injection this with this
        rw [this, lt_irr] at q
        cases q
    · obtain ⟨c, _, rfl⟩ := List.mem_map.mp hx
      obtain ⟨d, _, rfl⟩ := List.mem_map.mp hy
      have hl : a.length = b.length := (ords_mem.mp ha).2.1.trans (ords_mem.mp hb).2.1.symm
      refine ⟨fun z => lx_app hl r.2 (r.1 z) _ _, fun e => r.2 ?_⟩
      exact (List.append_inj e hl).1
/-- those of at most n texts that P likes, level by level -/
def lvls (P : List Str → Bool) (cs : List Str) : Nat → List (List Str)
  | 0 => []
  | n + 1 => lvls P cs n ++ (ords cs (n + 1)).filter P
theorem lvls_mem {P : List Str → Bool} {cs o : List Str} : ∀ {n : Nat}, o ∈ lvls P cs n ↔ P o = true ∧ (∀ c ∈ o, c ∈ cs) ∧ o.Nodup ∧ 1 ≤ o.length ∧ o.length ≤ n
  | 0 => by
    rw [lvls]
    exact ⟨(fun h => nomatch h), fun ⟨_, _, _, h1, h2⟩ => by omega⟩
  | n + 1 => by
    rw [lvls, List.mem_append, lvls_mem, List.mem_filter, ords_mem]
    constructor
    · rintro (⟨h1, h2, h3, h4, h5⟩ | ⟨⟨h1, h2, h3⟩, h4⟩)
      · exact ⟨h1, h2, h3, h4, by omega⟩
      · exact ⟨h4, h1, h3, by omega, by omega⟩
    · rintro ⟨h1, h2, h3, h4, h5⟩
      rcases Nat.lt_or_ge n o.length with q | q
      · exact .inr ⟨⟨h2, by omega, h3⟩, h1⟩
      · exact .inl ⟨h1, h2, h3, h4, q⟩
end Lxs

/-! Sets of tuples of texts: set(xs) and sorted of it, in the hand layer and over data. -/
namespace TxS
open PySem PySem.Spec PySem.W PySem.Calls PyProof.Rows L2
open Lxs (tupS)
/-- the set at a, without the tuples themselves -/
structure SetX0 (P : Program) (w : World) (h : Heap) (a : Addr) (L : List (Addr × List Str)) : Prop where
  ex : ∃ (es : Array (Int × Value)) (ep : Nat) (t : SetTable), (∃ o, h.get? a = some o ∧ o.ExactSet ∧ o.data = .set es ep t) ∧ (es.toList = L.map fun q => (hx P w q.2, Value.ref q.1)) ∧ TabOk t (L.map fun q => hx P w q.2) ∧ (L.map (·.2)).Nodup ∧
    (w.params.followText "set-order" = true ∨ t.led = true) ∧ L.length * 5 < t.mask * 3 ∧ L.length < 64
def SetXO (P : Program) (w : World) (a : Addr) (L : List (Addr × List Str)) : HO := .ext fun h => SetX0 P w h a L
theorem str_is (P : Program) (w : World) (x : Str) (t : Tok) : (strKind P w).is x (.str x t) = true := by
  show Value.isStrOf x (.str x t) = true
  unfold Value.isStrOf
  simp
/-- set(xs), xs a list of tuples of texts -/
def rSetX (K : PySem.W.Frag) (P : Program) (w : World) : List V → Hp → VK → Prop := fun xs H Q => ∃ (l : Addr) (ks : List (Addr × List Str)), xs = [V.ref l] ∧ SqL K H l (ks.map fun q => V.ref q.1) ∧ (∀ q ∈ ks, SqT K H q.1 (q.2.map V.str)) ∧ ks.length < 63 ∧
  ∀ a L, H a = none → (∀ q ∈ L, q ∈ ks) → (∀ q ∈ ks, q.2 ∈ L.map (·.2)) → Q (.ref a) (upd H a (SetXO P w a L))
/-! ### sorted -/
section
variable {P : Program} {w : World} {A : Around} {E : Value → Shared → Prop} {s : Shared} {a : Addr} {L : List (Addr × List Str)} {es : Array (Int × Value)} {ep : Nat} {t : SetTable}
end
abbrev leX (q r : Addr × List Str) : Bool := dataLe false (fun q : Addr × List Str => tupS q.2) q r
/-- sorted(set), the set's items tuples of texts -/
def rSortedX (K : PySem.W.Frag) (P : Program) (w : World) : List V → Hp → VK → Prop := fun vs H Q => ∃ (a : Addr) (L : List (Addr × List Str)), vs = [V.ref a] ∧ H a = some (SetXO P w a L) ∧ (∀ p ∈ L, SqT K H p.1 (p.2.map V.str)) ∧
  ((L.map (·.2)).Nodup → ((∀ p ∈ L, p.2 ≠ []) ∨ L.length ≤ 1) ∧ ∀ (L1 : List (Addr × List Str)) (p : Addr), L1.Perm L → H p = none → Q (.ref p) (upd H p (.lst ((L1.mergeSort leX).map fun q => V.ref q.1))))
end TxS

/-! Sets of tuples of whole numbers, up to 10,000, in the hand layer: set(xs), sorted, s.add. -/
namespace Tab
open PySem PySem.Spec PySem.W PySem.Calls PyProof.Rows L2
open Tq (rowD)
/-- the set at a, without the tuples themselves -/
structure Bag0 (P : Program) (w : World) (h : Heap) (a : Addr) (L : List (Addr × List Int)) : Prop where
  ex : ∃ (es : Array (Int × Value)) (ep : Nat) (t : SetTable), (∃ o, h.get? a = some o ∧ o.ExactSet ∧ o.data = .set es ep t) ∧ es.toList = rowsOf P w L ∧ Tb t (L.map fun p => thash P w p.2) ∧ (L.map (·.2)).Nodup ∧ t.plain = true ∧
    (w.params.followText "set-order" = true ∨ t.led = true) ∧ L.length * 5 < t.mask * 3 ∧ (t.mask ≤ 8191 ∨ (2000 < L.length ∧ t.mask ≤ 65535))
def BagO (P : Program) (w : World) (a : Addr) (L : List (Addr × List Int)) : HO := .ext fun h => Bag0 P w h a L
section
variable {P : Program} {w : World} {h : Heap} {a : Addr} {L : List (Addr × List Int)} {es : Array (Int × Value)} {ep : Nat} {t : SetTable}
theorem Bag.o0 (R : Bag P w h a L es ep t) : Bag0 P w h a L := ⟨es, ep, t, R.obj, R.row, R.tb, R.nd, R.pl, R.ld, R.room, R.small⟩
theorem Bag0.full (R : Bag0 P w h a L) (it : ∀ p ∈ L, IsT P w h p.2 p.1) : ∃ es ep t, Bag P w h a L es ep t := by
  obtain ⟨es, ep, t, h1, h2, h3, h4, h5, h6, h7, h8⟩ := R.ex
  exact ⟨es, ep, t, h1, h2, h3, h4, it, h5, h6, h7, h8⟩
theorem bagO_new {H : Hp} (R : Bag0 P w h a L) : ObjOk P w H h a (BagO P w a L) := by
  have ⟨es, ep, t, ⟨o, ho, r⟩, q⟩ := R.ex
  refine ⟨R, ⟨o, ho⟩, fun h1 h2 p k => ?_⟩
  have ⟨es', ep', t', ⟨o', ho', r'⟩, q'⟩ := Bag0.ex p
  exact ⟨es', ep', t', ⟨o', k o' ho', r'⟩, q'⟩
theorem bagO_fresh {H : Hp} {h : Heap} : ObjOk P w H (h.push (Tp.oSet w)) h.objs.size (BagO P w h.objs.size []) := bagO_new (Bag.o0 (bag_new (Heap.get?_push_size _ rfl)))
end
section
variable {X : Cx}
/-- set(xs), xs a list of tuples of whole numbers -/
def rSetB (K : PySem.W.Frag) (P : Program) (w : World) : List V → Hp → VK → Prop := fun xs H Q => ∃ (l : Addr) (ks : List (Addr × List Int)), xs = [V.ref l] ∧ SqL K H l (ks.map fun q => V.ref q.1) ∧ (∀ q ∈ ks, SqT K H q.1 (q.2.map V.int)) ∧ Roomy P w (ks.map (·.2)) ∧
  ∀ a L, H a = none → (∀ q ∈ L, q ∈ ks) → (∀ q ∈ ks, q.2 ∈ L.map (·.2)) → Q (.ref a) (upd H a (BagO P w a L))
theorem cr_setB (hc : X.calm = true) (hu : X.A.units + 64 < cLine) : CallR X (.type "set") (rSetB X.K X.prog X.w) := by
  intro pins s σ H xs us Q I r h
  obtain ⟨l, ks, rfl, hl, hk, hf, q⟩ := h
  rw [Vals.ref1 r]
  obtain ⟨its, rv, pl, hz⟩ := I.list hl
  have hn : H s.heap.objs.size = none := I.hok.fresh (Nat.le_refl _)
  refine call_set_listB (P := X.prog) (w := X.w) (I.ok.hd hc) pl.isList (by simpa using refs_of_vals rv) (fun q hq => I.isT (hk q hq)) hf (by omega) fun h' tk L es ep t R g k => ?_
  refine ⟨.ref s.heap.objs.size, upd H s.heap.objs.size (BagO X.prog X.w s.heap.objs.size L), I.laid (t' := tk) k (Nat.le_refl _) (bagO_new R.o0), rfl, q _ L hn (fun z hz => ?_) fun z hz => ?_⟩
  · exact List.mem_of_mem_take (g.sub z hz)
  · exact g.all z (by rw [List.take_length]; exact hz)
end
/-! ### sorted -/
section
variable {P : Program} {w : World} {A : Around} {E : Value → Shared → Prop} {s : Shared} {a : Addr} {L : List (Addr × List Int)} {es : Array (Int × Value)} {ep : Nat} {t : SetTable}
theorem bag_len (R : Bag P w s.heap a L es ep t) : L.length ≤ 100000 := by
  have r := R.room
  have sm := R.small
  omega
theorem sorted_bag {Q : Value → Shared → Prop} (R : Bag P w s.heap a L es ep t) (hh : A.handled = none) (hne : (∀ p ∈ L, p.2 ≠ []) ∨ L.length ≤ 1) (hu : A.units + 64 < cLine) (hr : ∀ q ∈ L, ∃ as, Reads s.heap (.ref q.1) (rowD q.2) as)
    (hQ : ∀ (s' : Shared) (p : Addr) (c : Nat) (L1 : List (Addr × List Int)), (∀ b o, s.heap.get? b = some o → s'.heap.get? b = some o) → s'.gens = s.gens → s'.os = s.os → s.heap.objs.size ≤ p →
      s'.heap.get? p = some (seqObj "list" ((L1.mergeSort (dataLe false fun q : Addr × List Int => rowD q.2)).map fun q => Value.ref q.1).toArray c) → L1.Perm L → Q (.ref p) s') :
    wpAny (model P w) A (call (.builtin "sorted") [.ref a]) Q E s := by
  have len := bag_len R
  have hes : es.toList.map (·.2) = L.map fun q => Value.ref q.1 := by
    rw [R.row, L2.rowsOf, List.map_map] <;> rfl
  have one : ∀ q ∈ L, ∀ r ∈ L, q.1 = r.1 → q = r := fun q hq r hr e => Prod.ext e (by
    have z := R.ist q hq
    rw [e] at z
    exact z.inj (R.ist r hr))
  have nd : L.Nodup := by
    have z := R.nd
    rw [List.Nodup, List.pairwise_map] at z
    exact z.imp fun {a b} h e => h (by rw [e])
  refine Calls.call_function_entry (id := "sorted") kind_sorted plain_sorted entry_sorted (args_sorted1 (.ref a)) ?_
  unfold Builtin.«sorted»
  refine wpAny_bind (m := checkCount "sorted" 1 1 _) (wpAny_pure (wpAny_bind ?_))
  refine bag_collect (A := A.in1) R hh (by rw [sizeLine_eq]; omega) fun s1 vs k1 hz g1 o1 pm => ?_
  rw [hes] at pm
  obtain ⟨L1, rfl, sub⟩ := Tq.refs_perm one fun v hv => pm.mem_iff.mp hv
  have pL := Tq.perm_of_refs one nd sub pm
  have hl : (L1.map fun q => Value.ref q.1).length = L.length := by rw [List.length_map, pL.length_eq]
  refine wpAny_bind (wpAny_newList ?_ (by rw [hl, sizeLine_eq]; omega))
  have hL : (s1.heap.push (seqObj "list" (L1.map fun q => Value.ref q.1).toArray 0)).get? s1.heap.objs.size = some (seqObj "list" (L1.map fun q => Value.ref q.1).toArray 0) := Heap.get?_push_size s1.heap rfl
  generalize hvs : (L1.map fun q => Value.ref q.1) = vs at hl hL pm
  have old : ∀ b o, s.heap.get? b = some o → (sortingHeap (s1.heap.push (seqObj "list" vs.toArray 0)) s1.heap.objs.size vs).get? b = some o := fun b o e => by
    have e1 := k1 b o e
    exact sortingHeap_old (Nat.ne_of_lt (Heap.lt_size e1)) (Heap.get?_push_of_some _ e1)
  have er : EachIs (fun (v : Value) (q : Addr × List Int) => ∃ as, Reads (sortingHeap (s1.heap.push (seqObj "list" vs.toArray 0)) s1.heap.objs.size vs) v (rowD q.2) as) vs L1 := by
    generalize sortingHeap (s1.heap.push (seqObj "list" vs.toArray 0)) s1.heap.objs.size vs = hz at old ⊢
    rw [← hvs]
    clear hvs hl hL pm pL
    revert sub
    induction L1 with
    | nil => exact fun _ => .nil
    | cons q r ih =>
      intro sub
      obtain ⟨as, h⟩ := hr q (sub q List.mem_cons_self)
      exact .cons ⟨as, PyProof.Rows.Reads.keeps (fun b o e => old b o e) h⟩ (ih fun z hz => sub z (List.mem_cons_of_mem _ hz))
  have ee : EachIs (fun (v : Value) (q : Addr × List Int) => v = Value.ref q.1) vs L1 := by
    rw [← hvs]
    clear hvs hl hL pm pL sub er old
    induction L1 with
    | nil => exact .nil
    | cons q r ih => exact .cons rfl ih
  have hal : AllAlike (L1.map fun q => rowD q.2) := AllAlike.of fun b b' => Tq.alike_rows b.2 b'.2
  have hdep : ∀ d, d ∈ L1.map (fun q : Addr × List Int => rowD q.2) → A.in1.units + 1 + d.depth < cLine := fun d hd => by
    obtain ⟨q, _, rfl⟩ := List.mem_map.mp hd
    have z : (rowD q.2).depth ≤ 2 := by
      show PyData.depthAll (q.2.map PyData.int) + 1 ≤ 2
      rw [depth_ints]
      omega
    show A.units + 1 + 1 + _ < cLine
    omega
  have er2 := each_map (R := fun v d => ∃ as, Reads (sortingHeap (s1.heap.push (seqObj "list" vs.toArray 0)) s1.heap.objs.size vs) v d as) (fun q : Addr × List Int => rowD q.2) er
  have S : SortsAt P w A.in1.in1 { s1 with heap := sortingHeap (s1.heap.push (seqObj "list" vs.toArray 0)) s1.heap.objs.size vs } (dataKind (sortingHeap (s1.heap.push (seqObj "list" vs.toArray 0)) s1.heap.objs.size vs) (L1.map fun q => rowD q.2)) vs := by
    rcases hne with h | h
    · exact SortsAt.data (s := { s1 with heap := sortingHeap (s1.heap.push (seqObj "list" vs.toArray 0)) s1.heap.objs.size vs }) er2 hal (.inl fun d hd => by
        obtain ⟨q, hq, rfl⟩ := List.mem_map.mp hd
        have z := h q (sub q hq)
        unfold rowD
        cases e : q.2 with
        | nil => exact absurd e z
        | cons x r => exact ⟨_, _, rfl⟩) hdep
    · exact SoK.sorts_one (s := { s1 with heap := sortingHeap (s1.heap.push (seqObj "list" vs.toArray 0)) s1.heap.objs.size vs }) er2 hal (fun d hd z => by
        obtain ⟨q, _, rfl⟩ := List.mem_map.mp hd
        cases z) (by rw [List.length_map, pL.length_eq]; exact h) hdep
  have sv := sortVals_data (enc := fun q : Addr × List Int => rowD q.2) false ee er hal
  refine wpAny_bind (wpAny_holding ?_)
  refine wpAny_call_entry slot_list_sort ⟨_, hL, rfl⟩ entry_list_sort (list_sort_vals (s := { s1 with heap := s1.heap.push (seqObj "list" vs.toArray 0) }) hL S (by rw [hl, sizeLine_eq]; omega) ⟨_, rfl, ?_⟩) (args_list_sort (.ref s1.heap.objs.size))
  have out : sortVals (dataKind (sortingHeap (s1.heap.push (seqObj "list" vs.toArray 0)) s1.heap.objs.size vs) (L1.map fun q => rowD q.2)) false vs vs = (L1.mergeSort (dataLe false fun q : Addr × List Int => rowD q.2)).map fun q => Value.ref q.1 := by
    generalize sortVals _ false vs vs = z at sv ⊢
    generalize L1.mergeSort _ = M at sv ⊢
    clear hQ hL S er er2 ee old hal hdep pL sub hl pm hvs
    induction sv with
    | nil => rfl
    | cons h t ih => rw [h, ih] <;> rfl
  rw [out]
  obtain ⟨c, hc⟩ := sortedHeap_at (vs := vs) (out := ((L1.mergeSort (dataLe false fun q : Addr × List Int => rowD q.2)).map fun q => Value.ref q.1).toArray) hL
  refine wpAny_pure ⟨_, rfl, hQ _ s1.heap.objs.size c L1 (fun b u e => ?_) g1 o1 hz hc pL⟩
  have e1 := k1 b u e
  have lt := Heap.lt_size e1
  exact (sortedHeap_old (Nat.ne_of_lt lt) (by rw [size_push']; exact Nat.lt_succ_of_lt lt)).trans (Heap.get?_push_of_some _ e1)
/-- s.add(x), x a tuple of whole numbers -/
theorem call_addB {x : Addr} {k : List Int} {Q : Value → Shared → Prop} (R : Bag P w s.heap a L es ep t) (hx : IsT P w s.heap k x) (hu : A.units + 8 < cLine) (ok : L.length ≤ 2000 ∨ Rare P w (L.map (·.2)) k) (few : k ∉ L.map (·.2) → L.length + 1 ≤ 10000)
    (hQ : ∀ h' L' es' ep' t' tk, Heap.SameBut a s.heap h' → Bag P w h' a L' es' ep' t' → (k ∈ L.map (·.2) → L' = L) → (k ∉ L.map (·.2) → L'.Perm ((x, k) :: L)) → Q .none { s with heap := h', toks := tk }) : wpAny (model P w) A (call (.builtin "set.add") [.ref a, .ref x]) Q E s := by
  obtain ⟨o, ho, ex, _⟩ := R.obj
  have ty : s.TypeIs (.ref a) "set" := ⟨o, ho, ex.1⟩
  refine wpAny_call_entry F.slot_set_add ty F.entry_set_add ?_ (F.args_set_add_2 (.ref a) (.ref x))
  unfold Builtin.«set.add» Builtin.Frozenset.oneOther Builtin.Frozenset.addrOf setAdd
  simp only [List.isEmpty_nil, bind_assoc]
  repeat' first | refine wpAny_bind (wpAny_pure ?_) | dsimp only
  refine wpAny_bind (wpAny_holding (wpAny_bind (wpAny_pyHash_tuple (by show A.units + 1 < cLine; omega) hx (addB (s := { s with toks := s.toks + (k.length + 1) }) R hx (by show A.units + 1 < cLine; omega) ok few fun b h' L' es' ep' t' sb R' c1 c2 => ?_))))
  exact wpAny_pure ⟨_, rfl, hQ h' L' es' ep' t' _ sb R' c1 c2⟩
end
abbrev leB (q r : Addr × List Int) : Bool := dataLe false (fun q : Addr × List Int => rowD q.2) q r
/-- sorted(set), the set's items tuples of whole numbers -/
def rSortedB (K : PySem.W.Frag) (P : Program) (w : World) : List V → Hp → VK → Prop := fun vs H Q => ∃ (a : Addr) (L : List (Addr × List Int)), vs = [V.ref a] ∧ H a = some (BagO P w a L) ∧ (∀ p ∈ L, SqT K H p.1 (p.2.map V.int)) ∧
  ((L.map (·.2)).Nodup → ((∀ p ∈ L, p.2 ≠ []) ∨ L.length ≤ 1) ∧ ∀ (L1 : List (Addr × List Int)) (p : Addr), L1.Perm L → H p = none → Q (.ref p) (upd H p (.lst ((L1.mergeSort leB).map fun q => V.ref q.1))))
/-- s.add(x) -/
def rAddB (K : PySem.W.Frag) (P : Program) (w : World) : V → List V → Hp → VK → Prop := fun y xs H Q => ∃ (a x : Addr) (k : List Int) (L : List (Addr × List Int)), y = V.ref a ∧ xs = [V.ref x] ∧ SqT K H x (k.map V.int) ∧ H a = some (BagO P w a L) ∧ (∀ p ∈ L, SqT K H p.1 (p.2.map V.int)) ∧
  ((L.map (·.2)).Nodup → (L.length ≤ 2000 ∨ Rare P w (L.map (·.2)) k) ∧ (k ∉ L.map (·.2) → L.length + 1 ≤ 10000) ∧ ∀ L', (k ∈ L.map (·.2) → L' = L) → (k ∉ L.map (·.2) → L'.Perm ((x, k) :: L)) → (L'.map (·.2)).Nodup → Q .non (upd H a (BagO P w a L')))
section
variable {X : Cx}
theorem cr_sortedB (hc : X.calm = true) (hu : X.A.units + 64 < cLine) : CallR X (.builtin "sorted") (rSortedB X.K X.prog X.w) := by
  intro pins s σ H vs us Q I r h
  obtain ⟨a, L, rfl, ha, hk, q⟩ := h
  obtain ⟨es, ep, t, R⟩ := (show Bag0 X.prog X.w s.heap a L from (I.hok a _ ha).1).full fun p hp => I.isT (hk p hp)
  rw [Vals.ref1 r]
  obtain ⟨hne, q⟩ := q R.nd
  have len := bag_len R
  refine sorted_bag R (I.ok.hd hc) hne hu (fun z hz => Dp.reads I (rowD z.2) (.ref z.1) (.ref z.1) (.tup (hk z hz) (Tq.dpi z.2)) rfl) fun s' p c L1 k g o hp hg pm => ?_
  have hn : H p = none := I.hok.fresh hp
  have J : Inv X pins σ (upd H p (.lst ((L1.mergeSort leB).map fun q => V.ref q.1))) { s with heap := s'.heap, gens := s'.gens, drawn := s'.drawn, toks := s'.toks } :=
    I.call (ch := []) (Un.laid k hp hn) (I.hok.laid k hp ⟨by rw [List.length_map, List.length_mergeSort, pm.length_eq, sizeLine_eq]; omega, _, c, Tq.refs_vals _, hg⟩) (by rw [g]; exact I.bare) (fun _ z => nomatch z)
  have e : s' = { s with heap := s'.heap, gens := s'.gens, drawn := s'.drawn, toks := s'.toks } := by
    cases s'
    cases s
    cases o
    rfl
  rw [e]
  exact ⟨.ref p, _, J, rfl, q L1 p pm hn⟩
theorem mt_addB (hu : X.A.units + 64 < cLine) : MtR X "set.add" (rAddB X.K X.prog X.w) := by
  intro pins s σ H y xs v us Q I ry rxs h
  obtain ⟨a, x, k, L, rfl, rfl, hx, ha, hk, q⟩ := h
  cases ry
  obtain ⟨u, rfl, ru⟩ := vals1 rxs
  cases ru
  obtain ⟨es, ep, t, R⟩ := (show Bag0 X.prog X.w s.heap a L from (I.hok a _ ha).1).full fun p hp => I.isT (hk p hp)
  obtain ⟨ok, few, q⟩ := q R.nd
  refine call_addB R (I.isT hx) (by omega) ok few fun h' L' es' ep' t' tk sb R' c1 c2 => ?_
  obtain ⟨o, ho, _⟩ := R'.obj
  exact ⟨.non, upd H a (BagO X.prog X.w a L'), I.write (e := a) (t' := tk) (by rw [ha]; trivial) (.inl rfl) (fun b z hb hz => (sb.2 b hb).trans hz) ⟨o, ho⟩ (bagO_new R'.o0), rfl, q L' c1 c2 R'.nd⟩
end
end Tab

/-! Lists of whole numbers in their order; chains through relations; the least closed row. -/
namespace Lx
open HT (lexLt)
theorem irr : ∀ a : List Int, lexLt a a = false
  | [] => rfl
  | x :: r => by rw [HT.lexLt_cons, if_pos rfl]; exact irr r
theorem tr {a b c : List Int} (h1 : lexLt a b = true) (h2 : lexLt b c = true) : lexLt a c = true := by
  induction a generalizing b c with
  | nil =>
    cases b with
    | nil => rw [HT.lexLt_nil_nil] at h1; cases h1
    | cons y b =>
      cases c with
      | nil => rw [HT.lexLt_cons_nil] at h2; cases h2
      | cons z c => rfl
  | cons x a ih =>
    cases b with
    | nil => rw [HT.lexLt_cons_nil] at h1; cases h1
    | cons y b =>
      cases c with
      | nil => rw [HT.lexLt_cons_nil] at h2; cases h2
      | cons z c =>
        rw [HT.lexLt_cons] at h1 h2 ⊢
        by_cases e : x = y
        · rw [if_pos e] at h1
          by_cases f : y = z
          · rw [if_pos f] at h2
            rw [if_pos (e.trans f)]
            exact ih h1 h2
          · rw [if_neg f] at h2
            rw [if_neg (by rw [e]; exact f), e]
            exact h2
        · rw [if_neg e] at h1
          have h1 := of_decide_eq_true h1
          by_cases f : y = z
          · rw [if_neg (by rw [← f]; exact e), ← f]
            exact decide_eq_true h1
          · rw [if_neg f] at h2
            have h2 := of_decide_eq_true h2
            rw [if_neg (by omega)]
            exact decide_eq_true (by omega)
def Asc (A : List (List Int)) : Prop := A.Pairwise fun a b => lexLt a b = true
/-! ### all lines -/
def lines (ns : List Int) : Nat → List (List Int)
  | 0 => [[]]
  | n + 1 => (lines ns n).flatMap fun l => ns.map fun x => l ++ [x]
theorem mem_lines {ns : List Int} : ∀ {n : Nat} {l : List Int}, l ∈ lines ns n ↔ l.length = n ∧ ∀ x ∈ l, x ∈ ns
  | 0, l => by
    unfold lines
    rw [List.mem_singleton]
    exact ⟨fun h => by rw [h]; exact ⟨rfl, fun _ z => nomatch z⟩, fun h => List.length_eq_zero_iff.mp h.1⟩
  | n + 1, l => by
    unfold lines
    rw [List.mem_flatMap]
    constructor
    · rintro ⟨k, hk, h⟩
      obtain ⟨x, hx, rfl⟩ := List.mem_map.mp h
      obtain ⟨h1, h2⟩ := mem_lines.mp hk
      refine ⟨by rw [List.length_append, h1, List.length_singleton], fun y hy => ?_⟩
      rcases List.mem_append.mp hy with hy | hy
      · exact h2 y hy
      · rw [List.mem_singleton.mp hy]; exact hx
    · rintro ⟨h1, h2⟩
      have ne : l ≠ [] := fun e => by rw [e] at h1; cases h1
      refine ⟨l.dropLast, mem_lines.mpr ⟨by rw [List.length_dropLast, h1] <;> rfl, fun x hx => h2 x (List.dropLast_subset l hx)⟩, List.mem_map.mpr ⟨l.getLast ne, h2 _ (List.getLast_mem ne), List.dropLast_concat_getLast ne⟩⟩
theorem lt_app : ∀ {a b : List Int} {x y : List Int}, a.length = b.length → lexLt a b = true → lexLt (a ++ x) (b ++ y) = true
  | [], [], _, _, _, h => by rw [HT.lexLt_nil_nil] at h; cases h
  | [], _ :: _, _, _, e, _ => by simp at e
  | _ :: _, [], _, _, e, _ => by simp at e
  | p :: a, q :: b, x, y, e, h => by
    rw [List.cons_append, List.cons_append]
    rw [HT.lexLt_cons] at h ⊢
    by_cases pq : p = q
    · rw [if_pos pq] at h ⊢
      exact lt_app (by simpa using e) h
    · rw [if_neg pq] at h ⊢
      exact h
theorem lt_same {x y : List Int} : ∀ (a : List Int), lexLt (a ++ x) (a ++ y) = lexLt x y
  | [] => rfl
  | p :: a => by rw [List.cons_append, List.cons_append, HT.lexLt_cons, if_pos rfl, lt_same a]
/-! ### chains -/
abbrev Rel := List (List Int)
def fst (r : List Int) : Int := r.getD 0 0
def snd (r : List Int) : Int := r.getD 1 0
def Pairs (r : Rel) : Prop := ∀ p ∈ r, p.length = 2
theorem pair_eq {p : List Int} (h : p.length = 2) : p = [fst p, snd p] := by
  cases p with
  | nil => cases h
  | cons a t =>
    cases t with
    | nil => cases h
    | cons b u =>
      cases u with
      | nil => rfl
      | cons c v => simp at h
def Chain : List Rel → Int → Int → Prop
  | [], v, s => v = s
  | r :: rs, v, s => ∃ x, [v, x] ∈ r ∧ Chain rs x s
def back (r : Rel) (c : List Int) : List Int := Sl.once ((r.filter fun p => decide (snd p ∈ c)).map fst)
def cls : List Rel → Int → List (List Int)
  | [], s => [[s]]
  | r :: rs, s => back r ((cls rs s).headD []) :: cls rs s
theorem mem_back {r : Rel} {c : List Int} {v : Int} (h : Pairs r) : v ∈ back r c ↔ ∃ x, [v, x] ∈ r ∧ x ∈ c := by
  unfold back
  rw [Sl.once_memA, List.mem_map]
  constructor
  · rintro ⟨p, hp, rfl⟩
    obtain ⟨h1, h2⟩ := List.mem_filter.mp hp
    exact ⟨snd p, by rw [← pair_eq (h p h1)]; exact h1, of_decide_eq_true h2⟩
  · rintro ⟨x, h1, h2⟩
    exact ⟨[v, x], List.mem_filter.mpr ⟨h1, decide_eq_true h2⟩, rfl⟩
theorem mem_cls : ∀ {rs : List Rel} {v s : Int}, (∀ r ∈ rs, Pairs r) → (v ∈ (cls rs s).headD [] ↔ Chain rs v s)
  | [], v, s, _ => by
    show v ∈ [s] ↔ v = s
    exact List.mem_singleton
  | r :: rs, v, s, h => by
    show v ∈ back r ((cls rs s).headD []) ↔ ∃ x, [v, x] ∈ r ∧ Chain rs x s
    rw [mem_back (h r List.mem_cons_self)]
    constructor
    · rintro ⟨x, h1, h2⟩
      exact ⟨x, h1, (mem_cls fun q hq => h q (List.mem_cons_of_mem _ hq)).mp h2⟩
    · rintro ⟨x, h1, h2⟩
      exact ⟨x, h1, (mem_cls fun q hq => h q (List.mem_cons_of_mem _ hq)).mpr h2⟩
/-- a row through the relations, from its first number to s -/
def Path : List Rel → List Int → Int → Prop
  | [], _, _ => False
  | r :: rs, l, s => match rs, l with
    | [], [v] => [v, s] ∈ r
    | _ :: _, v :: w :: t => [v, w] ∈ r ∧ Path rs (w :: t) s
    | _, _ => False
def nextI (r : Rel) (c : List Int) (v : Int) : Int := ((r.filter fun p => decide (fst p = v) && decide (snd p ∈ c)).map snd).headD 0
def walk : List Rel → List (List Int) → Int → List Int
  | [], _, _ => []
  | r :: rs, cs, v => match rs, cs with
    | _ :: _, c :: ct => v :: walk rs ct (nextI r c v)
    | _, _ => [v]
theorem nextI_ok {r : Rel} {c : List Int} {v : Int} (hp : Pairs r) (ha : Asc r) (h : ∃ x, [v, x] ∈ r ∧ x ∈ c) : [v, nextI r c v] ∈ r ∧ nextI r c v ∈ c ∧ ∀ x, [v, x] ∈ r → x ∈ c → nextI r c v ≤ x := by
  have key : ∀ q : Rel, Pairs q → Asc q → (∃ x, [v, x] ∈ q ∧ x ∈ c) → [v, nextI q c v] ∈ q ∧ nextI q c v ∈ c ∧ ∀ x, [v, x] ∈ q → x ∈ c → nextI q c v ≤ x := by
    intro q
    induction q with
    | nil => rintro _ _ ⟨x, h, _⟩; cases h
    | cons p q ih =>
      intro hp ha hx
      have ep := pair_eq (hp p List.mem_cons_self)
      obtain ⟨h1, h2⟩ := List.pairwise_cons.mp ha
      by_cases t : (decide (fst p = v) && decide (snd p ∈ c)) = true
      · have en : nextI (p :: q) c v = snd p := by
          unfold nextI
          rw [List.filter_cons, if_pos t]
          rfl
        rw [Bool.and_eq_true] at t
        have t1 := of_decide_eq_true t.1
        have t2 := of_decide_eq_true t.2
        rw [en]
        refine ⟨by rw [← t1, ← ep]; exact List.mem_cons_self, t2, fun x hx hc => ?_⟩
        rcases List.mem_cons.mp hx with e | hx
        · rw [← e]
          exact Int.le_refl _
        · have z := h1 _ hx
          rw [ep, t1, HT.lexLt_cons, if_pos rfl, HT.lexLt_cons] at z
          by_cases e : snd p = x
          · omega
          · rw [if_neg e] at z
            have := of_decide_eq_true z
            omega
      · have en : nextI (p :: q) c v = nextI q c v := by
          unfold nextI
          rw [List.filter_cons, if_neg t]
        rw [en]
        have no : ∀ x, [v, x] ∈ p :: q → x ∈ c → [v, x] ∈ q := fun x hx hc => by
          rcases List.mem_cons.mp hx with e | hx
          · exact absurd (by rw [← e]; simp [fst, snd, hc]) t
          · exact hx
        obtain ⟨x, hx1, hx2⟩ := hx
        obtain ⟨i1, i2, i3⟩ := ih (fun y hy => hp y (List.mem_cons_of_mem _ hy)) h2 ⟨x, no x hx1 hx2, hx2⟩
        exact ⟨List.mem_cons_of_mem _ i1, i2, fun y hy hc => i3 y (no y hy hc) hc⟩
  exact key r hp ha h
where path_chain {s : Int} : ∀ {rs : List Rel} {w : Int} {l : List Int}, Path rs (w :: l) s → Chain rs w s
  | [], _, _, h => h.elim
  | [r], w, l, h => by
    cases l with
    | nil => exact ⟨s, h, rfl⟩
    | cons a t => exact h.elim
  | r :: r2 :: rs, w, l, h => by
    cases l with
    | nil => exact h.elim
    | cons a t => exact ⟨a, h.1, path_chain h.2⟩
end Lx

/-! The order of tuples of whole numbers, as sorted goes. -/
namespace Tab
open PySem PySem.Spec PySem.W PySem.Calls PyProof.Rows L2
open HT (lexLt)
open Tq (rowD leD)
abbrev lxI (a b : List (Int ⊕ List Nat)) : Bool := PyProof.Rows.lexLt itemOrd a b
theorem toks_cons (x : Int) (r : List Int) : keyToksAll ((x :: r).map PyData.int) = .inl 1 :: .inl x :: keyToksAll (r.map .int) := by
  simp only [List.map_cons, keyToks, keyToksAll, List.singleton_append, List.cons_append, List.nil_append]
theorem lxI_same {a : Int ⊕ List Nat} (h : itemLt a a = false) (r t : List (Int ⊕ List Nat)) : lxI (a :: r) (a :: t) = lxI r t := by
  unfold lxI
  rw [PyProof.Rows.lex_cons]
  show (itemLt a a || (!itemLt a a && _)) = _
  rw [h] <;> rfl
theorem lxI_ne {x y : Int} (ne : x ≠ y) (r t : List (Int ⊕ List Nat)) : lxI (.inl x :: r) (.inl y :: t) = decide (x < y) := by
  unfold lxI
  rw [PyProof.Rows.lex_cons]
  show (decide (x < y) || (!decide (y < x) && _)) = _
  by_cases c : x < y
  · rw [decide_eq_true c] <;> rfl
  · rw [decide_eq_false c, decide_eq_true (show y < x by omega)] <;> rfl
theorem lxI_rows : ∀ a b : List Int, lxI (keyToksAll (a.map PyData.int)) (keyToksAll (b.map PyData.int)) = lexLt a b
  | [], [] => rfl
  | [], y :: b => by rw [toks_cons] <;> rfl
  | x :: a, [] => by rw [toks_cons] <;> rfl
  | x :: a, y :: b => by
    rw [toks_cons, toks_cons, lxI_same (by decide), HT.lexLt_cons]
    by_cases c : x = y
    · rw [if_pos c, c, lxI_same (by show decide (y < y) = false; simp), lxI_rows a b]
    · rw [if_neg c, lxI_ne c]
theorem leD_eq (a b : List Int) : leD a b = !lexLt b a := by
  rw [← lxI_rows]
  show (!lxI (keyToks (rowD b)) (keyToks (rowD a))) = _
  unfold rowD
  simp only [keyToks]
theorem leB_eq (p q : Addr × List Int) : leB p q = !lexLt q.2 p.2 := leD_eq p.2 q.2
theorem lex_total : ∀ a b : List Int, lexLt a b = true ∨ a = b ∨ lexLt b a = true
  | [], [] => .inr (.inl rfl)
  | [], _ :: _ => .inl rfl
  | _ :: _, [] => .inr (.inr rfl)
  | x :: a, y :: b => by
    rw [HT.lexLt_cons, HT.lexLt_cons]
    by_cases e : x = y
    · rw [if_pos e, if_pos e.symm, e]
      exact (lex_total a b).imp id (Or.imp (fun q => by rw [q]) id)
    · rw [if_neg e, if_neg (Ne.symm e)]
      rcases Int.lt_or_gt_of_ne e with q | q
      · exact .inl (decide_eq_true q)
      · exact .inr (.inr (decide_eq_true q))
theorem leB_total : TotalLe leB := sortLe_total (listOrd itemOrd) false fun q : Addr × List Int => keyToks (rowD q.2)
/-- what sorted lays, of a set's tuples -/
theorem sorted_asc {L : List (Addr × List Int)} (nd : (L.map (·.2)).Nodup) : Lx.Asc ((L.mergeSort leB).map (·.2)) := by
  have pw := List.pairwise_mergeSort (le := leB) (fun a b c h1 h2 => leB_total.trans _ _ _ h1 h2) (fun a b => by rcases leB_total.total a b with q | q <;> rw [q] <;> simp) L
  have n2 : ((L.mergeSort leB).map (·.2)).Nodup := ((List.mergeSort_perm L leB).map (·.2)).nodup_iff.mpr nd
  unfold Lx.Asc
  rw [List.Nodup, List.pairwise_map] at n2
  rw [List.pairwise_map]
  refine (pw.and n2).imp fun {a b} ⟨h, ne⟩ => ?_
  rw [leB_eq, Bool.not_eq_true'] at h
  rcases lex_total a.2 b.2 with q | q | q
  · exact q
  · exact absurd q ne
  · rw [h] at q
    cases q
theorem asc_one : ∀ {a b : List (List Int)}, Lx.Asc a → Lx.Asc b → (∀ y, y ∈ a ↔ y ∈ b) → a = b := fun {a b} h1 h2 m => by
  have nd : ∀ {c : List (List Int)}, Lx.Asc c → c.Nodup := fun h => h.imp fun {x y} q e => by
    rw [e, Lx.irr] at q
    cases q
  refine List.Perm.eq_of_pairwise (le := fun a b => HT.lexLt a b = true) (fun x y _ _ q1 q2 => ?_) h1 h2 ((List.perm_ext_iff_of_nodup (nd h1) (nd h2)).mpr m)
  have z := Lx.tr q1 q2
  rw [Lx.irr] at z
  cases z
/-! ### hashes of rows, without a program -/
def hashT (k : List Int) : Int := reduceHash (Builtin.Tuple.tupleHashOf (k.map hashInt))
def RareT (F : List (List Int)) (k : List Int) : Prop := ∀ a ∈ F, ∀ b ∈ F, hashT a = hashT k → hashT b = hashT k → a ≠ k → b ≠ k → a = b
def RoomyT (F : List (List Int)) : Prop := F.length ≤ 2000 ∨ (F.length ≤ 10000 ∧ ∀ k ∈ F, RareT F k)
theorem RoomyT.roomy {P : Program} {w : World} {F : List (List Int)} (h : RoomyT F) : Roomy P w F := h
end Tab

/-! Data ways: sorted(set(xs)) and sorted({e for x in xs if .. for y in ys if ..}) of tuples of whole numbers. -/
namespace Tab
open PySem PySem.Spec PySem.W PySem.Calls PyProof.Rows L2 Dw
open HT (lexLt)
open Tq (rowD leD)
/-- sorted of a list of rows that is ascending but for its order -/
theorem sortD_rows {M A : List (List Int)} (p : M.Perm A) (h : Lx.Asc A) : sortD (M.map rowD) = A.map rowD := by
  have tot : TotalLe leD := sortLe_total (listOrd itemOrd) false fun q : List Int => keyToks (rowD q)
  have e : M.mergeSort leD = A := by
    have hp : (M.mergeSort leD).Pairwise (fun a b => leD a b = true) := List.pairwise_mergeSort (le := leD) (fun a b c h1 h2 => tot.trans _ _ _ h1 h2) (fun a b => by rcases tot.total a b with q | q <;> rw [q] <;> simp) _
    refine List.Perm.eq_of_pairwise (le := fun a b => leD a b = true) (fun a b _ _ q1 q2 => ?_) hp (h.imp fun {a b} q => ?_) ((List.mergeSort_perm _ _).trans p)
    · rw [leD_eq, Bool.not_eq_true'] at q1 q2
      rcases lex_total a b with q | q | q
      · rw [q2] at q; cases q
      · exact q
      · rw [q1] at q; cases q
    · rw [leD_eq, Bool.not_eq_true']
      cases z : lexLt b a with
      | false => rfl
      | true =>
        have u := Lx.tr q z
        rw [Lx.irr] at u
        cases u
  rw [← e]
  exact (sort_maps (r := leD) (s := dataLe false id) rowD fun _ _ _ _ => rfl).symm
section
variable {X : Cx}
/-- {e for x in xs if .. for y in ys if ..}, the items tuples of whole numbers -/
theorem pe_bag2 {elt tg iter tg1 iter1 : Expr} {ifs ifs1 : List Expr} {scope : Scope} {own : List (PySem.Str × Nat)} {ow1 : List Nat} {pos : Pos} {wi wi1 : TI} {g g1 : TG} {tt tt1 : TT} {te : TE} (hc : X.calm = true) (hN : X.N.Nodup) (hu : X.A.units + 64 < cLine) (hi : PI X tg iter wi) (ok : BlkOk X.N X.env.scope scope own) (hv : ∀ i ∈ ow1, i ∈ own.map (·.2))
    (hg : ∀ (s : Shared) (H : Hp) (C : Addr) (cl : List (PySem.Str × Addr)) (fp : List Addr), PG (X.blk s H scope (compEnvC scope cl C X.env) fp) tg g)
    (ht : ∀ (s : Shared) (H : Hp) (C : Addr) (cl : List (PySem.Str × Addr)) (fp : List Addr), PTs (X.blk s H scope (compEnvC scope cl C X.env) fp) ifs tt)
    (hi1 : ∀ (s : Shared) (H : Hp) (C : Addr) (cl : List (PySem.Str × Addr)) (fp : List Addr), PI (X.blk s H scope (compEnvC scope cl C X.env) fp) tg1 iter1 wi1)
    (hg1 : ∀ (s : Shared) (H : Hp) (C : Addr) (cl : List (PySem.Str × Addr)) (fp : List Addr), PG (X.blk s H scope (compEnvC scope cl C X.env) fp) tg1 g1)
    (ht1 : ∀ (s : Shared) (H : Hp) (C : Addr) (cl : List (PySem.Str × Addr)) (fp : List Addr), PTs (X.blk s H scope (compEnvC scope cl C X.env) fp) ifs1 tt1)
    (he : ∀ (s : Shared) (H : Hp) (C : Addr) (cl : List (PySem.Str × Addr)) (fp : List Addr), PE (X.blk s H scope (compEnvC scope cl C X.env) fp) elt te)
    (hs : ∀ x, foldedSetIterable iter X.env x = pure x := by intro _; rfl) (hs1 : ∀ env x, foldedSetIterable iter1 env x = pure x := by intro _ _; rfl) :
    PE X (.SetComp elt [⟨tg, iter, ifs, 0⟩, ⟨tg1, iter1, ifs1, 0⟩] scope pos) (Tp.tSg2 (fun D => BagO X.prog X.w D []) (rAddB X.K X.prog X.w) wi g tt wi1 g1 tt1 te (own.map (·.2)) ow1) :=
  Tp.pe_sg2 hc hN (fun {_ _} => bagO_fresh) (fun Y hp hw hk ha => by
    have z := mt_addB (X := Y) (by rw [ha]; exact hu)
    rw [hp, hw, hk] at z
    exact z) hi ok hv hg ht hi1 hg1 ht1 he hs hs1
end
end Tab
namespace Dw
open PySem PySem.Spec PySem.W PySem.Calls PyProof.Rows L2 Dr Rp
open Tq (rowD)
open Tab (RoomyT)
variable [Dw.LamReg]
section
variable {K : PySem.W.Frag} {G : Hp}
theorem ints_atR {vs : List V} {xs : List Int} (h : DtAll K G vs (xs.map PyData.int)) : vs = xs.map V.int := by
  induction xs generalizing vs with
  | nil => cases h; rfl
  | cons x r ih =>
    cases h with
    | cons a t =>
      cases a
      rw [ih t] <;> rfl
theorem dts_intsR : ∀ xs : List Int, DtAll K G (xs.map V.int) (xs.map PyData.int)
  | [] => .nil
  | x :: r => .cons (.int x) (dts_intsR r)
theorem row_at {v : V} {x : List Int} (h : Dt K G v (.tuple (x.map .int))) : ∃ a, v = .ref a ∧ Tn.SqN K G a (x.map V.int) := by
  cases h with
  | tup h4 h5 =>
    rw [ints_atR h5] at h4
    exact ⟨_, rfl, h4⟩
theorem rows_data : ∀ {vs : List V} {xs : List (List Int)}, DtAll K G vs (xs.map rowD) → ∃ ks : List (Addr × List Int), vs = ks.map (fun q => V.ref q.1) ∧ ks.map (·.2) = xs ∧ ∀ q ∈ ks, Tn.SqN K G q.1 (q.2.map V.int)
  | _, [], h => by
    cases h
    exact ⟨[], rfl, rfl, fun q hq => nomatch hq⟩
  | _, x :: r, h => by
    cases h with
    | cons a t =>
      obtain ⟨ks, rfl, h2, h3⟩ := rows_data (xs := r) t
      obtain ⟨y, rfl, h4⟩ := row_at (x := x) a
      refine ⟨(y, x) :: ks, rfl, by rw [List.map_cons, h2], fun q hq => ?_⟩
      rcases List.mem_cons.mp hq with rfl | hq
      · exact h4
      · exact h3 q hq
theorem data_rows : ∀ {ks : List (Addr × List Int)}, (∀ q ∈ ks, Tn.SqN K G q.1 (q.2.map V.int)) → DtAll K G (ks.map fun q => V.ref q.1) ((ks.map (·.2)).map rowD)
  | [], _ => .nil
  | q :: r, h => .cons (.tup (h q List.mem_cons_self) (dts_intsR _)) (data_rows fun z hz => h z (List.mem_cons_of_mem _ hz))
end
theorem NT.bag {P : Program} {w : World} {a : Addr} {L : List (Addr × List Int)} : NT (Tab.BagO P w a L) := ⟨fun _ => ⟨(fun e => nomatch e), (fun _ e => nomatch e)⟩, fun _ e => nomatch e⟩
theorem NTb.bag {P : Program} {w : World} {D : Addr} {L : List (Addr × List Int)} : NTb (Tab.BagO P w D L) := by
  refine ⟨(fun _ e => nomatch e), fun c q e => ?_⟩
  unfold Tab.BagO LamX.CodeO at e
  have e := HO.ext.inj e
  let ob : Obj := { cls := .none, dict := none, data := .fields #[.none, .str q 0] }
  have g : ∀ a, a < c + D + 1 → (⟨Array.replicate (c + D + 1) ob, {}⟩ : Heap).get? a = some ob := fun a h => by
    unfold Heap.get?
    rw [Array.getElem?_replicate, if_pos h]
  have z : Tab.Bag0 P w ⟨Array.replicate (c + D + 1) ob, {}⟩ D L := by
    rw [congrFun e ⟨Array.replicate (c + D + 1) ob, {}⟩]
    exact ⟨ob, _, 0, g c (Nat.lt_succ_of_le (Nat.le_add_right c D)), rfl, rfl⟩
  obtain ⟨es, ep, t, ⟨o, h1, _, h2⟩, _⟩ := z.ex
  rw [g D (Nat.lt_succ_of_le (Nat.le_add_left D c))] at h1
  cases h1
  cases h2
def wSortSetB : EV → (EV → Prop) → Prop
  | .py (.list ds), P => ∃ xs : List (List Int), ds = xs.map rowD ∧ RoomyT xs ∧ (∀ x ∈ xs, x ≠ []) ∧ ∀ ys : List (List Int), Lx.Asc ys → (∀ y, y ∈ ys ↔ y ∈ xs) → P (.py (.list (ys.map rowD)))
  | _, _ => False
def wSgGoB (F : List (List Int)) (g : WGt) (t : WT) (f : WF) (ρ : EnvD) : List EV → List (List Int) → (List (List Int) → Prop) → Prop
  | [], acc, P => P acc
  | x :: r, acc, P => g x ρ fun ρ' => t ρ' fun b => if b = true then f ρ' fun e => match e with
    | .py d => ∃ k : List Int, d = rowD k ∧ k ∈ F ∧ k ≠ [] ∧ wSgGoB F g t f ρ r (acc ++ [k]) P
    | _ => False
    else wSgGoB F g t f ρ r acc P
def wSg2GoB (F : List (List Int)) (g : WGt) (t : WT) (fi1 : WA) (g1 : WGt) (t1 : WT) (f : WF) (vs1 : List Nat) (ρ : EnvD) : List EV → List (List Int) → (List (List Int) → Prop) → Prop
  | [], acc, P => P acc
  | x :: r, acc, P => g x ρ fun ρ2 => t ρ2 fun b => if b = true then noOwn ρ2 vs1 ∧ fi1 ρ2 fun ys => wSgGoB F g1 t1 f (wipeE ρ2 vs1) ys acc fun acc' => wSg2GoB F g t fi1 g1 t1 f vs1 ρ r acc' P
    else wSg2GoB F g t fi1 g1 t1 f vs1 ρ r acc P
def wSg2B (fi : WA) (g : WGt) (t : WT) (fi1 : WA) (g1 : WGt) (t1 : WT) (f : WF) (vs vs1 : List Nat) : WF := fun ρ P => noOwn ρ vs ∧ fi ρ fun xs => ∃ F : List (List Int), RoomyT F ∧ wSg2GoB F g t fi1 g1 t1 f vs1 (wipeE ρ vs) xs [] fun acc => ∀ ys : List (List Int), Lx.Asc ys → (∀ y, y ∈ ys ↔ y ∈ acc) → P (.py (.list (ys.map rowD)))
/-- a set of rows at D: those told so far -/
def SetB (K : PySem.W.Frag) (P : Program) (w : World) (L' : Addr → Prop) (F : List (List Int)) (H : Hp) (D : Addr) (acc : List (List Int)) : Prop := ∃ Lk, H D = some (Tab.BagO P w D Lk) ∧ (∀ y, y ∈ Lk.map (·.2) ↔ y ∈ acc) ∧ (∀ q ∈ Lk, Tn.SqN K (ctL L' H) q.1 (q.2.map V.int)) ∧ ∀ y ∈ acc, y ∈ F ∧ y ≠ []
theorem SetB.at {K : PySem.W.Frag} {P : Program} {w : World} {L' : Addr → Prop} {F : List (List Int)} {H H' : Hp} {D : Addr} {acc : List (List Int)} (h : SetB K P w L' F H D acc) (e : H' D = H D) (sr : SameR (ctL L' H) (ctL L' H')) : SetB K P w L' F H' D acc := by
  obtain ⟨Lk, h1, h2, h3, h4⟩ := h
  exact ⟨Lk, e.trans h1, h2, fun q hq => sr.sqn (h3 q hq), h4⟩
section
variable {X : Cx} {m : Mode}
theorem dsortsetB {a : Expr} {fa : WF} {q q2 pos pos2 : Pos} (hc : X.calm = true) (hu : X.A.units + 64 < cLine) (ha : PE X a (tW X.K .read fa)) (hg : Gl X "sorted") (ht : X.mg "sorted" = none) (hg2 : Gl X "set") (ht2 : X.mg "set" = none) (hv : bootBuiltins "sorted" = some (.builtin "sorted") := by decide +kernel) (hv2 : bootBuiltins "set" = some (.type "set") := by decide +kernel)
    (hs : starEach [.Call (.Name "set" q2) [a] [] pos2] X.env = (false, eval (.Call (.Name "set" q2) [a] [] pos2) X.env) :: starEach [] X.env := by rfl) (hs2 : starEach [a] X.env = (false, eval a X.env) :: starEach [] X.env := by rfl) :
    PE X (.Call (.Name "sorted" q) [.Call (.Name "set" q2) [a] [] pos2] [] pos) (tW X.K m (w1 fa wSortSetB)) :=
  k1 (ma := .read) (g := wSortSetB) (fun x H Q => Tab.rSetB X.K X.prog X.w [x] H fun y H1 => Tab.rSortedB X.K X.prog X.w [y] H1 Q) (by decide)
    (pe_callB (show CallR _ _ (Tab.rSortedB X.K X.prog X.w) from Tab.cr_sortedB hc hu) hg ht hv (pa_cons (pe_callTy (show CallR _ (.type "set") (Tab.rSetB X.K X.prog X.w) from Tab.cr_setB hc hu) hg2 ht2 hv2 (pa_cons ha pa_nil hs2) (by decide) (by decide) hs2 (by rfl)) pa_nil hs) (by decide) (by decide) hs (by rfl)) fun L p H0 H v a P Q o ra hg k => by
    unfold wSortSetB at hg
    split at hg
    · obtain ⟨xs, rfl, h3, h4, h5⟩ := hg
      obtain ⟨a, vs, rfl, h6, h7⟩ := ra.list
      obtain ⟨ks, rfl, e2, h8⟩ := rows_data h7
      have tup : ∀ q ∈ ks, SqT X.K H q.1 (q.2.map V.int) := fun q hq => SameR.sqt ctL_all (h8 q hq).t
      refine ⟨a, ks, rfl, .inl h6, tup, by rw [e2]; exact h3, fun p1 L1 np l1 l2 => ?_⟩
      have s1 : Stp L p H (upd H p1 (Tab.BagO X.prog X.w p1 L1)) := Stp.new o.ne np
      have o1 := o.new (u := Tab.BagO X.prog X.w p1 L1) np
      have ct1 : SameR (ctL L H) (ctL L (upd H p1 (Tab.BagO X.prog X.w p1 L1))) := s1.ct o
      refine ⟨p1, L1, rfl, upd_same, fun q hq => (SameR.of (smu np)).sqt (tup q (l1 q hq)), fun nd => ⟨.inl fun q hq => h4 _ (by rw [← e2]; exact List.mem_map_of_mem (l1 q hq)), fun L2 p2 pm np2 => ?_⟩⟩
      have ps : (L2.mergeSort Tab.leB).Perm L1 := (List.mergeSort_perm _ _).trans pm
      have g := h5 ((L2.mergeSort Tab.leB).map (·.2)) (Tab.sorted_asc ((pm.map (·.2)).nodup_iff.mpr nd)) (fun y => by
        rw [(ps.map (·.2)).mem_iff, ← e2]
        constructor
        · intro h
          obtain ⟨q, hq, rfl⟩ := List.mem_map.mp h
          exact List.mem_map_of_mem (l1 q hq)
        · intro h
          obtain ⟨q, hq, rfl⟩ := List.mem_map.mp h
          exact l2 q hq)
      exact Go.lst (m := m) (H := upd H p1 (Tab.BagO X.prog X.w p1 L1)) (fun b H' v' hb s' o' r' => k b H' v' hb (s1.trans s') o' (r'.base s1)) o1 g (data_rows fun q hq => ct1.sqn (h8 q (l1 q (ps.mem_iff.mp hq)))) np2
    · exact hg.elim
theorem sg2_readB {K : PySem.W.Frag} {P0 : Program} {w0 : World} {fi fi1 : WA} {g g1 : WGt} {t t1 : WT} {f : WF} {vs vs1 : List Nat} {σ : L2.St} {H : Hp} {Q : VK} (q : tW K m (wSg2B fi g t fi1 g1 t1 f vs vs1) σ H Q) :
    Tp.tSg2 (fun D => Tab.BagO P0 w0 D []) (Tab.rAddB K P0 w0) (tI K .read fi) (tWG K vs g) (tWT K t) (tI K .read fi1) (tWG K vs1 g1) (tWT K t1) (tW K .data f) vs vs1 σ H (fun y H1 => Tab.rSortedB K P0 w0 [y] H1 Q) := by
  obtain ⟨He, Lc, os, p, gs, ρ, P, E, ⟨hno, hf⟩, k⟩ := q
  refine ⟨He, Lc, os, p, gs, ρ, _, E, hf, fun xs gh J H1 hP s o hg hI => ?_⟩
  obtain ⟨F, roomy, hP⟩ := hP
  have E1 := E.step s o
  intro D hD
  have nLD : ¬ Ls Lc os D := fun l => o.ne D l hD
  have npD : p.q ≠ some D := fun e => nLD (o.str D e).1
  have toL : ∀ b, Ls (Ins Lc D) os b → Ls Lc os b ∨ b = D := fun b l => by
    rcases l with (l | l) | l
    · exact .inl (.inl l)
    · exact .inr l
    · exact .inl (.inr l)
  have ofL : ∀ b, Ls Lc os b → Ls (Ins Lc D) os b := fun b l => by
    rcases l with l | l
    · exact .inl (.inl l)
    · exact .inr l
  have LD : Ls (Ins Lc D) os D := .inl (.inr rfl)
  have nOD : ∀ i a, os i = some a → a ≠ D := fun i a h e => nLD (.inr ⟨i, by rw [← e]; exact h⟩)
  have nDg : ∀ {gh : Gh} {H2 : Hp}, GhR K p (Ls (Ins Lc D) os) H2 gh → (∃ Lk, H2 D = some (Tab.BagO P0 w0 D Lk)) → (∀ z ∈ gh.ad, z.1 = D → ∃ x, z.2 = Tab.BagO P0 w0 D x) := fun {gh H2} h hd z hz e => by
    obtain ⟨_, q1, _⟩ := h.1 z hz
    obtain ⟨Lk, hd⟩ := hd
    rw [e, hd] at q1
    exact ⟨Lk, (Option.some.inj q1).symm⟩
  have nDg0 : ∀ z ∈ gh.ad, z.1 ≠ D := fun z hz e => by
    obtain ⟨_, q1, _⟩ := (hg.r o).1 z hz
    rw [e, hD] at q1
    cases q1
  refine ⟨fun i n H2 => n = xs.length - i ∧ i ≤ xs.length ∧ LOk (Ls (Ins Lc D) os) p H2 ∧ Stp (Ls Lc os) p H1 H2 ∧ GhR K p (Ls (Ins Lc D) os) H2 gh ∧ ∃ acc, SetB K P0 w0 (Ls (Ins Lc D) os) F H2 D acc ∧ wSg2GoB F g t fi1 g1 t1 f vs1 (wipeE ρ vs) (xs.drop i) acc fun acc => ∀ ys : List (List Int), Lx.Asc ys → (∀ y, y ∈ ys ↔ y ∈ acc) → P (.py (.list (ys.map rowD))), ⟨xs.length, rfl, Nat.zero_le _, ?_, Stp.new o.ne hD, ?_, [], ⟨[], upd_same, by simp, (fun q hq => nomatch hq), (fun y hy => nomatch hy)⟩, hP⟩, ?_⟩
  · refine ⟨fun b l => ?_, fun q e => ⟨ofL q (o.str q e).1, (o.str q e).2.same (smu hD)⟩, o.tbs.ext (smu hD)⟩
    rcases toL b l with l | rfl
    · obtain ⟨u, h1, h2⟩ := o.live b l
      exact ⟨u, smu hD b u h1, h2⟩
    · exact ⟨_, upd_same, NT.bag⟩
  · refine (hg.r o).mono (fun b u h => ?_) fun z hz e => smu hD _ _ e
    obtain ⟨n, h1, tt⟩ := ctL_of h
    refine ⟨u, ctL_at (smu hD b u h1) (fun l => ?_) tt, .inl rfl⟩
    rcases toL b l with l | rfl
    · exact n l
    · rw [hD] at h1
      cases h1
  · rintro i n H2 ⟨rfl, hi, o2, s2, g2, acc, hS, hgo⟩
    by_cases hlt : i < xs.length
    · refine .inr ⟨hI.go _ _ i o2 g2 hlt, fun H' => ∃ n', n' < xs.length - i ∧ (n' = xs.length - (i + 1) ∧ i + 1 ≤ xs.length ∧ LOk (Ls (Ins Lc D) os) p H' ∧ Stp (Ls Lc os) p H1 H' ∧ GhR K p (Ls (Ins Lc D) os) H' gh ∧ ∃ acc, SetB K P0 w0 (Ls (Ins Lc D) os) F H' D acc ∧ wSg2GoB F g t fi1 g1 t1 f vs1 (wipeE ρ vs) (xs.drop (i + 1)) acc fun acc => ∀ ys : List (List Int), Lx.Asc ys → (∀ y, y ∈ ys ↔ y ∈ acc) → P (.py (.list (ys.map rowD)))), fun H' h => h, fun x H3 hy => ?_⟩
      obtain ⟨sm, e, he, hv⟩ := hI.yld _ _ i x H3 o2 g2 hlt hy
      have s3 : Stp (Ls (Ins Lc D) os) p H2 H3 := Stp.same sm o2.ne
      have o3 := o2.same sm
      have hdrop : xs.drop i = e :: xs.drop (i + 1) := by
        obtain ⟨h1, rfl⟩ := List.getElem?_eq_some_iff.mp he
        exact List.drop_eq_getElem_cons h1
      rw [hdrop] at hgo
      have s13 : Stp (Ls Lc os) p H1 H3 := s2.trans (s3.sub ofL)
      obtain ⟨Lk0, hL0, _⟩ := id hS
      have Ei := E1.inner hno (.of hD) s13 o3 ⟨_, sm _ _ hL0⟩
      refine ⟨_, _, _, _, _, _, _, _, Ei, hv, hgo, fun ρ' σ' hP' E' hw => ⟨hw.trans wipe_wipe, ?_⟩⟩
      refine ⟨_, _, _, _, _, _, _, E', hP', fun b H4 hb s4 o4 => ?_⟩
      have s14 : Stp (Ls Lc os) p H1 H4 := s13.trans (s4.sub ofL)
      have s24 := s3.trans s4
      have hS4 := hS.at (s24.loose D LD npD) (s24.ct o2)
      have E4 := E'.step s4 o4
      cases b with
      | false => exact ⟨xs.length - (i + 1), by omega, rfl, hlt, o4, s14, g2.step o2 s24, acc, hS4, hb⟩
      | true =>
        obtain ⟨hno1, hb⟩ := hb
        refine ⟨_, _, _, _, _, _, _, E4, hb, fun ys gh1 J1 H5 hP5 s5 o5 hg5 hI5 => ?_⟩
        have s25 := s24.trans s5
        have s15 : Stp (Ls Lc os) p H1 H5 := s14.trans (s5.sub ofL)
        have hS5 := hS4.at (s5.loose D LD npD) (s5.ct o4)
        have E5 := E4.step s5 o5
        have g15 : GhR K p (Ls (Ins Lc D) os) H5 gh1 := hg5
        refine ⟨fun j n1 G => n1 = ys.length - j ∧ j ≤ ys.length ∧ LOk (Ls (Ins Lc D) os) p G ∧ Stp (Ls Lc os) p H1 G ∧ SameR (ctL (Ls (Ins Lc D) os) H5) (ctL (Ls (Ins Lc D) os) G) ∧ (∀ a, Ls Lc os a → p.q ≠ some a → G a = H5 a) ∧ GhR K p (Ls (Ins Lc D) os) G gh ∧ GhR K p (Ls (Ins Lc D) os) G gh1 ∧ ∃ acc, SetB K P0 w0 (Ls (Ins Lc D) os) F G D acc ∧ wSgGoB F g1 t1 f (wipeE ρ' vs1) (ys.drop j) acc fun acc' => wSg2GoB F g t fi1 g1 t1 f vs1 (wipeE ρ vs) (xs.drop (i + 1)) acc' fun acc => ∀ ys : List (List Int), Lx.Asc ys → (∀ y, y ∈ ys ↔ y ∈ acc) → P (.py (.list (ys.map rowD))), ⟨ys.length, rfl, Nat.zero_le _, o5, s15, SameR.refl _, fun _ _ _ => rfl, g2.step o2 s25, g15, acc, hS5, hP5⟩, ?_⟩
        rintro j n1 G ⟨rfl, hj, oG, sG, srG, loG, ghG, gh1G, acc1, hSG, hgo1⟩
        by_cases hlt1 : j < ys.length
        · refine .inr ⟨hI5.go _ _ j oG gh1G hlt1, fun G' => ∃ k', k' < ys.length - j ∧ (k' = ys.length - (j + 1) ∧ j + 1 ≤ ys.length ∧ LOk (Ls (Ins Lc D) os) p G' ∧ Stp (Ls Lc os) p H1 G' ∧ SameR (ctL (Ls (Ins Lc D) os) H5) (ctL (Ls (Ins Lc D) os) G') ∧ (∀ a, Ls Lc os a → p.q ≠ some a → G' a = H5 a) ∧ GhR K p (Ls (Ins Lc D) os) G' gh ∧ GhR K p (Ls (Ins Lc D) os) G' gh1 ∧ ∃ acc, SetB K P0 w0 (Ls (Ins Lc D) os) F G' D acc ∧ wSgGoB F g1 t1 f (wipeE ρ' vs1) (ys.drop (j + 1)) acc fun acc' => wSg2GoB F g t fi1 g1 t1 f vs1 (wipeE ρ vs) (xs.drop (i + 1)) acc' fun acc => ∀ ys : List (List Int), Lx.Asc ys → (∀ y, y ∈ ys ↔ y ∈ acc) → P (.py (.list (ys.map rowD)))), fun G' h => h, fun y G2 hy2 => ?_⟩
          obtain ⟨sm2, e2, he2, hv2⟩ := hI5.yld _ _ j y G2 oG gh1G hlt1 hy2
          have t2 : Stp (Ls (Ins Lc D) os) p G G2 := Stp.same sm2 oG.ne
          have p2 := oG.same sm2
          have hdrop2 : ys.drop j = e2 :: ys.drop (j + 1) := by
            obtain ⟨h1, rfl⟩ := List.getElem?_eq_some_iff.mp he2
            exact List.drop_eq_getElem_cons h1
          rw [hdrop2] at hgo1
          have loG2 : ∀ a, Ls Lc os a → p.q ≠ some a → G2 a = H5 a := fun a l n => (t2.loose a (ofL a l) n).trans (loG a l n)
          have EG := E5.move hno1 (srG.trans (t2.ct oG)) (fun i a h => loG2 a (.inr ⟨i, h⟩) fun e => (E5.fre i a h).1 (E5.lok.str a e).1) p2
          refine ⟨_, _, _, _, _, _, _, _, EG, hv2, hgo1, fun ρ2 σ2 hP2 E2 hw2 => ⟨hw2.trans wipe_wipe, ?_⟩⟩
          refine ⟨_, _, _, _, _, _, _, E2, hP2, fun c G3 hc t3 p3 => ?_⟩
          have t23 := t2.trans t3
          have sG3 : Stp (Ls Lc os) p H1 G3 := sG.trans (t23.sub ofL)
          have loG3 : ∀ a, Ls Lc os a → p.q ≠ some a → G3 a = H5 a := fun a l n => (t3.loose a (ofL a l) n).trans (loG2 a l n)
          cases c with
          | false => exact ⟨ys.length - (j + 1), by omega, rfl, hlt1, p3, sG3, srG.trans (t23.ct oG), loG3, ghG.step oG t23, gh1G.step oG t23, acc1, hSG.at (t23.loose D LD npD) (t23.ct oG), hc⟩
          | true =>
            refine ⟨_, _, _, _, _, _, _, E2.step t3 p3, hc, fun ev G4 vv hev t4 p4 r4 => ?_⟩
            split at hev
            · rename_i z
              obtain ⟨kz, rfl, kF, kne, hgo'⟩ := hev
              have t24 := t23.trans t4
              have sG4 : Stp (Ls Lc os) p H1 G4 := sG3.trans (t4.sub ofL)
              obtain ⟨Lk, hL, hmem, htup, hin⟩ := hSG.at (t24.loose D LD npD) (t24.ct oG)
              have r4' : Dt K (ctL (Ls (Ins Lc D) os) G4) vv (.tuple (kz.map .int)) := r4
              obtain ⟨xv, sq⟩ := row_at r4'
              obtain ⟨rfl, sq⟩ := sq
              refine ⟨D, xv, kz, Lk, rfl, rfl, SameR.sqt ctL_all sq.t, hL, fun q hq => SameR.sqt ctL_all (htup q hq).t, fun nd => ⟨(roomy.roomy (P := P0) (w := w0)).ok nd (fun x hx => (hin x ((hmem x).mp hx)).1) kF, (roomy.roomy (P := P0) (w := w0)).few nd (fun x hx => (hin x ((hmem x).mp hx)).1) kF, fun L2 c1 c2 nd2 => ?_⟩⟩
              have tn := turned (o := Tab.BagO P0 w0 D L2) hD nLD LD npD NT.bag p4 sG4 (fun u hu => by rw [hL] at hu; cases hu; exact NTb.bag)
              have ndG : ∀ {gx : Gh}, GhR K p (Ls (Ins Lc D) os) G4 gx → (∀ z ∈ gx.ad, z.1 ≠ D) → GhR K p (Ls (Ins Lc D) os) (upd G4 D (Tab.BagO P0 w0 D L2)) gx := fun h nd => gh_upd h tn.ct nd
              have mem2 : ∀ q, q ∈ L2 → q = (xv, kz) ∨ q ∈ Lk := fun q hq => by
                by_cases c : kz ∈ Lk.map (·.2)
                · rw [c1 c] at hq
                  exact .inr hq
                · exact List.mem_cons.mp ((c2 c).mem_iff.mp hq)
              have keys2 : ∀ y, y ∈ L2.map (·.2) ↔ y ∈ Lk.map (·.2) ∨ y = kz := fun y => by
                by_cases c : kz ∈ Lk.map (·.2)
                · rw [c1 c]
                  exact ⟨.inl, fun h => h.elim id fun e => e ▸ c⟩
                · rw [((c2 c).map (·.2)).mem_iff, List.map_cons, List.mem_cons]
                  exact Or.comm
              refine ⟨ys.length - (j + 1), by omega, rfl, hlt1, tn.lok, tn.stp, (srG.trans (t24.ct oG)).trans tn.ct, fun a l n => ?_, ndG (ghG.step oG t24) nDg0, ndG (gh1G.step oG t24) ?_, acc1 ++ [kz], ⟨L2, upd_same, fun y => ?_, fun q hq => tn.ct.sqn ?_, fun y hy => ?_⟩, hgo'⟩
              · rw [upd_ne (fun e => nLD (by rw [← e]; exact l))]
                exact (t4.loose a (ofL a l) n).trans (loG3 a l n)
              · intro z hz e
                obtain ⟨r1, r2, r3, r5⟩ := g15.1 z hz
                obtain ⟨q1, q2⟩ := hg5.1 z hz
                obtain ⟨Lq, hq1, _⟩ := hS5
                rw [e, hq1] at r2
                exact q1.2 _ (Option.some.inj r2).symm
              · rw [keys2 y, List.mem_append, hmem y, List.mem_singleton]
              · rcases mem2 q hq with rfl | hq
                · exact sq
                · exact htup q hq
              · rcases List.mem_append.mp hy with hy | hy
                · exact hin y hy
                · rw [List.mem_singleton.mp hy]
                  exact ⟨kF, kne⟩
            · exact hev.elim
        · have ej : j = ys.length := by omega
          subst ej
          rw [List.drop_length] at hgo1
          exact .inl ⟨hI5.stop _ _ oG gh1G, xs.length - (i + 1), by omega, rfl, hlt, oG, sG, ghG, acc1, hSG, hgo1⟩
    · have ei : i = xs.length := by omega
      subst ei
      rw [List.drop_length] at hgo
      obtain ⟨Lk, hL, hmem, htup, hin⟩ := hS
      refine .inl ⟨hI.stop _ _ o2 g2, D, Lk, rfl, hL, fun q hq => SameR.sqt ctL_all (htup q hq).t, fun nd => ⟨.inl fun q hq => (hin _ ((hmem _).mp (List.mem_map_of_mem hq))).2, fun L1 q pm nq => ?_⟩⟩
      have n1 : (L1.map (·.2)).Nodup := (pm.map (·.2)).nodup_iff.mpr nd
      have ps : (L1.mergeSort Tab.leB).Perm Lk := (List.mergeSort_perm _ _).trans pm
      have fin := hgo ((L1.mergeSort Tab.leB).map (·.2)) (Tab.sorted_asc n1) fun y => (ps.map (·.2)).mem_iff.trans (hmem y)
      have o6 : LOk (Ls Lc os) p H2 := o2.sub ofL fun q e => (o.str q e).1
      have dr : DtAll K (ctL (Ls Lc os) H2) ((L1.mergeSort Tab.leB).map fun q => V.ref q.1) (((L1.mergeSort Tab.leB).map (·.2)).map rowD) := data_rows fun q hq => o6.sqn (SameR.sqn ctL_all (htup q (ps.mem_iff.mp hq)))
      exact Go.lst (m := m) (K := K) (fun b H' v' hb s' o' r' => k b H' v' hb ((s.trans s2).trans s') o' (r'.base (s.trans s2))) o6 fin dr nq
theorem dsortSg2B {elt tg iter tg1 iter1 : Expr} {ifs ifs1 : List Expr} {scope : Scope} {pos pos2 q : Pos} {fi fi1 : WA} {g g1 : WGt} {t t1 : WT} {f : WF} (own : List (Str × Nat)) (vs1 : List Nat) (hc : X.calm = true) (hN : X.N.Nodup) (hu : X.A.units + 64 < cLine) (hi : PI X tg iter (tI X.K .read fi)) (ok : BlkOk X.N X.env.scope scope own) (hv : ∀ i ∈ vs1, i ∈ own.map (·.2))
    (hg : ∀ (s : Shared) (H : Hp) (C : Addr) (cl : List (Str × Addr)) (fp : List Addr), PG (X.blk s H scope (compEnvC scope cl C X.env) fp) tg (tWG X.K (own.map (·.2)) g)) (ht : ∀ (s : Shared) (H : Hp) (C : Addr) (cl : List (Str × Addr)) (fp : List Addr), PTs (X.blk s H scope (compEnvC scope cl C X.env) fp) ifs (tWT X.K t))
    (hi1 : ∀ (s : Shared) (H : Hp) (C : Addr) (cl : List (Str × Addr)) (fp : List Addr), PI (X.blk s H scope (compEnvC scope cl C X.env) fp) tg1 iter1 (tI X.K .read fi1))
    (hg1 : ∀ (s : Shared) (H : Hp) (C : Addr) (cl : List (Str × Addr)) (fp : List Addr), PG (X.blk s H scope (compEnvC scope cl C X.env) fp) tg1 (tWG X.K vs1 g1)) (ht1 : ∀ (s : Shared) (H : Hp) (C : Addr) (cl : List (Str × Addr)) (fp : List Addr), PTs (X.blk s H scope (compEnvC scope cl C X.env) fp) ifs1 (tWT X.K t1))
    (he : ∀ (s : Shared) (H : Hp) (C : Addr) (cl : List (Str × Addr)) (fp : List Addr), PE (X.blk s H scope (compEnvC scope cl C X.env) fp) elt (tW X.K .data f)) (hgs : Gl X "sorted") (hts : X.mg "sorted" = none) (hvs : bootBuiltins "sorted" = some (.builtin "sorted") := by decide +kernel) (hs : ∀ x, foldedSetIterable iter X.env x = pure x := by intro _; rfl) (hs1 : ∀ env x, foldedSetIterable iter1 env x = pure x := by intro _ _; rfl)
    (hst : starEach [.SetComp elt [⟨tg, iter, ifs, 0⟩, ⟨tg1, iter1, ifs1, 0⟩] scope pos2] X.env = (false, eval (.SetComp elt [⟨tg, iter, ifs, 0⟩, ⟨tg1, iter1, ifs1, 0⟩] scope pos2) X.env) :: starEach [] X.env := by rfl) :
    PE X (.Call (.Name "sorted" q) [.SetComp elt [⟨tg, iter, ifs, 0⟩, ⟨tg1, iter1, ifs1, 0⟩] scope pos2] [] pos) (tW X.K m (wSg2B fi g t fi1 g1 t1 f (own.map (·.2)) vs1)) :=
  pe_mono (pe_callB (show CallR _ _ (Tab.rSortedB X.K X.prog X.w) from Tab.cr_sortedB hc hu) hgs hts hvs (pa_cons (Tab.pe_bag2 (own := own) (ow1 := vs1) hc hN hu hi ok hv hg ht hi1 hg1 ht1 he hs hs1) pa_nil hst) (by decide) (by decide) hst (by rfl)) fun σ H Q q => sg2_readB q
end
end Dw

/-! Data ways: a, b, c = a list of that length. -/
namespace Dw
open PySem PySem.Spec PySem.W PySem.Calls PyProof.Rows L2 Dr Rp
variable [Dw.LamReg]
def gTL (gs : List WGt) : WGt := fun e ρ P => match e with
  | .py (.list ds) => ds.length = gs.length ∧ gTs gs (ds.map .py) ρ P
  | _ => False
section
variable {X : Cx} {vs : List Nat}
theorem dgtL {es : List Expr} {kk : Nat} {pos : Pos} {gl : List WGt} (hc : X.calm = true) (h : PGs X es (tWGs X.K vs (gTs gl))) (hn : (assignEach es X.env).length = gl.length := by rfl) (hst : (assignEach es X.env).findIdx? (·.1) = none := by rfl) : PG X (.Tuple es kk pos) (tWG X.K vs (gTL gl)) := by
  refine pg_mono (pg_unl hc h hn hst) fun v σ H Q q => ?_
  obtain ⟨He, Lc, os, p, gs, ρ, P, e, E, hv, hg, k⟩ := q
  unfold gTL at hg
  have go : ∀ {vs : List V} {ds : List PyData}, DtAll X.K (ctL (Ls Lc os) H) vs ds → Paired (fun v e => Rv X.K p (ctL (Ls Lc os) H) v e) vs (ds.map .py) := by
    intro vs ds h
    induction h using DtAll.rec (motive_1 := fun _ _ _ => True) (motive_3 := fun _ _ _ => True) with
    | nil => exact .nil
    | cons a t _ ih => exact .cons a ih
    | _ => trivial
  split at hg
  · cases hv with
    | @lstR a vs _ h1 h2 => exact ⟨a, vs, rfl, .inl (SameR.rd ctL_all h1), by rw [← DtAll.len h2]; exact hg.1, He, Lc, os, p, gs, ρ, P, _, E, go h2, hg.2, k⟩
  · exact hg.elim
end
end Dw

/-! printed by tools/dkq.py. -/
namespace K60
open PySem PySem.Spec PyProof.Rows L2 Dr Rp Dw
open He (ga ma)
open He5 (wf)
variable [Dw.LamReg]
abbrev sIsInt : Stmt := s_is_integer
abbrev sAreInts : Stmt := s_are_integers
abbrev sIsAsc : Stmt := s_is_ascending
abbrev sIsRow : Stmt := s_is_row
abbrev sAreRows : Stmt := s_are_rows
abbrev sPicked : Stmt := s_picked
abbrev sIsInput : Stmt := s_is_input
abbrev sChkRel : Stmt := s_check_relations
abbrev sProduct : Stmt := s_product
abbrev sRelation : Stmt := s__law_relation
abbrev sLProduct : Stmt := s__law_product
abbrev sTurned : Stmt := s__law_turned
abbrev sRightK : Stmt := sRight
abbrev sWritten : Stmt := s__law_written_right

abbrev nIsInt : List Str := ["value"]
theorem scIsInt : FnScope nIsInt ["value"] (defScope sIsInt) := ⟨rfl, rfl, rfl, by decide +kernel, rfl, by decide +kernel, by decide +kernel⟩
def wIsInt : WS :=
  (wRet (wAndV (w1 (wVar .read 0) (isiD "int")) (w1 (w1 (wVar .read 0) (isiD "bool")) wNotV)))
def dIsInt : WD := wDef 1 1 wIsInt
section
variable {P : Program} {w : World} {K : PySem.W.Frag} {mg : Str → Option Value} {base : Heap}
theorem ok_IsInt {f : Addr} {fd : FuncData}  (F : FnP K "is_integer" sIsInt f fd) (T : TG K mg)  : FnOk P w K mg base CX0 1 f fd ["value"] (spW K .data dIsInt) := by
  have b_bool := T.f "bool" (by decide +kernel)
  have b_int := T.f "int" (by decide +kernel)
  have b_isinstance := T.f "isinstance" (by decide +kernel)
  refine fn_W F scIsInt (by decide) (fun cdv A outer s H E hr => ?_)
  have hu : (A.deeper (envOfC "is_integer" (defScope sIsInt) s.heap.objs.size f cdv)).units + 64 < cLine := hr.units
  have hu1 : (A.deeper (envOfC "is_integer" (defScope sIsInt) s.heap.objs.size f cdv)).units + 1 < cLine := hu_of hr
  have hu2 : (A.deeper (envOfC "is_integer" (defScope sIsInt) s.heap.objs.size f cdv)).units + 66 < cLine := by
    have := hr.un
    omega
  exact (dss_one (ds_ret (dand (disi (T := "int") (dv 0) rfl b_isinstance rfl b_int (by decide +kernel)) (pe_one (dnot (disi (T := "bool") (dv 0) rfl b_isinstance rfl b_bool (by decide +kernel)))))))
end

abbrev nAreInts : List Str := ["value", "part"]
theorem scAreInts : FnScope nAreInts ["value"] (defScope sAreInts) := ⟨rfl, rfl, rfl, by decide +kernel, rfl, by decide +kernel, by decide +kernel⟩
def wAreInts : WS :=
  (wRet (wAndV (w1 (wVar .read 0) (isiD "tuple")) (wCallA wAll (wCons (wLc (wSeqI (wVar .read 0)) (gN 1) wYes (wCallA dIsInt (wCons (wVar .data 1) wNil)) [1]) wNil))))
def dAreInts : WD := wDef 2 1 wAreInts
section
variable {P : Program} {w : World} {K : PySem.W.Frag} {mg : Str → Option Value} {base : Heap}
theorem ok_AreInts {f : Addr} {fd : FuncData}  (F : FnP K "are_integers" sAreInts f fd) (T : TG K mg) {fd_is_integer : FuncData} (F_is_integer : FnP K "is_integer" sIsInt (ga K "is_integer") fd_is_integer) (G_is_integer : FnOk P w K mg base CX0 1 (ga K "is_integer") fd_is_integer ["value"] (spW K .data dIsInt)) : FnOk P w K mg base CX0 2 f fd ["value"] (spW K .data dAreInts) := by
  have b_all := T.f "all" (by decide +kernel)
  have b_isinstance := T.f "isinstance" (by decide +kernel)
  have b_tuple := T.f "tuple" (by decide +kernel)
  have g_is_integer := T.g "is_integer" (by decide +kernel)
  have b_is_integer : Binds K fd_is_integer ["value"] [] := F_is_integer.bindsN fun _ _ _ _ _ _ us hl => match us, hl with | [_], _ => rfl
  refine fn_W F scAreInts (by decide) (fun cdv A outer s H E hr => ?_)
  have hu : (A.deeper (envOfC "are_integers" (defScope sAreInts) s.heap.objs.size f cdv)).units + 64 < cLine := hr.units
  have hu1 : (A.deeper (envOfC "are_integers" (defScope sAreInts) s.heap.objs.size f cdv)).units + 1 < cLine := hu_of hr
  have hu2 : (A.deeper (envOfC "are_integers" (defScope sAreInts) s.heap.objs.size f cdv)).units + 66 < cLine := by
    have := hr.un
    omega
  have r_is_integer : Room 1 (A.deeper (envOfC "are_integers" (defScope sAreInts) s.heap.objs.size f cdv)) := hr.mono (by decide)
  exact (dss_one (ds_ret (dand (disi (T := "tuple") (dv 0) rfl b_isinstance rfl b_tuple (by decide +kernel)) (pe_one (dbf (brAll (cr_all rfl) (by decide)) (by decide +kernel) rfl b_all (dacons (dlc [("part", 1)] rfl scAreInts.nd (di_seq (dv 0)) (blkOk_by (own := [("part", 1)]) (N := nAreInts) (sc := defScope sAreInts) (by decide +kernel)) (fun _ _ _ _ _ => (dg 1 scAreInts.nd rfl (by first | exact Or.inl rfl | exact Or.inr rfl))) (fun _ _ _ _ _ => dts_nil) (fun _ _ _ _ _ => (dcall G_is_integer r_is_integer rfl g_is_integer F_is_integer.kp b_is_integer pass0 (dacons (dv 1) danil)))) danil))))))
end

abbrev nIsAsc : List Str := ["values", "value", "other"]
theorem scIsAsc : FnScope nIsAsc ["values"] (defScope sIsAsc) := ⟨rfl, rfl, rfl, by decide +kernel, rfl, by decide +kernel, by decide +kernel⟩
def wIsAsc : WS :=
  (wRet (wCallA wAll (wCons (wLc (wZipT (wVar .read 0) (wCut cutA (wVar .read 0) (wPart (wC (.int 1))) wNoP)) (gT [(gN 1), (gN 2)]) wYes (w2 (wVar .read 1) (wVar .read 2) wLtT) [1, 2]) wNil)))
def dIsAsc : WD := wDef 3 1 wIsAsc
section
variable {P : Program} {w : World} {K : PySem.W.Frag} {mg : Str → Option Value} {base : Heap}
theorem ok_IsAsc {f : Addr} {fd : FuncData}  (F : FnP K "is_ascending" sIsAsc f fd) (T : TG K mg)  : FnOk P w K mg base CX0 1 f fd ["values"] (spW K .data dIsAsc) := by
  have b_all := T.f "all" (by decide +kernel)
  have b_zip := T.f "zip" (by decide +kernel)
  refine fn_W F scIsAsc (by decide) (fun cdv A outer s H E hr => ?_)
  have hu : (A.deeper (envOfC "is_ascending" (defScope sIsAsc) s.heap.objs.size f cdv)).units + 64 < cLine := hr.units
  have hu1 : (A.deeper (envOfC "is_ascending" (defScope sIsAsc) s.heap.objs.size f cdv)).units + 1 < cLine := hu_of hr
  have hu2 : (A.deeper (envOfC "is_ascending" (defScope sIsAsc) s.heap.objs.size f cdv)).units + 66 < cLine := by
    have := hr.un
    omega
  exact (dss_one (ds_ret (dbf (brAll (cr_all rfl) (by decide)) (by decide +kernel) rfl b_all (dacons (dlc [("value", 1), ("other", 2)] rfl scIsAsc.nd (di_zipT rfl b_zip (dv 0) (dslice (dv 0) (dso dint) dno)) (blkOk_by (own := [("value", 1), ("other", 2)]) (N := nIsAsc) (sc := defScope sIsAsc) (by decide +kernel)) (fun _ _ _ _ _ => (dgt rfl (dgs_cons (dg 1 scIsAsc.nd rfl (by first | exact Or.inl rfl | exact Or.inr rfl)) (dgs_cons (dg 2 scIsAsc.nd rfl (by first | exact Or.inl rfl | exact Or.inr rfl)) dgs_nil)))) (fun _ _ _ _ _ => dts_nil) (fun _ _ _ _ _ => (dltT (u0_of hu) (dv 1) (dv 2)))) danil))))
end

abbrev nIsRow : List Str := ["size", "value"]
theorem scIsRow : FnScope nIsRow ["size", "value"] (defScope sIsRow) := ⟨rfl, rfl, rfl, by decide +kernel, rfl, by decide +kernel, by decide +kernel⟩
def wIsRow : WS :=
  (wSeq (wIfS (wTOr (wTNot (wT1 (wCallA dIsInt (wCons (wVar .data 0) wNil)) wTB)) (wTNot (wChI (fun i j => decide (i ≤ j)) (fun i j => decide (i ≤ j)) (wC (.int 0)) (wVar .read 0) (wC (.int 10))))) wNever wNext)
  (wRet (wAndV (wCallA dAreInts (wCons (wVar .data 1) wNil)) (w2 (wCallA wLen (wCons (wVar .read 1) wNil)) (wVar .read 0) (wEq false)))))
def dIsRow : WD := wDef 2 2 wIsRow
section
variable {P : Program} {w : World} {K : PySem.W.Frag} {mg : Str → Option Value} {base : Heap}
theorem ok_IsRow {f : Addr} {fd : FuncData}  (F : FnP K "is_row" sIsRow f fd) (T : TG K mg) {fd_is_integer : FuncData} (F_is_integer : FnP K "is_integer" sIsInt (ga K "is_integer") fd_is_integer) (G_is_integer : FnOk P w K mg base CX0 1 (ga K "is_integer") fd_is_integer ["value"] (spW K .data dIsInt)) {fd_are_integers : FuncData} (F_are_integers : FnP K "are_integers" sAreInts (ga K "are_integers") fd_are_integers) (G_are_integers : FnOk P w K mg base CX0 2 (ga K "are_integers") fd_are_integers ["value"] (spW K .data dAreInts)) : FnOk P w K mg base CX0 3 f fd ["size", "value"] (spW K .data dIsRow) := by
  have b_len := T.f "len" (by decide +kernel)
  obtain ⟨t_MAX_SIZE, c_MAX_SIZE⟩ := T.c_MAX_SIZE
  have g_is_integer := T.g "is_integer" (by decide +kernel)
  have b_is_integer : Binds K fd_is_integer ["value"] [] := F_is_integer.bindsN fun _ _ _ _ _ _ us hl => match us, hl with | [_], _ => rfl
  have g_are_integers := T.g "are_integers" (by decide +kernel)
  have b_are_integers : Binds K fd_are_integers ["value"] [] := F_are_integers.bindsN fun _ _ _ _ _ _ us hl => match us, hl with | [_], _ => rfl
  refine fn_W F scIsRow (by decide) (fun cdv A outer s H E hr => ?_)
  have hu : (A.deeper (envOfC "is_row" (defScope sIsRow) s.heap.objs.size f cdv)).units + 64 < cLine := hr.units
  have hu1 : (A.deeper (envOfC "is_row" (defScope sIsRow) s.heap.objs.size f cdv)).units + 1 < cLine := hu_of hr
  have hu2 : (A.deeper (envOfC "is_row" (defScope sIsRow) s.heap.objs.size f cdv)).units + 66 < cLine := by
    have := hr.un
    omega
  have r_is_integer : Room 1 (A.deeper (envOfC "is_row" (defScope sIsRow) s.heap.objs.size f cdv)) := hr.mono (by decide)
  have r_are_integers : Room 2 (A.deeper (envOfC "is_row" (defScope sIsRow) s.heap.objs.size f cdv)) := hr.mono (by decide)
  exact (dss_cons (ds_if (PW.pt (dw_or (dt_not (dtest (dcall G_is_integer r_is_integer rfl g_is_integer F_is_integer.kp b_is_integer pass0 (dacons (dv 0) danil)))) (dw_or1 (dt_not (tchI op_le op_le dint (dv 0) (dgi rfl c_MAX_SIZE)))))) (dss_one ds_never) dss_nil)
      (dss_one (ds_ret (dand (dcall G_are_integers r_are_integers rfl g_are_integers F_are_integers.kp b_are_integers pass0 (dacons (dv 1) danil)) (pe_one (deq hu (dbf (brLen (by decide)) (by decide +kernel) rfl b_len (dacons (dv 1) danil)) (dv 0)))))))
end

abbrev nAreRows : List Str := ["size", "value", "row"]
theorem scAreRows : FnScope nAreRows ["size", "value"] (defScope sAreRows) := ⟨rfl, rfl, rfl, by decide +kernel, rfl, by decide +kernel, by decide +kernel⟩
def wAreRows : WS :=
  (wRet (wAndV (w1 (wVar .read 1) (isiD "tuple")) (wCallA wAll (wCons (wLc (wSeqI (wVar .read 1)) (gN 2) wYes (wCallA dIsRow (wCons (wVar .data 0) (wCons (wVar .data 2) wNil))) [2]) wNil))))
def dAreRows : WD := wDef 3 2 wAreRows
section
variable {P : Program} {w : World} {K : PySem.W.Frag} {mg : Str → Option Value} {base : Heap}
theorem ok_AreRows {f : Addr} {fd : FuncData}  (F : FnP K "are_rows" sAreRows f fd) (T : TG K mg) {fd_is_row : FuncData} (F_is_row : FnP K "is_row" sIsRow (ga K "is_row") fd_is_row) (G_is_row : FnOk P w K mg base CX0 3 (ga K "is_row") fd_is_row ["size", "value"] (spW K .data dIsRow)) : FnOk P w K mg base CX0 4 f fd ["size", "value"] (spW K .data dAreRows) := by
  have b_all := T.f "all" (by decide +kernel)
  have b_isinstance := T.f "isinstance" (by decide +kernel)
  have b_tuple := T.f "tuple" (by decide +kernel)
  have g_is_row := T.g "is_row" (by decide +kernel)
  have b_is_row : Binds K fd_is_row ["size", "value"] [] := F_is_row.bindsN fun _ _ _ _ _ _ us hl => match us, hl with | [_, _], _ => rfl
  refine fn_W F scAreRows (by decide) (fun cdv A outer s H E hr => ?_)
  have hu : (A.deeper (envOfC "are_rows" (defScope sAreRows) s.heap.objs.size f cdv)).units + 64 < cLine := hr.units
  have hu1 : (A.deeper (envOfC "are_rows" (defScope sAreRows) s.heap.objs.size f cdv)).units + 1 < cLine := hu_of hr
  have hu2 : (A.deeper (envOfC "are_rows" (defScope sAreRows) s.heap.objs.size f cdv)).units + 66 < cLine := by
    have := hr.un
    omega
  have r_is_row : Room 3 (A.deeper (envOfC "are_rows" (defScope sAreRows) s.heap.objs.size f cdv)) := hr.mono (by decide)
  exact (dss_one (ds_ret (dand (disi (T := "tuple") (dv 1) rfl b_isinstance rfl b_tuple (by decide +kernel)) (pe_one (dbf (brAll (cr_all rfl) (by decide)) (by decide +kernel) rfl b_all (dacons (dlc [("row", 2)] rfl scAreRows.nd (di_seq (dv 1)) (blkOk_by (own := [("row", 2)]) (N := nAreRows) (sc := defScope sAreRows) (by decide +kernel)) (fun _ _ _ _ _ => (dg 2 scAreRows.nd rfl (by first | exact Or.inl rfl | exact Or.inr rfl))) (fun _ _ _ _ _ => dts_nil) (fun _ _ _ _ _ => (dcall G_is_row r_is_row rfl g_is_row F_is_row.kp b_is_row pass0 (dacons (dv 0) (dacons (dv 2) danil))))) danil))))))
end

abbrev nPicked : List Str := ["row", "places", "at"]
theorem scPicked : FnScope nPicked ["row", "places"] (defScope sPicked) := ⟨rfl, rfl, rfl, by decide +kernel, rfl, by decide +kernel, by decide +kernel⟩
def wPicked : WS :=
  (wRet (wCallA wTupleOf (wCons (wLc (wSeqI (wVar .read 1)) (gN 2) wYes (w2 (wVar .read 0) (wVar .read 2) wIx) [2]) wNil)))
def dPicked : WD := wDef 3 2 wPicked
section
variable {P : Program} {w : World} {K : PySem.W.Frag} {mg : Str → Option Value} {base : Heap}
theorem ok_Picked {f : Addr} {fd : FuncData}  (F : FnP K "picked" sPicked f fd) (T : TG K mg)  : FnOk P w K mg base CX0 1 f fd ["row", "places"] (spW K .data dPicked) := by
  have b_tuple := T.f "tuple" (by decide +kernel)
  refine fn_W F scPicked (by decide) (fun cdv A outer s H E hr => ?_)
  have hu : (A.deeper (envOfC "picked" (defScope sPicked) s.heap.objs.size f cdv)).units + 64 < cLine := hr.units
  have hu1 : (A.deeper (envOfC "picked" (defScope sPicked) s.heap.objs.size f cdv)).units + 1 < cLine := hu_of hr
  have hu2 : (A.deeper (envOfC "picked" (defScope sPicked) s.heap.objs.size f cdv)).units + 66 < cLine := by
    have := hr.un
    omega
  exact (dss_one (ds_ret (dbt (brTuple (by decide)) (by decide +kernel) rfl b_tuple (dacons (dlc [("at", 2)] rfl scPicked.nd (di_seq (dv 1)) (blkOk_by (own := [("at", 2)]) (N := nPicked) (sc := defScope sPicked) (by decide +kernel)) (fun _ _ _ _ _ => (dg 2 scPicked.nd rfl (by first | exact Or.inl rfl | exact Or.inr rfl))) (fun _ _ _ _ _ => dts_nil) (fun _ _ _ _ _ => (dix hu1 (dv 0) (dv 2)))) danil))))
end

abbrev nIsInput : List Str := ["size", "value"]
theorem scIsInput : FnScope nIsInput ["size", "value"] (defScope sIsInput) := ⟨rfl, rfl, rfl, by decide +kernel, rfl, by decide +kernel, by decide +kernel⟩
def wIsInput : WS :=
  (wRet (wAndV (wCallA dAreRows (wCons (wVar .data 0) (wCons (wVar .data 1) wNil))) (wAndV (w2 (wCallA wLen (wCons (wVar .read 1) wNil)) (wC (.int 100)) (wCmpI (fun i j => decide (i ≤ j)))) (wCallA dIsAsc (wCons (wVar .data 1) wNil)))))
def dIsInput : WD := wDef 2 2 wIsInput
section
variable {P : Program} {w : World} {K : PySem.W.Frag} {mg : Str → Option Value} {base : Heap}
theorem ok_IsInput {f : Addr} {fd : FuncData}  (F : FnP K "is_input" sIsInput f fd) (T : TG K mg) {fd_is_ascending : FuncData} (F_is_ascending : FnP K "is_ascending" sIsAsc (ga K "is_ascending") fd_is_ascending) (G_is_ascending : FnOk P w K mg base CX0 1 (ga K "is_ascending") fd_is_ascending ["values"] (spW K .data dIsAsc)) {fd_are_rows : FuncData} (F_are_rows : FnP K "are_rows" sAreRows (ga K "are_rows") fd_are_rows) (G_are_rows : FnOk P w K mg base CX0 4 (ga K "are_rows") fd_are_rows ["size", "value"] (spW K .data dAreRows)) : FnOk P w K mg base CX0 5 f fd ["size", "value"] (spW K .data dIsInput) := by
  have b_len := T.f "len" (by decide +kernel)
  obtain ⟨t_MAX_INPUT, c_MAX_INPUT⟩ := T.c_MAX_INPUT
  have g_is_ascending := T.g "is_ascending" (by decide +kernel)
  have b_is_ascending : Binds K fd_is_ascending ["values"] [] := F_is_ascending.bindsN fun _ _ _ _ _ _ us hl => match us, hl with | [_], _ => rfl
  have g_are_rows := T.g "are_rows" (by decide +kernel)
  have b_are_rows : Binds K fd_are_rows ["size", "value"] [] := F_are_rows.bindsN fun _ _ _ _ _ _ us hl => match us, hl with | [_, _], _ => rfl
  refine fn_W F scIsInput (by decide) (fun cdv A outer s H E hr => ?_)
  have hu : (A.deeper (envOfC "is_input" (defScope sIsInput) s.heap.objs.size f cdv)).units + 64 < cLine := hr.units
  have hu1 : (A.deeper (envOfC "is_input" (defScope sIsInput) s.heap.objs.size f cdv)).units + 1 < cLine := hu_of hr
  have hu2 : (A.deeper (envOfC "is_input" (defScope sIsInput) s.heap.objs.size f cdv)).units + 66 < cLine := by
    have := hr.un
    omega
  have r_is_ascending : Room 1 (A.deeper (envOfC "is_input" (defScope sIsInput) s.heap.objs.size f cdv)) := hr.mono (by decide)
  have r_are_rows : Room 4 (A.deeper (envOfC "is_input" (defScope sIsInput) s.heap.objs.size f cdv)) := hr.mono (by decide)
  exact (dss_one (ds_ret (dand (dcall G_are_rows r_are_rows rfl g_are_rows F_are_rows.kp b_are_rows pass0 (dacons (dv 0) (dacons (dv 1) danil))) (dand (dcmpI op_le (dbf (brLen (by decide)) (by decide +kernel) rfl b_len (dacons (dv 1) danil)) (dgi rfl c_MAX_INPUT)) (pe_one (dcall G_is_ascending r_is_ascending rfl g_is_ascending F_is_ascending.kp b_is_ascending pass0 (dacons (dv 1) danil)))))))
end

abbrev nChkRel : List Str := ["relations", "relation"]
theorem scChkRel : FnScope nChkRel ["relations"] (defScope sChkRel) := ⟨rfl, rfl, rfl, by decide +kernel, rfl, by decide +kernel, by decide +kernel⟩
def wChkRel : WS :=
  (wIfS (wTNot (wT1 (wCallA wAll (wCons (wLc (wSeqI (wVar .read 0)) (gN 1) wYes (wCallA dIsInput (wCons (wC (.int 2)) (wCons (wVar .data 1) wNil))) [1]) wNil)) wTB)) wNever wNext)
def dChkRel : WD := wDef 2 1 wChkRel
section
variable {P : Program} {w : World} {K : PySem.W.Frag} {mg : Str → Option Value} {base : Heap}
theorem ok_ChkRel {f : Addr} {fd : FuncData}  (F : FnP K "check_relations" sChkRel f fd) (T : TG K mg) {fd_is_input : FuncData} (F_is_input : FnP K "is_input" sIsInput (ga K "is_input") fd_is_input) (G_is_input : FnOk P w K mg base CX0 5 (ga K "is_input") fd_is_input ["size", "value"] (spW K .data dIsInput)) : FnOk P w K mg base CX0 6 f fd ["relations"] (spW K .data dChkRel) := by
  have b_all := T.f "all" (by decide +kernel)
  have g_is_input := T.g "is_input" (by decide +kernel)
  have b_is_input : Binds K fd_is_input ["size", "value"] [] := F_is_input.bindsN fun _ _ _ _ _ _ us hl => match us, hl with | [_, _], _ => rfl
  refine fn_W F scChkRel (by decide) (fun cdv A outer s H E hr => ?_)
  have hu : (A.deeper (envOfC "check_relations" (defScope sChkRel) s.heap.objs.size f cdv)).units + 64 < cLine := hr.units
  have hu1 : (A.deeper (envOfC "check_relations" (defScope sChkRel) s.heap.objs.size f cdv)).units + 1 < cLine := hu_of hr
  have hu2 : (A.deeper (envOfC "check_relations" (defScope sChkRel) s.heap.objs.size f cdv)).units + 66 < cLine := by
    have := hr.un
    omega
  have r_is_input : Room 5 (A.deeper (envOfC "check_relations" (defScope sChkRel) s.heap.objs.size f cdv)) := hr.mono (by decide)
  exact (dss_one (ds_if (dt_not (dtest (dbf (brAll (cr_all rfl) (by decide)) (by decide +kernel) rfl b_all (dacons (dlc [("relation", 1)] rfl scChkRel.nd (di_seq (dv 0)) (blkOk_by (own := [("relation", 1)]) (N := nChkRel) (sc := defScope sChkRel) (by decide +kernel)) (fun _ _ _ _ _ => (dg 1 scChkRel.nd rfl (by first | exact Or.inl rfl | exact Or.inr rfl))) (fun _ _ _ _ _ => dts_nil) (fun _ _ _ _ _ => (dcall G_is_input r_is_input rfl g_is_input F_is_input.kp b_is_input pass0 (dacons dint (dacons (dv 1) danil))))) danil)))) (dss_one ds_never) dss_nil))
end

abbrev nProduct : List Str := ["first", "second", "ends", "end", "one", "middle"]
theorem scProduct : FnScope nProduct ["first", "second"] (defScope sProduct) := ⟨rfl, rfl, rfl, by decide +kernel, rfl, by decide +kernel, by decide +kernel⟩
def wProduct : WS :=
  (wSeq (wDrop (wCallA dChkRel (wCons (wCallA wTup (wCons (wVar .data 0) (wCons (wVar .data 1) wNil))) wNil)))
  (wSeq (wSet 2 (wCallA dGrouped (wCons (wVar .data 1) (wCons (wCallA wLst (wCons (wC (.int 0)) wNil)) (wCons (wCallA wLst (wCons (wC (.int 1)) wNil)) wNil)))))
  (wRet (wCallA wTupleOf (wCons (wSg2B (wSeqI (wVar .read 0)) (gT [(gN 4), (gN 5)]) wYes (wSeqI (wGetN (wVar .data 2) (wCallA wTup (wCons (wVar .data 5) wNil)) (wCallA wLst wNil))) (gN 3) wYes (wCallA wTup (wCons (wVar .data 4) (wCons (w2 (wVar .read 3) (wC (.int 0)) wIx) wNil))) [4, 5, 3] [3]) wNil)))))
def dProduct : WD := wDef 6 2 wProduct
section
variable {P : Program} {w : World} {K : PySem.W.Frag} {mg : Str → Option Value} {base : Heap}
theorem ok_Product {f : Addr} {fd : FuncData}  (F : FnP K "product" sProduct f fd) (T : TG K mg) {fd_check_relations : FuncData} (F_check_relations : FnP K "check_relations" sChkRel (ga K "check_relations") fd_check_relations) (G_check_relations : FnOk P w K mg base CX0 6 (ga K "check_relations") fd_check_relations ["relations"] (spW K .data dChkRel)) {fd_grouped : FuncData} (F_grouped : FnP K "grouped" s_grouped (ga K "grouped") fd_grouped) (G_grouped : FnOk P w K mg base CX0 2 (ga K "grouped") fd_grouped ["rows", "places", "others"] (spW K .data dGrouped)) (hw : Dw.LamReg.w = some w) : FnOk P w K mg base CX0 7 f fd ["first", "second"] (spW K .data dProduct) := by
  have b_sorted := T.f "sorted" (by decide +kernel)
  have b_tuple := T.f "tuple" (by decide +kernel)
  have g_check_relations := T.g "check_relations" (by decide +kernel)
  have b_check_relations : Binds K fd_check_relations ["relations"] [] := F_check_relations.bindsN fun _ _ _ _ _ _ us hl => match us, hl with | [_], _ => rfl
  have g_grouped := T.g "grouped" (by decide +kernel)
  have b_grouped : Binds K fd_grouped ["rows", "places", "others"] [] := F_grouped.bindsN fun _ _ _ _ _ _ us hl => match us, hl with | [_, _, _], _ => rfl
  refine fn_W F scProduct (by decide) (fun cdv A outer s H E hr => ?_)
  have hu : (A.deeper (envOfC "product" (defScope sProduct) s.heap.objs.size f cdv)).units + 64 < cLine := hr.units
  have hu1 : (A.deeper (envOfC "product" (defScope sProduct) s.heap.objs.size f cdv)).units + 1 < cLine := hu_of hr
  have hu2 : (A.deeper (envOfC "product" (defScope sProduct) s.heap.objs.size f cdv)).units + 66 < cLine := by
    have := hr.un
    omega
  have r_check_relations : Room 6 (A.deeper (envOfC "product" (defScope sProduct) s.heap.objs.size f cdv)) := hr.mono (by decide)
  have r_grouped : Room 2 (A.deeper (envOfC "product" (defScope sProduct) s.heap.objs.size f cdv)) := hr.mono (by decide)
  exact (dss_cons (ds_expr (dcall G_check_relations r_check_relations rfl g_check_relations F_check_relations.kp b_check_relations pass0 (dacons (dtup (dacons (dv 0) (dacons (dv 1) danil))) danil)))
      (dss_cons (ds_set 2 scProduct.nd rfl (by first | exact Or.inl rfl | exact Or.inr rfl) (dcall G_grouped r_grouped rfl g_grouped F_grouped.kp b_grouped pass0 (dacons (dv 1) (dacons (dlst (dacons dint danil)) (dacons (dlst (dacons dint danil)) danil)))))
      (dss_one (ds_ret (dbt (brTuple (by decide)) (by decide +kernel) rfl b_tuple (dacons (dsortSg2B [("one", 4), ("middle", 5), ("end", 3)] [3] rfl scProduct.nd hu (di_seq (dv 0)) (blkOk_by (own := [("one", 4), ("middle", 5), ("end", 3)]) (N := nProduct) (sc := defScope sProduct) (by decide +kernel)) (by decide) (fun _ _ _ _ _ => (dgt rfl (dgs_cons (dg 4 scProduct.nd rfl (by first | exact Or.inl rfl | exact Or.inr rfl)) (dgs_cons (dg 5 scProduct.nd rfl (by first | exact Or.inl rfl | exact Or.inr rfl)) dgs_nil)))) (fun _ _ _ _ _ => dts_nil) (fun _ _ _ _ _ => (di_seq (dgetN hw (u9_of hu) (dv 2) (dtup (dacons (dv 5) danil)) (dlst danil)))) (fun _ _ _ _ _ => (dg 3 scProduct.nd rfl (by first | exact Or.inl rfl | exact Or.inr rfl))) (fun _ _ _ _ _ => dts_nil) (fun _ _ _ _ _ => (dtup (dacons (dv 4) (dacons (dix hu1 (dv 3) dint) danil)))) rfl b_sorted) danil))))))
end

abbrev nRelation : List Str := ["_law_stream_here", "_law_high", "_law_span", "_law_found", "_law_turn"]
theorem scRelation : FnScope nRelation ["_law_stream_here", "_law_high", "_law_span"] (defScope sRelation) := ⟨rfl, rfl, rfl, by decide +kernel, rfl, by decide +kernel, by decide +kernel⟩
def wRelation : WS :=
  (wSeq (wOwn 3 (wCallA wLst wNil))
  (wSeq (wFor (wRng1 (wCallA dDraw (wCons (wVar .data 0) (wCons (w2 (wVar .read 1) (wC (.int 1)) wAdd) wNil)))) (gN 4) (wApp 3 (wCallA wTup (wCons (wCallA dDraw (wCons (wVar .data 0) (wCons (wVar .data 2) wNil))) (wCons (wCallA dDraw (wCons (wVar .data 0) (wCons (wVar .data 2) wNil))) wNil)))))
  (wSeq (wIfS (wT1 (w2 (wCallA dDraw (wCons (wVar .data 0) (wCons (wC (.int 5)) wNil))) (wC (.int 0)) (wEq false)) wTB) (wApp 3 (wCallA wTup (wCons (wCallA dPick (wCons (wVar .data 0) (wCons (wCallA wLst (wCons (w1 (wC (.int 1)) wNeg) (wCons (w2 (wC (.int 10)) (wC (.int 39)) (wIntB CPow (fun i j => i ^ j.toNat))) (wCons (wC (.int 0)) wNil)))) wNil))) (wCons (wCallA dPick (wCons (wVar .data 0) (wCons (wCallA wLst (wCons (w2 (wC (.int 0)) (w2 (wC (.int 10)) (wC (.int 38)) (wIntB CPow (fun i j => i ^ j.toNat))) (wIntB (fun _ _ => True) (fun i j => i - j))) (wCons (wC (.int 2)) (wCons (w1 (wC (.int 1)) wNeg) wNil)))) wNil))) wNil)))) wNext)
  (wRet (wCallA wTupleOf (wCons (w1 (wVar .read 3) wSortSetB) wNil))))))
def dRelation : WD := wDef 5 3 wRelation
section
variable {P : Program} {w : World} {K : PySem.W.Frag} {mg : Str → Option Value} {base : Heap}
theorem ok_Relation {f : Addr} {fd : FuncData}  (F : FnP K "_law_relation" sRelation f fd) (T : TG K mg) {fd__law_draw : FuncData} (F__law_draw : FnP K "_law_draw" sDraw (ga K "_law_draw") fd__law_draw) (G__law_draw : FnOk P w K mg base CX0 1 (ga K "_law_draw") fd__law_draw ["_law_stream_here", "_law_high"] (spW K .data dDraw)) {fd__law_pick : FuncData} (F__law_pick : FnP K "_law_pick" sPick (ga K "_law_pick") fd__law_pick) (G__law_pick : FnOk P w K mg base CX0 2 (ga K "_law_pick") fd__law_pick ["_law_stream_here", "_law_items"] (spW K .data dPick)) : FnOk P w K mg base CX0 3 f fd ["_law_stream_here", "_law_high", "_law_span"] (spW K .data dRelation) := by
  have b_range := T.f "range" (by decide +kernel)
  have b_set := T.f "set" (by decide +kernel)
  have b_sorted := T.f "sorted" (by decide +kernel)
  have b_tuple := T.f "tuple" (by decide +kernel)
  have g__law_draw := T.g "_law_draw" (by decide +kernel)
  have b__law_draw : Binds K fd__law_draw ["_law_stream_here", "_law_high"] [] := F__law_draw.bindsN fun _ _ _ _ _ _ us hl => match us, hl with | [_, _], _ => rfl
  have g__law_pick := T.g "_law_pick" (by decide +kernel)
  have b__law_pick : Binds K fd__law_pick ["_law_stream_here", "_law_items"] [] := F__law_pick.bindsN fun _ _ _ _ _ _ us hl => match us, hl with | [_, _], _ => rfl
  refine fn_W F scRelation (by decide) (fun cdv A outer s H E hr => ?_)
  have hu : (A.deeper (envOfC "_law_relation" (defScope sRelation) s.heap.objs.size f cdv)).units + 64 < cLine := hr.units
  have hu1 : (A.deeper (envOfC "_law_relation" (defScope sRelation) s.heap.objs.size f cdv)).units + 1 < cLine := hu_of hr
  have hu2 : (A.deeper (envOfC "_law_relation" (defScope sRelation) s.heap.objs.size f cdv)).units + 66 < cLine := by
    have := hr.un
    omega
  have r__law_draw : Room 1 (A.deeper (envOfC "_law_relation" (defScope sRelation) s.heap.objs.size f cdv)) := hr.mono (by decide)
  have r__law_pick : Room 2 (A.deeper (envOfC "_law_relation" (defScope sRelation) s.heap.objs.size f cdv)) := hr.mono (by decide)
  exact (dss_cons (ds_own 3 scRelation.nd rfl (by first | exact Or.inl rfl | exact Or.inr rfl) (dlst danil))
      (dss_cons (ds_for [4] rfl PassesOwn.never rfl (di_rng1 rfl b_range (dcall G__law_draw r__law_draw rfl g__law_draw F__law_draw.kp b__law_draw pass0 (dacons (dv 0) (dacons (dadd (dv 1) dint) danil)))) (dg 4 scRelation.nd rfl (by first | exact Or.inl rfl | exact Or.inr rfl)) (dss_one (ds_append 3 (dtup (dacons (dcall G__law_draw r__law_draw rfl g__law_draw F__law_draw.kp b__law_draw pass0 (dacons (dv 0) (dacons (dv 2) danil))) (dacons (dcall G__law_draw r__law_draw rfl g__law_draw F__law_draw.kp b__law_draw pass0 (dacons (dv 0) (dacons (dv 2) danil))) danil))))))
      (dss_cons (ds_if (teq hu (dcall G__law_draw r__law_draw rfl g__law_draw F__law_draw.kp b__law_draw pass0 (dacons (dv 0) (dacons dint danil))) dint) (dss_one (ds_append 3 (dtup (dacons (dcall G__law_pick r__law_pick rfl g__law_pick F__law_pick.kp b__law_pick pass0 (dacons (dv 0) (dacons (dlst (dacons (dneg dint) (dacons (dbinI op_pow dint dint) (dacons dint danil)))) danil))) (dacons (dcall G__law_pick r__law_pick rfl g__law_pick F__law_pick.kp b__law_pick pass0 (dacons (dv 0) (dacons (dlst (dacons (dbinI op_subT dint (dbinI op_pow dint dint)) (dacons dint (dacons (dneg dint) danil)))) danil))) danil))))) dss_nil)
      (dss_one (ds_ret (dbt (brTuple (by decide)) (by decide +kernel) rfl b_tuple (dacons (dsortsetB rfl hu (dv 3) rfl b_sorted rfl b_set) danil)))))))
end

abbrev nLProduct : List Str := ["_law_one", "_law_other", "_law_found", "_law_a", "_law_b", "_law_again", "_law_c"]
theorem scLProduct : FnScope nLProduct ["_law_one", "_law_other"] (defScope sLProduct) := ⟨rfl, rfl, rfl, by decide +kernel, rfl, by decide +kernel, by decide +kernel⟩
def wLProduct : WS :=
  (wSeq (wOwn 2 (wCallA wLst wNil))
  (wSeq (wFor (wSeqI (wVar .data 0)) (gT [(gN 3), (gN 4)]) (wExt 2 (wLc (wSeqI (wVar .read 1)) (gT [(gN 5), (gN 6)]) (wT1 (w2 (wVar .read 5) (wVar .read 4) (wEq false)) wTB) (wCallA wTup (wCons (wVar .data 3) (wCons (wVar .data 6) wNil))) [5, 6])))
  (wRet (wCallA wTupleOf (wCons (w1 (wVar .read 2) wSortSetB) wNil)))))
def dLProduct : WD := wDef 7 2 wLProduct
section
variable {P : Program} {w : World} {K : PySem.W.Frag} {mg : Str → Option Value} {base : Heap}
theorem ok_LProduct {f : Addr} {fd : FuncData}  (F : FnP K "_law_product" sLProduct f fd) (T : TG K mg)  : FnOk P w K mg base CX0 1 f fd ["_law_one", "_law_other"] (spW K .data dLProduct) := by
  have b_set := T.f "set" (by decide +kernel)
  have b_sorted := T.f "sorted" (by decide +kernel)
  have b_tuple := T.f "tuple" (by decide +kernel)
  refine fn_W F scLProduct (by decide) (fun cdv A outer s H E hr => ?_)
  have hu : (A.deeper (envOfC "_law_product" (defScope sLProduct) s.heap.objs.size f cdv)).units + 64 < cLine := hr.units
  have hu1 : (A.deeper (envOfC "_law_product" (defScope sLProduct) s.heap.objs.size f cdv)).units + 1 < cLine := hu_of hr
  have hu2 : (A.deeper (envOfC "_law_product" (defScope sLProduct) s.heap.objs.size f cdv)).units + 66 < cLine := by
    have := hr.un
    omega
  exact (dss_cons (ds_own 2 scLProduct.nd rfl (by first | exact Or.inl rfl | exact Or.inr rfl) (dlst danil))
      (dss_cons (ds_for [3, 4] rfl PassesOwn.never rfl (di_seq (dv 0)) (dgt rfl (dgs_cons (dg 3 scLProduct.nd rfl (by first | exact Or.inl rfl | exact Or.inr rfl)) (dgs_cons (dg 4 scLProduct.nd rfl (by first | exact Or.inl rfl | exact Or.inr rfl)) dgs_nil))) (dss_one (ds_extend 2 (dlc [("_law_again", 5), ("_law_c", 6)] rfl scLProduct.nd (di_seq (dv 1)) (blkOk_by (own := [("_law_again", 5), ("_law_c", 6)]) (N := nLProduct) (sc := defScope sLProduct) (by decide +kernel)) (fun _ _ _ _ _ => (dgt rfl (dgs_cons (dg 5 scLProduct.nd rfl (by first | exact Or.inl rfl | exact Or.inr rfl)) (dgs_cons (dg 6 scLProduct.nd rfl (by first | exact Or.inl rfl | exact Or.inr rfl)) dgs_nil)))) (fun _ _ _ _ _ => (dts_one (teq hu (dv 5) (dv 4)))) (fun _ _ _ _ _ => (dtup (dacons (dv 3) (dacons (dv 6) danil))))))))
      (dss_one (ds_ret (dbt (brTuple (by decide)) (by decide +kernel) rfl b_tuple (dacons (dsortsetB rfl hu (dv 2) rfl b_sorted rfl b_set) danil))))))
end

abbrev nTurned : List Str := ["_law_some", "_law_a", "_law_b"]
theorem scTurned : FnScope nTurned ["_law_some"] (defScope sTurned) := ⟨rfl, rfl, rfl, by decide +kernel, rfl, by decide +kernel, by decide +kernel⟩
def wTurned : WS :=
  (wRet (wCallA wTupleOf (wCons (wCallA wSorted (wCons (wLc (wSeqI (wVar .read 0)) (gT [(gN 1), (gN 2)]) wYes (wCallA wTup (wCons (wVar .data 2) (wCons (wVar .data 1) wNil))) [1, 2]) wNil)) wNil)))
def dTurned : WD := wDef 3 1 wTurned
section
variable {P : Program} {w : World} {K : PySem.W.Frag} {mg : Str → Option Value} {base : Heap}
theorem ok_Turned {f : Addr} {fd : FuncData}  (F : FnP K "_law_turned" sTurned f fd) (T : TG K mg)  : FnOk P w K mg base CX0 1 f fd ["_law_some"] (spW K .data dTurned) := by
  have b_sorted := T.f "sorted" (by decide +kernel)
  have b_tuple := T.f "tuple" (by decide +kernel)
  refine fn_W F scTurned (by decide) (fun cdv A outer s H E hr => ?_)
  have hu : (A.deeper (envOfC "_law_turned" (defScope sTurned) s.heap.objs.size f cdv)).units + 64 < cLine := hr.units
  have hu1 : (A.deeper (envOfC "_law_turned" (defScope sTurned) s.heap.objs.size f cdv)).units + 1 < cLine := hu_of hr
  have hu2 : (A.deeper (envOfC "_law_turned" (defScope sTurned) s.heap.objs.size f cdv)).units + 66 < cLine := by
    have := hr.un
    omega
  exact (dss_one (ds_ret (dbt (brTuple (by decide)) (by decide +kernel) rfl b_tuple (dacons (dbf (brSorted2 hu) (by decide +kernel) rfl b_sorted (dacons (dlc [("_law_a", 1), ("_law_b", 2)] rfl scTurned.nd (di_seq (dv 0)) (blkOk_by (own := [("_law_a", 1), ("_law_b", 2)]) (N := nTurned) (sc := defScope sTurned) (by decide +kernel)) (fun _ _ _ _ _ => (dgt rfl (dgs_cons (dg 1 scTurned.nd rfl (by first | exact Or.inl rfl | exact Or.inr rfl)) (dgs_cons (dg 2 scTurned.nd rfl (by first | exact Or.inl rfl | exact Or.inr rfl)) dgs_nil)))) (fun _ _ _ _ _ => dts_nil) (fun _ _ _ _ _ => (dtup (dacons (dv 2) (dacons (dv 1) danil))))) danil)) danil))))
end

abbrev nRightK : List Str := ["_law_stream_here", "_law_span", "_law_found", "_law_behind", "_law_alike", "_law_one", "_law_two", "_law_three", "_law_turn", "_law_a", "_law_b"]
theorem scRightK : FnScope nRightK ["_law_stream_here"] (defScope sRightK) := ⟨rfl, rfl, rfl, by decide +kernel, rfl, by decide +kernel, by decide +kernel⟩
def wRightK : WS :=
  (wSeq (wSet 1 (w2 (wC (.int 1)) (wCallA dDraw (wCons (wVar .data 0) (wCons (wC (.int 6)) wNil))) wAdd))
  (wSeq (wAsgT (gTL [(gN 5), (gN 6), (gN 7)]) (wLc (wRng1 (wC (.int 3))) (gN 8) wYes (wCallA dRelation (wCons (wVar .data 0) (wCons (wC (.int 12)) (wCons (wVar .data 1) wNil)))) [8]))
  (wSeq (wSet 2 (wCallA dProduct (wCons (wVar .data 5) (wCons (wVar .data 6) wNil))))
  (wSeq (wIfS (wTOr (wT1 (w2 (wVar .read 2) (wCallA dLProduct (wCons (wVar .data 5) (wCons (wVar .data 6) wNil))) (wEq true)) wTB) (wT1 (w2 (wCallA wRepr (wCons (wVar .read 2) wNil)) (wCallA wRepr (wCons (wCallA dLProduct (wCons (wVar .data 5) (wCons (wVar .data 6) wNil))) wNil)) (wEq true)) wTB)) (wRet (wC (.bool false))) wNext)
  (wSeq (wIfS (wT1 (w2 (wCallA dProduct (wCons (wCallA dTurned (wCons (wVar .data 6) wNil)) (wCons (wCallA dTurned (wCons (wVar .data 5) wNil)) wNil))) (wCallA dTurned (wCons (wVar .data 2) wNil)) (wEq true)) wTB) (wRet (wC (.bool false))) wNext)
  (wSeq (wSet 3 (wCallA dProduct (wCons (wVar .data 6) (wCons (wVar .data 7) wNil))))
  (wSeq (wIfS (wTAnd (wT1 (w2 (wCallA wLen (wCons (wVar .read 2) wNil)) (wC (.int 100)) (wCmpI (fun i j => decide (i ≤ j)))) wTB) (wTAnd (wT1 (w2 (wCallA wLen (wCons (wVar .read 3) wNil)) (wC (.int 100)) (wCmpI (fun i j => decide (i ≤ j)))) wTB) (wT1 (w2 (wCallA dProduct (wCons (wVar .data 2) (wCons (wVar .data 7) wNil))) (wCallA dProduct (wCons (wVar .data 5) (wCons (wVar .data 3) wNil))) (wEq true)) wTB))) (wRet (wC (.bool false))) wNext)
  (wSeq (wSet 4 (wCallA wTupleOf (wCons (w1 (wLc (wSeqI (wVar .read 5)) (gT [(gN 9), (gN 10)]) wYes (wCallA wTup (wCons (wVar .data 10) (wCons (wVar .data 10) wNil))) [9, 10]) wSortSetB) wNil)))
  (wRet (wAndV (w2 (wCallA dProduct (wCons (wVar .data 5) (wCons (wVar .data 4) wNil))) (wVar .read 5) (wEq false)) (wAndV (w2 (wCallA dProduct (wCons (wVar .data 5) (wCons (wCallA wTup wNil) wNil))) (wCallA wTup wNil) (wEq false)) (w2 (wCallA dProduct (wCons (wCallA wTup wNil) (wCons (wVar .data 6) wNil))) (wCallA wTup wNil) (wEq false)))))))))))))
def dRightK : WD := wDef 11 1 wRightK
section
variable {P : Program} {w : World} {K : PySem.W.Frag} {mg : Str → Option Value} {base : Heap}
theorem ok_RightK {f : Addr} {fd : FuncData}  (F : FnP K "_law_right" sRightK f fd) (T : TG K mg) {fd__law_draw : FuncData} (F__law_draw : FnP K "_law_draw" sDraw (ga K "_law_draw") fd__law_draw) (G__law_draw : FnOk P w K mg base CX0 1 (ga K "_law_draw") fd__law_draw ["_law_stream_here", "_law_high"] (spW K .data dDraw)) {fd__law_relation : FuncData} (F__law_relation : FnP K "_law_relation" sRelation (ga K "_law_relation") fd__law_relation) (G__law_relation : FnOk P w K mg base CX0 3 (ga K "_law_relation") fd__law_relation ["_law_stream_here", "_law_high", "_law_span"] (spW K .data dRelation)) {fd_product : FuncData} (F_product : FnP K "product" sProduct (ga K "product") fd_product) (G_product : FnOk P w K mg base CX0 7 (ga K "product") fd_product ["first", "second"] (spW K .data dProduct)) {fd__law_product : FuncData} (F__law_product : FnP K "_law_product" sLProduct (ga K "_law_product") fd__law_product) (G__law_product : FnOk P w K mg base CX0 1 (ga K "_law_product") fd__law_product ["_law_one", "_law_other"] (spW K .data dLProduct)) {fd__law_turned : FuncData} (F__law_turned : FnP K "_law_turned" sTurned (ga K "_law_turned") fd__law_turned) (G__law_turned : FnOk P w K mg base CX0 1 (ga K "_law_turned") fd__law_turned ["_law_some"] (spW K .data dTurned)) (hk : SysD K) : FnG P w K mg base CX0 8 f fd ["_law_stream_here"] (spW K .data dRightK) := by
  have b_len := T.f "len" (by decide +kernel)
  have b_range := T.f "range" (by decide +kernel)
  have b_repr := T.f "repr" (by decide +kernel)
  have b_set := T.f "set" (by decide +kernel)
  have b_sorted := T.f "sorted" (by decide +kernel)
  have b_tuple := T.f "tuple" (by decide +kernel)
  have g__law_draw := T.g "_law_draw" (by decide +kernel)
  have b__law_draw : Binds K fd__law_draw ["_law_stream_here", "_law_high"] [] := F__law_draw.bindsN fun _ _ _ _ _ _ us hl => match us, hl with | [_, _], _ => rfl
  have g__law_relation := T.g "_law_relation" (by decide +kernel)
  have b__law_relation : Binds K fd__law_relation ["_law_stream_here", "_law_high", "_law_span"] [] := F__law_relation.bindsN fun _ _ _ _ _ _ us hl => match us, hl with | [_, _, _], _ => rfl
  have g_product := T.g "product" (by decide +kernel)
  have b_product : Binds K fd_product ["first", "second"] [] := F_product.bindsN fun _ _ _ _ _ _ us hl => match us, hl with | [_, _], _ => rfl
  have g__law_product := T.g "_law_product" (by decide +kernel)
  have b__law_product : Binds K fd__law_product ["_law_one", "_law_other"] [] := F__law_product.bindsN fun _ _ _ _ _ _ us hl => match us, hl with | [_, _], _ => rfl
  have g__law_turned := T.g "_law_turned" (by decide +kernel)
  have b__law_turned : Binds K fd__law_turned ["_law_some"] [] := F__law_turned.bindsN fun _ _ _ _ _ _ us hl => match us, hl with | [_], _ => rfl
  refine fn_WG F scRightK (by decide) (fun cdv A outer s H E hr hgd => ?_)
  have hu : (A.deeper (envOfC "_law_right" (defScope sRightK) s.heap.objs.size f cdv)).units + 64 < cLine := hr.units
  have hu1 : (A.deeper (envOfC "_law_right" (defScope sRightK) s.heap.objs.size f cdv)).units + 1 < cLine := hu_of hr
  have hu2 : (A.deeper (envOfC "_law_right" (defScope sRightK) s.heap.objs.size f cdv)).units + 66 < cLine := by
    have := hr.un
    omega
  have r__law_draw : Room 1 (A.deeper (envOfC "_law_right" (defScope sRightK) s.heap.objs.size f cdv)) := hr.mono (by decide)
  have r__law_relation : Room 3 (A.deeper (envOfC "_law_right" (defScope sRightK) s.heap.objs.size f cdv)) := hr.mono (by decide)
  have r_product : Room 7 (A.deeper (envOfC "_law_right" (defScope sRightK) s.heap.objs.size f cdv)) := hr.mono (by decide)
  have r__law_product : Room 1 (A.deeper (envOfC "_law_right" (defScope sRightK) s.heap.objs.size f cdv)) := hr.mono (by decide)
  have r__law_turned : Room 1 (A.deeper (envOfC "_law_right" (defScope sRightK) s.heap.objs.size f cdv)) := hr.mono (by decide)
  exact (dss_cons (ds_set 1 scRightK.nd rfl (by first | exact Or.inl rfl | exact Or.inr rfl) (dadd dint (dcall G__law_draw r__law_draw rfl g__law_draw F__law_draw.kp b__law_draw pass0 (dacons (dv 0) (dacons dint danil)))))
      (dss_cons (ds_asgT [5, 6, 7] (dlc [("_law_turn", 8)] rfl scRightK.nd (di_rng1 rfl b_range dint) (blkOk_by (own := [("_law_turn", 8)]) (N := nRightK) (sc := defScope sRightK) (by decide +kernel)) (fun _ _ _ _ _ => (dg 8 scRightK.nd rfl (by first | exact Or.inl rfl | exact Or.inr rfl))) (fun _ _ _ _ _ => dts_nil) (fun _ _ _ _ _ => (dcall G__law_relation r__law_relation rfl g__law_relation F__law_relation.kp b__law_relation pass0 (dacons (dv 0) (dacons dint (dacons (dv 1) danil)))))) (dgtL rfl (dgs_cons (dg 5 scRightK.nd rfl (by first | exact Or.inl rfl | exact Or.inr rfl)) (dgs_cons (dg 6 scRightK.nd rfl (by first | exact Or.inl rfl | exact Or.inr rfl)) (dgs_cons (dg 7 scRightK.nd rfl (by first | exact Or.inl rfl | exact Or.inr rfl)) dgs_nil)))))
      (dss_cons (ds_set 2 scRightK.nd rfl (by first | exact Or.inl rfl | exact Or.inr rfl) (dcall G_product r_product rfl g_product F_product.kp b_product pass0 (dacons (dv 5) (dacons (dv 6) danil))))
      (dss_cons (ds_if (PW.pt (dw_or (tne hu (dv 2) (dcall G__law_product r__law_product rfl g__law_product F__law_product.kp b__law_product pass0 (dacons (dv 5) (dacons (dv 6) danil)))) (dw_or1 (tne hu (dbf (brRepr hk hgd hu (by decide)) (by decide +kernel) rfl b_repr (dacons (dv 2) danil)) (dbf (brRepr hk hgd hu (by decide)) (by decide +kernel) rfl b_repr (dacons (dcall G__law_product r__law_product rfl g__law_product F__law_product.kp b__law_product pass0 (dacons (dv 5) (dacons (dv 6) danil))) danil)))))) (dss_one (ds_ret dbl)) dss_nil)
      (dss_cons (ds_if (tne hu (dcall G_product r_product rfl g_product F_product.kp b_product pass0 (dacons (dcall G__law_turned r__law_turned rfl g__law_turned F__law_turned.kp b__law_turned pass0 (dacons (dv 6) danil)) (dacons (dcall G__law_turned r__law_turned rfl g__law_turned F__law_turned.kp b__law_turned pass0 (dacons (dv 5) danil)) danil))) (dcall G__law_turned r__law_turned rfl g__law_turned F__law_turned.kp b__law_turned pass0 (dacons (dv 2) danil))) (dss_one (ds_ret dbl)) dss_nil)
      (dss_cons (ds_set 3 scRightK.nd rfl (by first | exact Or.inl rfl | exact Or.inr rfl) (dcall G_product r_product rfl g_product F_product.kp b_product pass0 (dacons (dv 6) (dacons (dv 7) danil))))
      (dss_cons (ds_if (PW.pt (dw_and (tcmpI op_le (dbf (brLen (by decide)) (by decide +kernel) rfl b_len (dacons (dv 2) danil)) dint) (dw_and (tcmpI op_le (dbf (brLen (by decide)) (by decide +kernel) rfl b_len (dacons (dv 3) danil)) dint) (dw_and1 (tne hu (dcall G_product r_product rfl g_product F_product.kp b_product pass0 (dacons (dv 2) (dacons (dv 7) danil))) (dcall G_product r_product rfl g_product F_product.kp b_product pass0 (dacons (dv 5) (dacons (dv 3) danil)))))))) (dss_one (ds_ret dbl)) dss_nil)
      (dss_cons (ds_set 4 scRightK.nd rfl (by first | exact Or.inl rfl | exact Or.inr rfl) (dbt (brTuple (by decide)) (by decide +kernel) rfl b_tuple (dacons (dsortsetB rfl hu (dlc [("_law_a", 9), ("_law_b", 10)] rfl scRightK.nd (di_seq (dv 5)) (blkOk_by (own := [("_law_a", 9), ("_law_b", 10)]) (N := nRightK) (sc := defScope sRightK) (by decide +kernel)) (fun _ _ _ _ _ => (dgt rfl (dgs_cons (dg 9 scRightK.nd rfl (by first | exact Or.inl rfl | exact Or.inr rfl)) (dgs_cons (dg 10 scRightK.nd rfl (by first | exact Or.inl rfl | exact Or.inr rfl)) dgs_nil)))) (fun _ _ _ _ _ => dts_nil) (fun _ _ _ _ _ => (dtup (dacons (dv 10) (dacons (dv 10) danil))))) rfl b_sorted rfl b_set) danil)))
      (dss_one (ds_ret (dand (deq hu (dcall G_product r_product rfl g_product F_product.kp b_product pass0 (dacons (dv 5) (dacons (dv 4) danil))) (dv 5)) (dand (deq hu (dcall G_product r_product rfl g_product F_product.kp b_product pass0 (dacons (dv 5) (dacons (dtup danil) danil))) (dtup danil)) (pe_one (deq hu (dcall G_product r_product rfl g_product F_product.kp b_product pass0 (dacons (dtup danil) (dacons (dv 6) danil))) (dtup danil)))))))))))))))
end

abbrev nWritten : List Str := ["_law_wide", "_law_great", "_law_fan", "_law_back", "_law_at", "_law_a", "_law_c"]
theorem scWritten : FnScope nWritten [] (defScope sWritten) := ⟨rfl, rfl, rfl, by decide +kernel, rfl, by decide +kernel, by decide +kernel⟩
def wWritten : WS :=
  (wSeq (wSet 0 (wCallA wTupleOf (wCons (wLc (wRng1 (wC (.int 100))) (gN 4) wYes (wCallA wTup (wCons (w2 (wCallA wInt (wCons (wVar .read 4) wNil)) (wC (.int 10)) (wIntB CDivN (fun i j => i.fdiv j))) (wCons (w2 (wCallA wInt (wCons (wVar .read 4) wNil)) (wC (.int 10)) (wIntB (fun _ j => j ≠ 0) (fun i j => i.fmod j))) wNil))) [4]) wNil)))
  (wSeq (wPar 2 3 (wCallA wTupleOf (wCons (wLc (wRng1 (wC (.int 100))) (gN 5) wYes (wCallA wTup (wCons (wVar .data 5) (wCons (wC (.int 7)) wNil))) [5]) wNil)) (wCallA wTupleOf (wCons (wLc (wRng2 (w1 (wC (.int 50)) wNeg) (wC (.int 50))) (gN 6) wYes (wCallA wTup (wCons (wC (.int 7)) (wCons (wVar .data 6) wNil))) [6]) wNil)))
  (wSeq (wIfS (wTOr (wT1 (w2 (wCallA dProduct (wCons (wVar .data 0) (wCons (wVar .data 0) wNil))) (wVar .read 0) (wEq true)) wTB) (wT1 (w2 (wCallA wLen (wCons (wCallA dProduct (wCons (wVar .data 2) (wCons (wVar .data 3) wNil))) wNil)) (wC (.int 10000)) (wEq true)) wTB)) (wRet (wC (.bool false))) wNext)
  (wSeq (wIfS (wTOr (wT1 (w2 (wCut cutA (wCallA dProduct (wCons (wVar .data 2) (wCons (wVar .data 3) wNil))) wNoP (wPart (wC (.int 2)))) (wCallA wTup (wCons (wCallA wTup (wCons (wC (.int 0)) (wCons (w1 (wC (.int 50)) wNeg) wNil))) (wCons (wCallA wTup (wCons (wC (.int 0)) (wCons (w1 (wC (.int 49)) wNeg) wNil))) wNil))) (wEq true)) wTB) (wT1 (w2 (wCallA dProduct (wCons (wVar .data 3) (wCons (wVar .data 2) wNil))) (wCallA wTup (wCons (wCallA wTup (wCons (wC (.int 7)) (wCons (wC (.int 7)) wNil))) wNil)) (wEq true)) wTB)) (wRet (wC (.bool false))) wNext)
  (wSeq (wSet 1 (w2 (w2 (wC (.int 10)) (wC (.int 40)) (wIntB CPow (fun i j => i ^ j.toNat))) (wC (.int 1)) (wIntB (fun _ _ => True) (fun i j => i - j))))
  (wRet (wAndV (w2 (wCallA dProduct (wCons (wCallA wTup (wCons (wCallA wTup (wCons (wVar .data 1) (wCons (w2 (wC (.int 0)) (wVar .read 1) (wIntB (fun _ _ => True) (fun i j => i - j))) wNil))) wNil)) (wCons (wCallA wTup (wCons (wCallA wTup (wCons (w2 (wC (.int 0)) (wVar .read 1) (wIntB (fun _ _ => True) (fun i j => i - j))) (wCons (wVar .data 1) wNil))) wNil)) wNil))) (wCallA wTup (wCons (wCallA wTup (wCons (wVar .data 1) (wCons (wVar .data 1) wNil))) wNil)) (wEq false)) (w2 (wCallA dProduct (wCons (wCallA wTup wNil) (wCons (wCallA wTup wNil) wNil))) (wCallA wTup wNil) (wEq false)))))))))
def dWritten : WD := wDef 7 0 wWritten
section
variable {P : Program} {w : World} {K : PySem.W.Frag} {mg : Str → Option Value} {base : Heap}
theorem ok_Written {f : Addr} {fd : FuncData}  (F : FnP K "_law_written_right" sWritten f fd) (T : TG K mg) {fd_product : FuncData} (F_product : FnP K "product" sProduct (ga K "product") fd_product) (G_product : FnOk P w K mg base CX0 7 (ga K "product") fd_product ["first", "second"] (spW K .data dProduct)) : FnOk P w K mg base CX0 8 f fd [] (spW K .data dWritten) := by
  have b_int := T.f "int" (by decide +kernel)
  have b_len := T.f "len" (by decide +kernel)
  have b_range := T.f "range" (by decide +kernel)
  have b_tuple := T.f "tuple" (by decide +kernel)
  have g_product := T.g "product" (by decide +kernel)
  have b_product : Binds K fd_product ["first", "second"] [] := F_product.bindsN fun _ _ _ _ _ _ us hl => match us, hl with | [_, _], _ => rfl
  refine fn_W F scWritten (by decide) (fun cdv A outer s H E hr => ?_)
  have hu : (A.deeper (envOfC "_law_written_right" (defScope sWritten) s.heap.objs.size f cdv)).units + 64 < cLine := hr.units
  have hu1 : (A.deeper (envOfC "_law_written_right" (defScope sWritten) s.heap.objs.size f cdv)).units + 1 < cLine := hu_of hr
  have hu2 : (A.deeper (envOfC "_law_written_right" (defScope sWritten) s.heap.objs.size f cdv)).units + 66 < cLine := by
    have := hr.un
    omega
  have r_product : Room 7 (A.deeper (envOfC "_law_written_right" (defScope sWritten) s.heap.objs.size f cdv)) := hr.mono (by decide)
  exact (dss_cons (ds_set 0 scWritten.nd rfl (by first | exact Or.inl rfl | exact Or.inr rfl) (dbt (brTuple (by decide)) (by decide +kernel) rfl b_tuple (dacons (dlc [("_law_at", 4)] rfl scWritten.nd (di_rng1 rfl b_range dint) (blkOk_by (own := [("_law_at", 4)]) (N := nWritten) (sc := defScope sWritten) (by decide +kernel)) (fun _ _ _ _ _ => (dg 4 scWritten.nd rfl (by first | exact Or.inl rfl | exact Or.inr rfl))) (fun _ _ _ _ _ => dts_nil) (fun _ _ _ _ _ => (dtup (dacons (dbinI op_fdivN (dbt (brInt (by decide)) (by decide +kernel) rfl b_int (dacons (dv 4) danil)) dint) (dacons (dbinI op_modN (dbt (brInt (by decide)) (by decide +kernel) rfl b_int (dacons (dv 4) danil)) dint) danil))))) danil)))
      (dss_cons (ds_par (i := 2) (j := 3) rfl scWritten.nd rfl rfl (by decide) rfl rfl (dbt (brTuple (by decide)) (by decide +kernel) rfl b_tuple (dacons (dlc [("_law_a", 5)] rfl scWritten.nd (di_rng1 rfl b_range dint) (blkOk_by (own := [("_law_a", 5)]) (N := nWritten) (sc := defScope sWritten) (by decide +kernel)) (fun _ _ _ _ _ => (dg 5 scWritten.nd rfl (by first | exact Or.inl rfl | exact Or.inr rfl))) (fun _ _ _ _ _ => dts_nil) (fun _ _ _ _ _ => (dtup (dacons (dv 5) (dacons dint danil))))) danil)) (dbt (brTuple (by decide)) (by decide +kernel) rfl b_tuple (dacons (dlc [("_law_c", 6)] rfl scWritten.nd (di_rng2 rfl b_range (dneg dint) dint) (blkOk_by (own := [("_law_c", 6)]) (N := nWritten) (sc := defScope sWritten) (by decide +kernel)) (fun _ _ _ _ _ => (dg 6 scWritten.nd rfl (by first | exact Or.inl rfl | exact Or.inr rfl))) (fun _ _ _ _ _ => dts_nil) (fun _ _ _ _ _ => (dtup (dacons dint (dacons (dv 6) danil))))) danil)) rfl)
      (dss_cons (ds_if (PW.pt (dw_or (tne hu (dcall G_product r_product rfl g_product F_product.kp b_product pass0 (dacons (dv 0) (dacons (dv 0) danil))) (dv 0)) (dw_or1 (tne hu (dbf (brLen (by decide)) (by decide +kernel) rfl b_len (dacons (dcall G_product r_product rfl g_product F_product.kp b_product pass0 (dacons (dv 2) (dacons (dv 3) danil))) danil)) dint)))) (dss_one (ds_ret dbl)) dss_nil)
      (dss_cons (ds_if (PW.pt (dw_or (tne hu (dslice (dcall G_product r_product rfl g_product F_product.kp b_product pass0 (dacons (dv 2) (dacons (dv 3) danil))) dno (dso dint)) (dtup (dacons (dtup (dacons dint (dacons (dneg dint) danil))) (dacons (dtup (dacons dint (dacons (dneg dint) danil))) danil)))) (dw_or1 (tne hu (dcall G_product r_product rfl g_product F_product.kp b_product pass0 (dacons (dv 3) (dacons (dv 2) danil))) (dtup (dacons (dtup (dacons dint (dacons dint danil))) danil)))))) (dss_one (ds_ret dbl)) dss_nil)
      (dss_cons (ds_set 1 scWritten.nd rfl (by first | exact Or.inl rfl | exact Or.inr rfl) (dbinI op_subT (dbinI op_pow dint dint) dint))
      (dss_one (ds_ret (dand (deq hu (dcall G_product r_product rfl g_product F_product.kp b_product pass0 (dacons (dtup (dacons (dtup (dacons (dv 1) (dacons (dbinI op_subT dint (dv 1)) danil))) danil)) (dacons (dtup (dacons (dtup (dacons (dbinI op_subT dint (dv 1)) (dacons (dv 1) danil))) danil)) danil))) (dtup (dacons (dtup (dacons (dv 1) (dacons (dv 1) danil))) danil))) (pe_one (deq hu (dcall G_product r_product rfl g_product F_product.kp b_product pass0 (dacons (dtup danil) (dacons (dtup danil) danil))) (dtup danil)))))))))))
end

end K60

/-! Rows grouped: d = {}, d.setdefault(k, []), and the dict of lists while it grows. -/
namespace Nd
open PySem PySem.Spec PyProof.Rows L2 Rp
section
variable {X : Cx}
/-- {} -/
theorem pe_newN {pos : Pos} : PE X (.Dict [] [] pos) (fun σ H Q => ∀ q, H q = none → Q (.ref q) (upd H q (NdO X.w q []))) := ⟨fun pins s σ H Q I h =>
  wpAny_Dict_empty ⟨.ref s.heap.objs.size, _, I.laid (t' := s.toks) (o := NdO X.w s.heap.objs.size []) (fun _ _ q => Heap.get?_push_of_some _ q) (Nat.le_refl _) (nd_empty s.heap I.big), rfl, h _ (I.hok.fresh (Nat.le_refl _))⟩⟩
def tNSd (X : Cx) (td ty : TE) : TE := fun σ H Q => td σ H fun x H1 => ∃ d kvs, x = .ref d ∧ H1 d = some (NdO X.w d kvs) ∧ ty σ H1 fun y H2 => ∀ q, H2 q = none → ∃ b k kvs, y = .ref b ∧ H2 d = some (NdO X.w d kvs) ∧ KeysD X.K H2 kvs ∧ kvs.length < sizeLine ∧ Dt X.K H2 (.ref b) k.data ∧ k.depth ≤ 8 ∧
  (∀ v, atN kvs k = some v → Q v (upd H2 q (.lst []))) ∧ (atN kvs k = none → Q (.ref q) (upd (upd H2 q (.lst [])) d (NdO X.w d (kvs ++ [(k, b, .ref q)]))))
/-- o.setdefault(e, []) -/
theorem pe_nsd {o e : Expr} {apos cpos lpos : Pos} {td ty : TE} (hu : X.A.units + 9 < cLine) (ho : PE X o td) (he : PE X e ty) (mm : M2 X o "setdefault" apos e (.List [] lpos) cpos) : PE X (.Call (.Attribute o "setdefault" apos) [e, .List [] lpos] [] cpos) (tNSd X td ty) := by
  refine ⟨fun pins s σ H Q I h => ?_⟩
  refine wpAny_Call_method mm.base mm.few mm.line PySem.F.plainAttrs_dict PySem.F.slot_dict_setdefault PySem.F.type_dict_setdefault (thn (ho.run pins s σ H _ I h) fun u s1 ⟨x, H1, I1, rx, d, kvs, ex, hd, q1⟩ => ?_)
  subst ex
  obtain rfl : u = Value.ref d := rx
  obtain ⟨_, _, _, xs, _, ob, es, ep, z1, z2, z3, _⟩ := nd_obj I1 hd
  refine ⟨⟨ob, z1, z2.1⟩, fun b q => by cases q; exact ⟨ob, z1, z2.2.1⟩, ?_⟩
  rw [mm.trees]
  have lst : PE X (.List [] lpos) _ := pe_lst pa_nil
  refine Calls.callWith_builtin rfl (Calls.evalArgs_plain (Calls.spliced_cons (thn (he.run pins s1 σ H1 _ I1 q1) fun iv s2 ⟨y, H2, I2, ry, q2⟩ => Calls.spliced_cons (thn (lst.run pins s2 σ H2 (fun v H3 => ∃ q, v = .ref q ∧ H2 q = none ∧ H3 = upd H2 q (.lst [])) I2 ⟨Nat.zero_le _, fun q hq => ⟨q, rfl, hq, rfl⟩⟩) fun jv s3 ⟨z, H3, I3, rz, q, ez, hq, e3⟩ => Calls.spliced_nil ?_))))
  subst ez e3
  obtain rfl : jv = Value.ref q := rz
  obtain ⟨b, k, kvs2, ey, hd2, hk, hz, hb, h8, g1, g2⟩ := q2 q hq
  subst ey
  obtain rfl : iv = Value.ref b := ry
  have sm : Same H2 (upd H2 q (.lst [])) := smu hq
  refine n_setdef (x := .ref q) hu I3 (sm _ _ hd2) (fun x hx => ⟨Dt.same sm _ _ (hk x hx).1, (hk x hx).2⟩) hz (Dt.same sm _ _ hb) h8 rfl (fun v u s4 e4 I4 r4 => ⟨v, _, I4, r4, g1 v e4⟩) fun s4 e4 I4 => ⟨.ref q, _, I4, rfl, g2 e4⟩
end
end Nd
namespace Dw
open PySem PySem.Spec PySem.W PySem.Calls PyProof.Rows L2 Dr Rp _root_.Nd
variable [Dw.LamReg]
/-- what is loose while a dict of lists grows: the caller's, the dict, its lists -/
def LG (Lc : Addr → Prop) (D : Addr) (kas : List KAV) : Addr → Prop := fun b => Lc b ∨ b = D ∨ ∃ a ∈ kas, a.2.2 = .ref b
def GP (K : PySem.W.Frag) (L : Addr → Prop) (G : Hp) (a : KAV) (e : List Int × List (List Int)) : Prop := a.1 = keyI e.1 ∧ Dt K (ctL L G) (.ref a.2.1) (keyI e.1).data ∧ ∃ q vs, a.2.2 = .ref q ∧ G q = some (.lst vs) ∧ DtAll K (ctL L G) vs (e.2.map tupI)
structure GI (K : PySem.W.Frag) (w : World) (Lc : Addr → Prop) (p : Pt) (H0 : Hp) (D : Addr) (kas : List KAV) (g : Grp) (G : Hp) : Prop where
  d : G D = some (NdO w D kas)
  st : Stp Lc p H0 G
  ok : LOk (LG Lc D kas) p G
  pr : Paired (GP K (LG Lc D kas) G) kas g
  fr : ∀ a ∈ kas, ∀ q, a.2.2 = .ref q → FreeT H0 q ∧ q ≠ D
  nd : (kas.map (·.2.2)).Nodup
  kn : (kas.map (·.1)).Nodup
  d0 : FreeT H0 D
  o0 : LOk Lc p H0
section
variable {K : PySem.W.Frag} {w : World} {Lc L : Addr → Prop} {p : Pt} {H0 G G' : Hp} {D : Addr} {kas : List KAV} {g : Grp}
theorem lok_upd {q : Addr} {o : HO} (ok : LOk L p G) (np : p.q ≠ some q) (nt : NT o) (nb : ∀ u, G q = some u → NTb u) : LOk L p (upd G q o) := by
  refine ⟨fun b l => ?_, fun a e => ⟨(ok.str a e).1, (ok.str a e).2.keep fun u hu => by rw [upd_ne (fun z => np (by rw [← z]; exact e))]; exact hu⟩, tabs_upd ok.tbs nb⟩
  by_cases eb : b = q
  · subst eb
    exact ⟨_, upd_same, nt⟩
  · rw [upd_ne eb]
    exact ok.live b l
theorem stp_upd {q : Addr} {o : HO} (s : Stp Lc p H0 G) (o0 : LOk Lc p H0) (h0 : FreeT H0 q) : Stp Lc p H0 (upd G q o) := ⟨fun b u n tt h => by
    rw [upd_ne (fun e => by rw [e] at h; obtain ⟨ps, z⟩ := h0 u h; exact tt ps z)]
    exact s.keep b u n tt h, fun b l n => by
    rw [upd_ne (fun e => o0.neT h0 (by rw [← e]; exact l))]
    exact s.loose b l n⟩
theorem npq {q : Addr} (o0 : LOk Lc p H0) (h0 : FreeT H0 q) : p.q ≠ some q := fun e => o0.neT h0 (o0.str q e).1
theorem GI.step (I : GI K w Lc p H0 D kas g G) (s : Stp (LG Lc D kas) p G G') (o : LOk (LG Lc D kas) p G') : GI K w Lc p H0 D kas g G' := by
  refine ⟨(s.loose D (.inr (.inl rfl)) (npq I.o0 I.d0)).trans I.d, I.st.trans (s.sub fun b l => .inl l), o, ?_, I.fr, I.nd, I.kn, I.d0, I.o0⟩
  have all : ∀ {l : List KAV} {m : Grp}, (∀ a ∈ l, a ∈ kas) → Paired (GP K (LG Lc D kas) G) l m → Paired (GP K (LG Lc D kas) G') l m := by
    intro l m hl h
    induction h with
    | nil => exact .nil
    | @cons a e ps qs h t ih =>
      refine .cons ?_ (ih fun a ha => hl a (List.mem_cons_of_mem _ ha))
      obtain ⟨h1, h2, q, vs, h3, h4, h5⟩ := h
      have ha := hl a List.mem_cons_self
      refine ⟨h1, Dt.sameR (s.ct I.ok) _ _ h2, q, vs, h3, (s.loose q (.inr (.inr ⟨a, ha, h3⟩)) (npq I.o0 (I.fr a ha q h3).1)).trans h4, Dt.sameRAll (s.ct I.ok) _ _ h5⟩
  exact all (fun _ h => h) I.pr
theorem GI.keys (I : GI K w Lc p H0 D kas g G) : KeysD K G kas := by
  have all : ∀ {l : List KAV} {m : Grp}, Paired (GP K (LG Lc D kas) G) l m → KeysD K G l := by
    intro l m h
    induction h with
    | nil => exact fun _ z => nomatch z
    | cons a t ih =>
      intro x hx
      rcases List.mem_cons.mp hx with rfl | hx
      · exact ⟨by rw [a.1]; exact Dt.sameR ctL_all _ _ a.2.1, by rw [a.1]; exact keyI_depth _⟩
      · exact ih x hx
  exact all I.pr
/-- a new key, its list still empty -/
def gPut (g : Grp) (k : List Int) : Grp := if g.any (fun x => decide (x.1 = k)) = true then g else g ++ [(k, [])]
def gApp (g : Grp) (k d : List Int) : Grp := g.map fun x => if x.1 = k then (x.1, x.2 ++ [d]) else x
theorem gApp_no {k d : List Int} : ∀ {g : Grp}, g.any (fun x => decide (x.1 = k)) = false → gApp g k d = g
  | [], _ => rfl
  | x :: r, h => by
    rw [List.any_cons, Bool.or_eq_false_iff] at h
    unfold gApp at *
    rw [List.map_cons, if_neg (of_decide_eq_false h.1)]
    have ih := gApp_no (k := k) (d := d) h.2
    unfold gApp at ih
    rw [ih]
theorem addG_eq (g : Grp) (k d : List Int) : addG g k d = gApp (gPut g k) k d := by
  unfold addG gPut
  cases h : g.any (fun x => decide (x.1 = k)) with
  | true => rfl
  | false =>
    have e := gApp_no (d := d) h
    unfold gApp at e ⊢
    simp only [Bool.false_eq_true, if_false]
    rw [List.map_append, e, List.map_cons, if_pos rfl] <;> rfl
theorem gp_at {k : List Int} : ∀ {l : List KAV} {m : Grp}, Paired (GP K L G) l m → (atN l (keyI k) = none ∧ m.any (fun x => decide (x.1 = k)) = false) ∨ ∃ a ∈ l, a.1 = keyI k ∧ atN l (keyI k) = some a.2.2 ∧ m.any (fun x => decide (x.1 = k)) = true
  | _, _, .nil => .inl ⟨rfl, rfl⟩
  | _, _, .cons (a := a) (b := e) h t => by
    by_cases q : e.1 = k
    · refine .inr ⟨a, List.mem_cons_self, by rw [h.1, q], ?_, by rw [List.any_cons, decide_eq_true q, Bool.true_or]⟩
      unfold atN
      rw [List.find?_cons, decide_eq_true (by rw [h.1, q])]
      rfl
    · have n : ¬ a.1 = keyI k := fun z => q (keyI_inj (by rw [← h.1]; exact z))
      have e1 : ∀ r : List KAV, atN (a :: r) (keyI k) = atN r (keyI k) := fun r => by
        unfold atN
        rw [List.find?_cons, decide_eq_false n]
      rw [List.any_cons, decide_eq_false q, Bool.false_or]
      rcases gp_at (k := k) t with ⟨h1, h2⟩ | ⟨a', h1, h2, h3, h4⟩
      · exact .inl ⟨(e1 _).trans h1, h2⟩
      · exact .inr ⟨a', List.mem_cons_of_mem _ h1, h2, (e1 _).trans h3, h4⟩
theorem atN_no {k : NestedKey} : ∀ {l : List KAV}, atN l k = none → ∀ a ∈ l, a.1 ≠ k
  | x :: r, h, a, ha => by
    unfold atN at h
    rw [List.find?_cons] at h
    by_cases e : x.1 = k
    · rw [decide_eq_true e] at h
      cases h
    · rw [decide_eq_false e] at h
      rcases List.mem_cons.mp ha with rfl | ha
      · exact e
      · exact atN_no h a ha
/-- a key that is new -/
theorem GI.new (I : GI K w Lc p H0 D kas g G) {k : List Int} {b q : Addr} (hq : G q = none) (hb : Dt K (ctL (LG Lc D kas) G) (.ref b) (keyI k).data) (hn : atN kas (keyI k) = none) : GI K w Lc p H0 D (kas ++ [(keyI k, b, .ref q)]) (g ++ [(k, [])]) (upd (upd G q (.lst [])) D (NdO w D (kas ++ [(keyI k, b, .ref q)]))) := by
  have qD : q ≠ D := fun e => by rw [e, I.d] at hq; cases hq
  have np : p.q ≠ some q := fun z => I.ok.ne q (I.ok.str q z).1 hq
  have hq0 : FreeT H0 q := (I.st.free (b := q) ⟨np, .of hq⟩).2
  have nL : ¬ LG Lc D kas q := fun l => I.ok.ne q l hq
  have npD := npq I.o0 I.d0
  have toL : ∀ c, LG Lc D (kas ++ [(keyI k, b, .ref q)]) c → LG Lc D kas c ∨ c = q := fun c l => by
    rcases l with l | l | ⟨a, ha, e⟩
    · exact .inl (.inl l)
    · exact .inl (.inr (.inl l))
    · rcases List.mem_append.mp ha with ha | ha
      · exact .inl (.inr (.inr ⟨a, ha, e⟩))
      · rw [List.mem_singleton.mp ha] at e
        exact .inr (V.ref.inj e).symm
  have g1 : ∀ c, c ≠ q → c ≠ D → upd (upd G q (.lst [])) D (NdO w D (kas ++ [(keyI k, b, .ref q)])) c = G c := fun c h1 h2 => by rw [upd_ne h2, upd_ne h1]
  have ct : SameR (ctL (LG Lc D kas) G) (ctL (LG Lc D (kas ++ [(keyI k, b, .ref q)])) (upd (upd G q (.lst [])) D (NdO w D (kas ++ [(keyI k, b, .ref q)])))) := fun c u h => by
    obtain ⟨n, h1, tt⟩ := ctL_of h
    have cq : c ≠ q := fun e => by rw [e, hq] at h1; cases h1
    have cD : c ≠ D := fun e => n (by rw [e]; exact .inr (.inl rfl))
    exact ⟨u, ctL_at (by rw [g1 c cq cD]; exact h1) (fun l => (toL c l).elim n cq) tt, .inl rfl⟩
  have old : ∀ {l : List KAV} {m : Grp}, (∀ a ∈ l, a ∈ kas) → Paired (GP K (LG Lc D kas) G) l m → Paired (GP K (LG Lc D (kas ++ [(keyI k, b, .ref q)])) (upd (upd G q (.lst [])) D (NdO w D (kas ++ [(keyI k, b, .ref q)])))) l m := by
    intro l m hl h
    induction h with
    | nil => exact .nil
    | @cons a e ps qs h t ih =>
      refine .cons ?_ (ih fun a ha => hl a (List.mem_cons_of_mem _ ha))
      obtain ⟨h1, h2, q', vs, h3, h4, h5⟩ := h
      have ha := hl a List.mem_cons_self
      refine ⟨h1, Dt.sameR ct _ _ h2, q', vs, h3, ?_, Dt.sameRAll ct _ _ h5⟩
      rw [g1 q' (fun e => by rw [e, hq] at h4; cases h4) (I.fr a ha q' h3).2]
      exact h4
  have refs : ∀ a ∈ kas, ∃ q' vs, a.2.2 = .ref q' ∧ G q' = some (.lst vs) := by
    have all : ∀ {l : List KAV} {m : Grp}, Paired (GP K (LG Lc D kas) G) l m → ∀ a ∈ l, ∃ q' vs, a.2.2 = .ref q' ∧ G q' = some (.lst vs) := by
      intro l m h
      induction h with
      | nil => exact fun _ z => nomatch z
      | cons h t ih =>
        intro x hx
        rcases List.mem_cons.mp hx with rfl | hx
        · obtain ⟨_, _, q', vs, h3, h4, _⟩ := h
          exact ⟨q', vs, h3, h4⟩
        · exact ih x hx
    exact all I.pr
  refine ⟨upd_same, stp_upd (stp_upd I.st I.o0 hq0) I.o0 I.d0, ⟨fun c l => ?_, fun c e => ⟨.inl (I.o0.str c e).1, ?_⟩, tabs_upd (tabs_upd I.ok.tbs fun u hu => by rw [hq] at hu; cases hu) fun u hu => by rw [upd_ne (Ne.symm qD), I.d] at hu; cases hu; exact .nd⟩, pd_snoc ⟨rfl, Dt.sameR ct _ _ hb, q, [], rfl, by rw [upd_ne qD]; exact upd_same, .nil⟩ (old (fun _ h => h) I.pr), fun a ha q' e => ?_, ?_, ?_, I.d0, I.o0⟩
  · by_cases cD : c = D
    · rw [cD]
      exact ⟨_, upd_same, .nd⟩
    · by_cases cq : c = q
      · rw [cq, upd_ne qD]
        exact ⟨_, upd_same, .lst⟩
      · rw [g1 c cq cD]
        exact I.ok.live c ((toL c l).resolve_right cq)
  · refine (I.ok.str c e).2.keep fun u hu => ?_
    rw [g1 c (fun z => np (by rw [← z]; exact e)) (fun z => npD (by rw [← z]; exact e))]
    exact hu
  · rcases List.mem_append.mp ha with ha | ha
    · exact I.fr a ha q' e
    · rw [List.mem_singleton.mp ha] at e
      cases e
      exact ⟨hq0, qD⟩
  · rw [List.map_append, List.nodup_append]
    refine ⟨I.nd, by simp, fun x hx y hy => ?_⟩
    obtain ⟨a, ha, rfl⟩ := List.mem_map.mp hx
    have ey : y = .ref q := by simpa using hy
    obtain ⟨q', vs, h3, h4⟩ := refs a ha
    rw [ey, h3]
    intro z
    rw [V.ref.inj z, hq] at h4
    cases h4
  · rw [List.map_append, List.nodup_append]
    refine ⟨I.kn, by simp, fun x hx y hy => ?_⟩
    obtain ⟨a, ha, rfl⟩ := List.mem_map.mp hx
    have ey : y = keyI k := by simpa using hy
    rw [ey]
    exact atN_no hn a ha
/-- one more for a key -/
theorem GI.app (I : GI K w Lc p H0 D kas g G) {k d : List Int} {a0 : KAV} {q : Addr} {v : V} (ha : a0 ∈ kas) (hk : a0.1 = keyI k) (hr : a0.2.2 = .ref q) (hv : Dt K (ctL (LG Lc D kas) G) v (tupI d)) :
    ∃ vs, G q = some (.lst vs) ∧ (∃ e ∈ g, e.1 = k ∧ vs.length = e.2.length) ∧ GI K w Lc p H0 D kas (gApp g k d) (upd G q (.lst (vs ++ [v]))) := by
  have Lq : LG Lc D kas q := .inr (.inr ⟨a0, ha, hr⟩)
  obtain ⟨f0, qD⟩ := I.fr a0 ha q hr
  have ect : ∀ o, ctL (LG Lc D kas) (upd G q o) = ctL (LG Lc D kas) G := fun o => ctL_upd Lq
  have uniq : ∀ a ∈ kas, (a.1 = keyI k ↔ a.2.2 = .ref q) := by
    have keyU : ∀ {l : List KAV}, (l.map (·.1)).Nodup → ∀ a ∈ l, ∀ b ∈ l, a.1 = b.1 → a = b := by
      intro l n
      induction l with
      | nil => exact fun a h => nomatch h
      | cons x r ih =>
        rw [List.map_cons, List.nodup_cons] at n
        intro a ha b hb e
        rcases List.mem_cons.mp ha with e1 | a1 <;> rcases List.mem_cons.mp hb with e2 | b1
        · rw [e1, e2]
        · exact absurd (List.mem_map.mpr ⟨b, b1, by rw [← e1]; exact e.symm⟩) n.1
        · exact absurd (List.mem_map.mpr ⟨a, a1, by rw [← e2]; exact e⟩) n.1
        · exact ih n.2 a a1 b b1 e
    have valU : ∀ {l : List KAV}, (l.map (·.2.2)).Nodup → ∀ a ∈ l, ∀ b ∈ l, a.2.2 = b.2.2 → a = b := by
      intro l n
      induction l with
      | nil => exact fun a h => nomatch h
      | cons x r ih =>
        rw [List.map_cons, List.nodup_cons] at n
        intro a ha b hb e
        rcases List.mem_cons.mp ha with e1 | a1 <;> rcases List.mem_cons.mp hb with e2 | b1
        · rw [e1, e2]
        · exact absurd (List.mem_map.mpr ⟨b, b1, by rw [← e1]; exact e.symm⟩) n.1
        · exact absurd (List.mem_map.mpr ⟨a, a1, by rw [← e2]; exact e⟩) n.1
        · exact ih n.2 a a1 b b1 e
    intro a h
    constructor
    · intro e
      rw [keyU I.kn a h a0 ha (by rw [e, hk])]
      exact hr
    · intro e
      rw [valU I.nd a h a0 ha (by rw [e, hr])]
      exact hk
  obtain ⟨vs, hvs, hlen⟩ : ∃ vs, G q = some (.lst vs) ∧ ∃ e ∈ g, e.1 = k ∧ vs.length = e.2.length := by
    have all : ∀ {l : List KAV} {m : Grp}, Paired (GP K (LG Lc D kas) G) l m → a0 ∈ l → ∃ vs, G q = some (.lst vs) ∧ ∃ e ∈ m, e.1 = k ∧ vs.length = e.2.length := by
      intro l m h
      induction h with
      | nil => exact fun z => nomatch z
      | @cons x e ps qs h t ih =>
        intro hx
        rcases List.mem_cons.mp hx with rfl | hx
        · obtain ⟨h1, _, q', vs, h3, h4, h5⟩ := h
          rw [hr] at h3
          cases h3
          exact ⟨vs, h4, e, List.mem_cons_self, keyI_inj (by rw [← h1, hk]), by rw [← DtAll.len h5, List.length_map]⟩
        · obtain ⟨vs, h1, e', he, h2⟩ := ih hx
          exact ⟨vs, h1, e', List.mem_cons_of_mem _ he, h2⟩
    exact all I.pr ha
  refine ⟨vs, hvs, hlen, by rw [upd_ne (Ne.symm qD)]; exact I.d, stp_upd I.st I.o0 f0, lok_upd I.ok (npq I.o0 f0) .lst (fun u hu => by rw [hvs] at hu; cases hu; exact .lst), ?_, I.fr, I.nd, I.kn, I.d0, I.o0⟩
  have all : ∀ {l : List KAV} {m : Grp}, (∀ a ∈ l, a ∈ kas) → Paired (GP K (LG Lc D kas) G) l m → Paired (GP K (LG Lc D kas) (upd G q (.lst (vs ++ [v])))) l (gApp m k d) := by
    intro l m hl h
    induction h with
    | nil => exact .nil
    | @cons x e ps qs h t ih =>
      refine .cons ?_ (ih fun a ha => hl a (List.mem_cons_of_mem _ ha))
      obtain ⟨h1, h2, q', us, h3, h4, h5⟩ := h
      have hx := hl x List.mem_cons_self
      show GP K (LG Lc D kas) (upd G q (.lst (vs ++ [v]))) x (if e.1 = k then (e.1, e.2 ++ [d]) else e)
      by_cases ek : e.1 = k
      · rw [if_pos ek]
        have er := (uniq x hx).mp (by rw [h1, ek])
        rw [h3] at er
        cases er
        rw [hvs] at h4
        cases h4
        refine ⟨h1, by rw [ect]; exact h2, q, vs ++ [v], h3, upd_same, ?_⟩
        rw [ect, List.map_append]
        exact dts_append h5 (.cons hv .nil)
      · rw [if_neg ek]
        have nq : q' ≠ q := fun z => ek (keyI_inj (by rw [← h1]; exact (uniq x hx).mpr (by rw [h3, z])))
        exact ⟨h1, by rw [ect]; exact h2, q', us, h3, by rw [upd_ne nq]; exact h4, by rw [ect]; exact h5⟩
  exact all (fun _ h => h) I.pr
end
end Dw

/-! picked, grouped. -/
namespace K60
open PySem PySem.Spec PySem.W PyProof.Rows L2 Dr Rp Dw _root_.Nd
open He (ga ma)
variable [Dw.LamReg]
theorem paired3 {α β : Type} {R : α → β → Prop} {xs : List α} {a b c : β} (h : Paired R xs [a, b, c]) : ∃ x y z, xs = [x, y, z] ∧ R x a ∧ R y b ∧ R z c := by
  cases h with
  | cons h1 t =>
    cases t with
    | cons h2 t =>
      cases t with
      | cons h3 t =>
        cases t
        exact ⟨_, _, _, rfl, h1, h2, h3⟩
theorem atI_nat {α : Type} {xs : List α} {v : Nat} (h : v < xs.length) : atI xs (v : Int) = some xs[v] := by
  unfold atI ixN
  rw [if_pos (by omega), if_pos (by omega)]
  show xs[(v : Int).toNat]? = _
  rw [Int.toNat_natCast, List.getElem?_eq_getElem h]
theorem tupI_at {r : List Int} {i : Nat} (h : i < r.length) : atI (r.map PyData.int) (i : Nat) = some (.int (r.getD i 0)) := by
  rw [atI_nat (by rw [List.length_map]; exact h), List.getElem_map, List.getD_eq_getElem?_getD, List.getElem?_eq_getElem h] <;> rfl
theorem gd_picked {r : List Int} {ps : List Nat} (h : ∀ i ∈ ps, i < r.length) (hl : ps.length ≤ 1000) : Gd dPicked [.py (tupI r), .py (natL ps)] (.py (tupI (pickI r ps))) := by
  refine g_def rfl (g_ret (g_call (g_cons (g_lc0 (xs := ps) (enc := fun i => .py (.int (i : Nat))) (val := fun i => .int (r.getD i 0)) (no_own1 rfl rfl) (g_seqL (xs := ps) (val := fun i => PyData.int (i : Nat)) (g_V rfl)) (Nat.le_trans hl (by decide)) fun i hi => ⟨_, gg_N rfl, g_ix (g_V rfl) (g_V rfl) (tupI_at (h i hi))⟩) g_nil) fun P p => v_tupL ?_))
  have e : (pickI r ps).map PyData.int = ps.map fun i => PyData.int (r.getD i 0) := by
    unfold pickI
    rw [List.map_map] <;> rfl
  unfold tupI at p
  rw [e] at p
  exact p
abbrev nGr : List Str := ["rows", "places", "others", "found", "row"]
theorem scGr : FnScope nGr ["rows", "places", "others"] (defScope s_grouped) := ⟨rfl, rfl, rfl, by decide +kernel, rfl, by decide +kernel, by decide +kernel⟩
theorem fold_addG (ps os : List Nat) (l : List (List Int)) (r : List Int) (g : Grp) : (l ++ [r]).foldl (fun g r => addG g (pickI r ps) (pickI r os)) g = addG (l.foldl (fun g r => addG g (pickI r ps) (pickI r os)) g) (pickI r ps) (pickI r os) := by
  rw [List.foldl_append] <;> rfl
theorem addG_len (g : Grp) (k d : List Int) : (addG g k d).length ≤ g.length + 1 ∧ ∀ n, (∀ e ∈ g, e.2.length ≤ n) → ∀ e ∈ addG g k d, e.2.length ≤ n + 1 := by
  unfold addG
  split
  · refine ⟨by rw [List.length_map]; omega, fun n h e he => ?_⟩
    obtain ⟨x, hx, rfl⟩ := List.mem_map.mp he
    have z := h x hx
    split
    · rw [List.length_append, List.length_singleton]; omega
    · omega
  · refine ⟨by rw [List.length_append, List.length_singleton]; exact Nat.le_refl _, fun n h e he => ?_⟩
    rcases List.mem_append.mp he with he | he
    · have z := h e he
      omega
    · rw [List.mem_singleton.mp he]
      simp
theorem dts_at {K : PySem.W.Frag} {G : Hp} : ∀ {vs : List V} {ds : List PyData} {i : Nat} {v : V}, DtAll K G vs ds → vs[i]? = some v → ∃ d, ds[i]? = some d ∧ Dt K G v d
  | _, _, _, _, .nil, h => by simp at h
  | _, _, 0, _, .cons a t, h => by
    cases h
    exact ⟨_, rfl, a⟩
  | _, _, i + 1, _, .cons a t, h => dts_at (i := i) t h
theorem gp_ref {K : PySem.W.Frag} {L : Addr → Prop} {G : Hp} {kas : List KAV} {g : Grp} (h : Paired (GP K L G) kas g) : ∀ a ∈ kas, ∃ q vs, a.2.2 = .ref q ∧ G q = some (.lst vs) := by
  induction h with
  | nil => exact fun _ z => nomatch z
  | cons h t ih =>
    intro x hx
    rcases List.mem_cons.mp hx with rfl | hx
    · obtain ⟨_, _, q', vs, h3, h4, _⟩ := h
      exact ⟨q', vs, h3, h4⟩
    · exact ih x hx
theorem gp_len {K : PySem.W.Frag} {L : Addr → Prop} {G : Hp} {kas : List KAV} {g : Grp} (h : Paired (GP K L G) kas g) : kas.length = g.length := Paired.length h
theorem gp_nd {K : PySem.W.Frag} {Lc L : Addr → Prop} {G : Hp} (sr : SameR (ctL L G) (ctL Lc G)) {kas : List KAV} {g : Grp} (h : Paired (GP K L G) kas g) : (∀ a ∈ kas, ∀ q, a.2.2 = .ref q → ¬ Lc q) → Paired (NdP K (ctL Lc G)) kas (grpD g) := by
  induction h with
  | nil => exact fun _ => .nil
  | @cons a e _ _ h t ih =>
    intro hf
    refine .cons ?_ (ih fun a ha => hf a (List.mem_cons_of_mem _ ha))
    obtain ⟨h1, h2, q, vs, h3, h4, h5⟩ := h
    refine ⟨h1, by rw [h1]; exact keyI_depth _, by rw [h1]; exact Dt.sameR sr _ _ h2, ?_⟩
    show Dt K (ctL Lc G) a.2.2 (.list (e.2.map tupI))
    rw [h3]
    exact .lst (ctL_at h4 (hf a List.mem_cons_self q h3) (fun ps z => nomatch z)) (Dt.sameRAll sr _ _ h5)
theorem grp_len (ps os : List Nat) : ∀ (l : List (List Int)) (g : Grp), (l.foldl (fun g r => addG g (pickI r ps) (pickI r os)) g).length ≤ g.length + l.length ∧ ∀ n, (∀ e ∈ g, e.2.length ≤ n) → ∀ e ∈ l.foldl (fun g r => addG g (pickI r ps) (pickI r os)) g, e.2.length ≤ n + l.length
  | [], g => ⟨by simp, fun n h e he => by simpa using h e he⟩
  | r :: l, g => by
    obtain ⟨h1, h2⟩ := addG_len g (pickI r ps) (pickI r os)
    obtain ⟨h3, h4⟩ := grp_len ps os l (addG g (pickI r ps) (pickI r os))
    rw [List.foldl_cons, List.length_cons]
    refine ⟨by omega, fun n h e he => ?_⟩
    have z := h4 (n + 1) (h2 n h) e he
    omega
theorem gPut_len (g : Grp) (k : List Int) (n : Nat) (h : ∀ e ∈ g, e.2.length ≤ n) : ∀ e ∈ gPut g k, e.2.length ≤ n := by
  unfold gPut
  split
  · exact h
  · intro e he
    rcases List.mem_append.mp he with he | he
    · exact h e he
    · rw [List.mem_singleton.mp he]
      simp
section
variable {P : Program} {w : World} {K : PySem.W.Frag} {mg : Str → Option Value} {base : Heap}
theorem ok_grouped {f : Addr} {fd fdP : FuncData} (F : FnP K "grouped" s_grouped f fd) (FP : FnP K "picked" sPicked (ga K "picked") fdP) (GP0 : FnOk P w K mg base CX0 1 (ga K "picked") fdP ["row", "places"] (spW K .data dPicked)) (hw : LamReg.w = some w) (gP : mg "picked" = some (.ref (ga K "picked"))) (bP : Binds K fdP ["row", "places"] []) :
    FnOk P w K mg base CX0 2 f fd ["rows", "places", "others"] (spW K .data dGrouped) := by
  refine F.ok scGr (fun vs H Q E h => ?_) (fun cdv A outer s H vs Q E hr h => ?_)
  · obtain ⟨Lc, p, es, P, o, r, ⟨rows, ps, os, rfl, _⟩, _⟩ := h
    rw [paired_len r] <;> rfl
  · obtain ⟨Lc, p, es, PP, o, r, ⟨rows, ps, os, rfl, hin, hlen, lps, hP⟩, k⟩ := h
    have hu : (A.deeper (envOfC "grouped" (defScope s_grouped) s.heap.objs.size f cdv)).units + 64 < cLine := hr.units
    refine ⟨_, PSs.nox (pss_cons (ps_set (i := 3) scGr.nd rfl (Or.inl rfl) pe_newN)
      (pss_cons (ps_for PassesOwn.never rfl (pi_tup (pv 0)) (pg_name (i := 4) scGr.nd rfl (Or.inl rfl))
        (pss_one (ps_expr (pe_bm PySem.F.plainAttrs_list PySem.F.slot_list_append PySem.F.type_list_append mt_append
          (pe_nsd (u9_of hu) (pv 3) (pe_call GP0 hr rfl gP FP.kp bP .nil pass0 (pa_cons (pv 4) (pa_cons (pv 1) pa_nil))) ⟨rfl, rfl, rfl, rfl⟩)
          (pa_cons (pe_call GP0 hr rfl gP FP.kp bP .nil pass0 (pa_cons (pv 4) (pa_cons (pv 2) pa_nil))) pa_nil)))))
      (pss_one (ps_ret (pv 3))))), ?_⟩
    obtain ⟨x, y, z, rfl, rx, ry, rz⟩ := paired3 r
    have rx : Dt K (ctL Lc H) x (.tuple (rows.map tupI)) := rx
    have ry : Dt K (ctL Lc H) y (natL ps) := ry
    have rz : Dt K (ctL Lc H) z (natL os) := rz
    cases rx with
    | @tup a xs _ hx1 hx2 =>
    have lx : xs.length = rows.length := by rw [← DtAll.len hx2, List.length_map]
    intro D hD
    show tSeq _ _ _ ([some (.ref a), some y, some z, some (.ref D), none] : L2.St) _
    have nLD : ¬ Lc D := fun l => o.ne D l hD
    -- what stood at the start stands, and is not of the dict's
    have sr : ∀ {kas : List KAV} {g : Grp} {G : Hp}, GI K w Lc p H D kas g G → SameR (ctL Lc H) (ctL (LG Lc D kas) G) := fun {kas g G} I b u h => by
      obtain ⟨n, h1, tt⟩ := ctL_of h
      have nf : ∀ {c}, FreeT H c → b ≠ c := fun {c} hf e => by
        rw [e] at h1
        obtain ⟨ps, z⟩ := hf u h1
        exact tt ps z
      obtain ⟨u', h2, lk⟩ := I.st.keep b u (fun e => n (o.str b e).1) tt h1
      refine ⟨u', ctL_at h2 (fun l => ?_) (lk.notbl tt), lk⟩
      rcases l with l | l | ⟨c, hc, e⟩
      · exact n l
      · exact nf I.d0 l
      · exact nf (I.fr c hc b e).1 rfl
    refine ⟨_, rfl, a, rfl, ⟨xs, sqt_same (smu hD) (SameR.sqt ctL_all hx1.t)⟩, ?_⟩
    refine for_tup (xs := xs) (fun i σ G => (∃ t4 : Option V, σ = [some (.ref a), some y, some z, some (.ref D), t4]) ∧ ∃ kas, GI K w Lc p H D kas (groupedI (rows.take i) ps os) G) ⟨⟨_, rfl⟩, [], upd_same, Stp.new o.ne hD, ⟨fun b l => ?_, fun q e => ⟨.inl (o.str q e).1, (o.str q e).2.same (smu hD)⟩, o.tbs.ext (smu hD)⟩, .nil, (fun _ h => nomatch h), .nil, .nil, .of hD, o⟩ (fun i σ G _ h => ?_) ?_ ?_
    · rcases l with l | rfl | ⟨_, h, _⟩
      · obtain ⟨u, h1, h2⟩ := o.live b l
        exact ⟨u, smu hD b u h1, h2⟩
      · exact ⟨_, upd_same, .nd⟩
      · cases h
    · obtain ⟨_, kas, I⟩ := h
      exact SameR.sqt ctL_all (SameR.sqt (I.st.ct o) hx1.t)
    · rintro i v σ G hv ⟨⟨t4, rfl⟩, kas, I⟩
      obtain ⟨d, e1, hvd⟩ := dts_at hx2 hv
      rw [List.getElem?_map] at e1
      obtain ⟨row, hrow, rfl⟩ := Option.map_eq_some_iff.mp e1
      have hmem := List.mem_of_getElem? hrow
      have hi := (List.getElem?_eq_some_iff.mp hrow).1
      have tk : rows.take (i + 1) = rows.take i ++ [row] := by rw [List.take_succ, hrow] <;> rfl
      obtain ⟨gl1, gl2⟩ := grp_len ps os (rows.take i) []
      have lg : (groupedI (rows.take i) ps os).length ≤ 1000 := by
        have z := gl1
        rw [List.length_take] at z
        simp only [List.length_nil] at z
        exact Nat.le_trans z (by omega)
      show tDrop _ _ ([some (.ref a), some y, some z, some (.ref D), some v] : L2.St) _
      refine ⟨_, rfl, D, kas, rfl, I.d, _, rfl, _, rfl, LG Lc D kas, p, [.py (tupI row), .py (natL ps)], fun e => e = .py (tupI (pickI row ps)), I.ok, .cons (Dt.sameR (sr I) _ _ hvd) (.cons (Dt.sameR (sr I) _ _ ry) .nil), gd_picked (fun j hj => hin row hmem j (List.mem_append_left _ hj)) lps.1 _ rfl, fun e G2 c he s2 o2 r2 q hq => ?_⟩
      subst he
      have r2 : Dt K (ctL (LG Lc D kas) G2) c (tupI (pickI row ps)) := r2
      obtain ⟨b, rfl, hb, h8⟩ := (keyN_I (pickI row ps)).ref r2
      have I2 := I.step s2 o2
      have lk := gp_len I2.pr
      -- the list of the key is known: one more
      have tail : ∀ (kas' : List KAV) (G3 : Hp) (a0 : KAV) (q0 : Addr), GI K w Lc p H D kas' (gPut (groupedI (rows.take i) ps os) (pickI row ps)) G3 → a0 ∈ kas' → a0.1 = keyI (pickI row ps) → a0.2.2 = .ref q0 →
          tyV K "list" (.ref q0) G3 ∧ tCons (tCall (spW K .data dPicked) [] E0 (tCons (tVar 4) (tCons (tVar 2) tNil))) tNil ([some (.ref a), some y, some z, some (.ref D), some v] : L2.St) G3 fun xs H2 => rAppend (.ref q0) xs H2 fun _ H3 => (∃ t4 : Option V, ([some (.ref a), some y, some z, some (.ref D), some v] : L2.St) = [some (.ref a), some y, some z, some (.ref D), t4]) ∧ ∃ kas, GI K w Lc p H D kas (groupedI (rows.take (i + 1)) ps os) H3 := by
        intro kas' G3 a0 q0 I3 ha hk hr0
        obtain ⟨q1, vs0, e0, g0⟩ := gp_ref I3.pr a0 ha
        rw [hr0] at e0
        cases e0
        refine ⟨.inl ⟨rfl, vs0, SqL.of g0⟩, _, rfl, _, rfl, LG Lc D kas', p, [.py (tupI row), .py (natL os)], fun e => e = .py (tupI (pickI row os)), I3.ok, .cons (Dt.sameR (sr I3) _ _ hvd) (.cons (Dt.sameR (sr I3) _ _ rz) .nil), gd_picked (fun j hj => hin row hmem j (List.mem_append_right _ hj)) lps.2 _ rfl, fun e G4 c he s4 o4 r4 => ?_⟩
        subst he
        have I4 := I3.step s4 o4
        obtain ⟨vs, h1, ⟨e, he, _, hle⟩, h3⟩ := I4.app (d := pickI row os) ha hk hr0 r4
        have le := gPut_len _ (pickI row ps) _ (gl2 0 (fun _ h => nomatch h)) e he
        rw [← addG_eq] at h3
        refine ⟨q0, vs, c, rfl, rfl, h1, by rw [hle, sizeLine_eq]; rw [List.length_take] at le; omega, ⟨_, rfl⟩, kas', ?_⟩
        rw [tk]
        unfold groupedI
        rw [fold_addG]
        exact h3
      refine ⟨b, keyI (pickI row ps), kas, rfl, I2.d, I2.keys, by rw [lk, sizeLine_eq]; omega, Dt.sameR ctL_all _ _ hb, h8, fun u hu => ?_, fun hn => ?_⟩
      · rcases gp_at (k := pickI row ps) I2.pr with ⟨h1, _⟩ | ⟨a0, ha, hk, h1, h2⟩
        · rw [h1] at hu
          cases hu
        · rw [h1] at hu
          cases hu
          obtain ⟨q0, _, hr0, _⟩ := gp_ref I2.pr a0 ha
          rw [hr0]
          refine tail kas _ a0 q0 ?_ ha hk hr0
          unfold gPut
          rw [if_pos h2]
          exact I2.step (Stp.new I2.ok.ne hq) (I2.ok.new hq)
      · rcases gp_at (k := pickI row ps) I2.pr with ⟨_, h2⟩ | ⟨a0, ha, hk, h1, h2⟩
        · refine tail (kas ++ [(keyI (pickI row ps), b, .ref q)]) _ (keyI (pickI row ps), b, .ref q) q ?_ (List.mem_append_right _ List.mem_cons_self) rfl rfl
          unfold gPut
          rw [if_neg (by rw [h2]; decide)]
          exact I2.new hq hb hn
        · rw [h1] at hn
          cases hn
    · rintro σ G ⟨⟨t4, rfl⟩, kas, I⟩
      rw [lx, List.take_length] at I
      show tSeq _ _ _ ([some (.ref a), some y, some z, some (.ref D), t4] : L2.St) _
      have nf : ∀ c ∈ kas, ∀ q, c.2.2 = .ref q → ¬ Lc q := fun c hc q e => o.neT (I.fr c hc q e).1
      refine ⟨_, rfl, k _ G (.ref D) hP I.st (I.ok.sub (fun b l => .inl l) fun q e => (o.str q e).1) ⟨w, D, kas, hw, rfl, ctL_at I.d nLD (fun ps z => nomatch z), gp_nd (ctL_sub fun b l => .inl l) I.pr nf⟩⟩
end
end K60

/-! law_k60: checks; what == and repr ask (K64La, Le, Lj). -/
namespace K60
open PySem PySem.Spec PySem.W PyProof.Rows L2 Dr Rp Dw
open Lx (Rel fst snd Pairs Asc)
variable [Dw.LamReg]
def relD (r : Rel) : PyData := .tuple (r.map tupI)
def relsD (rs : List Rel) : PyData := .tuple (rs.map relD)
theorem g_isi {ρ : EnvD} {f : WF} {d : PyData} {T : String} {b : Bool} (h : Gv f ρ (.py d)) (hb : kitB (tyD d) T = some b) : Gv (w1 f (isiD T)) ρ (.py (.bool b)) := g_w1 h fun P p => ⟨b, hb, p⟩
theorem g_chI {ρ : EnvD} {fa fb fc : WF} {f f' : Int → Int → Bool} {i j k : Int} (ha : Gv fa ρ (.py (.int i))) (hb : Gv fb ρ (.py (.int j))) (hc : Gv fc ρ (.py (.int k))) : Gt (wChI f f' fa fb fc) ρ (f i j && f' j k) := fun P p => ha _ (hb _ (by
  show (if f i j = true then fc ρ _ else P false)
  cases e : f i j with
  | true =>
    rw [if_pos rfl]
    rw [e, Bool.true_and] at p
    exact hc _ p
  | false =>
    rw [if_neg (by decide)]
    rw [e, Bool.false_and] at p
    exact p))
theorem gd_isInt (i : Int) : Gd dIsInt [.py (.int i)] (.py (.bool true)) :=
  g_def rfl (g_ret ((g_andV (g_isi (b := true) (g_V rfl) rfl) fun _ => g_notV (g_isi (b := false) (g_V rfl) rfl)).cast rfl))
theorem all_true {α : Type} (xs : List α) : (xs.all fun _ => true) = true := by induction xs <;> simp
theorem gd_areInts {r : List Int} (h : r.length ≤ 1000) : Gd dAreInts [.py (tupI r)] (.py (.bool true)) := by
  refine g_def rfl (g_ret ((g_andV (b := true) (c := r.all fun _ => true) (g_isi (g_V rfl) rfl) fun _ => g_call (g_cons (g_lc0 (xs := r) (enc := fun i => .py (.int i)) (val := fun _ => .bool true) (no_ownP rfl) (g_seqT (xs := r) (val := PyData.int) (g_V rfl)) (Nat.le_trans h (by decide)) fun i _ => ⟨_, gg_N rfl, g_call (g_cons (g_V rfl) g_nil) (gd_isInt i)⟩) g_nil) fun P p => v_all (q := fun _ => true) p).cast ?_))
  rw [all_true] <;> rfl
theorem gd_isRow {n : Nat} {r : List Int} (e : r.length = n) (h : n ≤ 10) : Gd dIsRow [.py (.int (n : Nat)), .py (tupI r)] (.py (.bool true)) := by
  refine g_def rfl (g_seq (g_if (b := false) ((g_or (b := false) ((g_not (g_TB (g_call (g_cons (g_V rfl) g_nil) (gd_isInt n)))).cast rfl) fun _ => (g_not (g_chI (g_C _) (g_V rfl) (g_C _)))).cast ?_) (fun q => nomatch q) fun _ => g_next) (g_ret ((g_andV (b := true) (g_call (g_cons (g_V rfl) g_nil) (gd_areInts (by omega))) fun _ => g_eq (neg := false) (g_call (g_cons (g_V rfl) g_nil) fun P p => v_lenT p) (g_V rfl) rfl rfl).cast ?_)))
  · rw [decide_eq_true (show (0 : Int) ≤ (n : Int) by omega), decide_eq_true (show (n : Int) ≤ 10 by omega)]
    rfl
  · rw [List.length_map, e]
    show EV.py (.bool (true && ((n : Int) == (n : Int)))) = _
    rw [beq_self_eq_true]
    rfl
theorem gd_areRows {n : Nat} {r : Rel} (hl : r.length ≤ 1000) (hr : ∀ p ∈ r, p.length = n) (h : n ≤ 10) : Gd dAreRows [.py (.int (n : Nat)), .py (relD r)] (.py (.bool true)) := by
  refine g_def rfl (g_ret ((g_andV (b := true) (c := r.all fun _ => true) (g_isi (g_V rfl) rfl) fun _ => g_call (g_cons (g_lc0 (xs := r) (enc := fun p => .py (tupI p)) (val := fun _ => .bool true) (no_ownP rfl) (g_seqT (xs := r) (val := tupI) (g_V rfl)) (Nat.le_trans hl (by decide)) fun p hp => ⟨_, gg_N rfl, g_call (g_cons (g_V rfl) (g_cons (g_V rfl) g_nil)) (gd_isRow (hr p hp) h)⟩) g_nil) fun P p => v_all (q := fun _ => true) p).cast ?_))
  rw [all_true] <;> rfl
theorem intsL_map : ∀ r : List Int, intsL (r.map PyData.int) = some r
  | [] => rfl
  | x :: r => by
    show (intsL (r.map PyData.int)).map (x :: ·) = _
    rw [intsL_map r] <;> rfl
theorem zipD_rows (r s : Rel) : zipD (r.map tupI) (s.map tupI) = (r.zip s).map fun z => EV.pk [tupI z.1, tupI z.2] := by
  induction r generalizing s with
  | nil => rfl
  | cons a r ih =>
    cases s with
    | nil => rfl
    | cons b s =>
      rw [List.map_cons, List.map_cons, List.zip_cons_cons, List.map_cons]
      show EV.pk [tupI a, tupI b] :: zipD (r.map tupI) (s.map tupI) = _
      rw [ih]
theorem asc_zip : ∀ {r : Rel}, Asc r → ((r.zip (r.drop 1)).all fun z => HT.lexLt z.1 z.2) = true
  | [], _ => rfl
  | [a], _ => rfl
  | a :: b :: r, h => by
    obtain ⟨h1, h2⟩ := List.pairwise_cons.mp h
    show ((a, b) :: ((b :: r).zip ((b :: r).drop 1))).all _ = true
    rw [List.all_cons, h1 b List.mem_cons_self, asc_zip h2]
    rfl
theorem gd_isAsc {r : Rel} (hl : r.length ≤ 1000) (ha : Asc r) : Gd dIsAsc [.py (relD r)] (.py (.bool true)) := by
  have ez : (r.zip (r.drop 1)).length ≤ 1000 := by rw [List.length_zip]; omega
  refine g_def rfl (g_ret ((g_call (g_cons (g_lc0 (xs := r.zip (r.drop 1)) (enc := fun z => EV.pk [tupI z.1, tupI z.2]) (val := fun z => .bool (HT.lexLt z.1 z.2)) (no_ownP rfl) ?_ (Nat.le_trans ez (by decide)) fun z _ => ⟨_, gg_K2 (gg_N rfl) (gg_N rfl), g_w2 (g_V rfl) (g_V rfl) fun P p => ⟨_, _, intsL_map _, intsL_map _, p⟩⟩) g_nil) fun P p => v_all p).cast (by rw [asc_zip ha])))
  have hc := g_cutT (f := wVar .read 0) (ρ := startE 3 [EV.py (relD r)]) (g_V rfl) (go_part (g_C (.int 1))) go_no
  have hc2 := hc.cast (by rw [show (some (1 : Int)) = some ((1 : Nat) : Int) from rfl, cutD_from, ← List.map_drop] : EV.py (.tuple (cutD (r.map tupI) (some 1) none)) = .py (.tuple ((r.drop 1).map tupI)))
  exact fun P p => g_V (m := .read) (i := 0) (d := relD r) rfl _ (hc2 _ (by
    show P (zipD (r.map tupI) ((r.drop 1).map tupI))
    rw [zipD_rows]
    exact p))
theorem gd_isInput {n : Nat} {r : Rel} (hl : r.length ≤ 100) (hr : ∀ p ∈ r, p.length = n) (h : n ≤ 10) (ha : Asc r) : Gd dIsInput [.py (.int (n : Nat)), .py (relD r)] (.py (.bool true)) := by
  refine g_def rfl (g_ret ((g_andV (b := true) (g_call (g_cons (g_V rfl) (g_cons (g_V rfl) g_nil)) (gd_areRows (by omega) hr h)) fun _ => g_andV (g_cmp (g_call (g_cons (g_V rfl) g_nil) fun P p => v_lenT p) (g_C _)) fun _ => g_call (g_cons (g_V rfl) g_nil) (gd_isAsc (by omega) ha)).cast ?_))
  rw [List.length_map, decide_eq_true (show (r.length : Int) ≤ 100 by omega)] <;> rfl
def Good (n : Nat) (rs : List Rel) : Prop := ∀ r ∈ rs, r.length ≤ 100 ∧ (∀ p ∈ r, p.length = n) ∧ Asc r
theorem gd_chkRel {rs : List Rel} (hl : rs.length ≤ 1000) (h : Good 2 rs) : Gd dChkRel [.py (relsD rs)] (.py .none) := fun P p => ⟨rfl, by
  refine g_if (b := false) (o := .nx _) ((g_not (b := rs.all fun _ => true) (g_TB (g_call (g_cons (g_lc0 (xs := rs) (enc := fun r => .py (relD r)) (val := fun _ => .bool true) (no_ownP rfl) (g_seqT (xs := rs) (val := relD) (g_V rfl)) (Nat.le_trans hl (by decide)) fun r hr => ⟨_, gg_N rfl, g_call (g_cons (g_C _) (g_cons (g_V rfl) g_nil)) (gd_isInput (n := 2) (h r hr).1 (h r hr).2.1 (by decide) (h r hr).2.2)⟩) g_nil) fun P p => v_all (q := fun _ => true) p))).cast (by rw [all_true] <;> rfl)) (fun q => nomatch q) (fun _ => g_next) _ p⟩
theorem eqv_ints : ∀ a b : List Int, PyData.eqvAll (a.map .int) (b.map .int) = decide (a = b)
  | [], [] => rfl
  | [], _ :: _ => rfl
  | _ :: _, [] => rfl
  | x :: a, y :: b => by
    show (PyData.eqv (.int x) (.int y) && PyData.eqvAll (a.map .int) (b.map .int)) = _
    rw [eqv_ints a b]
    show ((x == y) && decide (a = b)) = _
    rw [Bool.eq_iff_iff, Bool.and_eq_true, beq_iff_eq, decide_eq_true_eq, decide_eq_true_eq, List.cons.injEq]
theorem eqv_tupI (a b : List Int) : PyData.eqv (tupI a) (tupI b) = decide (a = b) := eqv_ints a b
theorem eqv_rel : ∀ a b : Rel, PyData.eqvAll (a.map tupI) (b.map tupI) = decide (a = b)
  | [], [] => rfl
  | [], _ :: _ => rfl
  | _ :: _, [] => rfl
  | x :: a, y :: b => by
    show (PyData.eqv (tupI x) (tupI y) && PyData.eqvAll (a.map tupI) (b.map tupI)) = _
    rw [eqv_rel a b, eqv_tupI, Bool.eq_iff_iff, Bool.and_eq_true, decide_eq_true_eq, decide_eq_true_eq, decide_eq_true_eq, List.cons.injEq]
def okD : Nat → PyData → Prop
  | 0, d => ∃ i, d = .int i
  | n + 1, d => (∃ ds, (d = .tuple ds ∨ d = .list ds) ∧ ∀ e ∈ ds, okD n e)
theorem okD_ok : ∀ (n : Nat) (d : PyData), okD n d → Dw.noDict d = true ∧ d.canLay0 = true ∧ d.depth ≤ n
  | 0, d, h => by
    obtain ⟨i, rfl⟩ := h
    exact ⟨rfl, rfl, Nat.le_refl _⟩
  | n + 1, d, h => by
    obtain ⟨ds, h1, h2⟩ := h
    have all : ∀ l : List PyData, (∀ e ∈ l, okD n e) → Dw.noDict.noDicts l = true ∧ PyData.canLayAll0 l = true ∧ PyData.depthAll l ≤ n := by
      intro l
      induction l with
      | nil => intro _; exact ⟨rfl, rfl, Nat.zero_le _⟩
      | cons e t ih =>
        intro hl
        obtain ⟨a1, a2, a3⟩ := okD_ok n e (hl e List.mem_cons_self)
        obtain ⟨b1, b2, b3⟩ := ih fun y hy => hl y (List.mem_cons_of_mem _ hy)
        refine ⟨by rw [Dw.noDict.noDicts, a1, b1] <;> rfl, by rw [PyData.canLayAll0, a2, b2] <;> rfl, ?_⟩
        rw [PyData.depthAll]
        omega
    obtain ⟨c1, c2, c3⟩ := all ds h2
    rcases h1 with rfl | rfl
    · exact ⟨by rw [Dw.noDict]; exact c1, by rw [PyData.canLay0]; exact c2, by rw [PyData.depth]; omega⟩
    · exact ⟨by rw [Dw.noDict]; exact c1, by rw [PyData.canLay0]; exact c2, by rw [PyData.depth]; omega⟩
theorem okD_eq {n : Nat} {d : PyData} (h : okD n d) (hn : n ≤ 20) : eqOk d = true := by
  obtain ⟨h1, h2, h3⟩ := okD_ok n d h
  unfold eqOk SeqAt.shaped
  rw [h1, h2, Bool.true_and, Bool.true_and, decide_eq_true_eq]
  omega
theorem ok_tupI (l : List Int) : okD 1 (tupI l) := ⟨_, .inl rfl, fun e he => by obtain ⟨i, _, rfl⟩ := List.mem_map.mp he; exact ⟨i, rfl⟩⟩
theorem ok_relD (r : Rel) : okD 2 (relD r) := ⟨_, .inl rfl, fun e he => by obtain ⟨i, _, rfl⟩ := List.mem_map.mp he; exact ok_tupI i⟩
theorem eqOk_i (i : Int) : eqOk (.int i) = true := okD_eq (n := 0) ⟨i, rfl⟩ (by decide)
theorem alike_ints : ∀ a b : List Int, alikeAll (a.map .int) (b.map .int) = true
  | [], _ => by simp [alikeAll]
  | _ :: _, [] => by simp [alikeAll]
  | x :: a, y :: b => by
    show alikeAll (PyData.int x :: a.map .int) (PyData.int y :: b.map .int) = true
    rw [alikeAll, alike_ints a b]
    simp [alike]
theorem int_ok (i : Int) : PyData.strOk (toString i : Str) = true := by
  unfold PyData.strOk
  rw [← Array.all_toList, List.all_eq_true]
  intro c hc
  refine decide_eq_true (Classical.byContradiction fun h => ?_)
  exact int_text_free' c ⟨by omega, .inr (by omega)⟩ _ hc
theorem int_len {i : Int} (h : i.natAbs < 10 ^ 41) : (toString i : Str).length ≤ 42 := by
  cases i with
  | ofNat n => exact Nat.le_trans (toString_length_le (v := (n : Int)) (Int.natCast_nonneg n) (k := 41) (by decide) (by have h : n < 10 ^ 41 := h; omega)) (by decide)
  | negSucc n =>
    have e : (toString (Int.negSucc n) : String) = "-" ++ toString ((n + 1 : Nat) : Int) := rfl
    have z := toString_length_le (v := ((n + 1 : Nat) : Int)) (Int.natCast_nonneg _) (k := 41) (by decide) (by have h : n + 1 < 10 ^ 41 := h; omega)
    show (Str.ofString (toString (Int.negSucc n))).length ≤ 42
    rw [e, PyProof.Rows.ofString_length]
    rw [PyProof.Rows.ofString_length] at z
    rw [String.toList_append, List.length_append]
    have : ("-" : String).toList.length = 1 := by decide
    omega
theorem sx_i {i : Int} (h : i.natAbs < 10 ^ 41) : Sx 0 42 (.int i) := by
  refine ⟨⟨?_, Nat.le_refl _, int_len h⟩, int_ok i⟩
  show decide (i.natAbs.log2 < 1920) = true
  refine decide_eq_true ?_
  by_cases z : i.natAbs = 0
  · rw [z]
    decide
  · exact (Nat.log2_lt z).mpr (Nat.lt_of_lt_of_le h (Nat.le_trans (show 10 ^ 41 ≤ 2 ^ 200 by decide) (Nat.pow_le_pow_right (by decide) (by decide))))
theorem eqOk_s {x : Str} (h : PyData.strOk x = true) : eqOk (.str x) = true := by simp [eqOk, Dw.noDict, SeqAt.shaped, PyData.canLay0, PyData.depth, h]
theorem cpow39 : CPow 10 39 := ⟨by decide, by decide, by decide⟩
theorem cpow38 : CPow 10 38 := ⟨by decide, by decide, by decide⟩
theorem n_addD {ρ : EnvD} {a b : Int} (h0 : ρ[0]? = some .st) (hb : 0 < b) (hb2 : b < 1000000) : Nv (w2 (wC (.int a)) (wCallA dDraw (wCons (wVar .data 0) (wCons (wC (.int b)) wNil))) wAdd) ρ (fun e => ∃ v : Nat, e = .py (.int (a + v)) ∧ (v : Int) < b) :=
  n_w2 ((g_C (.int a)).n (Q := fun e => e = .py (.int a)) rfl) (n_callG (g_cons (g_Vst h0) (g_cons (g_C _) g_nil)) (nd_draw hb hb2)) fun x y hx ⟨v, hy, hv⟩ P p => by
    subst hx hy
    exact p _ ⟨v, rfl, hv⟩
theorem g_one {ρ : EnvD} {f : WF} {d : PyData} (h : Gv f ρ (.py d)) : Gv (wCallA wTup (wCons f wNil)) ρ (.py (.tuple [d])) := g_tup (ds := [d]) (g_cons h g_nil) rfl (by show 1 ≤ sizeLine; decide)
end K60

/-! Products of relations of pairs, sorted, each pair once. -/
namespace Lp
open Lx (Rel fst snd Pairs Asc)
def prodL (one two : Rel) : Rel := one.flatMap fun p => (two.filter fun q => decide (fst q = snd p)).map fun q => [fst p, snd q]
def srt (l : Rel) : Rel := (Sl.once l).mergeSort fun a b => !HT.lexLt b a
theorem asc_nd {r : Rel} (h : Asc r) : r.Nodup := h.imp fun {a b} h e => by
  rw [e, Lx.irr] at h
  cases h
theorem srt_mem {l : Rel} {y : List Int} : y ∈ srt l ↔ y ∈ l := by
  unfold srt
  rw [(List.mergeSort_perm _ _).mem_iff, Sl.once_memA]
theorem srt_asc (l : Rel) : Asc (srt l) := by
  have tr : ∀ a b c : List Int, (!HT.lexLt b a) = true → (!HT.lexLt c b) = true → (!HT.lexLt c a) = true := fun a b c h k => by
    rw [Bool.not_eq_true'] at *
    cases e : HT.lexLt c a with
    | false => rfl
    | true =>
      rcases Tab.lex_total a b with q | q | q
      · rw [Lx.tr e q] at k
        cases k
      · rw [← q, e] at k
        cases k
      · rw [h] at q
        cases q
  have tot : ∀ a b : List Int, ((!HT.lexLt b a) || !HT.lexLt a b) = true := fun a b => by
    cases e : HT.lexLt b a with
    | false => rfl
    | true =>
      cases f : HT.lexLt a b with
      | false => rfl
      | true =>
        have z := Lx.tr e f
        rw [Lx.irr] at z
        cases z
  have nd : (srt l).Nodup := (List.mergeSort_perm _ _).nodup_iff.mpr (Sl.once_nodupA l)
  have pw : (srt l).Pairwise fun a b => (!HT.lexLt b a) = true := List.pairwise_mergeSort (le := fun a b => !HT.lexLt b a) tr tot _
  refine (pw.and nd).imp fun {a b} ⟨h, ne⟩ => ?_
  rw [Bool.not_eq_true'] at h
  rcases Tab.lex_total a b with q | q | q
  · exact q
  · exact absurd q ne
  · rw [h] at q
    cases q
theorem srt_uniq {l ys : Rel} (h : Asc ys) (m : ∀ y, y ∈ ys ↔ y ∈ l) : ys = srt l := Tab.asc_one h (srt_asc l) fun y => (m y).trans srt_mem.symm
theorem srt_congr {l m : Rel} (h : ∀ y, y ∈ l ↔ y ∈ m) : srt l = srt m := srt_uniq (srt_asc l) fun y => srt_mem.trans (h y)
theorem srt_self {l : Rel} (h : Asc l) : srt l = l := (srt_uniq h fun _ => Iff.rfl).symm
theorem srt_len (l : Rel) : (srt l).length ≤ l.length := by
  unfold srt
  rw [List.length_mergeSort]
  exact Sl.once_lenA l
theorem mem_prod {one two : Rel} {y : List Int} : y ∈ prodL one two ↔ ∃ p ∈ one, ∃ q ∈ two, fst q = snd p ∧ y = [fst p, snd q] := by
  unfold prodL
  rw [List.mem_flatMap]
  constructor
  · rintro ⟨p, hp, h⟩
    obtain ⟨q, hq, rfl⟩ := List.mem_map.mp h
    obtain ⟨h1, h2⟩ := List.mem_filter.mp hq
    exact ⟨p, hp, q, h1, of_decide_eq_true h2, rfl⟩
  · rintro ⟨p, hp, q, hq, e, rfl⟩
    exact ⟨p, hp, List.mem_map.mpr ⟨q, List.mem_filter.mpr ⟨hq, decide_eq_true e⟩, rfl⟩⟩
theorem pairs_prod (one two : Rel) : Pairs (prodL one two) := fun y hy => by
  obtain ⟨_, _, _, _, _, rfl⟩ := mem_prod.mp hy
  rfl
theorem prod_len {n : Nat} : ∀ {one : Rel} {two : Rel}, two.length ≤ n → (prodL one two).length ≤ one.length * n
  | [], _, _ => by simp [prodL]
  | p :: one, two, h => by
    have ih := prod_len (one := one) h
    show (((two.filter fun q => decide (fst q = snd p)).map fun q => [fst p, snd q]) ++ prodL one two).length ≤ _
    rw [List.length_append, List.length_map, List.length_cons, Nat.add_mul, Nat.one_mul]
    have := List.length_filter_le (fun q => decide (fst q = snd p)) two
    omega
theorem pairs_sub {l m : Rel} (h : Pairs m) (s : ∀ y ∈ l, y ∈ m) : Pairs l := fun y hy => h y (s y hy)
theorem pairs_srt {l : Rel} (h : Pairs l) : Pairs (srt l) := pairs_sub h fun _ hy => srt_mem.mp hy
theorem mem_pair {one two : Rel} (h1 : Pairs one) (h2 : Pairs two) {a c : Int} : [a, c] ∈ prodL one two ↔ ∃ b, [a, b] ∈ one ∧ [b, c] ∈ two := by
  rw [mem_prod]
  constructor
  · rintro ⟨p, hp, q, hq, e, z⟩
    have e1 := Lx.pair_eq (h1 p hp)
    have e2 := Lx.pair_eq (h2 q hq)
    injection z with z1 z2
    injection z2 with z2
    refine ⟨snd p, ?_, ?_⟩
    · rw [z1, ← e1]; exact hp
    · rw [z2, ← e, ← e2]; exact hq
  · rintro ⟨b, h1, h2⟩
    exact ⟨_, h1, _, h2, rfl, rfl⟩
/-- two relations of pairs are one where they hold the same pairs -/
theorem pair_ext {l m : Rel} (h1 : Pairs l) (h2 : Pairs m) (h : ∀ a c, [a, c] ∈ l ↔ [a, c] ∈ m) : ∀ y, y ∈ l ↔ y ∈ m := fun y => by
  constructor
  · intro hy
    have e := Lx.pair_eq (h1 y hy)
    rw [e] at hy ⊢
    exact (h _ _).mp hy
  · intro hy
    have e := Lx.pair_eq (h2 y hy)
    rw [e] at hy ⊢
    exact (h _ _).mpr hy
def swp (p : List Int) : List Int := [snd p, fst p]
def tu (l : Rel) : Rel := srt (l.map swp)
theorem pairs_swp (l : Rel) : Pairs (l.map swp) := fun y hy => by
  obtain ⟨_, _, rfl⟩ := List.mem_map.mp hy
  rfl
theorem mem_swp {l : Rel} (h : Pairs l) {a b : Int} : [a, b] ∈ l.map swp ↔ [b, a] ∈ l := by
  rw [List.mem_map]
  constructor
  · rintro ⟨p, hp, e⟩
    have z := Lx.pair_eq (h p hp)
    unfold swp at e
    injection e with e1 e2
    injection e2 with e2
    rw [← e1, ← e2, ← z]
    exact hp
  · exact fun hp => ⟨_, hp, rfl⟩
theorem mem_tu {l : Rel} (h : Pairs l) {a b : Int} : [a, b] ∈ tu l ↔ [b, a] ∈ l := srt_mem.trans (mem_swp h)
theorem pairs_tu (l : Rel) : Pairs (tu l) := pairs_srt (pairs_swp l)
theorem turned {one two : Rel} (h1 : Pairs one) (h2 : Pairs two) : srt (prodL (tu two) (tu one)) = tu (srt (prodL one two)) := by
  refine srt_congr (pair_ext (pairs_prod _ _) (pairs_swp _) fun a c => ?_)
  rw [mem_pair (pairs_tu _) (pairs_tu _), mem_swp (pairs_srt (pairs_prod _ _)), srt_mem, mem_pair h1 h2]
  constructor
  · rintro ⟨b, q1, q2⟩
    exact ⟨b, (mem_tu h1).mp q2, (mem_tu h2).mp q1⟩
  · rintro ⟨b, q1, q2⟩
    exact ⟨b, (mem_tu h2).mpr q2, (mem_tu h1).mpr q1⟩
theorem assoc {one two three : Rel} (h1 : Pairs one) (h2 : Pairs two) (h3 : Pairs three) : srt (prodL (srt (prodL one two)) three) = srt (prodL one (srt (prodL two three))) := by
  refine srt_congr (pair_ext (pairs_prod _ _) (pairs_prod _ _) fun a d => ?_)
  rw [mem_pair (pairs_srt (pairs_prod _ _)) h3, mem_pair h1 (pairs_srt (pairs_prod _ _))]
  constructor
  · rintro ⟨c, q1, q2⟩
    obtain ⟨b, r1, r2⟩ := (mem_pair h1 h2).mp (srt_mem.mp q1)
    exact ⟨b, r1, srt_mem.mpr ((mem_pair h2 h3).mpr ⟨c, r2, q2⟩)⟩
  · rintro ⟨b, q1, q2⟩
    obtain ⟨c, r1, r2⟩ := (mem_pair h2 h3).mp (srt_mem.mp q2)
    exact ⟨c, srt_mem.mpr ((mem_pair h1 h2).mpr ⟨b, q1, r1⟩), r2⟩
def alk (l : Rel) : Rel := srt (l.map fun p => [snd p, snd p])
theorem pairs_alk (l : Rel) : Pairs (alk l) := pairs_srt fun y hy => by
  obtain ⟨_, _, rfl⟩ := List.mem_map.mp hy
  rfl
theorem alike {one : Rel} (h : Pairs one) (ha : Asc one) : srt (prodL one (alk one)) = one := by
  refine (srt_uniq ha (pair_ext h (pairs_prod _ _) fun a c => ?_)).symm
  rw [mem_pair h (pairs_alk _)]
  constructor
  · intro q
    exact ⟨c, q, srt_mem.mpr (List.mem_map.mpr ⟨_, q, rfl⟩)⟩
  · rintro ⟨b, q1, q2⟩
    obtain ⟨p, hp, e⟩ := List.mem_map.mp (srt_mem.mp q2)
    injection e with e1 e2
    injection e2 with e2
    rw [← e2, e1]
    exact q1
theorem prod_none : ∀ one : Rel, prodL one [] = []
  | [] => rfl
  | _ :: one => prod_none one
theorem srt_nil : srt [] = [] := srt_self .nil
end Lp

/-! law_k60: product, the law's product, turned. -/
namespace K60
open PySem PySem.Spec PySem.W PyProof.Rows L2 Dr Rp Dw
open Lx (Rel fst snd Pairs Asc)
open Lp (prodL srt tu swp)
open Tab (RoomyT)
open Tq (rowD)
variable [Dw.LamReg]
def look (g : Grp) (k : List Int) : List (List Int) := ((g.find? fun x => decide (x.1 = k)).map (·.2)).getD []
theorem at_grp {k : List Int} : ∀ g : Grp, (ndAt (grpD g) (keyI k)).getD (.list []) = .list ((look g k).map tupI)
  | [] => rfl
  | x :: g => by
    have ih := at_grp (k := k) g
    unfold ndAt grpD look at ih ⊢
    rw [List.map_cons, List.find?_cons, List.find?_cons]
    by_cases e : x.1 = k
    · rw [show decide ((keyI x.1, PyData.list (x.2.map tupI)).1 = keyI k) = true from decide_eq_true (by rw [e]), decide_eq_true e]
      rfl
    · rw [show decide ((keyI x.1, PyData.list (x.2.map tupI)).1 = keyI k) = false from decide_eq_false fun z => e (keyI_inj z), decide_eq_false e]
      exact ih
theorem look_add (g : Grp) (k d k' : List Int) : look (addG g k d) k' = if k = k' then look g k' ++ [d] else look g k' := by
  have key : ∀ g : Grp, look (g.map fun x => if x.1 = k then (x.1, x.2 ++ [d]) else x) k' = if k = k' ∧ g.any (fun x => decide (x.1 = k)) = true then look g k' ++ [d] else look g k' := by
    intro g
    induction g with
    | nil => simp [look]
    | cons x g ih =>
      unfold look at ih ⊢
      rw [List.map_cons, List.find?_cons, List.find?_cons, List.any_cons]
      by_cases xk : x.1 = k
      · rw [if_pos xk]
        by_cases kk : k = k'
        · rw [decide_eq_true (show x.1 = k' from xk.trans kk)]
          simp [xk, kk]
        · rw [decide_eq_false (show ¬ x.1 = k' from fun z => kk (xk.symm.trans z))]
          simp only [kk, false_and, if_false] at ih ⊢
          exact ih
      · rw [if_neg xk]
        by_cases xk' : x.1 = k'
        · have kk : ¬ k = k' := fun z => xk (xk'.trans z.symm)
          rw [decide_eq_true xk']
          simp [kk]
        · rw [decide_eq_false xk', decide_eq_false xk, Bool.false_or]
          exact ih
  unfold addG
  by_cases h : g.any (fun x => decide (x.1 = k)) = true
  · rw [if_pos h, key g]
    simp [h]
  · rw [if_neg h]
    have h := Bool.eq_false_iff.mpr h
    unfold look
    rw [List.find?_append]
    by_cases kk : k = k'
    · subst kk
      have e : g.find? (fun x => decide (x.1 = k)) = none := by
        rw [List.find?_eq_none]
        rw [List.any_eq_false] at h
        exact fun x hx => by simpa using h x hx
      rw [e]
      simp
    · rw [if_neg kk]
      have e : ([(k, [d])] : Grp).find? (fun x => decide (x.1 = k')) = none := by simp [kk]
      rw [e]
      cases g.find? (fun x => decide (x.1 = k')) <;> rfl
theorem look_rows (ps os : List Nat) (k : List Int) : ∀ (rows : Rel) (g : Grp), look (rows.foldl (fun g r => addG g (pickI r ps) (pickI r os)) g) k = look g k ++ (rows.filter fun r => decide (pickI r ps = k)).map fun r => pickI r os
  | [], g => by simp
  | r :: rows, g => by
    rw [List.foldl_cons, look_rows ps os k rows, look_add, List.filter_cons]
    by_cases e : pickI r ps = k
    · rw [if_pos e, if_pos (decide_eq_true e), List.map_cons, List.append_assoc] <;> rfl
    · rw [if_neg e, if_neg (by rw [decide_eq_false e]; decide)]
theorem g_Vnd {ρ : EnvD} {m : Mode} {i : Nat} {kvs : List (NestedKey × PyData)} (h : ρ[i]? = some (.nd kvs)) : Gv (wVar m i) ρ (.nd kvs) := fun P p => by
  unfold wVar
  rw [h]
  exact p
/-! ### sets of rows, as ways -/
theorem g_sortB {ρ : EnvD} {f : WF} {l : Rel} (h : Gv f ρ (.py (.list (l.map tupI)))) (r : RoomyT l) (ne : ∀ x ∈ l, x ≠ []) : Gv (w1 f wSortSetB) ρ (.py (.list ((srt l).map tupI))) := g_w1 h fun P p => ⟨l, rfl, r, ne, fun ys a m => by
  rw [Lp.srt_uniq a m]
  exact p⟩
theorem g_sg2B {α β : Type} {ρ : EnvD} {xs : List α} {enc : α → EV} {ysOf : α → List β} {encY : β → EV} {val : α → β → List Int} {fi fi1 : WA} {g g1 : WGt} {f : WF} {vs vs1 : List Nat} (F : Rel) (hF : RoomyT F) (hno : noOwn ρ vs) (hi : Ga fi ρ (xs.map enc))
    (hb : ∀ x ∈ xs, ∃ ρ2, Gg g (enc x) (wipeE ρ vs) ρ2 ∧ noOwn ρ2 vs1 ∧ Ga fi1 ρ2 ((ysOf x).map encY) ∧ ∀ y ∈ ysOf x, ∃ ρ3, Gg g1 (encY y) (wipeE ρ2 vs1) ρ3 ∧ Gv f ρ3 (.py (tupI (val x y))) ∧ val x y ∈ F ∧ val x y ≠ []) :
    Gv (wSg2B fi g wYes fi1 g1 wYes f vs vs1) ρ (.py (.list ((srt (xs.flatMap fun x => (ysOf x).map (val x))).map tupI))) := fun P p => ⟨hno, hi _ ⟨F, hF, by
  have inner : ∀ (x : α) (ρ2 : EnvD) (ys : List β) (acc : Rel) (Q : Rel → Prop), (∀ y ∈ ys, ∃ ρ3, Gg g1 (encY y) (wipeE ρ2 vs1) ρ3 ∧ Gv f ρ3 (.py (tupI (val x y))) ∧ val x y ∈ F ∧ val x y ≠ []) → Q (acc ++ ys.map (val x)) → wSgGoB F g1 wYes f (wipeE ρ2 vs1) (ys.map encY) acc Q := by
    intro x ρ2 ys
    induction ys with
    | nil => intro acc Q _ h; simpa [wSgGoB] using h
    | cons y r ih =>
      intro acc Q hs h
      obtain ⟨ρ3, h1, h2, h3, h4⟩ := hs y List.mem_cons_self
      rw [List.map_cons]
      refine h1 _ (g_yes _ ?_)
      rw [if_pos rfl]
      refine h2 _ ⟨val x y, rfl, h3, h4, ih _ Q (fun z hz => hs z (List.mem_cons_of_mem _ hz)) ?_⟩
      rw [List.append_assoc]
      exact h
  have outer : ∀ (zs : List α) (acc : Rel) (Q : Rel → Prop), (∀ x ∈ zs, x ∈ xs) → Q (acc ++ zs.flatMap fun x => (ysOf x).map (val x)) → wSg2GoB F g wYes fi1 g1 wYes f vs1 (wipeE ρ vs) (zs.map enc) acc Q := by
    intro zs
    induction zs with
    | nil => intro acc Q _ h; simpa [wSg2GoB] using h
    | cons x r ih =>
      intro acc Q hs h
      obtain ⟨ρ2, h1, h2, h3, h4⟩ := hb x (hs x List.mem_cons_self)
      rw [List.map_cons]
      refine h1 _ (g_yes _ ?_)
      rw [if_pos rfl]
      refine ⟨h2, h3 _ (inner x ρ2 _ _ _ h4 (ih _ Q (fun z hz => hs z (List.mem_cons_of_mem _ hz)) ?_))⟩
      rw [List.append_assoc]
      exact h
  refine outer xs [] _ (fun _ h => h) fun ys a m => ?_
  rw [Lp.srt_uniq a m]
  exact p⟩⟩
/-! ### product -/
def Good1 (r : Rel) : Prop := r.length ≤ 100 ∧ Pairs r ∧ Asc r
def endsOf (two : Rel) (p : List Int) : Rel := (two.filter fun q => decide (fst q = snd p)).map fun q => [snd q]
theorem ends_val (two : Rel) (p : List Int) : ((endsOf two p).map fun e => [fst p, e.getD 0 0]) = (two.filter fun q => decide (fst q = snd p)).map fun q => [fst p, snd q] := by
  unfold endsOf
  rw [List.map_map] <;> rfl
theorem look_two (two : Rel) (p : List Int) : look (groupedI two [0] [1]) [snd p] = endsOf two p := by
  unfold groupedI
  rw [look_rows]
  show [] ++ _ = _
  rw [List.nil_append]
  unfold endsOf
  have e : (two.filter fun r => decide (pickI r [0] = [snd p])) = two.filter fun q => decide (fst q = snd p) := List.filter_congr fun t _ => decide_eq_decide.mpr ⟨fun h => by injection h, fun h => by show [fst t] = [snd p]; rw [h]⟩
  rw [e] <;> rfl
theorem gd_product {one two : Rel} (h1 : Good1 one) (h2 : Good1 two) (hF : RoomyT (prodL one two)) : Gd dProduct [.py (relD one), .py (relD two)] (.py (relD (srt (prodL one two)))) := by
  have pr : ∀ q ∈ two, q.length = 2 := h2.2.1
  refine g_def rfl (g_seq (g_drop (g_call (g_cons (g_tup (ds := [relD one, relD two]) (g_cons (g_V rfl) (g_cons (g_V rfl) g_nil)) rfl (show 2 ≤ sizeLine by decide)) g_nil) (gd_chkRel (rs := [one, two]) (show 2 ≤ 1000 by decide) fun r hr => ?_))) (g_seq (g_set (e := .nd (grpD (groupedI two [0] [1]))) (show 2 < 6 by decide) (g_call (g_cons (g_V rfl) (g_cons (g_lst (ds := [.int 0]) (g_cons (g_C _) g_nil) rfl (show 1 ≤ sizeLine by decide)) (g_cons (g_lst (ds := [.int 1]) (g_cons (g_C _) g_nil) rfl (show 1 ≤ sizeLine by decide)) g_nil))) fun P p => ⟨two, [0], [1], rfl, fun r hr i hi => ?_, Nat.le_trans h2.1 (by decide), ⟨by decide, by decide⟩, p⟩)) (g_ret (g_call (g_cons (g_sg2B (xs := one) (enc := fun p => .py (tupI p)) (ysOf := endsOf two) (encY := fun e => .py (tupI e)) (val := fun p e => [fst p, e.getD 0 0]) (prodL one two) hF (no_ownP rfl) (g_seqT (xs := one) (val := tupI) (g_V rfl)) fun p hp => ?_) g_nil) fun P p => v_tupL ?_))))
  · rcases List.mem_cons.mp hr with rfl | hr
    · exact h1
    · rw [List.mem_singleton.mp hr]
      exact h2
  · rw [pr r hr]
    simp at hi
    omega
  · have e := Lx.pair_eq (h1.2.1 p hp)
    refine ⟨[EV.py (relD one), .py (relD two), .nd (grpD (groupedI two [0] [1])), .no, .py (.int (fst p)), .py (.int (snd p))], ?_, no_ownP rfl, ?_, fun y hy => ⟨[EV.py (relD one), .py (relD two), .nd (grpD (groupedI two [0] [1])), .py (tupI y), .py (.int (fst p)), .py (.int (snd p))], gg_N rfl, ?_, ?_, fun z => nomatch z⟩⟩
    · show Gg _ (EV.py (tupI p)) _ _
      rw [e]
      exact gg_T2 (gg_N rfl) (gg_N rfl)
    · refine g_seqL (xs := endsOf two p) (val := tupI) fun P q => ?_
      exact g_Vnd (m := .data) (i := 2) (kvs := grpD (groupedI two [0] [1])) rfl _ ⟨⟨_, rfl⟩, g_tup (ds := [.int (snd p)]) (g_cons (g_V rfl) g_nil) rfl (show 1 ≤ sizeLine by decide) _ (g_lst (ds := []) g_nil rfl (Nat.zero_le _) _ ⟨_, keyN_I [snd p], by
        rw [at_grp, look_two]
        exact q⟩)⟩
    · obtain ⟨q, hq, rfl⟩ := List.mem_map.mp hy
      exact g_tup (ds := [.int (fst p), .int (snd q)]) (g_cons (g_V rfl) (g_cons (g_ix (ds := [.int (snd q)]) (g_V rfl) (g_C (.int 0)) rfl) g_nil)) rfl (show 2 ≤ sizeLine by decide)
    · refine List.mem_flatMap.mpr ⟨p, hp, ?_⟩
      rw [← ends_val]
      exact List.mem_map_of_mem hy
  · have e : (one.flatMap fun x => (endsOf two x).map fun e => [fst x, e.getD 0 0]) = prodL one two := by
      unfold prodL
      congr 1
      funext p
      exact ends_val two p
    rw [e]
    exact p
/-! ### the law's own -/
theorem prod_app (d : Rel) (p : List Int) (two : Rel) : prodL (d ++ [p]) two = prodL d two ++ (two.filter fun q => decide (fst q = snd p)).map fun q => [fst p, snd q] := by
  unfold prodL
  rw [List.flatMap_append, List.flatMap_cons, List.flatMap_nil, List.append_nil]
theorem g_row {ρ : EnvD} {fa fb : WF} {a b : Int} (ha : Gv fa ρ (.py (.int a))) (hb : Gv fb ρ (.py (.int b))) : Gv (wCallA wTup (wCons fa (wCons fb wNil))) ρ (.py (tupI [a, b])) := g_tup (ds := [.int a, .int b]) (g_cons ha (g_cons hb g_nil)) rfl (show 2 ≤ sizeLine by decide)
theorem gd_lproduct {one two : Rel} (h1 : Pairs one) (h2 : Pairs two) (l1 : one.length ≤ 100) (l2 : two.length ≤ 100) (hF : RoomyT (prodL one two)) : Gd dLProduct [.py (relD one), .py (relD two)] (.py (relD (srt (prodL one two)))) := by
  refine g_def rfl (g_seq (g_own (d := .list []) (show 2 < 7 by decide) (g_lst g_nil rfl (Nat.zero_le _))) ?_)
  · refine g_forOn (xs := one) (enc := fun p => .py (tupI p)) (fun d ρ => ∃ e3 e4 : EV, nOw e3 ∧ nOw e4 ∧ ρ = [EV.py (relD one), .py (relD two), .own (.list ((prodL d two).map tupI)), e3, e4, .no, .no]) (g_seqT (xs := one) (val := tupI) (g_V rfl)) ⟨.no, .no, rfl, rfl, rfl⟩ ?_ ?_
    · rintro d p r ed ρ ⟨e3, e4, n3, n4, rfl⟩
      have hp : p ∈ one := by rw [ed]; simp
      have ld : d.length ≤ 100 := by
        have := congrArg List.length ed
        rw [List.length_append, List.length_cons] at this
        omega
      have e := Lx.pair_eq (h1 p hp)
      have hno : noOwn [EV.py (relD one), .py (relD two), .own (.list ((prodL d two).map tupI)), .py (.int (fst p)), .py (.int (snd p)), .no, .no] [5, 6] := fun i hi d' e' => by
        rcases List.mem_cons.mp hi with rfl | hi
        · cases d' <;> cases e'
        · rw [List.mem_singleton.mp hi] at e'
          cases d' <;> cases e'
      refine ⟨[EV.py (relD one), .py (relD two), .own (.list ((prodL d two).map tupI)), .py (.int (fst p)), .py (.int (snd p)), .no, .no], [EV.py (relD one), .py (relD two), .own (.list ((prodL (d ++ [p]) two).map tupI)), .py (.int (fst p)), .py (.int (snd p)), .no, .no], ?_, (g_ext (xs := (prodL d two).map tupI) (ds := ((two.filter fun q => decide (fst q = snd p)).map fun q => tupI [fst p, snd q])) rfl (g_lc (xs := two) (enc := fun q => .py (tupI q)) (p := fun q => decide (fst q = snd p)) (val := fun q => tupI [fst p, snd q]) hno (g_seqT (xs := two) (val := tupI) (g_V rfl)) (Nat.le_trans l2 (by decide)) fun q hq => ?_) ?_).cast ?_, .py (.int (fst p)), .py (.int (snd p)), rfl, rfl, rfl⟩
      · show Gg _ (EV.py (tupI p)) _ _
        rw [e]
        exact gg_T2 (gg_Np rfl n3) (gg_Np rfl n4)
      · have eq := Lx.pair_eq (h2 q hq)
        refine ⟨[EV.py (relD one), .py (relD two), .own (.list ((prodL d two).map tupI)), .py (.int (fst p)), .py (.int (snd p)), .py (.int (fst q)), .py (.int (snd q))], ?_, ?_, fun _ => g_row (g_V rfl) (g_V rfl)⟩
        · show Gg _ (EV.py (tupI q)) _ _
          rw [eq]
          exact gg_T2 (gg_N rfl) (gg_N rfl)
        · exact g_TB ((g_eqI (neg := false) (g_V rfl) (g_V rfl)).cast (by simp))
      · rw [List.length_map, List.length_map]
        have a := Lp.prod_len (n := 100) (one := d) l2
        have b := List.length_filter_le (fun q => decide (fst q = snd p)) two
        rw [sizeLine_eq]
        omega
      · rw [prod_app, List.map_append, List.map_map] <;> rfl
    · rintro ρ ⟨e3, e4, _, _, rfl⟩
      exact g_ret (g_call (g_cons (g_sortB (g_Vown rfl) hF fun x hx e => by
        have z := Lp.pairs_prod one two x hx
        rw [e] at z
        cases z) g_nil) fun P p => v_tupL p)
/-! ### turned -/
theorem swp_nodup {l : Rel} (h : Pairs l) (n : l.Nodup) : (l.map swp).Nodup := by
  rw [List.Nodup, List.pairwise_map]
  refine n.imp_of_mem fun {a b} ha hb ne e => ne ?_
  have e1 := Lx.pair_eq (h a ha)
  have e2 := Lx.pair_eq (h b hb)
  unfold swp at e
  injection e with e3 e4
  injection e4 with e4
  rw [e1, e2, e3, e4]
theorem srt_perm {l : Rel} (n : l.Nodup) : l.Perm (srt l) := (List.perm_ext_iff_of_nodup n (Lp.asc_nd (Lp.srt_asc l))).mpr fun y => Lp.srt_mem.symm
theorem g_sortRows {ρ : EnvD} {f : WF} {l : Rel} (n : l.Nodup) (hp : Pairs l) (h : Gv f ρ (.py (.list (l.map tupI)))) : Gv (wCallA wSorted (wCons f wNil)) ρ (.py (.list ((srt l).map tupI))) := g_call (g_cons h g_nil) fun P p => ⟨⟨(okD_ok 2 (.list (l.map tupI)) ⟨_, .inr rfl, fun e he => by obtain ⟨i, _, rfl⟩ := List.mem_map.mp he; exact ok_tupI i⟩).1, fun d hd d' hd' => by
    obtain ⟨a, _, rfl⟩ := List.mem_map.mp hd
    obtain ⟨b, _, rfl⟩ := List.mem_map.mp hd'
    unfold tupI
    rw [alike]
    exact alike_ints a b, .inl fun d hd => by
    obtain ⟨a, ha, rfl⟩ := List.mem_map.mp hd
    rw [Lx.pair_eq (hp a ha)]
    exact ⟨_, _, rfl⟩, fun d hd => by
    obtain ⟨a, _, rfl⟩ := List.mem_map.mp hd
    have := (okD_ok 1 (tupI a) (ok_tupI a)).2.2
    omega⟩, by
  have z : sortD (l.map tupI) = (srt l).map tupI := Tab.sortD_rows (srt_perm n) (Lp.srt_asc l)
  rw [z]
  exact p⟩
theorem gd_turned {l : Rel} (hp : Pairs l) (n : l.Nodup) (hl : l.length ≤ 100000) : Gd dTurned [.py (relD l)] (.py (relD (tu l))) := by
  have nm := swp_nodup hp n
  have step := g_lc0 (ρ := startE 3 [EV.py (relD l)]) (xs := l) (enc := fun p => .py (tupI p)) (val := fun p => tupI (swp p)) (fi := wSeqI (wVar .read 0)) (g := gT [gN 1, gN 2]) (f := wCallA wTup (wCons (wVar .data 2) (wCons (wVar .data 1) wNil))) (vs := [1, 2]) (no_ownP rfl) (g_seqT (xs := l) (val := tupI) (g_V rfl)) (by rw [sizeLine_eq]; omega) fun p h => ⟨[EV.py (relD l), .py (.int (fst p)), .py (.int (snd p))], by
      show Gg _ (EV.py (tupI p)) _ _
      rw [Lx.pair_eq (hp p h)]
      exact gg_T2 (gg_N rfl) (gg_N rfl), g_row (g_V rfl) (g_V rfl)⟩
  have step2 := step.cast (show _ = EV.py (.list ((l.map swp).map tupI)) by rw [List.map_map] <;> rfl)
  exact g_def rfl (g_ret (g_call (g_cons (g_sortRows nm (Lp.pairs_swp l) step2) g_nil) fun P p => v_tupL p))
end K60

/-! law_k60: relations drawn; a round. -/
namespace K60
open PySem PySem.Spec PySem.W PyProof.Rows L2 Dr Rp Dw
open Lx (Rel fst snd Pairs Asc)
open Lp (prodL srt tu swp alk)
open Tab (RoomyT)
variable [Dw.LamReg]
theorem nt_draw {ρ : EnvD} {n k : Int} (h0 : 0 < n) (h1 : n < 1000000) (q : ρ[0]? = some .st) : Nt (wT1 (w2 (wCallA dDraw (wCons (wVar .data 0) (wCons (wC (.int n)) wNil))) (wC (.int k)) (wEq false)) wTB) ρ (fun _ => True) :=
  n_TB (n_w2 (n_callG (g_cons (g_Vst q) (g_cons (g_C _) g_nil)) (nd_draw h0 h1)) ((g_C (.int k)).n (Q := fun e => e = .py (.int k)) rfl) fun x y ⟨v, hx, _⟩ hy P p => by
    subst hx hy
    exact ⟨⟨eqOk_i _, eqOk_i _⟩, p _ ⟨_, rfl, trivial⟩⟩)

theorem na_rng1 {ρ : EnvD} {f : WF} {n : Nat} (h : Nv f ρ fun e => ∃ v : Nat, e = .py (.int (v : Nat)) ∧ v < n) (hn : n < 4611686018427387904) : Na (wRng1 f) ρ (fun xs => ∃ v, v < n ∧ xs = (List.range v).map fun i => EV.py (.int (i : Nat))) := fun P p => h _ fun e ⟨v, q, hv⟩ => by
  subst q
  exact ga_rng1 (fa := fun _ P => P (.py (.int (v : Nat)))) (ρ := ρ) (n := v) (fun P p => p) (by omega) _ (p _ ⟨v, hv, rfl⟩)
/-- whole numbers not too great -/
def Sml (i : Int) : Prop := i.natAbs < 10 ^ 41
def SmlR (r : Rel) : Prop := ∀ p ∈ r, ∀ x ∈ p, Sml x
def isI (e : EV) : Prop := ∃ i : Int, e = .py (.int i) ∧ Sml i
theorem n_row {ρ : EnvD} {fa fb : WF} (ha : Nv fa ρ isI) (hb : Nv fb ρ isI) : Nv (wCallA wTup (wCons fa (wCons fb wNil))) ρ (fun e => ∃ p : List Int, e = .py (tupI p) ∧ p.length = 2 ∧ ∀ x ∈ p, Sml x) := fun P p => ha _ fun e ⟨i, q, hi⟩ => hb _ fun e' ⟨j, q', hj⟩ => by
  subst q q'
  exact v_tup (ds := [.int i, .int j]) rfl (show 2 ≤ sizeLine by decide) (p _ ⟨[i, j], rfl, rfl, fun x hx => by
    rcases List.mem_cons.mp hx with rfl | hx
    · exact hi
    · rw [List.mem_singleton.mp hx]
      exact hj⟩)
theorem n_drawV {ρ : EnvD} {j : Nat} {s : Nat} (h0 : ρ[0]? = some .st) (hj : ρ[j]? = some (.py (.int (s : Nat)))) (s1 : 1 ≤ s) (s2 : s ≤ 6) : Nv (wCallA dDraw (wCons (wVar .data 0) (wCons (wVar .data j) wNil))) ρ isI :=
  (n_callG (g_cons (g_Vst h0) (g_cons (g_V hj) g_nil)) (nd_draw (n := (s : Nat)) (by omega) (by omega))).mono fun e ⟨v, q, hv⟩ => ⟨_, q, by
    unfold Sml
    omega⟩
structure Rok (r : Rel) : Prop where
  len : r.length ≤ 13
  pr : Pairs r
  asc : Asc r
  sm : SmlR r
theorem Rok.good {r : Rel} (h : Rok r) : Good1 r := ⟨Nat.le_trans h.len (by decide), h.pr, h.asc⟩
def ρR (s : Nat) (l : Rel) (e4 : EV) : EnvD := [.st, .py (.int 12), .py (.int (s : Nat)), .own (.list (l.map tupI)), e4]
theorem app_ok {l : Rel} {p : List Int} (h : Pairs l ∧ SmlR l) (h1 : p.length = 2) (h2 : ∀ x ∈ p, Sml x) : Pairs (l ++ [p]) ∧ SmlR (l ++ [p]) := by
  refine ⟨fun q hq => ?_, fun q hq => ?_⟩ <;> rcases List.mem_append.mp hq with hq | hq
  · exact h.1 q hq
  · rw [List.mem_singleton.mp hq]; exact h1
  · exact h.2 q hq
  · rw [List.mem_singleton.mp hq]; exact h2
theorem n_appR {ρ : EnvD} {l : Rel} {f : WF} {I : EnvD → Prop} {R : EV → Prop} (h : ρ[3]? = some (.own (.list (l.map tupI)))) (hl : l.length ≤ 1000) (hf : Nv f ρ (fun e => ∃ p : List Int, e = .py (tupI p) ∧ p.length = 2 ∧ ∀ x ∈ p, Sml x)) (k : ∀ p : List Int, p.length = 2 → (∀ x ∈ p, Sml x) → I (ρ.set 3 (.own (.list ((l ++ [p]).map tupI))))) : Ns (wApp 3 f) ρ I R :=
  n_app h (by rw [List.length_map, sizeLine_eq]; omega) (hf.mono fun e ⟨p, q, h1, h2⟩ => ⟨_, q, by
    have z := k p h1 h2
    rw [List.map_append] at z
    exact z⟩)
theorem roomy_of {l : Rel} (h : l.length ≤ 2000) : RoomyT l := .inl h
theorem pairs_ne {l : Rel} (h : Pairs l) : ∀ x ∈ l, x ≠ [] := fun x hx e => by
  have z := h x hx
  rw [e] at z
  cases z
def pk1 : List Int := [-1, 10 ^ 39, 0]
def pk2 : List Int := [0 - 10 ^ 38, 2, -1]
theorem nd_relation {s : Nat} (s1 : 1 ≤ s) (s2 : s ≤ 6) : Nd dRelation [.st, .py (.int 12), .py (.int (s : Nat))] (fun e => ∃ r, e = .py (relD r) ∧ Rok r) := by
  refine n_def rfl (n_seq (I := fun ρ => ρ = ρR s [] .no) (n_nx (g_own (d := .list []) (show 3 < 5 by decide) (g_lst g_nil rfl (Nat.zero_le _))) rfl) ?_)
  rintro ρ rfl
  refine n_seq (I := fun ρ => ∃ l e4, nOw e4 ∧ ρ = ρR s l e4 ∧ l.length ≤ 12 ∧ Pairs l ∧ SmlR l) (n_forN (X := fun xs => ∃ v, v < 13 ∧ xs = (List.range v).map fun i => EV.py (.int (i : Nat))) (I := fun j ρ => ∃ l e4, nOw e4 ∧ ρ = ρR s l e4 ∧ l.length = j ∧ Pairs l ∧ SmlR l) (na_rng1 (n := 13) ((n_callG (g_cons (g_Vst rfl) (g_cons (g_addI (g_V rfl) (g_C (.int 1))) g_nil)) (nd_draw (n := 12 + 1) (by decide) (by decide))).mono fun e ⟨v, q, hv⟩ => ⟨v, q, by omega⟩) (by decide)) ⟨[], .no, rfl, rfl, rfl, (fun _ h => nomatch h), (fun _ h => nomatch h)⟩ ?_ ?_) ?_
  · rintro xs ⟨v, hv, rfl⟩ x hx j hj ρ ⟨l, e4, n4, rfl, hl, hp, hs⟩
    obtain ⟨i, _, rfl⟩ := List.mem_map.mp hx
    rw [List.length_map, List.length_range] at hj
    refine ⟨_, gg_Np rfl n4, n_appR (l := l) rfl (by omega) (n_row (n_drawV rfl rfl s1 s2) (n_drawV rfl rfl s1 s2)) fun p h1 h2 => ⟨l ++ [p], .py (.int (i : Nat)), rfl, rfl, by rw [List.length_append, hl] <;> rfl, app_ok ⟨hp, hs⟩ h1 h2⟩⟩
  · rintro xs ⟨v, hv, rfl⟩ ρ ⟨l, e4, n4, rfl, hl, hp, hs⟩
    rw [List.length_map, List.length_range] at hl
    exact ⟨l, e4, n4, rfl, by omega, hp, hs⟩
  rintro ρ ⟨l, e4, n4, rfl, hl, hp, hs⟩
  refine n_seq (I := fun ρ => ∃ l e4, ρ = ρR s l e4 ∧ l.length ≤ 13 ∧ Pairs l ∧ SmlR l) (n_if (Q := fun _ => True) (nt_draw (n := 5) (k := 0) (by decide) (by decide) rfl) (fun _ => n_appR (l := l) rfl (by omega) (n_row ?_ ?_) fun p h1 h2 => ⟨l ++ [p], e4, rfl, by rw [List.length_append, List.length_singleton]; omega, app_ok ⟨hp, hs⟩ h1 h2⟩) fun _ => n_next ⟨l, e4, rfl, by omega, hp, hs⟩) ?_
  · refine (n_callG (g_cons (g_Vst rfl) (g_cons (g_lst (ds := pk1.map .int) (g_cons (g_negI (g_C (.int 1))) (g_cons (g_intB (g_C _) (g_C _) cpow39) (g_cons (g_C _) g_nil))) rfl (show 3 ≤ sizeLine by decide)) g_nil)) (nd_pick (by decide) (by decide))).mono fun e ⟨d, hd, he⟩ => ?_
    obtain ⟨x, hx, rfl⟩ := List.mem_map.mp hd
    refine ⟨x, he, ?_⟩
    unfold Sml
    unfold pk1 at hx
    simp at hx
    omega
  · refine (n_callG (g_cons (g_Vst rfl) (g_cons (g_lst (ds := pk2.map .int) (g_cons (g_intB (g_C (.int 0)) (g_intB (g_C _) (g_C _) cpow38) trivial) (g_cons (g_C _) (g_cons (g_negI (g_C (.int 1))) g_nil))) rfl (show 3 ≤ sizeLine by decide)) g_nil)) (nd_pick (by decide) (by decide))).mono fun e ⟨d, hd, he⟩ => ?_
    obtain ⟨x, hx, rfl⟩ := List.mem_map.mp hd
    refine ⟨x, he, ?_⟩
    unfold Sml
    unfold pk2 at hx
    simp at hx
    omega
  rintro ρ ⟨l, e4, rfl, hl, hp, hs⟩
  refine n_ret ((g_call (g_cons (g_sortB (l := l) (g_Vown rfl) (roomy_of (by omega)) (pairs_ne hp)) g_nil) fun P p => v_tupL p).n ⟨srt l, rfl, Nat.le_trans (Lp.srt_len l) hl, Lp.pairs_srt hp, Lp.srt_asc l, fun p h => hs p (Lp.srt_mem.mp h)⟩)
end K60

/-! law_k60: a round. -/
namespace K60
open PySem PySem.Spec PySem.W PyProof.Rows L2 Dr Rp Dw
open Lx (Rel fst snd Pairs Asc)
open Lp (prodL srt tu swp alk)
open Tab (RoomyT)
variable [Dw.LamReg]
theorem g_eqR {ρ : EnvD} {fa fb : WF} {x y : Rel} (ha : Gv fa ρ (.py (relD x))) (hb : Gv fb ρ (.py (relD y))) (neg : Bool) : Gv (w2 fa fb (wEq neg)) ρ (.py (.bool (neg ^^ decide (x = y)))) := by
  refine (g_eq (neg := neg) ha hb (okD_eq (ok_relD x) (by decide)) (okD_eq (ok_relD y) (by decide))).cast ?_
  have e : PyData.eqv (relD x) (relD y) = decide (x = y) := eqv_rel x y
  rw [e]
  cases neg
  · simp
  · simp
theorem g_sameR {ρ : EnvD} {fa fb : WF} {x : Rel} (ha : Gv fa ρ (.py (relD x))) (hb : Gv fb ρ (.py (relD x))) (neg : Bool) : Gv (w2 fa fb (wEq neg)) ρ (.py (.bool (!neg))) := (g_eqR ha hb neg).cast (by rw [decide_eq_true rfl]; cases neg <;> rfl)
theorem sx_rel {r : Rel} (h : SmlR r) (hp : Pairs r) (hl : r.length ≤ 169) : Sx 2 16000 (relD r) :=
  (sx_tuple (e := 1) (b := 91) (c := 169) (fun d hd => by
    obtain ⟨p, hpm, rfl⟩ := List.mem_map.mp hd
    exact (sx_tuple (e := 0) (b := 42) (c := 2) (fun d hd => by
      obtain ⟨i, hi, rfl⟩ := List.mem_map.mp hd
      exact sx_i (h p hpm i hi)) (by rw [List.length_map, hp p hpm]; exact Nat.le_refl _))) (by rw [List.length_map]; exact hl)).mono (Nat.le_refl _) (by decide)
theorem g_reprR {ρ : EnvD} {fa fb : WF} {r : Rel} (ha : Gv fa ρ (.py (relD r))) (hb : Gv fb ρ (.py (relD r))) (s : Sx 2 16000 (relD r)) (neg : Bool) : Gv (w2 (wCallA wRepr (wCons fa wNil)) (wCallA wRepr (wCons fb wNil)) (wEq neg)) ρ (.py (.bool (!neg))) := by
  have r1 := g_repr ha s.sz.1 (Nat.le_trans s.sz.2.1 (by decide)) (Nat.le_trans s.sz.2.2 (by decide))
  have r2 := g_repr hb s.sz.1 (Nat.le_trans s.sz.2.1 (by decide)) (Nat.le_trans s.sz.2.2 (by decide))
  refine (g_eq (neg := neg) r1 r2 (eqOk_s s.ok) (eqOk_s s.ok)).cast ?_
  have e : PyData.eqv (.str (relD r).shown) (.str (relD r).shown) = true := by
    show ((relD r).shown == (relD r).shown) = true
    exact beq_self_eq_true _
  rw [e]
  cases neg <;> rfl
theorem sml_prod {one two : Rel} (h1 : SmlR one) (h2 : SmlR two) (p1 : Pairs one) (p2 : Pairs two) : SmlR (prodL one two) := fun y hy x hx => by
  obtain ⟨p, hp, q, hq, _, rfl⟩ := Lp.mem_prod.mp hy
  rcases List.mem_cons.mp hx with rfl | hx
  · exact h1 p hp _ (by rw [Lx.pair_eq (p1 p hp)]; exact List.mem_cons_self)
  · rw [List.mem_singleton.mp hx]
    exact h2 q hq _ (by rw [Lx.pair_eq (p2 q hq)]; exact List.mem_cons_of_mem _ List.mem_cons_self)
/-- what drawn relations come to -/
theorem Rok.prod {a b : Rel} (ha : Rok a) (hb : Rok b) : (prodL a b).length ≤ 169 := Nat.le_trans (Lp.prod_len hb.len) (Nat.le_trans (Nat.mul_le_mul_right 13 ha.len) (by decide))
theorem g_prod {ρ : EnvD} {fa fb : WF} {a b : Rel} (ga : Gv fa ρ (.py (relD a))) (gb : Gv fb ρ (.py (relD b))) (ha : Good1 a) (hb : Good1 b) (r : RoomyT (prodL a b)) : Gv (wCallA dProduct (wCons fa (wCons fb wNil))) ρ (.py (relD (srt (prodL a b)))) := g_call (g_cons ga (g_cons gb g_nil)) (gd_product ha hb r)
theorem good_tu {r : Rel} (h : Rok r) : Good1 (tu r) := ⟨Nat.le_trans (Lp.srt_len _) (by rw [List.length_map]; exact Nat.le_trans h.len (by decide)), Lp.pairs_tu r, Lp.srt_asc _⟩
theorem good_nil : Good1 [] := ⟨Nat.zero_le _, (fun _ h => nomatch h), .nil⟩
theorem tu_len {r : Rel} (h : Rok r) : (tu r).length ≤ 13 := Nat.le_trans (Lp.srt_len _) (by rw [List.length_map]; exact h.len)
def ρT (s : Nat) (a b c : Rel) (e2 e3 e4 : EV) : EnvD := [.st, .py (.int (s : Nat)), e2, e3, e4, .py (relD a), .py (relD b), .py (relD c), .no, .no, .no]
theorem nd_right : Nd dRightK [.st] (fun e => e = .py (.bool true)) := by
  refine n_def rfl (n_seq (I := fun ρ => ∃ s : Nat, 1 ≤ s ∧ s ≤ 6 ∧ ρ = [.st, .py (.int (s : Nat)), .no, .no, .no, .no, .no, .no, .no, .no, .no]) (n_set (show 1 < 11 by decide) (n_addD (a := 1) (b := 6) rfl (by decide) (by decide)) fun e ⟨v, he, hv⟩ => ⟨1 + v, by omega, by omega, by rw [he, show (1 : Int) + (v : Nat) = ((1 + v : Nat) : Int) by omega]; rfl⟩) ?_)
  rintro ρ ⟨s, s1, s2, rfl⟩
  refine n_seq (I := fun ρ => ∃ a b c, Rok a ∧ Rok b ∧ Rok c ∧ ρ = ρT s a b c .no .no .no) (fun k p _ => n_lc (D := fun d => ∃ r, d = relD r ∧ Rok r) (no_ownP rfl) (ga_rng1 (n := 3) (g_C _) (by decide)) (by rw [List.length_map, List.length_range]; decide) (fun x hx => ?_) _ fun e ⟨ds, q, hl, hd⟩ => ?_) ?_
  · obtain ⟨i, _, rfl⟩ := List.mem_map.mp hx
    exact ⟨_, gg_N rfl, (n_callG (g_cons (g_Vst rfl) (g_cons (g_C _) (g_cons (g_V rfl) g_nil))) (nd_relation s1 s2)).mono fun e ⟨r, q, h⟩ => ⟨_, q, r, rfl, h⟩⟩
  · subst q
    rw [List.length_map, List.length_range] at hl
    match ds, hl, hd with
    | [x, y, z], _, hd =>
      obtain ⟨a, rfl, ha⟩ := hd x (by simp)
      obtain ⟨b, rfl, hb⟩ := hd y (by simp)
      obtain ⟨c, rfl, hc⟩ := hd z (by simp)
      exact ⟨rfl, gg_Np (u := .no) rfl rfl _ (gg_Np (u := .no) rfl rfl _ (gg_Np (u := .no) rfl rfl _ (p _ ⟨a, b, c, ha, hb, hc, rfl⟩)))⟩
  rintro ρ ⟨a, b, c, ha, hb, hc, rfl⟩
  have ab := ha.prod hb
  have bc := hb.prod hc
  have sab : (srt (prodL a b)).length ≤ 169 := Nat.le_trans (Lp.srt_len _) ab
  have sbc : (srt (prodL b c)).length ≤ 169 := Nat.le_trans (Lp.srt_len _) bc
  have roomy : ∀ {x y : Rel}, x.length ≤ 100 → y.length ≤ 13 → RoomyT (prodL x y) := fun h1 h2 => roomy_of (Nat.le_trans (Lp.prod_len h2) (Nat.le_trans (Nat.mul_le_mul_right 13 h1) (by decide)))
  have roomy2 : ∀ {x y : Rel}, x.length ≤ 13 → y.length ≤ 100 → RoomyT (prodL x y) := fun h1 h2 => roomy_of (Nat.le_trans (Lp.prod_len h2) (Nat.le_trans (Nat.mul_le_mul_right 100 h1) (by decide)))
  have le100 : ∀ {n : Nat}, n ≤ 13 → n ≤ 100 := fun h => Nat.le_trans h (by decide)
  have pab := Lp.pairs_srt (Lp.pairs_prod a b)
  have pbc := Lp.pairs_srt (Lp.pairs_prod b c)
  refine n_seq (I := fun ρ => ρ = ρT s a b c (.py (relD (srt (prodL a b)))) .no .no) (n_nx (g_set (show 2 < 11 by decide) (g_prod (g_V rfl) (g_V rfl) ha.good hb.good (roomy (le100 ha.len) hb.len))) rfl) ?_
  rintro ρ rfl
  have lprod : Gv (wCallA dLProduct (wCons (wVar .data 5) (wCons (wVar .data 6) wNil))) (ρT s a b c (.py (relD (srt (prodL a b)))) .no .no) (.py (relD (srt (prodL a b)))) := g_call (g_cons (g_V rfl) (g_cons (g_V rfl) g_nil)) (gd_lproduct ha.pr hb.pr (le100 ha.len) (le100 hb.len) (roomy (le100 ha.len) hb.len))
  have sx : Sx 2 16000 (relD (srt (prodL a b))) := sx_rel (fun p h => sml_prod ha.sm hb.sm ha.pr hb.pr p (Lp.srt_mem.mp h)) pab sab
  refine n_seq (I := fun ρ => ρ = ρT s a b c (.py (relD (srt (prodL a b)))) .no .no) (n_if (Q := fun b => b = false) ((g_or (g_TB (g_sameR (g_V rfl) lprod true)) fun _ => g_TB (g_reprR (g_V rfl) lprod sx true)).n rfl) (fun h => nomatch h) fun _ => n_next rfl) ?_
  rintro ρ rfl
  have turn : ∀ {ρ : EnvD} {fa : WF} {r : Rel}, Pairs r → Asc r → r.length ≤ 169 → Gv fa ρ (.py (relD r)) → Gv (wCallA dTurned (wCons fa wNil)) ρ (.py (relD (tu r))) := fun h1 h2 h3 hv => g_call (g_cons hv g_nil) (gd_turned h1 (Lp.asc_nd h2) (by omega))
  have t1 : Gv (w2 (wCallA dProduct (wCons (wCallA dTurned (wCons (wVar .data 6) wNil)) (wCons (wCallA dTurned (wCons (wVar .data 5) wNil)) wNil))) (wCallA dTurned (wCons (wVar .data 2) wNil)) (wEq true)) (ρT s a b c (.py (relD (srt (prodL a b)))) .no .no) (.py (.bool false)) := by
    have z := g_prod (turn hb.pr hb.asc (Nat.le_trans hb.len (by decide)) (g_V (m := .data) (ρ := ρT s a b c (.py (relD (srt (prodL a b)))) .no .no) (i := 6) rfl)) (turn ha.pr ha.asc (Nat.le_trans ha.len (by decide)) (g_V (m := .data) (i := 5) rfl)) (good_tu hb) (good_tu ha) (roomy (le100 (tu_len hb)) (tu_len ha))
    rw [Lp.turned ha.pr hb.pr] at z
    exact g_sameR z (turn pab (Lp.srt_asc _) sab (g_V rfl)) true
  refine n_seq (I := fun ρ => ρ = ρT s a b c (.py (relD (srt (prodL a b)))) .no .no) (n_if (Q := fun b => b = false) ((g_TB t1).n rfl) (fun h => nomatch h) fun _ => n_next rfl) ?_
  rintro ρ rfl
  refine n_seq (I := fun ρ => ρ = ρT s a b c (.py (relD (srt (prodL a b)))) (.py (relD (srt (prodL b c)))) .no) (n_nx (g_set (show 3 < 11 by decide) (g_prod (g_V rfl) (g_V rfl) hb.good hc.good (roomy (le100 hb.len) hc.len))) rfl) ?_
  rintro ρ rfl
  have t2 : Gt (wTAnd (wT1 (w2 (wCallA wLen (wCons (wVar .read 2) wNil)) (wC (.int 100)) (wCmpI (fun i j => decide (i ≤ j)))) wTB) (wTAnd (wT1 (w2 (wCallA wLen (wCons (wVar .read 3) wNil)) (wC (.int 100)) (wCmpI (fun i j => decide (i ≤ j)))) wTB) (wT1 (w2 (wCallA dProduct (wCons (wVar .data 2) (wCons (wVar .data 7) wNil))) (wCallA dProduct (wCons (wVar .data 5) (wCons (wVar .data 3) wNil))) (wEq true)) wTB))) (ρT s a b c (.py (relD (srt (prodL a b)))) (.py (relD (srt (prodL b c)))) .no) false := by
    refine (g_and (b := decide (((((srt (prodL a b)).map tupI).length : Nat) : Int) ≤ 100)) (c := decide (((((srt (prodL b c)).map tupI).length : Nat) : Int) ≤ 100) && false) (g_TB (g_cmp (g_call (g_cons (g_V rfl) g_nil) fun P p => v_lenT p) (g_C _))) fun q1 => g_and (g_TB (g_cmp (g_call (g_cons (g_V rfl) g_nil) fun P p => v_lenT p) (g_C _))) fun q2 => g_TB ?_).cast (by simp)
    have l1 := of_decide_eq_true q1
    have l2 := of_decide_eq_true q2
    rw [List.length_map] at l1 l2
    have z1 := g_prod (g_V (m := .data) (ρ := ρT s a b c (.py (relD (srt (prodL a b)))) (.py (relD (srt (prodL b c)))) .no) (i := 2) rfl) (g_V (m := .data) (i := 7) rfl) ⟨by omega, pab, Lp.srt_asc _⟩ hc.good (roomy (by omega) hc.len)
    have z2 := g_prod (g_V (m := .data) (ρ := ρT s a b c (.py (relD (srt (prodL a b)))) (.py (relD (srt (prodL b c)))) .no) (i := 5) rfl) (g_V (m := .data) (i := 3) rfl) ha.good ⟨by omega, pbc, Lp.srt_asc _⟩ (roomy2 ha.len (by omega))
    rw [Lp.assoc ha.pr hb.pr hc.pr] at z1
    exact g_sameR z1 z2 true
  refine n_seq (I := fun ρ => ρ = ρT s a b c (.py (relD (srt (prodL a b)))) (.py (relD (srt (prodL b c)))) .no) (n_if (Q := fun b => b = false) (t2.n rfl) (fun h => nomatch h) fun _ => n_next rfl) ?_
  rintro ρ rfl
  have like : Gv (wLc (wSeqI (wVar .read 5)) (gT [(gN 9), (gN 10)]) wYes (wCallA wTup (wCons (wVar .data 10) (wCons (wVar .data 10) wNil))) [9, 10]) (ρT s a b c (.py (relD (srt (prodL a b)))) (.py (relD (srt (prodL b c)))) .no) (.py (.list ((a.map fun p => [snd p, snd p]).map tupI))) := by
    refine (g_lc0 (xs := a) (enc := fun p => .py (tupI p)) (val := fun p => tupI [snd p, snd p]) (no_ownP rfl) (g_seqT (xs := a) (val := tupI) (g_V rfl)) (by have := ha.len; rw [sizeLine_eq]; omega) fun p h => ⟨(ρT s a b c (.py (relD (srt (prodL a b)))) (.py (relD (srt (prodL b c)))) .no).set 9 (.py (.int (fst p))) |>.set 10 (.py (.int (snd p))), by
      show Gg _ (EV.py (tupI p)) _ _
      rw [Lx.pair_eq (ha.pr p h)]
      exact gg_T2 (gg_N rfl) (gg_N rfl), g_row (g_V rfl) (g_V rfl)⟩).cast ?_
    rw [List.map_map] <;> rfl
  refine n_seq (I := fun ρ => ρ = ρT s a b c (.py (relD (srt (prodL a b)))) (.py (relD (srt (prodL b c)))) (.py (relD (alk a)))) (n_nx (g_set (show 4 < 11 by decide) (g_call (g_cons (g_sortB like (roomy_of (by rw [List.length_map]; have := ha.len; omega)) fun x hx e => ?_) g_nil) fun P p => v_tupL p)) rfl) ?_
  · obtain ⟨p, _, q⟩ := List.mem_map.mp hx
    rw [e] at q
    cases q
  rintro ρ rfl
  have lalk : (alk a).length ≤ 13 := Nat.le_trans (Lp.srt_len _) (by rw [List.length_map]; exact ha.len)
  have none_ : ∀ {ρ : EnvD}, Gv (wCallA wTup wNil) ρ (.py (relD [])) := g_tup (ds := []) g_nil rfl (Nat.zero_le _)
  refine n_ret ((g_andV (b := true) (c := true && true) ?_ fun _ => g_andV (b := true) (c := true) ?_ fun _ => ?_).n rfl)
  · have z := g_prod (g_V (m := .data) (ρ := ρT s a b c (.py (relD (srt (prodL a b)))) (.py (relD (srt (prodL b c)))) (.py (relD (alk a)))) (i := 5) rfl) (g_V (m := .data) (i := 4) rfl) ha.good ⟨le100 lalk, Lp.pairs_alk a, Lp.srt_asc _⟩ (roomy (le100 ha.len) lalk)
    rw [Lp.alike ha.pr ha.asc] at z
    exact g_sameR z (g_V rfl) false
  · have z := g_prod (g_V (m := .data) (ρ := ρT s a b c (.py (relD (srt (prodL a b)))) (.py (relD (srt (prodL b c)))) (.py (relD (alk a)))) (i := 5) rfl) none_ ha.good good_nil (roomy (le100 ha.len) (Nat.zero_le _))
    rw [Lp.prod_none, Lp.srt_nil] at z
    exact g_sameR z none_ false
  · have z := g_prod (none_ (ρ := ρT s a b c (.py (relD (srt (prodL a b)))) (.py (relD (srt (prodL b c)))) (.py (relD (alk a))))) (g_V (m := .data) (i := 6) rfl) good_nil hb.good (roomy (Nat.zero_le _) hb.len)
    rw [show prodL [] b = [] from rfl, Lp.srt_nil] at z
    exact g_sameR z none_ false
end K60

/-! The hashes of 10,000 pairs: no three are alike. -/
namespace Lph
open Tab (hashT RareT RoomyT)
open PySem
inductive Tr where
  | lf | nd (l : Tr) (x : Nat) (r : Tr)
def find : Tr → Nat → Bool
  | .lf, _ => false
  | .nd l y r, x => match Nat.beq x y with
    | true => true
    | false => match Nat.blt x y with
      | true => find l x
      | false => find r x
def ins : Tr → Nat → Tr
  | .lf, x => .nd .lf x .lf
  | .nd l y r, x => match Nat.blt x y with
    | true => .nd (ins l x) y r
    | false => .nd l y (ins r x)
def insK : Tr → Nat → (Tr → Bool) → Bool
  | .lf, x, k => k (.nd .lf x .lf)
  | .nd l y r, x, k => match Nat.blt x y with
    | true => insK l x fun l' => k (.nd l' y r)
    | false => insK r x fun r' => k (.nd l y r')
theorem insK_eq : ∀ (t : Tr) (x : Nat) (k : Tr → Bool), insK t x k = k (ins t x)
  | .lf, _, _ => rfl
  | .nd l y r, x, k => by
    unfold insK ins
    cases Nat.blt x y with
    | true => exact insK_eq l x _
    | false => exact insK_eq r x _
def check : List Nat → Tr → Bool
  | [], _ => true
  | x :: r, t => match find t x with
    | true => false
    | false => insK t x (check r)
theorem blt_t {x y : Nat} : Nat.blt x y = true ↔ x < y := by
  rw [Nat.blt_eq]
theorem find_ins : ∀ (t : Tr) (x y : Nat), find (ins t x) y = true ↔ y = x ∨ find t y = true
  | .lf, x, y => by
    unfold ins
    simp only [find]
    cases e : Nat.beq y x with
    | true => simp [Nat.eq_of_beq_eq_true e]
    | false =>
      have := Nat.ne_of_beq_eq_false e
      cases Nat.blt y x <;> simp [this]
  | .nd l z r, x, y => by
    unfold ins
    cases e : Nat.blt x z with
    | true =>
      have e := blt_t.mp e
      simp only [find]
      cases h : Nat.beq y z with
      | true => simp
      | false =>
        cases b : Nat.blt y z with
        | true => simpa using find_ins l x y
        | false =>
          have b : ¬ y < z := fun q => by rw [blt_t.mpr q] at b; cases b
          have : y ≠ x := by omega
          simp [this]
    | false =>
      have e : ¬ x < z := fun q => by rw [blt_t.mpr q] at e; cases e
      simp only [find]
      cases h : Nat.beq y z with
      | true => simp
      | false =>
        cases b : Nat.blt y z with
        | true =>
          have b := blt_t.mp b
          have : y ≠ x := by omega
          simp [this]
        | false => simpa using find_ins r x y
theorem check_ok : ∀ (xs : List Nat) (t : Tr), check xs t = true → xs.Nodup ∧ ∀ x ∈ xs, find t x = false
  | [], _, _ => ⟨.nil, fun _ h => nomatch h⟩
  | x :: r, t, h => by
    unfold check at h
    cases e : find t x with
    | true => rw [e] at h; cases h
    | false =>
      rw [e] at h
      have h : insK t x (check r) = true := h
      rw [insK_eq] at h
      obtain ⟨h1, h2⟩ := check_ok r _ h
      refine ⟨List.nodup_cons.mpr ⟨fun m => ?_, h1⟩, fun y hy => ?_⟩
      · have z := h2 x m
        rw [(find_ins t x x).mpr (.inl rfl)] at z
        cases z
      · rcases List.mem_cons.mp hy with rfl | hy
        · exact e
        · have z := h2 y hy
          cases q : find t y with
          | false => rfl
          | true =>
            rw [(find_ins t x y).mpr (.inr q)] at z
            cases z
def hk (p : Nat × Nat) : Nat := SetTable.bits (hashT [(p.1 : Int), -50 + (p.2 : Int)])
def G9 : List (Nat × Nat) := (List.range 100).flatMap fun a => ((List.range 100).filter fun i => !Nat.beq i 49).map fun i => (a, i)
theorem checked : check (G9.map hk) .lf = true := by decide +kernel
end Lph

/-! The written relations: a fan of a hundred pairs, back to a hundred others. -/
namespace Lph
open Tab (hashT RareT RoomyT)
open PySem
open Lx (Rel fst snd Pairs Asc)
open Lp (prodL srt)
theorem mem_G9 {a i : Nat} (ha : a < 100) (hi : i < 100) (n : i ≠ 49) : (a, i) ∈ G9 := by
  unfold G9
  refine List.mem_flatMap.mpr ⟨a, List.mem_range.mpr ha, List.mem_map.mpr ⟨i, List.mem_filter.mpr ⟨List.mem_range.mpr hi, ?_⟩, rfl⟩⟩
  cases e : Nat.beq i 49 with
  | true => exact absurd (Nat.eq_of_beq_eq_true e) n
  | false => rfl
theorem inj_map {α β : Type} {f : α → β} {l : List α} (h : (l.map f).Nodup) : ∀ x ∈ l, ∀ y ∈ l, f x = f y → x = y := by
  induction l with
  | nil => exact fun _ h => nomatch h
  | cons a l ih =>
    rw [List.map_cons, List.nodup_cons] at h
    intro x hx y hy e
    rcases List.mem_cons.mp hx with ex | hx <;> rcases List.mem_cons.mp hy with ey | hy
    · rw [ex, ey]
    · exact absurd (List.mem_map.mpr ⟨y, hy, by rw [← e, ex]⟩) h.1
    · exact absurd (List.mem_map.mpr ⟨x, hx, by rw [e, ey]⟩) h.1
    · exact ih h.2 x hx y hy e
/-- -1 hashes as -2 does -/
def nrm (i : Nat) : Nat := if i = 49 then 48 else i
theorem hk_nrm (a i : Nat) : hashT [(a : Int), -50 + (i : Int)] = hashT [(a : Int), -50 + ((nrm i : Nat) : Int)] := by
  unfold nrm
  by_cases c : i = 49
  · rw [if_pos c, c]
    unfold hashT
    rw [List.map_cons, List.map_cons, List.map_cons, List.map_cons, show hashInt (-50 + ((49 : Nat) : Int)) = hashInt (-50 + ((48 : Nat) : Int)) by decide +kernel]
  · rw [if_neg c]
theorem one_hash {a i b j : Nat} (ha : a < 100) (hi : i < 100) (hb : b < 100) (hj : j < 100) (h : hashT [(a : Int), -50 + (i : Int)] = hashT [(b : Int), -50 + (j : Int)]) : a = b ∧ nrm i = nrm j := by
  rw [hk_nrm a i, hk_nrm b j] at h
  have n : ∀ {x : Nat}, x < 100 → nrm x < 100 ∧ nrm x ≠ 49 := fun {x} hx => by
    unfold nrm
    split <;> omega
  have z := inj_map (check_ok _ _ checked).1 (a, nrm i) (mem_G9 ha (n hi).1 (n hi).2) (b, nrm j) (mem_G9 hb (n hj).1 (n hj).2) (by
    show SetTable.bits _ = SetTable.bits _
    rw [h])
  exact ⟨congrArg Prod.fst z, congrArg Prod.snd z⟩
def fan : Rel := (List.range 100).map fun a : Nat => [(a : Int), 7]
def bck : Rel := (List.range 100).map fun i : Nat => [7, -50 + (i : Int)]
def FB : Rel := (List.range 100).flatMap fun a : Nat => (List.range 100).map fun i : Nat => [(a : Int), -50 + (i : Int)]
theorem fan_bck : prodL fan bck = FB := by
  have e : (bck.filter fun q => decide (fst q = 7)) = bck := List.filter_eq_self.mpr fun q hq => by
    obtain ⟨i, _, rfl⟩ := List.mem_map.mp hq
    rfl
  unfold prodL fan FB
  rw [List.flatMap_map]
  refine congrArg (fun f => (List.range 100).flatMap f) (funext fun a => ?_)
  show (bck.filter fun q => decide (fst q = 7)).map (fun q => [(a : Int), snd q]) = _
  rw [e]
  unfold bck
  rw [List.map_map] <;> rfl
theorem mem_FB {y : List Int} (h : y ∈ FB) : ∃ a i : Nat, a < 100 ∧ i < 100 ∧ y = [(a : Int), -50 + (i : Int)] := by
  obtain ⟨a, ha, h⟩ := List.mem_flatMap.mp h
  obtain ⟨i, hi, rfl⟩ := List.mem_map.mp h
  exact ⟨a, i, List.mem_range.mp ha, List.mem_range.mp hi, rfl⟩
theorem len_FB : FB.length = 10000 := by
  unfold FB
  rw [List.length_flatMap]
  have e : ((List.range 100).map fun a : Nat => ((List.range 100).map fun i : Nat => [(a : Int), -50 + (i : Int)]).length) = (List.range 100).map fun _ => 100 := List.map_congr_left fun a _ => by rw [List.length_map, List.length_range]
  rw [e, List.map_const', List.sum_replicate_nat, List.length_range]
theorem rare_FB {k : List Int} (hk : k ∈ FB) : RareT FB k := fun x hx y hy h1 h2 n1 n2 => by
  obtain ⟨a, i, ha, hi, rfl⟩ := mem_FB hk
  obtain ⟨b, j, hb, hj, rfl⟩ := mem_FB hx
  obtain ⟨c, l, hc, hl, rfl⟩ := mem_FB hy
  obtain ⟨e1, e2⟩ := one_hash hb hj ha hi h1
  obtain ⟨e3, e4⟩ := one_hash hc hl ha hi h2
  subst e1 e3
  have q1 : j ≠ i := fun e => n1 (by rw [e])
  have q2 : l ≠ i := fun e => n2 (by rw [e])
  have : j = l := by
    have f : ∀ x y, nrm x = nrm y → x ≠ y → (x = 49 ∧ y = 48) ∨ (x = 48 ∧ y = 49) := fun x y h n => by
      unfold nrm at h
      split at h <;> split at h <;> omega
    rcases f j i e2 q1 with q | q <;> rcases f l i e4 q2 with r | r <;> omega
  rw [this]
theorem roomy_FB : RoomyT (prodL fan bck) := by
  rw [fan_bck]
  exact .inr ⟨Nat.le_of_eq len_FB, fun k hk => rare_FB hk⟩
theorem asc_FB : Asc FB := by
  unfold FB
  have step : ∀ (n m : Nat), Asc ((List.range' m n).flatMap fun a : Nat => (List.range 100).map fun i : Nat => [(a : Int), -50 + (i : Int)]) := by
    intro n
    induction n with
    | zero => exact fun m => .nil
    | succ n ih =>
      intro m
      rw [List.range'_succ, List.flatMap_cons]
      refine List.pairwise_append.mpr ⟨?_, ih (m + 1), fun x hx y hy => ?_⟩
      · rw [List.pairwise_map]
        refine List.pairwise_lt_range.imp fun {i j} h => ?_
        rw [HT.lexLt_cons, if_pos rfl, HT.lexLt_cons, if_neg (by omega)]
        exact decide_eq_true (by omega)
      · obtain ⟨i, _, rfl⟩ := List.mem_map.mp hx
        obtain ⟨a, ha, hy⟩ := List.mem_flatMap.mp hy
        obtain ⟨j, _, rfl⟩ := List.mem_map.mp hy
        have := List.mem_range'_1.mp ha
        rw [HT.lexLt_cons, if_neg (by omega)]
        exact decide_eq_true (by omega)
  rw [List.range_eq_range']
  have z := step 100 0
  rw [List.range_eq_range'] at z
  exact z
theorem srt_FB : srt (prodL fan bck) = FB := by
  rw [fan_bck, Lp.srt_self asc_FB]
theorem head_FB : FB.take 2 = [[0, -50], [0, -49]] := by decide +kernel
theorem back_fan : srt (prodL bck fan) = [[7, 7]] := by
  refine (Lp.srt_uniq (by unfold Asc; simp) fun y => ⟨fun h => ?_, fun h => ?_⟩).symm
  · rw [List.mem_singleton.mp h]
    exact Lp.mem_prod.mpr ⟨[7, 0], by decide +kernel, [0, 7], by decide +kernel, rfl, rfl⟩
  · obtain ⟨p, hp, q, hq, _, rfl⟩ := Lp.mem_prod.mp h
    obtain ⟨i, _, rfl⟩ := List.mem_map.mp hp
    obtain ⟨j, _, rfl⟩ := List.mem_map.mp hq
    exact List.mem_singleton.mpr rfl
theorem len_back : (prodL bck fan).length ≤ 2000 := by decide +kernel
def wide : Rel := (List.range 100).map fun i => [((i : Nat) : Int).fdiv 10, ((i : Nat) : Int).fmod 10]
theorem wide_ok : wide.length ≤ 100 ∧ Pairs wide ∧ Asc wide := ⟨by decide, by unfold Lx.Pairs; decide +kernel, by unfold Asc; decide +kernel⟩
theorem len_wide : (prodL wide wide).length ≤ 2000 := by decide +kernel
theorem wide_in : (wide.all fun y => decide (y ∈ prodL wide wide)) = true ∧ ((prodL wide wide).all fun y => decide (y ∈ wide)) = true := by
  constructor <;> decide +kernel
theorem wide_wide : srt (prodL wide wide) = wide := (Lp.srt_uniq wide_ok.2.2 fun y => ⟨fun h => of_decide_eq_true (List.all_eq_true.mp wide_in.1 y h), fun h => of_decide_eq_true (List.all_eq_true.mp wide_in.2 y h)⟩).symm
theorem fan_ok : fan.length ≤ 100 ∧ Pairs fan ∧ Asc fan := ⟨by decide, by unfold Lx.Pairs; decide +kernel, by unfold Asc; decide +kernel⟩
theorem bck_ok : bck.length ≤ 100 ∧ Pairs bck ∧ Asc bck := ⟨by decide, by unfold Lx.Pairs; decide +kernel, by unfold Asc; decide +kernel⟩
def grt : Int := 10 ^ 40 - 1
theorem great : srt (prodL [[grt, 0 - grt]] [[0 - grt, grt]]) = [[grt, grt]] := by
  have e : prodL [[grt, 0 - grt]] [[0 - grt, grt]] = [[grt, grt]] := by decide +kernel
  rw [e, Lp.srt_self]
  unfold Asc
  simp
end Lph

/-! law_k60: the written part. -/
namespace K60
open PySem PySem.Spec PySem.W PyProof.Rows L2 Dr Rp Dw
open Lx (Rel fst snd Asc)
open Lp (prodL srt)
open Lph (fan bck FB wide grt)
variable [Dw.LamReg]
def ρW (a b c d : EV) : EnvD := [a, b, c, d, .no, .no, .no]
theorem g_ifNo {ρ : EnvD} {t : WT} {f : WS} (h : Gt t ρ false) : Gs (wIfS t f wNext) ρ (.nx ρ) := g_if h (fun q => nomatch q) fun _ => g_next
theorem g_wide : Gv (wCallA wTupleOf (wCons (wLc (wRng1 (wC (.int 100))) (gN 4) wYes (wCallA wTup (wCons (w2 (wCallA wInt (wCons (wVar .read 4) wNil)) (wC (.int 10)) (wIntB CDivN (fun i j => i.fdiv j))) (wCons (w2 (wCallA wInt (wCons (wVar .read 4) wNil)) (wC (.int 10)) (wIntB (fun _ j => j ≠ 0) (fun i j => i.fmod j))) wNil))) [4]) wNil)) (ρW .no .no .no .no) (.py (relD wide)) := by
  refine (g_call (g_cons (g_lc0 (xs := List.range 100) (enc := fun i => EV.py (.int (i : Nat))) (val := fun i => tupI [((i : Nat) : Int).fdiv 10, ((i : Nat) : Int).fmod 10]) (no_ownP rfl) (ga_rng1 (g_C _) (by decide)) (by decide) fun i hi => ⟨_, gg_N rfl, g_row (g_intB (g_call (g_cons (g_V rfl) g_nil) fun P p => p) (g_C _) ?_) (g_intB (g_call (g_cons (g_V rfl) g_nil) fun P p => p) (g_C _) (by decide))⟩) g_nil) fun P q => v_tupL q).cast ?_
  · have := List.mem_range.mp hi
    exact ⟨by omega, by omega⟩
  · unfold relD wide
    rw [List.map_map] <;> rfl
theorem g_fan {a : EV} (ha : nOw a) : Gv (wCallA wTupleOf (wCons (wLc (wRng1 (wC (.int 100))) (gN 5) wYes (wCallA wTup (wCons (wVar .data 5) (wCons (wC (.int 7)) wNil))) [5]) wNil)) (ρW a .no .no .no) (.py (relD fan)) := by
  refine (g_call (g_cons (g_lc0 (xs := List.range 100) (enc := fun i => EV.py (.int (i : Nat))) (val := fun i => tupI [((i : Nat) : Int), 7]) (no_own1 (u := .no) rfl rfl) (ga_rng1 (g_C _) (by decide)) (by decide) fun i hi => ⟨_, gg_N rfl, g_row (g_V rfl) (g_C _)⟩) g_nil) fun P q => v_tupL q).cast ?_
  unfold relD fan
  rw [List.map_map] <;> rfl
theorem ga_rngM {ρ : EnvD} {fa fb : WF} (ha : Gv fa ρ (.py (.int (-50)))) (hb : Gv fb ρ (.py (.int 50))) : Ga (wRng2 fa fb) ρ ((List.range 100).map fun i => EV.py (.int (-50 + ((i : Nat) : Int)))) := fun P p => ha _ (hb _ ⟨by decide, p⟩)
theorem g_bck {a : EV} (ha : nOw a) : Gv (wCallA wTupleOf (wCons (wLc (wRng2 (w1 (wC (.int 50)) wNeg) (wC (.int 50))) (gN 6) wYes (wCallA wTup (wCons (wC (.int 7)) (wCons (wVar .data 6) wNil))) [6]) wNil)) (ρW a .no .no .no) (.py (relD bck)) := by
  refine (g_call (g_cons (g_lc0 (xs := List.range 100) (enc := fun i => EV.py (.int (-50 + ((i : Nat) : Int)))) (val := fun i => tupI [7, -50 + ((i : Nat) : Int)]) (no_own1 (u := .no) rfl rfl) (ga_rngM (g_negI (g_C (.int 50))) (g_C _)) (by decide) fun i hi => ⟨_, gg_N rfl, g_row (g_C _) (g_V rfl)⟩) g_nil) fun P q => v_tupL q).cast ?_
  unfold relD bck
  rw [List.map_map] <;> rfl
theorem g_one2 {ρ : EnvD} {f : WF} {p : List Int} (h : Gv f ρ (.py (tupI p))) : Gv (wCallA wTup (wCons f wNil)) ρ (.py (relD [p])) := g_one h
theorem good_w : Good1 wide := Lph.wide_ok
theorem good_f : Good1 fan := Lph.fan_ok
theorem good_b : Good1 bck := Lph.bck_ok
theorem good_g (a b : Int) : Good1 [[a, b]] := ⟨(show 1 ≤ 100 by decide), fun p hp => by rw [List.mem_singleton.mp hp] <;> rfl, by unfold Asc; simp⟩
theorem gd_written : Gd dWritten [] (.py (.bool true)) := by
  refine g_def rfl (g_seq (ρ' := ρW (.py (relD wide)) .no .no .no) (g_set (show 0 < 7 by decide) g_wide) ?_)
  refine g_seq (ρ' := ρW (.py (relD wide)) .no (.py (relD fan)) (.py (relD bck))) (g_par (show 2 < 7 by decide) (show 3 < 7 by decide) (g_fan rfl) (g_bck rfl)) ?_
  have fb : ∀ {a b : EV}, Gv (wCallA dProduct (wCons (wVar .data 2) (wCons (wVar .data 3) wNil))) (ρW a b (.py (relD fan)) (.py (relD bck))) (.py (relD FB)) := fun {a b} => by
    have z := g_prod (g_V (m := .data) (ρ := ρW a b (.py (relD fan)) (.py (relD bck))) (i := 2) rfl) (g_V (m := .data) (i := 3) rfl) good_f good_b Lph.roomy_FB
    rw [Lph.srt_FB] at z
    exact z
  refine g_seq (g_ifNo (g_or (b := false) (g_TB ?_) fun _ => g_TB ?_)) ?_
  · have z := g_prod (g_V (m := .data) (ρ := ρW (.py (relD wide)) .no (.py (relD fan)) (.py (relD bck))) (i := 0) rfl) (g_V (m := .data) (i := 0) rfl) good_w good_w (roomy_of Lph.len_wide)
    rw [Lph.wide_wide] at z
    exact g_sameR z (g_V rfl) true
  · refine (g_eqI (neg := true) (i := ((FB.map tupI).length : Nat)) (g_call (g_cons fb g_nil) fun P p => v_lenT p) (g_C _)).cast ?_
    rw [List.length_map, Lph.len_FB] <;> rfl
  refine g_seq (g_ifNo (g_or (b := false) (g_TB ?_) fun _ => g_TB ?_)) ?_
  · refine g_sameR (x := [[0, -50], [0, -49]]) ((g_cutT fb go_no (go_part (g_C (.int 2)))).cast ?_) ((g_tup (ds := [tupI [0, -50], tupI [0, -49]]) (g_cons (g_row (g_C _) (g_negI (g_C (.int 50)))) (g_cons (g_row (g_C _) (g_negI (g_C (.int 49)))) g_nil)) rfl (show 2 ≤ sizeLine by decide))) true
    rw [show (some (2 : Int)) = some ((2 : Nat) : Int) from rfl, cutD_to, ← List.map_take, Lph.head_FB] <;> rfl
  · have z := g_prod (g_V (m := .data) (ρ := ρW (.py (relD wide)) .no (.py (relD fan)) (.py (relD bck))) (i := 3) rfl) (g_V (m := .data) (i := 2) rfl) good_b good_f (roomy_of Lph.len_back)
    rw [Lph.back_fan] at z
    exact g_sameR z (g_one2 (g_row (g_C _) (g_C _))) true
  refine g_seq (ρ' := ρW (.py (relD wide)) (.py (.int grt)) (.py (relD fan)) (.py (relD bck))) (g_set (show 1 < 7 by decide) (g_intB (g_intB (g_C (.int 10)) (g_C (.int 40)) ?_) (g_C (.int 1)) trivial)) ?_
  · exact ⟨by decide, by decide, by decide⟩
  have none_ : ∀ {ρ : EnvD}, Gv (wCallA wTup wNil) ρ (.py (relD [])) := g_tup (ds := []) g_nil rfl (Nat.zero_le _)
  refine g_ret (g_andV (b := true) (c := true) ?_ fun _ => ?_)
  · have w0 : Gv (w2 (wC (.int 0)) (wVar .read 1) (wIntB (fun _ _ => True) (fun i j => i - j))) (ρW (.py (relD wide)) (.py (.int grt)) (.py (relD fan)) (.py (relD bck))) (.py (.int (0 - grt))) := g_intB (g_C _) (g_V rfl) trivial
    have z := g_prod (ρ := ρW (.py (relD wide)) (.py (.int grt)) (.py (relD fan)) (.py (relD bck))) (a := [[grt, 0 - grt]]) (b := [[0 - grt, grt]]) (g_one2 (g_row (g_V (m := .data) (i := 1) rfl) w0)) (g_one2 (g_row w0 (g_V (m := .data) (i := 1) rfl))) (good_g _ _) (good_g _ _) (roomy_of (by
      show (prodL _ _).length ≤ 2000
      exact Nat.le_trans (Lp.prod_len (n := 1) (Nat.le_refl _)) (by decide)))
    rw [Lph.great] at z
    exact g_sameR z (g_one2 (g_row (g_V rfl) (g_V rfl))) false
  · have z := g_prod (ρ := ρW (.py (relD wide)) (.py (.int grt)) (.py (relD fan)) (.py (relD bck))) none_ none_ good_nil good_nil (roomy_of (Nat.zero_le _))
    rw [show prodL [] [] = [] from rfl, Lp.srt_nil] at z
    exact g_sameR z none_ false
end K60

/-! printed by tools/dkq.py. -/
namespace K60
open PySem PySem.Spec PyProof.Rows L2 Dr Rp Dw
open He (ga ma)
open He5 (wf)
variable [Dw.LamReg]
abbrev sLawQ : Stmt := sLaw
abbrev fbLaw : List Stmt := match defBody sLawQ with
  | .For _ _ b _ _ :: _ => b.drop 1
  | _ => []

abbrev nLawQ : List Str := ["_law_script", "_law_at", "_law_stream_here", "_law_turn"]
theorem scLawQ : FnScope nLawQ ["_law_script"] (defScope sLawQ) := ⟨rfl, rfl, rfl, by decide +kernel, rfl, by decide +kernel, by decide +kernel⟩
def wLawB : WS :=
  (wFor (wRng1 (wC (.int 3))) (gN 3) (wIfS (wTNot (wT1 (wCallA dRightK (wCons (wVar .data 2) wNil)) wTB)) (wRet (wC (.bool false))) wNext))
section
variable {P : Program} {w : World} {K : PySem.W.Frag} {mg : Str → Option Value} {base : Heap}
theorem tail_LawB {f : Addr} {fd : FuncData}  (F : FnP K "law" sLawQ f fd) (T : TG K mg) {fd__law_right : FuncData} (F__law_right : FnP K "_law_right" sRightK (ga K "_law_right") fd__law_right) (G__law_right : FnG P w K mg base CX0 8 (ga K "_law_right") fd__law_right ["_law_stream_here"] (spW K .data dRightK)) (hk : SysD K) (cdv : Value) (A : Around) (outer : List Env) (s : Shared) (H : Hp) (E : XK) (hr : Room 8 (A.deeper (envOfC "law" (defScope sLawQ) s.heap.objs.size f cdv))) (hgd : A.guards = some []) : PSs (cxOf CX0 P w K mg base nLawQ "law" (defScope sLawQ) f cdv A outer s H E).nox fbLaw (tWS K .data W0 wLawB) := by
  have b_range := T.f "range" (by decide +kernel)
  have g__law_right := T.g "_law_right" (by decide +kernel)
  have b__law_right : Binds K fd__law_right ["_law_stream_here"] [] := F__law_right.bindsN fun _ _ _ _ _ _ us hl => match us, hl with | [_], _ => rfl
  have hu : (A.deeper (envOfC "law" (defScope sLawQ) s.heap.objs.size f cdv)).units + 64 < cLine := hr.units
  have hu1 : (A.deeper (envOfC "law" (defScope sLawQ) s.heap.objs.size f cdv)).units + 1 < cLine := hu_of hr
  have hu2 : (A.deeper (envOfC "law" (defScope sLawQ) s.heap.objs.size f cdv)).units + 66 < cLine := by
    have := hr.un
    omega
  have r__law_right : Room 8 (A.deeper (envOfC "law" (defScope sLawQ) s.heap.objs.size f cdv)) := hr.mono (by decide)
  exact (dss_one (ds_for [3] rfl PassesOwn.never rfl (di_rng1 rfl b_range dint) (dg 3 scLawQ.nd rfl (by first | exact Or.inl rfl | exact Or.inr rfl)) (dss_one (ds_if (dt_not (dtest (dcallG G__law_right r__law_right hgd rfl g__law_right F__law_right.kp b__law_right pass0 (dacons (dv 2) danil)))) (dss_one (ds_ret dbl)) dss_nil))))
end

def wLawQ : WS :=
  (wRet (wCallA dWritten wNil))
section
variable {P : Program} {w : World} {K : PySem.W.Frag} {mg : Str → Option Value} {base : Heap}
theorem tail_LawQ {f : Addr} {fd : FuncData}  (F : FnP K "law" sLawQ f fd) (T : TG K mg) {fd__law_written_right : FuncData} (F__law_written_right : FnP K "_law_written_right" sWritten (ga K "_law_written_right") fd__law_written_right) (G__law_written_right : FnOk P w K mg base CX0 8 (ga K "_law_written_right") fd__law_written_right [] (spW K .data dWritten)) (cdv : Value) (A : Around) (outer : List Env) (s : Shared) (H : Hp) (E : XK) (hr : Room 8 (A.deeper (envOfC "law" (defScope sLawQ) s.heap.objs.size f cdv))) : PSs (cxOf CX0 P w K mg base nLawQ "law" (defScope sLawQ) f cdv A outer s H E).nox ((defBody sLawQ).drop 1) (tWS K .data W0 wLawQ) := by
  have g__law_written_right := T.g "_law_written_right" (by decide +kernel)
  have b__law_written_right : Binds K fd__law_written_right [] [] := F__law_written_right.bindsN fun _ _ _ _ _ _ us hl => match us, hl with | [], _ => rfl
  have hu : (A.deeper (envOfC "law" (defScope sLawQ) s.heap.objs.size f cdv)).units + 64 < cLine := hr.units
  have hu1 : (A.deeper (envOfC "law" (defScope sLawQ) s.heap.objs.size f cdv)).units + 1 < cLine := hu_of hr
  have hu2 : (A.deeper (envOfC "law" (defScope sLawQ) s.heap.objs.size f cdv)).units + 66 < cLine := by
    have := hr.un
    omega
  have r__law_written_right : Room 8 (A.deeper (envOfC "law" (defScope sLawQ) s.heap.objs.size f cdv)) := hr.mono (by decide)
  exact (dss_one (ds_ret (dcall0 G__law_written_right r__law_written_right rfl g__law_written_right F__law_written_right.kp b__law_written_right pass0)))
end

end K60

/-! law_k60: the law. -/
namespace K60
open PySem PySem.Spec PyProof.Rows L2 Dr Rp Dw
open He (ga ma)
open He5 (wf)
variable [Dw.LamReg]
abbrev ρB (u : V) (a : EV) : EnvD := [.kp u, .no, .st, a]
abbrev ρ0 : EnvD := [.no, .no, .no, .no]
theorem g_tail : Gs wLawQ ρ0 (.rt (.py (.bool true))) := g_ret (g_call g_nil gd_written)
theorem n_mono64 {f : WS} {ρ : EnvD} {I J : EnvD → Prop} {R : EV → Prop} (h : Ns f ρ I R) (m : ∀ ρ, I ρ → J ρ) : Ns f ρ J R := fun k p r => h k (fun ρ' i => p ρ' (m ρ' i)) r
open PySem.W in
theorem n_body {u : V} : Ns wLawB (ρB u .no) (fun ρ => ∃ a, ρ = ρB u a) fun _ => False := by
  refine n_mono64 (n_for (I := fun ρ => ∃ a, nOw a ∧ ρ = ρB u a) (ga_rng1 (n := 3) (g_C _) (by decide)) ⟨.no, rfl, rfl⟩ ?_) fun ρ ⟨a, _, q⟩ => ⟨a, q⟩
  rintro y hy _ ⟨a, na, rfl⟩
  obtain ⟨i, _, rfl⟩ := List.mem_map.mp hy
  refine ⟨_, gg_Np rfl na, n_if (Q := fun b => b = false) (n_not (n_TB ((n_callG (g_cons (g_Vst rfl) g_nil) nd_right).mono fun e q => ⟨true, q, rfl⟩))) (fun q => nomatch q) fun _ => n_next ⟨.py (.int (i : Nat)), rfl, rfl⟩⟩
def spLaw (K : PySem.W.Frag) : Sp := fun vs H Q _ => ∃ (a : Addr) (ns : List Int), vs = [.ref a] ∧ SqL K H a (ns.map V.int) ∧ ns.length ≤ 63 ∧ LamX.Tabs LamReg.T H ∧ ∀ H', Q (.bl true) H'
theorem sql_freshQ {K : PySem.W.Frag} {A B : Hp} {a p : Addr} {xs : List V} (h : SqL K A a xs) (f : A p = none) (s : Same A B) : SqL K (ct p B) a xs := by
  rcases h with (h | ⟨ob, h⟩) | h
  · exact .inl (.inl (ct_at (s _ _ h) (ne_of_none h f) (fun ps z => by cases z)))
  · exact .inl (.inr ⟨ob, ct_at (s _ _ h) (ne_of_none h f) (fun ps z => by cases z)⟩)
  · exact .inr h
theorem ct_inv {p b : Addr} {H : Hp} {o : HO} (h : ct p H b = some o) : b ≠ p ∧ H b = some o ∧ ∀ ps, o ≠ .tbl ps := by
  unfold ct at h
  split at h
  · cases h
  · rename_i n
    split at h
    · cases h
    · rename_i hn
      exact ⟨n, h, fun ps e => hn ps (by rw [h, e])⟩
theorem sql_keep {K : PySem.W.Frag} {H H' : Hp} {a p : Addr} {xs : List V} (h : SqL K (ct p H) a xs) (s : ∀ b o, b ≠ p → (∀ ps, o ≠ .tbl ps) → H b = some o → ∃ o', H' b = some o' ∧ Lk o o') : SqL K (ct p H') a xs := by
  have go : ∀ {o : HO}, (∀ kvs, o ≠ .dK kvs) → ct p H a = some o → ct p H' a = some o := fun {o} nd h => by
    obtain ⟨n, e, t⟩ := ct_inv h
    obtain ⟨o', e', k⟩ := s a o n t e
    rcases k with rfl | ⟨kvs, q, rfl, _⟩
    · exact ct_at e' n t
    · exact (nd kvs rfl).elim
  rcases h with (h | ⟨ob, h⟩) | h
  · exact .inl (.inl (go (fun _ e => nomatch e) h))
  · exact .inl (.inr ⟨ob, go (fun _ e => nomatch e) h⟩)
  · exact .inr h
theorem sql_ct {K : PySem.W.Frag} {H : Hp} {a p : Addr} {xs : List V} (h : SqL K (ct p H) a xs) : SqL K H a xs := by
  rcases h with (h | ⟨ob, h⟩) | h
  · exact .inl (.inl (ct_inv h).2.1)
  · exact .inl (.inr ⟨ob, (ct_inv h).2.1⟩)
  · exact .inr h
section
variable {P : Program} {w : World} {K : PySem.W.Frag} {mg : Str → Option Value} {base : Heap}
def InvL (K : PySem.W.Frag) (a : Addr) (ns : List Int) (σ : L2.St) (H : Hp) : Prop := σ.length = 4 ∧ σ[0]? = some (some (.ref a)) ∧ SqL K H a (ns.map V.int) ∧ LamX.Tabs LamReg.T H
theorem st10 {σ : L2.St} (h : σ.length = 4) : ∃ x0 x1 x2 x3 : Option V, σ = [x0, x1, x2, x3] := by
  match σ, h with
  | [x0, x1, x2, x3], _ => exact ⟨x0, x1, x2, x3, rfl⟩
theorem ok_law {f : Addr} {fd : FuncData} (F : FnP K "law" sLawQ f fd) (T : TG K mg)
    {fdS : FuncData} (FS : FnP K "_law_stream" sStream (ga K "_law_stream") fdS) (GS : FnOk P w K mg base CX0 1 (ga K "_law_stream") fdS ["_law_script", "_law_at"] (spStream K))
    (BL : ∀ (cdv : Value) (A : Around) (outer : List Env) (s : Shared) (H : Hp) (E : XK), Room 8 (A.deeper (envOfC "law" (defScope sLawQ) s.heap.objs.size f cdv)) → A.guards = some [] → PSs (cxOf CX0 P w K mg base nLawQ "law" (defScope sLawQ) f cdv A outer s H E).nox fbLaw (tWS K .data W0 wLawB))
    (TL : ∀ (cdv : Value) (A : Around) (outer : List Env) (s : Shared) (H : Hp) (E : XK), Room 8 (A.deeper (envOfC "law" (defScope sLawQ) s.heap.objs.size f cdv)) → PSs (cxOf CX0 P w K mg base nLawQ "law" (defScope sLawQ) f cdv A outer s H E).nox ((defBody sLawQ).drop 1) (tWS K .data W0 wLawQ)) :
    FnG P w K mg base CX0 9 f fd ["_law_script"] (spLaw K) := by
  have gS := T.g "_law_stream" (by decide +kernel)
  have tr := T.f "range" (by decide +kernel)
  have tx := T.f "max" (by decide +kernel)
  have tn := T.f "min" (by decide +kernel)
  have tl := T.f "len" (by decide +kernel)
  have bS : Binds K fdS ["_law_script", "_law_at"] [] := FS.bindsN fun _ _ _ _ _ _ us hl => match us, hl with | [_, _], _ => rfl
  refine Rp.FunD.okG F scLawQ (fun vs H Q E h => ?_) (fun cdv A outer s H vs Q E hr hg h => ?_)
  · obtain ⟨a, ns, rfl, _⟩ := h
    rfl
  · obtain ⟨a, ns, rfl, hS, hn, hT, fin⟩ := h
    have hr1 : Room 1 (A.deeper (envOfC "law" (defScope sLawQ) s.heap.objs.size f cdv)) := hr.mono (by decide)
    refine ⟨_, PSs.nox (pss_cons (ps_for PassesOwn.never rfl (pi_range1 rfl tr (pa_cons (pe_callB (call_max2 rfl) (by rfl) tx (by decide +kernel) (pa_cons pe_int (pa_cons (pe_callB (call_min2 rfl) (by rfl) tn (by decide +kernel) (pa_cons pe_int (pa_cons (pe_callB call_len_seq (by rfl) tl PySem.boot_len (pa_cons (pv 0) pa_nil)) pa_nil))) pa_nil))) pa_nil)) (pg_name (i := 1) scLawQ.nd rfl (Or.inl rfl))
        (pss_cons (ps_set (i := 2) scLawQ.nd rfl (Or.inl rfl) (pe_call GS hr1 rfl gS FS.kp bS .nil pass0 (pa_cons (pv 0) (pa_cons (pv 1) pa_nil))))
        (BL cdv A outer s H E hr hg)))
      (TL cdv A outer s H E hr)), ?_⟩
    refine ⟨_, rfl, a, _, rfl, .inl hS, _, _, rfl, _, _, rfl, ?_⟩
    generalize hN : (if (if ((ns.map V.int).length : Int) < 10 then ((ns.map V.int).length : Int) else 10) > 1 then (if ((ns.map V.int).length : Int) < 10 then ((ns.map V.int).length : Int) else 10) else 1) = N
    have hN1 : 1 ≤ N ∧ N ≤ 10 := by
      rw [← hN]
      split
      · split at * <;> omega
      · omega
    refine ⟨_, rfl, by omega, by omega, for_range (lo := 0) (n := N.toNat) (fun i σ H' => InvL K a ns σ H') ⟨rfl, rfl, hS, hT⟩ ?_ ?_⟩
    · rintro i σ H0 hi ⟨hl, h0, hS0, hT0⟩
      obtain ⟨x0, x1, x2, x3, rfl⟩ := st10 hl
      have h0 : x0 = some (.ref a) := Option.some.inj h0
      subst h0
      refine ⟨_, rfl, _, rfl, a, ns, i, (by simp), hS0, hn, by omega, fun H1 p s1 hp0 st1 => ?_⟩
      have sq1 : SqL K (ct p H1) a (ns.map V.int) := sql_freshQ hS0 hp0 s1
      have o1 : LOk (fun b => b = p) ⟨some p, []⟩ H1 := ⟨fun b e => by
        obtain ⟨x, y, z, h, _⟩ := st1
        exact ⟨_, by rw [e]; exact h, .lst⟩, (fun q e => by cases e; exact ⟨rfl, st1⟩), hT0.ext fun b u h => s1 b u h⟩
      have E1 : EnvOk K H1 (fun b => b = p) (fun _ => none) ⟨some p, []⟩ {} H1 ([some (.ref a), some (.int (0 + (i : Int))), some (.ref p), x3] : L2.St) (ρB (.ref a) .no) := by
        refine ⟨rfl, fun j e h => ?_, fun j a h => (by cases h), fun j k a h => (by cases h), fun j a h => (by cases h), ⟨(fun _ h => nomatch h), (fun _ h => nomatch h)⟩, o1, Stp.refl⟩
        match j, h with
        | 0, h => cases h; exact ⟨_, rfl, rfl⟩
        | 1, h => cases h; trivial
        | 2, h => cases h; exact ⟨_, rfl, p, rfl, rfl⟩
        | 3, h => cases h; trivial
        | j + 4, h => cases h
      refine ⟨H1, fun b => b = p, fun _ => none, ⟨some p, []⟩, {}, _, { nx := fun ρ' => ∃ a', ρ' = ρB (.ref a) a', rt := fun _ => False }, E1, n_body _ (fun ρ' q => q) (fun e q => q.elim), fun ρ' os' H' σ' hk E' => ?_, fun ρ' os' H' σ' hk E' => hk.elim, fun ρ' os' H' σ' hk E' => hk.elim, fun e v H' hk s' o' r' => hk.elim, fun _ _ _ _ _ hk => hk.elim⟩
      obtain ⟨a', rfl⟩ := hk
      obtain ⟨v, q1, q2⟩ := E'.val 0 (.kp (.ref a)) rfl
      have q2 : v = .ref a := q2
      subst q2
      exact ⟨E'.len, q1, sql_ct (sql_keep sq1 fun b o n t h => E'.stp.keep b o (fun e => n (Option.some.inj e).symm) t h), E'.lok.tbs⟩
    · rintro σ H0 ⟨hl, h0, hS0, hT0⟩
      obtain ⟨x0, x1, x2, x3, rfl⟩ := st10 hl
      have E0 : EnvOk K H0 (fun _ => False) (fun _ => none) ⟨none, []⟩ {} H0 ([x0, x1, x2, x3] : L2.St) ρ0 := by
        refine ⟨rfl, fun i e h => ?_, fun i a h => (by cases h), fun i j a h => (by cases h), fun i a h => (by cases h), ⟨(fun _ h => nomatch h), (fun _ h => nomatch h)⟩, ⟨(fun b h => h.elim), (fun q e => nomatch e), hT0⟩, Stp.refl⟩
        have hm := List.mem_of_getElem? h
        have : e = .no := by simpa [ρ0] using hm
        subst this
        trivial
      refine ⟨H0, fun _ => False, fun _ => none, ⟨none, []⟩, {}, _, { nx := fun _ => False, rt := fun e => e = .py (.bool true) }, E0, g_tail _ rfl, fun ρ' os' H' σ' hk E' => hk.elim, fun ρ' os' H' σ' hk E' => hk.elim, fun ρ' os' H' σ' hk E' => hk.elim, fun e v H' hk s' o' r' => ?_, fun _ _ _ _ _ hk => hk.elim⟩
      have hk : e = .py (.bool true) := hk
      subst hk
      have r' : Dt K (ctL (fun _ => False) H') v (.bool true) := r'
      cases r'
      exact fin H'
end
end K60

/-! K60: the head's facts, the theorem. -/
namespace K60
open PySem PySem.Spec PyProof.Rows L2 Dr Rp Dw
open He (ga ma)
open He5 (DefA wf)
theorem facts {P : Program} {w : World} {K : PySem.W.Frag} {mg : Str → Option Value} {h : Heap} {f : Addr} (X : K.In h) (G : h.Ns mainGlobals mg) (hfa : mg ("law" : Str) = some (.ref f)) (c : Hy.SaysP ts fn K) :
    ∃ fd : FuncData, (∀ (s : Shared) (v : Value), BindsTo s fd ⟨[v], []⟩ [("_law_script", v)]) ∧ ∀ base : Heap, K.In base → base.Ns mainGlobals mg → FnG P w K mg base CX0 9 f fd ["_law_script"] (@spLaw ⟨[], some w⟩ K) := by
  letI : Dw.LamReg := ⟨[], some w⟩
  have hw : Dw.LamReg.w = some w := rfl
  have c1 : ts K = true := c.test
  unfold ts at c1
  obtain ⟨h1, h6⟩ := He.ba c1
  unfold t1 at h1
  obtain ⟨h1a, h1b⟩ := He.ba h1
  obtain ⟨h1b, h1c⟩ := He.ba h1b
  obtain ⟨h1c, h1c1⟩ := He.ba h1c
  have gAll : ∀ x, x ∈ (("law" : Str) :: gn) → mg x = some (.ref (ga K x)) := fun x hx => Hx.gloB_ok X G (xs := "law" :: gn) h1a hx
  have T : TG K mg := ⟨fun x hx => Hx.freeB_ok X G h1b hx, fun x hx => gAll x (List.mem_cons_of_mem _ hx), He.int_ok X G h1c, He.int_ok X G h1c1⟩
  have hk : SysD K := Hx.sysB_ok h6
  obtain ⟨fd_is_integer, F_is_integer⟩ : ∃ fd, FnP K "is_integer" s_is_integer (ga K "is_integer") fd := c.def_ 0 rfl
  obtain ⟨fd_are_integers, F_are_integers⟩ : ∃ fd, FnP K "are_integers" s_are_integers (ga K "are_integers") fd := c.def_ 1 rfl
  obtain ⟨fd_is_ascending, F_is_ascending⟩ : ∃ fd, FnP K "is_ascending" s_is_ascending (ga K "is_ascending") fd := c.def_ 2 rfl
  obtain ⟨fd_is_row, F_is_row⟩ : ∃ fd, FnP K "is_row" s_is_row (ga K "is_row") fd := c.def_ 3 rfl
  obtain ⟨fd_are_rows, F_are_rows⟩ : ∃ fd, FnP K "are_rows" s_are_rows (ga K "are_rows") fd := c.def_ 4 rfl
  obtain ⟨fd_grouped, F_grouped⟩ : ∃ fd, FnP K "grouped" s_grouped (ga K "grouped") fd := c.def_ 5 rfl
  obtain ⟨fd_picked, F_picked⟩ : ∃ fd, FnP K "picked" s_picked (ga K "picked") fd := c.def_ 6 rfl
  obtain ⟨fd_product, F_product⟩ : ∃ fd, FnP K "product" s_product (ga K "product") fd := c.def_ 7 rfl
  obtain ⟨fd_is_input, F_is_input⟩ : ∃ fd, FnP K "is_input" s_is_input (ga K "is_input") fd := c.def_ 8 rfl
  obtain ⟨fd_check_relations, F_check_relations⟩ : ∃ fd, FnP K "check_relations" s_check_relations (ga K "check_relations") fd := c.def_ 9 rfl
  obtain ⟨fd__law_stream, F__law_stream⟩ : ∃ fd, FnP K "_law_stream" sStream (ga K "_law_stream") fd := c.def_ 10 rfl
  obtain ⟨fd__law_draw, F__law_draw⟩ : ∃ fd, FnP K "_law_draw" sDraw (ga K "_law_draw") fd := c.def_ 11 rfl
  obtain ⟨fd__law_pick, F__law_pick⟩ : ∃ fd, FnP K "_law_pick" sPick (ga K "_law_pick") fd := c.def_ 12 rfl
  obtain ⟨fd__law_relation, F__law_relation⟩ : ∃ fd, FnP K "_law_relation" s__law_relation (ga K "_law_relation") fd := c.def_ 13 rfl
  obtain ⟨fd__law_product, F__law_product⟩ : ∃ fd, FnP K "_law_product" s__law_product (ga K "_law_product") fd := c.def_ 14 rfl
  obtain ⟨fd__law_turned, F__law_turned⟩ : ∃ fd, FnP K "_law_turned" s__law_turned (ga K "_law_turned") fd := c.def_ 15 rfl
  obtain ⟨fd__law_right, F__law_right⟩ : ∃ fd, FnP K "_law_right" sRight (ga K "_law_right") fd := c.def_ 16 rfl
  obtain ⟨fd__law_written_right, F__law_written_right⟩ : ∃ fd, FnP K "_law_written_right" s__law_written_right (ga K "_law_written_right") fd := c.def_ 17 rfl
  obtain ⟨fd, F⟩ : ∃ fd, FnP K "law" sLawQ (ga K "law") fd := c.def_ 18 rfl
  have gl := gAll "law" List.mem_cons_self
  have e := hfa.symm.trans gl
  cases e
  have b := FunD.bindsA (ps := ["_law_script"]) F fun _ _ _ _ _ _ us hl => match us, hl with | [_], _ => rfl
  have g_draw := T.g "_law_draw" (by decide +kernel)
  refine ⟨fd, fun s v => b s [v] rfl, fun base _ _ => ?_⟩
  have G__law_draw : FnOk P w K mg base CX0 1 _ fd__law_draw ["_law_stream_here", "_law_high"] (spW K .data dDraw) := w_draw (ok_draw F__law_draw T)
  have G__law_pick : FnOk P w K mg base CX0 2 _ fd__law_pick ["_law_stream_here", "_law_items"] (spW K .data dPick) := w_pick (ok_pick F__law_pick F__law_draw T g_draw)
  have G_is_integer : FnOk P w K mg base CX0 1 _ fd_is_integer ["value"] (spW K .data dIsInt) := ok_IsInt F_is_integer T 
  have G_are_integers : FnOk P w K mg base CX0 2 _ fd_are_integers ["value"] (spW K .data dAreInts) := ok_AreInts F_are_integers T (F_is_integer := F_is_integer) (G_is_integer := G_is_integer)
  have G_is_ascending : FnOk P w K mg base CX0 1 _ fd_is_ascending ["values"] (spW K .data dIsAsc) := ok_IsAsc F_is_ascending T 
  have G_is_row : FnOk P w K mg base CX0 3 _ fd_is_row ["size", "value"] (spW K .data dIsRow) := ok_IsRow F_is_row T (F_is_integer := F_is_integer) (G_is_integer := G_is_integer) (F_are_integers := F_are_integers) (G_are_integers := G_are_integers)
  have G_are_rows : FnOk P w K mg base CX0 4 _ fd_are_rows ["size", "value"] (spW K .data dAreRows) := ok_AreRows F_are_rows T (F_is_row := F_is_row) (G_is_row := G_is_row)
  have G_picked : FnOk P w K mg base CX0 1 _ fd_picked ["row", "places"] (spW K .data dPicked) := ok_Picked F_picked T 
  have b_picked : Binds K fd_picked ["row", "places"] [] := F_picked.bindsN fun _ _ _ _ _ _ us hl => match us, hl with | [_, _], _ => rfl
  have G_grouped := ok_grouped (P := P) (w := w) (mg := mg) (base := base) F_grouped F_picked G_picked hw (T.g "picked" (by decide +kernel)) b_picked
  have G_is_input : FnOk P w K mg base CX0 5 _ fd_is_input ["size", "value"] (spW K .data dIsInput) := ok_IsInput F_is_input T (F_is_ascending := F_is_ascending) (G_is_ascending := G_is_ascending) (F_are_rows := F_are_rows) (G_are_rows := G_are_rows)
  have G_check_relations : FnOk P w K mg base CX0 6 _ fd_check_relations ["relations"] (spW K .data dChkRel) := ok_ChkRel F_check_relations T (F_is_input := F_is_input) (G_is_input := G_is_input)
  have G_product : FnOk P w K mg base CX0 7 _ fd_product ["first", "second"] (spW K .data dProduct) := ok_Product F_product T (F_check_relations := F_check_relations) (G_check_relations := G_check_relations) (F_grouped := F_grouped) (G_grouped := G_grouped) (hw := hw)
  have G__law_relation : FnOk P w K mg base CX0 3 _ fd__law_relation ["_law_stream_here", "_law_high", "_law_span"] (spW K .data dRelation) := ok_Relation F__law_relation T (F__law_draw := F__law_draw) (G__law_draw := G__law_draw) (F__law_pick := F__law_pick) (G__law_pick := G__law_pick)
  have G__law_product : FnOk P w K mg base CX0 1 _ fd__law_product ["_law_one", "_law_other"] (spW K .data dLProduct) := ok_LProduct F__law_product T 
  have G__law_turned : FnOk P w K mg base CX0 1 _ fd__law_turned ["_law_some"] (spW K .data dTurned) := ok_Turned F__law_turned T 
  have G__law_right : FnG P w K mg base CX0 8 _ fd__law_right ["_law_stream_here"] (spW K .data dRightK) := ok_RightK F__law_right T (F__law_draw := F__law_draw) (G__law_draw := G__law_draw) (F__law_relation := F__law_relation) (G__law_relation := G__law_relation) (F_product := F_product) (G_product := G_product) (F__law_product := F__law_product) (G__law_product := G__law_product) (F__law_turned := F__law_turned) (G__law_turned := G__law_turned) (hk := hk)
  have G__law_written_right : FnOk P w K mg base CX0 8 _ fd__law_written_right [] (spW K .data dWritten) := ok_Written F__law_written_right T (F_product := F_product) (G_product := G_product)
  exact ok_law F T F__law_stream (ok_stream F__law_stream T) (fun cdv A outer s H E hr hg => tail_LawB F T (F__law_right := F__law_right) (G__law_right := G__law_right) (hk := hk) cdv A outer s H E hr hg) (fun cdv A outer s H E hr => tail_LawQ F T (F__law_written_right := F__law_written_right) (G__law_written_right := G__law_written_right) cdv A outer s H E hr)
end K60
open PySem PySem.W PySem.Calls PyProof.Rows
theorem PySem.Challenge.cw_pagewise_k60_products_holds : PySem.Challenge.rw_pagewise_k60_products.Holds := by
  w_on; o_law
  refine HandSHeadRun.head_any (r := OpenLaw.row PySem.Challenge.rw_pagewise_k60_products) (q := view (OpenLaw.row PySem.Challenge.rw_pagewise_k60_products).prog [29]) (H := K60.hk) (ob := K60.ob) (M := 8000) (loose := K60.loose)
    (d := HandSHeadRun.topDef (OpenLaw.row PySem.Challenge.rw_pagewise_k60_products).prog 29) (kwd := []) K60.ob_eq
    (by kernel_rfl) (fun s => by kernel_rfl) K60.run (by kernel_rfl) (by kernel_rfl) (by kernel_rfl) (by rfl) (by first | assumption | decide +kernel) (by decide +kernel) ⟨rfl, rfl, rfl, rfl, rfl, by decide +kernel⟩ ?hw ?hc
  case hw => w_witness2
  case hc =>
    refine Rp.walk_G (l := PySem.Challenge.rw_pagewise_k60_products) (n := 63) (k := 9) (x := "_law_script") (CX := L2.CX0) rfl (by decide) (by kernel_rfl) ⟨rfl, by decide, by decide⟩ ?F (fun _ _ _ _ z => z)
    intro w mg fa h Y G hmg0
    obtain ⟨K, KX, c⟩ := Y
    have hmg : mg ("law" : PySem.Str) = some (.ref fa) := by
      have e : (HandSHeadRun.topDef (OpenLaw.row PySem.Challenge.rw_pagewise_k60_products).prog 29).name = ("law" : PySem.Str) := by kernel_rfl
      rw [← e]
      exact hmg0
    obtain ⟨fd, hb, hF⟩ := K60.facts (P := (PySem.Challenge.rw_pagewise_k60_products).prog) (w := w) KX G hmg c
    exact ⟨K, fd, @K60.spLaw ⟨[], some w⟩ K, KX, hb, fun H a ns hl _ hS => ⟨a, ns, rfl, hS, hl, (fun _ h => nomatch h), fun _ => rfl⟩, hF⟩
