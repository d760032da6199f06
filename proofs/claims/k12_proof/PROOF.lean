import PyProof.Rows.All
import Wide.All
import OpenK.AllK
import Wide.FinOn
import HandS.ForExc
import HandS.ExcInit
import HandS.ExcIs
import KE.KExcIs
import HandS.Defaults
import HandS.IsInst
import HandS.MakeKwOnly
import HandS.HeadEnd
import HandS.Dict
import HandS.EndTab
import KE.KTryMore
import HandS.Exc
import KE.KCallOwn
import HandS.ForMost
import HandS.ClsMeth
import HandS.Property
import HandS.OwnEq
import HandS.FStr
import HandS.Evl
import HandS.Walk
import HandS.Text
import PyProof.EqAt
import PyProof.EqKinds
import PyProof.P3In
import HandS.Deep
import PyProof.InstEq
import PyProof.InstNe
import HandS.Iter
import PyProof.NeKinds
import HandS.Star
import KE.KStar
import HandS.HeadHook2
import PySem.Challenge.RW_meetbehind_k12_least_sets_and_blockers
import PyProof.Rows.BitMore
import HandS.WideBits
import HandS.DictTup
import HandS.SortKw
import HandS.List
import OpenK.KMeth
import HandS.Nested
import KE.GoesMore
import HandS.WordsDict
import HandS.Small
import HandS.Flow
import HandS.SetFor
import HandS.Strs
import HandS.SetTxt0
import HandS.SetKeys
import HandS.DictComp
import HandS.Conv
import HandS.Lambda
import PyProof.ReprLen
import HandS.Head0
import HandS.Head1
import HandS.Head2
import HandS.HeadHook1
import HandS.HeadHook3
import HandS.HeadHook4
import Wide.Once
set_option Elab.async false
set_option linter.all false
set_option maxRecDepth 100000
set_option maxHeartbeats 4000000
namespace Mx
open PySem PySem.Spec PyProof.Rows PySem.F

/-! exception bases -/
/-- the built-in classes over which the package's errors stand -/
inductive EB where | val | key | ind | look | run | over
  deriving DecidableEq
/-- the class whose maker serves -/
def EB.nm : EB → String
  | .val => "ValueError" | .key => "LookupError" | .ind => "IndexError" | .look => "LookupError"
  | .run => "RuntimeError" | .over => "OverflowError"
def EB.new : EB → String
  | .val => "ValueError.__new__" | .key => "LookupError.__new__" | .ind => "IndexError.__new__"
  | .look => "LookupError.__new__" | .run => "RuntimeError.__new__" | .over => "OverflowError.__new__"
def EB.ini : EB → String
  | .val => "ValueError.__init__" | .key => "LookupError.__init__" | .ind => "IndexError.__init__"
  | .look => "LookupError.__init__" | .run => "RuntimeError.__init__" | .over => "OverflowError.__init__"
def EB.names : EB → List String
  | .val => ["ValueError", "Exception", "BaseException", "object"]
  | .key => ["KeyError", "LookupError", "Exception", "BaseException", "object"]
  | .ind => ["IndexError", "LookupError", "Exception", "BaseException", "object"]
  | .look => ["LookupError", "Exception", "BaseException", "object"]
  | .run => ["RuntimeError", "Exception", "BaseException", "object"]
  | .over => ["OverflowError", "ArithmeticError", "Exception", "BaseException", "object"]
def EB.tl (b : EB) : List Value := b.names.map Value.type
def EB.mk : EB → EB
  | .key => .look
  | b => b
theorem EB.facts : ∀ b : EB, ExcBaseFacts b.nm b.new b.ini b.mk.tl
  | .val => excBase_ValueError
  | .key => excBase_LookupError
  | .ind => excBase_IndexError
  | .look => excBase_LookupError
  | .run => excBase_RuntimeError
  | .over => excBase_OverflowError
theorem EB.pass (self : Value) : ∀ b : EB, refuseLoop self "__setattr__" b.tl = pure ()
  | .val => by kernel_rfl
  | .key => by kernel_rfl
  | .ind => by kernel_rfl
  | .look => by kernel_rfl
  | .run => by kernel_rfl
  | .over => by kernel_rfl
theorem EB.obj (b : EB) : b.tl.contains (.type "object") = true := by cases b <;> decide +kernel
theorem EB.hasB (b : EB) : b.tl.contains (.type b.nm) = true := by cases b <;> decide +kernel
theorem EB.noA (b : EB) : b.tl.contains (.type "AttributeError") = false := by cases b <;> decide +kernel
theorem EB.noN (b : EB) : b.tl.contains (.type "NameError") = false := by cases b <;> decide +kernel
theorem EB.bas (b : EB) : b.tl.contains (.type "BaseException") = true := by cases b <;> decide +kernel
/-- own classes, then the built-in ones -/
def own (b : EB) : List Value → Bool
  | .ref _ :: r => own b r
  | l => l == b.tl
theorem own_cases {b : EB} {l : List Value} (h : own b l = true) : (∃ c r, l = .ref c :: r ∧ own b r = true) ∨ l = b.tl := by
  unfold own at h
  split at h
  · exact .inl ⟨_, _, rfl, h⟩
  · exact .inr (eq_of_beq h)
theorem own_has {b : EB} (X : String) : ∀ l : List Value, own b l = true → l.contains (.type X) = b.tl.contains (.type X)
  | [], h => by
    rcases own_cases h with ⟨c, r, e, _⟩ | e
    · cases e
    · rw [e]
  | a :: l, h => by
    rcases own_cases h with ⟨c, r, e, k⟩ | e
    · obtain ⟨rfl, rfl⟩ := List.cons.inj e
      have ih := own_has X l k
      rw [List.contains_cons, ih]
      rfl
    · rw [e]
theorem own_pass {b : EB} (self : Value) : ∀ l : List Value, own b l = true → refuseLoop self "__setattr__" l = pure ()
  | [], h => by
    rcases own_cases h with ⟨c, r, e, _⟩ | e
    · cases e
    · rw [e]
      exact EB.pass self b
  | a :: l, h => by
    rcases own_cases h with ⟨c, r, e, k⟩ | e
    · obtain ⟨rfl, rfl⟩ := List.cons.inj e
      rw [refuseLoop_ref]
      exact own_pass self l k
    · rw [e]
      exact EB.pass self b
theorem own_ne {b : EB} {l : List Value} (h : own b l = true) : l.isEmpty = false := by
  cases l with
  | nil =>
    rcases own_cases h with ⟨c, r, e, _⟩ | e
    · cases e
    · cases b <;> cases e
  | cons => rfl
section
variable {M : Model} {A : Around} {E : Value → Shared → Prop} {hp : Heap} {gs : Array GenState} {dr : Drawn} {tk : Nat} {os : OsState}
variable {nm q : Str} {C N : Addr} {bs bm : List Value} {hdct : Bool} {sn : List Str} {sub : List Value} {ab : Bool} {col : Option Bool} {dd : Option Addr} {k0 k1 k2 k3 k5 : Option Value}
theorem chk_new {b : EB} (hb : own b bm = true) {rest : List Value} {kw : List (Str × Value)} {Q : Unit → Shared → Prop}
    (hC : hp.get? C = some (excClassObj nm q C N bs bm hdct sn sub ab col dd k0 k1 k2 k3 k5 b.new)) (hq : Q () ⟨hp, gs, dr, tk, os⟩) :
    wpAny M A (checkBuiltinCall b.new ⟨.ref C :: rest, kw⟩) Q E ⟨hp, gs, dr, tk, os⟩ := by
  have F := b.facts
  have mB : (Value.ref C :: bm).contains (.type b.nm) = true := by rw [List.contains_cons, own_has _ _ hb, b.hasB, Bool.or_true]
  have st := F.noStar
  simp only [checkBuiltinCall, F.newKind, F.newSplit, F.newRow]
  repeat (first
    | refine wpAny_loadPart_at hC ?_
    | (refine wpAny_isSubtype_exc hC ?_; rw [mB])
    | refine wpAny_staticBase_exc hC ?_
    | refine wpAny_madeBy_exc hC ?_
    | simp only [bne_self_eq_false, Bool.false_eq_true, if_false]
    | wp_step)
  exact hq
end
section
variable {prog : Program} {w : World} {A : Around} {E : Value → Shared → Prop} {R : Result → Shared → Prop} {hp : Heap} {gs : Array GenState} {dr : Drawn} {tk : Nat} {os : OsState}
variable {nm q : Str} {C N : Addr} {bs bm : List Value} {hdct : Bool} {sn : List Str} {sub : List Value} {ab : Bool} {col : Option Bool} {dd : Option Addr} {k0 k1 k2 k3 k5 : Option Value}
/-- an exception that is not yet set up -/
abbrev rawX (C t : Addr) : Obj := { cls := .ref C, data := .fields #[.ref t, .none, .none, .none, .bool false, .none] }
abbrev tupO (us : List Value) : Obj := { cls := .type "tuple", data := .seq us.toArray }
theorem run_new {b : EB} (hb : own b bm = true) {rest : List Value} {kw : List (Str × Value)} (hr : rest.length ≤ sizeLine)
    (hC : hp.get? C = some (excClassObj nm q C N bs bm hdct sn sub ab col dd k0 k1 k2 k3 k5 b.new))
    (hq : R (.ok (.ret (.ref (hp.objs.size + 1)))) ⟨(hp.push (tupO rest)).push (rawX C hp.objs.size), gs, dr, tk, os⟩) :
    codeAny (model prog w) A (.builtin b.new ⟨.ref C :: rest, kw⟩) R ⟨hp, gs, dr, tk, os⟩ := by
  have F := b.facts
  have fe := F.ends
  have m1 : (Value.ref C :: bm).contains (.type b.nm) = true := by rw [List.contains_cons, own_has _ _ hb, b.hasB, Bool.or_true]
  have m2 : (Value.ref C :: bm).contains (.type "AttributeError") = false := by rw [List.contains_cons, own_has _ _ hb, b.noA]; rfl
  have m3 : (Value.ref C :: bm).contains (.type "NameError") = false := by rw [List.contains_cons, own_has _ _ hb, b.noN]; rfl
  refine codeAny_builtinAt F.entry ?_
  unfold Builtin.«BaseException.__new__»
  refine PySem.wpAt_bind ?_
  show PySem.wpAt _ _ _ (stack >>= _) _ _ _
  refine PySem.wpAt_bind (PySem.wpAt_stack fun p1 p2 => PySem.wpAt_of_wpAny ?_)
  wp_walk
  refine PySem.wpAt_of_wpAny ?_
  rw [F.owner]
  repeat (first
    | with_reducible refine wpAny_madeHere_exc F.canon hC ?_
    | with_reducible refine wpAny_loadPart_at hC ?_
    | (with_reducible refine wpAny_isSubtype_exc hC ?_; first | rw [m1] | rw [m2] | rw [m3])
    | wp_step)
  show R _ _
  rw [Heap.size_push]
  exact hq
/-- what comes back from the setting up -/
def BackX (e : Addr) (R : Result → Shared → Prop) : Result → Shared → Prop := fun r s => match r with
  | .ok (.ret v) => v = .none ∧ R (.ok (.ret (.ref e))) s
  | .ok _ => False
  | .error x => R (.error x) s
theorem run_typecall {b : EB} (hb : own b bm = true) {rest : List Value} {kw : List (Str × Value)} (hr : rest.length ≤ sizeLine) {fI : Addr} {Q : Fin → Shared → Prop}
    (hC : hp.get? C = some (excClassObj nm q C N bs bm hdct sn sub ab col dd k0 k1 k2 k3 k5 b.new))
    (hi : W.Looks (model prog w) hp (typeLookup (.ref C) "__init__") (some (.ref fI)))
    (hbd : ∀ self, W.Looks (model prog w) hp (bindSpecial (.ref fI) self) (.ref fI, [self]))
    (hq : codeAny (model prog w) A (.call (.ref fI) ⟨.ref (hp.objs.size + 1) :: rest, kw⟩)
      (fun r s' => match r with
        | .ok (.ret v) => v = .none ∧ Q (.done (.ret (.ref (hp.objs.size + 1)))) s'
        | .ok _ => False
        | .error x => E x s') ⟨(hp.push (tupO rest)).push (rawX C hp.objs.size), gs, dr, tk, os⟩) :
    wpAny (model prog w) A (Builtin.«type.__call__» ⟨.ref C :: rest, kw⟩) Q E ⟨hp, gs, dr, tk, os⟩ := by
  have F := b.facts
  repeat (first
    | with_reducible refine wpAny_loadPart_at hC ?_
    | with_reducible refine wpAny_madeBy_exc hC ?_
    | wp_step)
  refine codeAny_call_builtin_code (Code.quiet_builtin _ F.quiet) (chk_new hb hC ?_)
  refine run_new hb hr hC ?_
  show wpAny _ _ _ _ _ _
  have kp : ∀ c o, hp.get? c = some o → ((hp.push (tupO rest)).push (rawX C hp.objs.size)).get? c = some o :=
    fun c o e => Heap.get?_push_of_some _ (Heap.get?_push_of_some _ e)
  have hC2 := kp _ _ hC
  have ge : ((hp.push (tupO rest)).push (rawX C hp.objs.size)).get? (hp.objs.size + 1) = some (rawX C hp.objs.size) := by heap_get
  have mC : (Value.ref C :: bm).contains (.ref C) = true := by simp
  have j1 := hi.keeps kp
  have j2 := (hbd (.ref (hp.objs.size + 1))).keeps kp
  unfold isInstance
  repeat (first
    | with_reducible refine wpAny_loadPart_at ge ?_
    | (with_reducible refine wpAny_isSubtype_exc hC2 ?_; rw [mC])
    | wp_step)
  show wpAny _ _ (typeLookup (.ref C) _) _ _ _
  refine j1.at ?_
  refine wpAny_holding (wpAny_bind (j2.at ?_))
  refine wpAny_bind (wpAny_call (codeAny_mono hq fun r s' z => ?_))
  rcases r with x | (v | _ | _ | _) <;> first | exact z | exact z.elim | skip
  obtain ⟨ev, z⟩ := z
  subst ev
  first
    | exact wpAny_pure (wpAny_pure z)
    | (wp_walk; exact z)
theorem run_class {b : EB} (hb : own b bm = true) {rest : List Value} {kw : List (Str × Value)} (hr : rest.length ≤ sizeLine) {fI : Addr}
    (hC : hp.get? C = some (excClassObj nm q C N bs bm hdct sn sub ab col dd k0 k1 k2 k3 k5 b.new))
    (hi : W.Looks (model prog w) hp (typeLookup (.ref C) "__init__") (some (.ref fI)))
    (hbd : ∀ self, W.Looks (model prog w) hp (bindSpecial (.ref fI) self) (.ref fI, [self]))
    (hty : W.Looks (model prog w) hp (isInstance (.ref C) (.type "type")) true)
    (hq : codeAny (model prog w) (A.under (.builtin "type.__call__" ⟨.ref C :: rest, kw⟩)) (.call (.ref fI) ⟨.ref (hp.objs.size + 1) :: rest, kw⟩) (BackX (hp.objs.size + 1) R)
      ⟨(hp.push (tupO rest)).push (rawX C hp.objs.size), gs, dr, tk, os⟩) :
    codeAny (model prog w) A (.call (.ref C) ⟨rest, kw⟩) R ⟨hp, gs, dr, tk, os⟩ := by
  have f1 := tc_lookup
  have f2 := tc_bind (.ref C)
  have hTy : (⟨hp, gs, dr, tk, os⟩ : Shared).TypeIs (.ref C) "type" := ⟨_, hC, rfl⟩
  refine codeAny_of_tree ?_
  show wpAny _ _ (callAny (.ref C) _) _ _ _
  repeat (any_goals (first | assumption | with_reducible refine wpAny_loadPart_at hC ?_ | wp_step))
  refine ⟨rfl, ?_⟩
  refine codeAny_call_builtin_at (Code.quiet_builtin _ (by decide +kernel)) entry_typeCall
    (W.check_slot tc_kind tc_split hty (W.tc_args _ _ _) (run_typecall hb hr hC hi hbd ?_))
  refine codeAny_mono hq fun r s' z => ?_
  rcases r with x | (v | _ | _ | _) <;> exact z
end

/-! ### self.f = v -/
section
open Builtin Builtin.ObjectAttr PySem.W
variable {prog : Program} {w : World} {A : Around} {E : Value → Shared → Prop} {R : Result → Shared → Prop} {hp : Heap} {gs : Array GenState} {dr : Drawn} {tk : Nat} {os : OsState}
/-- the first field: the exception's dict is laid -/
theorem put_first {b : EB} {K : Frag} {f : Str} {u : Tok} {v : Value} {x C : Addr} {fv : Array Value} {cd : ClassData} (X : K.In hp)
    (hx : hp.get? x = some { cls := .ref C, data := .fields fv }) (hcd : clsIn K C = some cd) (hm : own b cd.mro = true) (hh : cd.hasDict = true) (ha : findIn K (.ref C) f = some none)
    (hq : ∀ h' tk' dx, (∀ c o, c ≠ x → hp.get? c = some o → h'.get? c = some o) → hp.objs.size ≤ dx → dx ≠ x →
      h'.get? x = some { cls := .ref C, dict := some dx, data := .fields fv } → h'.Ns1 dx (fun y => if y = f then some v else none) → R (.ok (.ret .none)) ⟨h', gs, dr, tk', os⟩) :
    codeAny (model prog w) A (.call (.builtin "object.__setattr__") ⟨[.ref x, .str f u, v], []⟩) R ⟨hp, gs, dr, tk, os⟩ := by
  have SF := F.store_object
  have I : InstAt hp x { cls := .ref C, data := .fields fv } C none := ⟨hx, rfl, rfl, trivial⟩
  have isob : cd.mro.contains (.type "object") = true := (own_has "object" _ hm).trans b.obj
  have ns := own_ne hm
  have xz : x ≠ hp.objs.size := Nat.ne_of_lt (Heap.lt_size hx)
  have Ls : Looks (model prog w) hp (isInstance (.ref x) (.type "object")) true :=
    I.type.andThen (looks_mroIn X (by unfold mroIn; rw [hcd, Option.bind_some, if_neg (by rw [ns]; decide), isob]))
  refine codeAny_call_builtin SF.slot.plain SF.entry
    (@check_slot (model prog w) _ _ ⟨hp, gs, dr, tk, os⟩ "object.__setattr__" "object" "__setattr__" (.ref x) [.str f u, v] [] _ SF.kind SF.split Ls (SF.args (.ref x) (.str f u) v) ?_)
  have Lm : Looks (model prog w) hp (mroOf (.ref C)) cd.mro := (looks_clsIn X hcd).andThen .now
  have Lt : Looks (model prog w) hp (storeTaker? none) none := .now
  have Lc : Looks (model prog w) hp (classData C) cd := looks_clsIn X hcd
  rw [osa_eq, refuse_eq]
  refine wpAny_bind (wpAny_bind (I.type.at (wpAny_bind (Lm.at ?_))))
  rw [own_pass _ _ hm]
  refine wpAny_pure (wpAny_bind (I.type.at (wpAny_bind ((looks_findIn X ha).at (wpAny_bind (Lt.at ?_))))))
  show wpAny _ _ (storeInOwnDict (.ref x) (.ref C) (.str f u) f v false) _ _ _
  obtain ⟨c1, c2, c3, c4, c5, c6, c7, c8, c9, c10, c11⟩ := cd
  dsimp only at hh
  subst hh
  unfold storeInOwnDict ownDictForStores
  repeat (first
    | with_reducible refine HandSPX.store_in_new ?_ ?_
    | with_reducible refine wpAny_loadPart_at hx ?_
    | with_reducible refine Lc.at ?_
    | wp_step)
  · exact ⟨_, #[], _, (Heap.get?_update_ne _ _ _ _ xz.symm).trans (Heap.get?_push_at rfl rfl), rfl, fun e he => absurd he (by simp), fun _ => rfl⟩
  · intro h' tk' hn' hs
    have hx1 : (hp.push { cls := .type "dict", data := .dict #[] }).get? x = some { cls := .ref C, data := .fields fv } := Heap.get?_push_of_some _ hx
    refine hq h' tk' hp.objs.size (fun c o hc ho => ?_) (Nat.le_refl _) xz.symm ?_ hn'
    · exact (hs.2 c (Nat.ne_of_lt (Heap.lt_size ho))).trans ((Heap.get?_update_ne _ _ _ _ hc).trans (Heap.get?_push_of_some _ ho))
    · exact (hs.2 x xz).trans (Heap.get?_update_self _ hx1 rfl)
/-- a further field -/
theorem put_more {b : EB} {K : Frag} {f : Str} {u : Tok} {v : Value} {x C dx : Addr} {fv : Array Value} {cd : ClassData} {m0 : Str → Option Value} {nl : List Str} (X : K.In hp)
    (hx : hp.get? x = some { cls := .ref C, dict := some dx, data := .fields fv }) (hns : hp.Ns1 dx m0) (hw : Within m0 nl) (hz : nl.length ≤ 1000)
    (hcd : clsIn K C = some cd) (hm : own b cd.mro = true) (hh : cd.hasDict = true) (ha : findIn K (.ref C) f = some none)
    (hq : ∀ h' tk', (∀ c o, c ≠ dx → hp.get? c = some o → h'.get? c = some o) → h'.Ns1 dx (fun y => if y = f then some v else m0 y) → R (.ok (.ret .none)) ⟨h', gs, dr, tk', os⟩) :
    codeAny (model prog w) A (.call (.builtin "object.__setattr__") ⟨[.ref x, .str f u, v], []⟩) R ⟨hp, gs, dr, tk, os⟩ := by
  have SF := F.store_object
  obtain ⟨oD, esD, epD, hoD, hdD, _⟩ := hns.count hw
  have I : InstAt hp x { cls := .ref C, dict := some dx, data := .fields fv } C (some oD) := ⟨hx, rfl, rfl, hoD⟩
  have isob : cd.mro.contains (.type "object") = true := (own_has "object" _ hm).trans b.obj
  have ns := own_ne hm
  have Ls : Looks (model prog w) hp (isInstance (.ref x) (.type "object")) true :=
    I.type.andThen (looks_mroIn X (by unfold mroIn; rw [hcd, Option.bind_some, if_neg (by rw [ns]; decide), isob]))
  refine codeAny_call_builtin SF.slot.plain SF.entry
    (@check_slot (model prog w) _ _ ⟨hp, gs, dr, tk, os⟩ "object.__setattr__" "object" "__setattr__" (.ref x) [.str f u, v] [] _ SF.kind SF.split Ls (SF.args (.ref x) (.str f u) v) ?_)
  have Lm : Looks (model prog w) hp (mroOf (.ref C)) cd.mro := (looks_clsIn X hcd).andThen .now
  have Lt : Looks (model prog w) hp (storeTaker? none) none := .now
  have Lc : Looks (model prog w) hp (classData C) cd := looks_clsIn X hcd
  rw [osa_eq, refuse_eq]
  refine wpAny_bind (wpAny_bind (I.type.at (wpAny_bind (Lm.at ?_))))
  rw [own_pass _ _ hm]
  refine wpAny_pure (wpAny_bind (I.type.at (wpAny_bind ((looks_findIn X ha).at (wpAny_bind (Lt.at ?_))))))
  show wpAny _ _ (storeInOwnDict (.ref x) (.ref C) (.str f u) f v false) _ _ _
  obtain ⟨c1, c2, c3, c4, c5, c6, c7, c8, c9, c10, c11⟩ := cd
  dsimp only at hh
  subst hh
  unfold storeInOwnDict ownDictForStores
  repeat (first
    | with_reducible refine OEX.store_in_old hns hw hz ?_
    | with_reducible refine wpAny_loadPart_at hx ?_
    | with_reducible refine Lc.at ?_
    | wp_step)
  intro h' tk' hn' hs
  exact hq h' tk' (fun c o hc ho => (hs.2 c hc).trans ho) hn'
end
end Mx
set_option maxRecDepth 100000
set_option maxHeartbeats 4000000
namespace L2.Mb
open PySem PySem.Spec PyProof.Rows Mx

/-- the own exception class at C over b, its setting up at fI -/
structure EC (K : W.Frag) (C fI : Addr) (b : EB) : Prop where
  cls : ∃ nm q N bs bm sn sub ab col dd k0 k1 k2 k3 k5, K.lookup C = some (excClassObj nm q C N bs bm true sn sub ab col dd k0 k1 k2 k3 k5 b.new) ∧ own b bm = true
  sa : W.findIn K (.ref C) "__setattr__" = some (some (.builtin "object.__setattr__"))
  ga : W.findIn K (.ref C) "__getattribute__" = some (some (.builtin "BaseException.__getattribute__"))
  gg : W.findIn K (.ref C) "__getattr__" = some none
  cl : W.findIn K (.ref C) "__class__" = some (some (.builtin "object.__class__"))
  ins : W.instIn K (.ref C) (.type "type") = some true
  kp : W.keepIn K (.ref C) = true
  ini : W.findIn K (.ref C) "__init__" = some (some (.ref fI))
  tfn : W.typeIn K (.ref fI) = some (.type "function")
  gs : W.specialIn K (.builtin "object.__class__") "__get__" = some (some (.builtin "getset_descriptor.__get__"))
  tk : W.takesIn K (.builtin "object.__class__") = some true
section
variable {K : W.Frag} {C fI : Addr} {b : EB}
theorem EC.cd (T : EC K C fI b) : ∃ cd, W.clsIn K C = some cd ∧ own b cd.mro = true ∧ cd.hasDict = true := by
  obtain ⟨nm, q, N, bs, bm, sn, sub, ab, col, dd, k0, k1, k2, k3, k5, hC, hb⟩ := T.cls
  refine ⟨{ name := nm, bases := bs, mro := .ref C :: bm, ns := N, qualname := q, hasDict := true, slotNames := sn, subclasses := sub, abstract := ab, collection := col, hasDel := false }, ?_, hb, rfl⟩
  unfold W.clsIn
  rw [hC]
  all_goals rfl
theorem EC.mro (T : EC K C fI b) (X : String) : W.mroIn K C (.type X) = some (b.tl.contains (.type X)) := by
  obtain ⟨cd, e, m, _⟩ := T.cd
  unfold W.mroIn
  rw [e, Option.bind_some, if_neg (by rw [own_ne m]; decide), own_has _ _ m]
theorem EC.base (T : EC K C fI b) : W.subIn K (.ref C) (.type "BaseException") = some true := by
  show W.mroIn K C (.type "BaseException") = some true
  rw [T.mro, b.bas]
theorem EC.isob (T : EC K C fI b) : W.mroIn K C (.type "object") = some true := by rw [T.mro, b.obj]
theorem EC.isc (T : EC K C fI b) : (W.clsIn K C).isSome = true := by
  obtain ⟨cd, e, _⟩ := T.cd
  rw [e]
  rfl
theorem EC.hd (T : EC K C fI b) : W.hasDictIn K C = true := by
  obtain ⟨cd, e, _, h⟩ := T.cd
  unfold W.hasDictIn
  rw [e]
  exact h
end
section
variable {X : Cx} {pins : List (Addr × Obj)} {σ : St} {H : Hp} {s : Shared} {C fI : Addr} {b : EB}
/-- C(..), the arguments reckoned -/
theorem run_mkX {CX : CXT} {k : Nat} {fd : FuncData} {ps : List Str} {sp : Sp} {Q : VK} {us ws : List Value} {vs : List V} {kw : List (Str × Value)} (T : EC X.K C fI b) (F : FnOk X.prog X.w X.K X.mg X.base CX k fI fd ps sp)
    (hr : Room (k + 1) X.A) (hx : Passes CX X (fun _ _ _ => False)) (I : Inv X pins σ H s) (hus : us.length ≤ sizeLine) (rv : Vals vs ws)
    (hto : ∀ (a : Addr) (s' : Shared), X.K.In s'.heap → BindsTo s' fd ⟨.ref a :: us, kw⟩ (ps.zip (.ref a :: ws)))
    (h : ∀ a, H a = none → sp (.ref a :: vs) (upd H a (exo a C none)) (fun v H2 => v = .non ∧ Q (.ref a) H2) (fun _ _ _ => False)) :
    wpAny (model X.prog X.w) X.A (call (.ref C) us kw) (EP X pins σ Q) X.xe s := by
  obtain ⟨nm, q, N, bs, bm, sn, sub, ab, col, dd, k0, k1, k2, k3, k5, hC, hb⟩ := T.cls
  obtain ⟨hp, g, dr, tk, os⟩ := s
  have hsz : hp.objs.size ≤ hp.objs.size + 1 := Nat.le_succ _
  have hn : H (hp.objs.size + 1) = none := I.hok.fresh hsz
  have kk : ∀ c o, hp.get? c = some o → ((hp.push (tupO us)).push (rawX C hp.objs.size)).get? c = some o := fun c o e => Heap.get?_push_of_some _ (Heap.get?_push_of_some _ e)
  have ge : ((hp.push (tupO us)).push (rawX C hp.objs.size)).get? (hp.objs.size + 1) = some (rawX C hp.objs.size) := by heap_get
  have I2 : Inv X pins σ (upd H (hp.objs.size + 1) (exo (hp.objs.size + 1) C none)) ⟨(hp.push (tupO us)).push (rawX C hp.objs.size), g, dr, tk, os⟩ :=
    I.laid (t' := tk) (a := hp.objs.size + 1) (o := exo (hp.objs.size + 1) C none) (h' := (hp.push (tupO us)).push (rawX C hp.objs.size)) kk hsz (exo_ok ge)
  refine wpAny_call (run_class hb hus (I.kIn _ _ hC) (W.looks_findIn I.kIn T.ini) (fun self => W.bind_fn I.kIn self T.tfn) (W.looks_instIn I.kIn T.ins)
    (codeAny_mono (F.run _ X.stack _ _ ⟨Value.ref (hp.objs.size + 1) :: us, kw⟩ (Value.ref (hp.objs.size + 1) :: ws) (V.ref (hp.objs.size + 1) :: vs) _ (fun _ _ _ => False) (hr.make C us kw) (I2.env0.make C us kw)
      (hto _ _ I2.kIn) (.cons rfl rv) (h _ hn)) fun r s' hq' => ?_))
  cases r with
  | error er => exact (hx pins σ _ _ er s' I2 hq')
  | ok fl =>
    cases fl with
    | ret u =>
      obtain ⟨v, H', I3, r3, ev, q3⟩ := I2.after hq'
      subst ev
      exact ⟨r3, ⟨V.ref (hp.objs.size + 1), H', I3, rfl, q3⟩⟩
    | next => exact False.elim hq'
    | brk => exact False.elim hq'
    | cont => exact False.elim hq'
end

/-! ### readings and rules -/
/-- the error of the class at C stands at a, with these fields -/
def XAt (H : Hp) (a C : Addr) (fs : List (Str × V)) : Prop := ∃ d, H a = some (exo a C (some d)) ∧ H d = some (exd d fs)
def tMkX (C : Addr) (sp : Sp) (ta : TA) : TE := fun σ H Q => ta σ H fun vs H1 => vs.length ≤ 1000 ∧
  ∀ a, H1 a = none → sp (.ref a :: vs) (upd H1 a (exo a C none)) (fun v H2 => v = .non ∧ Q (.ref a) H2) (fun _ _ _ => False)
def tMkXK (C : Addr) (sp : Sp) (n : Nat) (gV : List V → List V) (ta : TA) : TE := fun σ H Q => ta σ H fun vs H1 => vs.length = n ∧
  ∀ a, H1 a = none → sp (.ref a :: gV vs) (upd H1 a (exo a C none)) (fun v H2 => v = .non ∧ Q (.ref a) H2) (fun _ _ _ => False)
/-- how keywords alone bind -/
structure KwB (K : W.Frag) (fd : FuncData) (ps ks : List Str) (g : List Value → List Value) (gV : List V → List V) : Prop where
  to : ∀ (s : Shared) (a : Addr) (ws : List Value), K.In s.heap → ws.length = ks.length → BindsTo s fd ⟨[.ref a], ks.zip ws⟩ (ps.zip (.ref a :: g ws))
  rel : ∀ {zs : List V} {ws : List Value}, Vals zs ws → Vals (gV zs) (g ws)
section
variable {X : Cx} {CX : CXT} {k : Nat} {fI C : Addr} {b : EB} {fd : FuncData} {ps ks : List Str} {sp : Sp} {x f : Str} {p p' pos : Pos} {e o : Expr} {es : List Expr} {kws : List Keyword} {t tk : TA} {te to : TE} {g : List Value → List Value} {gV : List V → List V}
theorem pe_mkX (T : EC X.K C fI b) (F : FnOk X.prog X.w X.K X.mg X.base CX k fI fd ps sp) (hr : Room (k + 1) X.A) (hb : Binds X.K fd ps []) (hx : Passes CX X (fun _ _ _ => False)) (hg : Gl X x) (hm : X.mg x = some (.ref C)) (ha : PA X (e :: es) t)
    (hdb : (x == ("__debug__" : Str)) = false := by decide) (he : starEach (e :: es) X.env = (false, eval e X.env) :: starEach es X.env := by rfl) (hpl : (backTo pos (starEach es X.env)).any (·.1) = false := by rfl) :
    PE X (.Call (.Name x p) (e :: es) [] pos) (tMkX C sp t) := by
  refine ⟨fun pins s σ H Q I h => ?_⟩
  refine wpAny_Call_Name_kw (ld_glob I hg hm ?_ hdb)
  refine W.callWith_K (h₀ := X.base) I.ok.mod.kin T.kp (thn (ha.run pos pins s σ H _ I h) fun us s1 ⟨vs, H1, I1, r, hl, q⟩ => ⟨I1.kIn, ?_⟩) he hpl
  have hus : us.length ≤ sizeLine := by
    rw [← r.length, sizeLine_eq]
    omega
  have hn : (V.ref (s1.heap.objs.size + 1) :: vs).length = ps.length := F.len _ _ _ _ (q (s1.heap.objs.size + 1) (I1.hok.fresh (Nat.le_succ _)))
  refine run_mkX T F hr hx I1 hus r (fun a s' K' => ?_) q
  have z := hb s' (Value.ref a :: us) K' (by
    have r1 := r.length
    rw [List.length_cons] at hn
    rw [List.append_nil, List.length_cons]
    omega)
  rwa [List.append_nil] at z
theorem pe_mkXK (T : EC X.K C fI b) (F : FnOk X.prog X.w X.K X.mg X.base CX k fI fd ps sp) (hr : Room (k + 1) X.A) (hb : KwB X.K fd ps ks g gV) (hx : Passes CX X (fun _ _ _ => False)) (hg : Gl X x) (hm : X.mg x = some (.ref C)) (hkw : PK X kws tk)
    (hall : (backToKw pos (keywordEach kws X.env)).all (·.1.isSome) = true := by rfl) (hks : (backToKw pos (keywordEach kws X.env)).filterMap (·.1) = ks := by rfl) (hdb : (x == ("__debug__" : Str)) = false := by decide)
    (hpl : ((backTo pos (starEach [] X.env)).any (·.1) || (backToKw pos (keywordEach kws X.env)).any (·.1.isNone)) = false := by rfl) :
    PE X (.Call (.Name x p) [] kws pos) (tMkXK C sp ks.length gV tk) := by
  refine ⟨fun pins s σ H Q I h => ?_⟩
  refine wpAny_Call_Name_kw (ld_glob I hg hm ?_ hdb)
  refine W.callWith_KW0 (h₀ := X.base) I.ok.mod.kin T.kp hall ?_ hpl
  refine thn (hkw.run pos pins s σ H _ I h) fun ws s2 ⟨zs, H2, I2, rz, l2, q2⟩ => ⟨I2.kIn, ?_⟩
  rw [hks]
  exact run_mkX (us := []) T F hr hx I2 (Nat.zero_le _) (hb.rel rz) (fun a s' K' => hb.to s' a ws K' (rz.length.symm.trans l2)) q2
/-- self.f = e in an __init__ of such a class -/
def tPutX (K : W.Frag) (f : Str) (to te : TE) : TS := fun D σ H => te σ H fun y H1 => to σ H1 fun x H2 => ∃ (a C fI : Addr) (b : EB), x = .ref a ∧ EC K C fI b ∧ W.findIn K (.ref C) f = some none ∧
  ((H2 a = some (exo a C none) ∧ ∀ dx, H2 dx = none → dx ≠ a → D.nx σ (upd (upd H2 dx (exd dx [(f, y)])) a (exo a C (some dx)))) ∨
    ∃ (dx : Addr) (fs : List (Str × V)), H2 a = some (exo a C (some dx)) ∧ H2 dx = some (exd dx fs) ∧ fs.length ≤ 900 ∧ D.nx σ (upd H2 dx (exd dx ((f, y) :: fs))))
section
variable {pins : List (Addr × Obj)} {σ : St} {H : Hp} {s : Shared} {a dx : Addr} {y : V} {u : Value} {fs : List (Str × V)} {Q : Unit → Shared → Prop} {E : Value → Shared → Prop} {A : Around}
theorem putX_first (T : EC X.K C fI b) (I : Inv X pins σ H s) (e : H a = some (exo a C none)) (hno : W.findIn X.K (.ref C) f = some none) (ry : RelV y u)
    (h : ∀ dx s', H dx = none → dx ≠ a → Inv X pins σ (upd (upd H dx (exd dx [(f, y)])) a (exo a C (some dx))) s' → Q () s') : wpAny (model X.prog X.w) A (setAttr (.ref a) f u) Q E s := by
  obtain ⟨cd, hcl, hm, hd⟩ := T.cd
  obtain ⟨t1, ho⟩ := exo_at I.hok e
  obtain ⟨hp, g, d, t, os⟩ := s
  refine W.set_plain I.kIn (ox := { cls := .ref C, dict := none, data := .fields #[.ref t1, .none, .none, .none, .bool false, .none] }) (od := none) ⟨ho, rfl, rfl, trivial⟩ T.sa ?_
  refine put_first I.kIn ho hcl hm hd hno (fun h' tk' dx k dn dne hx hn => ?_)
  have hnd : H dx = none := I.hok.fresh dn
  have nd : ∀ {c : Addr} {o : Obj}, hp.get? c = some o → c ≠ dx := fun {c o} q => Nat.ne_of_lt (Nat.lt_of_lt_of_le (Heap.lt_size q) dn)
  have na : ∀ {c : Addr}, H c = none → c ≠ a := fun {c} n z => by
    rw [z, e] at n
    cases n
  have U : Un X.fs [] H (upd (upd H dx (exd dx [(f, y)])) a (exo a C (some dx))) hp h' := {
    keep := fun c o q n _ _ => k c o (na n) q
    slot := fun c o q n _ _ => ⟨o.slots, k c o (na n) q⟩
    free := fun c o q n _ => by
      rw [upd_ne (na n), upd_ne (nd q)]
      exact n
    there := fun c o q _ => by
      by_cases hc : c = a
      · exact ⟨_, by rw [hc]; exact hx⟩
      · exact ⟨o, k c o hc q⟩
    tups := fun c xs q => by
      rw [upd_ne (at_ne e q exo_tup), upd_ne (ne_of_none q hnd)]
      exact q
    frzs := fun c o v q => by
      rw [upd_ne (at_ne e q exo_frz), upd_ne (ne_of_none q hnd)]
      exact q
    tbls := fun c ps q => ⟨#[], by rw [upd_ne (at_ne e q exo_tbl), upd_ne (ne_of_none q hnd), q]; simp⟩ }
  refine h dx _ hnd dne (I.un (t' := tk') U fun c o q => ?_)
  by_cases hc : c = a
  · subst hc
    rw [upd_same] at q
    cases q
    exact exo_ok hx
  · rw [upd_ne hc] at q
    by_cases hd : c = dx
    · subst hd
      rw [upd_same] at q
      cases q
      exact exd_ok hn (relO_put (fs := []) ry fun g => True.intro)
    · rw [upd_ne hd] at q
      refine (I.hok c o q).stay (fun c2 v hc2 z => k c2 v ?_ z) (fun c2 hc2 => ?_) (fun c2 xs hc2 => ?_)
      · rcases hc2 with z2 | z2
        · rw [z2]
          exact hc
        · exact at_ne e z2 exo_own
      · rw [upd_ne (at_ne e hc2 exo_own), upd_ne (ne_of_none hc2 hnd)]
        exact hc2
      · rw [upd_ne (at_ne e hc2 exo_tup), upd_ne (ne_of_none hc2 hnd)]
        exact hc2
theorem putX_more (T : EC X.K C fI b) (I : Inv X pins σ H s) (e : H a = some (exo a C (some dx))) (ed : H dx = some (exd dx fs)) (hl : fs.length ≤ 900) (hno : W.findIn X.K (.ref C) f = some none) (ry : RelV y u)
    (h : ∀ s', Inv X pins σ (upd H dx (exd dx ((f, y) :: fs))) s' → Q () s') : wpAny (model X.prog X.w) A (setAttr (.ref a) f u) Q E s := by
  obtain ⟨cd, hcl, hm, hd⟩ := T.cd
  obtain ⟨t1, ho⟩ := exo_at I.hok e
  obtain ⟨mA, hns, rel⟩ := exd_at I.hok ed
  have hw := within_of rel
  obtain ⟨hp, g, d, t, os⟩ := s
  obtain ⟨oD, _, _, hoD, _, _⟩ := hns.count hw
  refine W.set_plain I.kIn (ox := { cls := .ref C, dict := some dx, data := .fields #[.ref t1, .none, .none, .none, .bool false, .none] }) (od := some oD) ⟨ho, rfl, rfl, hoD⟩ T.sa ?_
  refine put_more I.kIn ho hns hw (by rw [List.length_map]; omega) hcl hm hd hno (fun h' tk' k hn => ?_)
  obtain ⟨o1, _, _, e1, _⟩ := id hn
  exact h _ (I.write (t' := tk') (x := dx) (e := dx) (o := exd dx ((f, y) :: fs)) (by rw [ed]; exact True.intro) (.inl rfl) k ⟨o1, e1⟩ (exd_ok hn (relO_put ry rel)))
end
theorem ps_putX (ho : PE X o to) (he : PE X e te) (hs : swapsWith e (some (.Attribute o f p')) pos.line X.env = pure false := by rfl) : PS X (.Assign [.Attribute o f p'] e pos) (tPutX X.K f to te) := by
  refine ⟨fun pins s σ H D I h => ?_⟩
  refine plainObj_wpAny_Assign_Attribute (thn (he.run pins s σ H _ I h) fun v s1 ⟨y, H1, I1, r1, q1⟩ => thn (ho.run pins s1 σ H1 _ I1 q1) fun u s2 ⟨x, H2, I2, r2, a, C, fI, b, ex, T, hno, q⟩ => ?_) hs
  subst ex
  obtain rfl : u = Value.ref a := r2
  rcases q with ⟨ea, q⟩ | ⟨dx, fs, ea, ed, hl, q⟩
  · exact putX_first T I2 ea hno r1 fun dx s' n ne J => ⟨σ, _, J, q dx n ne⟩
  · exact putX_more T I2 ea ed hl hno r1 fun s' J => ⟨σ, _, J, q⟩
theorem xat_inst {pins : List (Addr × Obj)} {σ : St} {H : Hp} {s : Shared} {a : Addr} {fs : List (Str × V)} (I : Inv X pins σ H s) (h : XAt H a C fs) :
    ∃ (ox od : Obj) (d : Addr) (mA : Str → Option Value), W.InstAt s.heap a ox C (some od) ∧ s.heap.get? d = some od ∧ s.heap.Ns1 d mA ∧ ∀ g, RelO (fs.lookup g) (mA g) := by
  obtain ⟨d, e1, e2⟩ := h
  obtain ⟨t1, ho⟩ := exo_at I.hok e1
  obtain ⟨mA, hns, rel⟩ := exd_at I.hok e2
  obtain ⟨oD, _, _, hoD, _, _⟩ := hns.count (within_of rel)
  exact ⟨_, oD, d, mA, ⟨ho, rfl, rfl, hoD⟩, hoD, hns, rel⟩
/-- isinstance(e, c), e an error that is held as a value -/
def rIsX (K : W.Frag) : List V → Hp → VK → Prop := fun xs H Q => ∃ (a C fI : Addr) (b : EB) (fs : List (Str × V)) (c : V) (u : Value) (r : Bool), xs = [.ref a, c] ∧ XAt H a C fs ∧ EC K C fI b ∧ ClsV c u ∧ W.kitOne K (.ref C) u = some r ∧ Q (.bl r) H
theorem call_isX : CallR X (.builtin "isinstance") (rIsX X.K) := by
  intro pins s σ H xs us Q I r h
  obtain ⟨a, C, fI, b, fs, c, u, z, rfl, hx, T, k, e, q⟩ := h
  obtain ⟨u1, u2, rfl, r1, r2⟩ := vals2 r
  cases (show u1 = Value.ref a from r1)
  have e2 := k.eq r2
  subst e2
  obtain ⟨ox, od, d, mA, J, _⟩ := xat_inst I hx
  exact W.kia_one (W.kitx_exc T.isc T.ga T.gg T.base T.cl T.gs T.tk T.isob) I.kIn J e (fun z => nomatch z) fun tk => ⟨.bl z, H, I.tok tk, rfl, q⟩
/-- e.f, e an error that is held as a value -/
def tGetX (K : W.Frag) (f : Str) (te : TE) : TE := fun σ H Q => te σ H fun x H1 => ∃ (a C fI : Addr) (b : EB) (fs : List (Str × V)) (v : V), x = .ref a ∧ XAt H1 a C fs ∧ EC K C fI b ∧ W.findIn K (.ref C) f = some none ∧ fs.lookup f = some v ∧ Q v H1
theorem pe_getX (he : PE X e te) (hb : attributeBase e f X.env (eval e X.env) = eval e X.env := by rfl) : PE X (.Attribute e f pos) (tGetX X.K f te) := by
  refine ⟨fun pins s σ H Q I h => ?_⟩
  refine attr_of hb (thn (he.run pins s σ H _ I h) fun u s1 hh => ?_)
  obtain ⟨x, H1, I1, rx, a, C, fI, b, fs, v, ex, hx, T, hno, l, q⟩ := hh
  subst ex
  obtain rfl : u = Value.ref a := rx
  obtain ⟨ox, od, d, mA, J, hd, hns, hr⟩ := xat_inst I1 hx
  obtain ⟨od2, ho, hl⟩ := lookIn_ns hns
  rw [hd] at ho
  cases ho
  obtain ⟨u, hu, ru⟩ := RelO.some_of (v := v) (o := mA f) (by rw [← l]; exact hr f)
  exact HandSPX.exc_get I1.kIn J T.ga T.gg T.base (W.findObj_own T.hd hno rfl (by rw [hl, hu])) (handed_of ru) ⟨v, H1, I1.tok _, ru, q⟩
end
end L2.Mb
set_option maxRecDepth 100000
set_option maxHeartbeats 4000000
namespace L2.Mb
open PySem PySem.Spec PyProof.Rows Mx
/-! ### promises where no repr is under way -/
/-- no repr of a container runs around -/
abbrev Gd (A : Around) : Prop := A.guards = some []
theorem gd_deeper {A : Around} {env : Env} (h : Gd A) : Gd (A.deeper env) := h
structure FnG (P : Program) (w : World) (K : W.Frag) (mg : Str → Option Value) (base : Heap) (CX : CXT) (k : Nat) (f : Addr) (fd : FuncData) (ps : List Str) (sp : Sp) : Prop where
  len : ∀ vs H Q E, sp vs H Q E → vs.length = ps.length
  run : ∀ (A : Around) (outer : List Env) (s : Shared) (H : Hp) (args : Args) (us : List Value) (vs : List V) (Q : VK) (E : XK), Gd A → Room k A → Env0 P w K mg base A outer s H →
    BindsTo s fd args (ps.zip us) → Vals vs us → sp vs H Q E → codeAny (model P w) A (.call (.ref f) args) (CR CX outer P w H s Q E) s
section
variable {P : Program} {w : World} {K : W.Frag} {mg : Str → Option Value} {base : Heap} {CX : CXT} {k : Nat} {f : Addr} {fd : FuncData} {ps : List Str} {sp : Sp}
theorem FnG.of (F : FnOk P w K mg base CX k f fd ps sp) : FnG P w K mg base CX k f fd ps sp :=
  ⟨F.len, fun A outer s H args us vs Q E _ hr e hb hv hs => F.run A outer s H args us vs Q E hr e hb hv hs⟩
theorem FnG.mono {j : Nat} (F : FnG P w K mg base CX j f fd ps sp) (h : j ≤ k) : FnG P w K mg base CX k f fd ps sp :=
  ⟨F.len, fun A outer s H args us vs Q E hg hr => F.run A outer s H args us vs Q E hg (hr.mono h)⟩
theorem FnG.imp {sp' : Sp} (F : FnG P w K mg base CX k f fd ps sp) (h : ∀ vs H Q E, sp' vs H Q E → sp vs H Q E) : FnG P w K mg base CX k f fd ps sp' :=
  ⟨fun vs H Q E q => F.len vs H Q E (h _ _ _ _ q), fun A outer s H args us vs Q E hg hr he hb hv hs => F.run A outer s H args us vs Q E hg hr he hb hv (h _ _ _ _ hs)⟩
end
/-- a def by its body -/
theorem fng_of {CX : CXT} {P : Program} {w : World} {K : W.Frag} {mg : Str → Option Value} {base : Heap} {k : Nat} {f : Addr} {name qual : Str} {params : Arguments} {body : List Stmt} {scope : Scope} {dV kV doc pm cdv ct oc : Value} {an od : Option Addr}
    {osl : Array (Option Value)} {N ps : List Str} {sp : Sp} (lk : K.lookup f = some ⟨oc, od, .func (W.fnOf name qual params body scope dV kV doc pm an cdv ct), osl⟩) (hcd : W.codeIn K cdv qual = true) (S : FnScope N ps scope)
    (len : ∀ vs H Q E, sp vs H Q E → vs.length = ps.length)
    (hbody : ∀ (A : Around) (outer : List Env) (s : Shared) (H : Hp) (vs : List V) (Q : VK) (E : XK), Gd (A.deeper (envOfC qual scope s.heap.objs.size f cdv)) → Room k (A.deeper (envOfC qual scope s.heap.objs.size f cdv)) → sp vs H Q E →
      ∃ t, PSs (cxOf CX P w K mg base N qual scope f cdv A outer s H E) body t ∧ t { nx := fun _ H' => Q .non H', rt := Q } (start N vs) H) :
    FnG P w K mg base CX (k + 1) f (W.fnOf name qual params body scope dV kV doc pm an cdv ct) ps sp := by
  refine ⟨len, fun A outer s H args us vs Q E gd hr e0 hb r hsp => ?_⟩
  have hl := len _ _ _ _ hsp
  have kept : ∀ c o, base.get? c = some o → s.heap.get? c = some o := fun c o e => (e0.bs c o e).1
  have KX : K.In s.heap := e0.mod.kin.keeps kept
  have lim : s.heap.NoLimit := e0.mod.nolimit.keeps kept
  have kinds : ∀ y ∈ ps.zip us, scope.names.lookup y.1 = some .local ∨ (scope.names.lookup y.1 = some .cell ∧ ((cellsFrom (s.heap.objs.size + 1) scope.names []).lookup y.1).isSome = true) := fun ⟨n, v⟩ hy => by
    cases S.par n (List.of_mem_zip hy).1 with
    | inl q => exact .inl q
    | inr q => exact .inr ⟨q, W.cellsFrom_some _ _ _ (.inl q)⟩
  refine codeAny_call_function hr.depth (KX _ _ lk) rfl S.co S.gen rfl (W.codeRec_of KX hcd) (hb _ _ _ _ ?_)
  refine wpAny_newFunctionEnv_cells S.kind kinds fun env he s1 x => ?_
  subst he
  refine ⟨lim.keeps x.toInCall.keep, codeAny_func ?_⟩
  obtain ⟨t, ht, hq⟩ := hbody A outer s H vs Q E (gd_deeper gd) (hr.deeper _) hsp
  have I := inv_start (CX := CX) (E := E) S hr.hd e0 hl r x
  have back : ∀ {σ' : L2.St} {H' : Hp} {v : V} {u : Value} {s' : Shared}, Inv (cxOf CX P w K mg base N qual scope f cdv A outer s H E) [] σ' H' s' → RelV v u → Q v H' → CE outer P w H s Q u s' :=
    fun {σ' H' v u s'} J rv q => ⟨v, H', J.os, J.bare, J.base, J.hok, rv, q⟩
  refine wpAny_mono (ht.run [] s1 (start N vs) H _ I hq) (fun fl s' hs => ?_) fun e s' hs => hs
  cases fl with
  | ret u =>
    obtain ⟨v, σ', H', J, rv, q⟩ := hs
    exact back J rv q
  | next =>
    obtain ⟨σ', H', J, q⟩ := hs
    exact back (v := V.non) (u := Value.none) J rfl q
  | brk => exact (hs.elim fun _ z => z.elim fun _ z => z.elim fun _ z => False.elim z)
  | cont => exact (hs.elim fun _ z => z.elim fun _ z => z.elim fun _ z => False.elim z)
theorem fund_okG {P : Program} {w : World} {K : W.Frag} {mg : Str → Option Value} {base : Heap} {x qual : Str} {params : Arguments} {body : List Stmt} {scope : Scope} {dvs : List V} {kws : List (Str × V)} {f : Addr} {fd : FuncData} {CX : CXT} {N ps : List Str} {k : Nat} {sp : Sp}
    (F : FunD K x qual params body scope dvs kws f fd) (S : FnScope N ps scope) (len : ∀ vs H Q E, sp vs H Q E → vs.length = ps.length)
    (hbody : ∀ (cdv : Value) (A : Around) (outer : List Env) (s : Shared) (H : Hp) (vs : List V) (Q : VK) (E : XK), Gd (A.deeper (envOfC qual scope s.heap.objs.size f cdv)) → Room k (A.deeper (envOfC qual scope s.heap.objs.size f cdv)) → sp vs H Q E →
      ∃ t, PSs (cxOf CX P w K mg base N qual scope f cdv A outer s H E) body t ∧ t { nx := fun _ H' => Q .non H', rt := Q } (start N vs) H) : FnG P w K mg base CX (k + 1) f fd ps sp := by
  obtain ⟨oc, od, dV, kV, doc, pm, an, cdv, ct, osl, rfl, lk, hcd, _, _⟩ := F.ex
  exact fng_of lk hcd S len fun A outer s H vs Q E hg hr hsp => hbody cdv A outer s H vs Q E hg hr hsp
/-! ### calls -/
section
variable {X : Cx} {CX : CXT} {k : Nat} {f C : Addr} {fd : FuncData} {ps : List Str} {sp : Sp} {dvs : List V} {ds : List Value} {E : XK} {x m : Str} {p pos apos : Pos} {e o : Expr} {es : List Expr} {ta : TE} {t : TA}
theorem run_fnG {pins : List (Addr × Obj)} {σ : L2.St} {H : Hp} {s : Shared} {Q : VK} {us : List Value} {vs : List V} (gd : Gd X.A) (F : FnG X.prog X.w X.K X.mg X.base CX k f fd ps sp) (hr : Room k X.A) (hb : Binds X.K fd ps ds) (hd : Vals dvs ds) (hx : Passes CX X E)
    (I : Inv X pins σ H s) (r : Vals vs us) (h : sp (vs ++ dvs) H Q E) : wpAny (model X.prog X.w) X.A (call (.ref f) us) (EP X pins σ Q) X.xe s := by
  have r2 : Vals (vs ++ dvs) (us ++ ds) := r.append hd
  have hl : (us ++ ds).length = ps.length := by
    rw [← r2.length]
    exact F.len _ _ _ _ h
  refine wpAny_call (codeAny_mono (F.run X.A X.stack s H ⟨us, []⟩ (us ++ ds) (vs ++ dvs) Q E gd hr I.env0 (hb s us I.kIn hl) r2 h) fun r s' hq => ?_)
  cases r with
  | error er => exact (hx pins σ H s er s' I hq)
  | ok fl =>
    cases fl with
    | ret u => exact (I.after hq)
    | next => exact (False.elim hq)
    | brk => exact (False.elim hq)
    | cont => exact (False.elim hq)
theorem pe_callG (gd : Gd X.A) (F : FnG X.prog X.w X.K X.mg X.base CX k f fd ps sp) (hr : Room k X.A) (hg : Gl X x) (hm : X.mg x = some (.ref f)) (hk : W.keepIn X.K (.ref f) = true) (hb : Binds X.K fd ps ds) (hd : Vals dvs ds) (hx : Passes CX X E)
    (ha : PA X (e :: es) t) (hdb : (x == ("__debug__" : Str)) = false := by decide) (he : starEach (e :: es) X.env = (false, eval e X.env) :: starEach es X.env := by rfl) (hpl : (backTo pos (starEach es X.env)).any (·.1) = false := by rfl) :
    PE X (.Call (.Name x p) (e :: es) [] pos) (tCall sp dvs E t) :=
  ⟨fun pins s σ H Q I h => wpAny_Call_Name_kw (ld_glob I hg hm
    (W.callWith_K (h₀ := X.base) I.ok.mod.kin hk (thn (ha.run pos pins s σ H _ I h) fun us s1 ⟨vs, H1, I1, r, q⟩ => ⟨I1.kIn, run_fnG gd F hr hb hd hx I1 r q⟩) he hpl) hdb)⟩
theorem pe_callG0 (gd : Gd X.A) (F : FnG X.prog X.w X.K X.mg X.base CX k f fd ps sp) (hr : Room k X.A) (hg : Gl X x) (hm : X.mg x = some (.ref f)) (hk : W.keepIn X.K (.ref f) = true) (hb : Binds X.K fd ps ds) (hd : Vals dvs ds) (hx : Passes CX X E)
    (hdb : (x == ("__debug__" : Str)) = false := by decide) : PE X (.Call (.Name x p) [] [] pos) (tCall sp dvs E tNil) :=
  ⟨fun pins s σ H Q I h => wpAny_Call_Name_kw (ld_glob I hg hm (W.callWith_K0 I.kIn hk (run_fnG (us := []) gd F hr hb hd hx I .nil h)) hdb)⟩
end
/-! ### data: what a value says, dicts too -/
def keyD : Key → PyData
  | .inl i => .int i
  | .inr x => .str x
mutual
inductive Dq (K : W.Frag) (H : Hp) : V → PyData → Prop
  | non : Dq K H .non .none
  | bl (b : Bool) : Dq K H (.bl b) (.bool b)
  | int (i : Int) : Dq K H (.int i) (.int i)
  | str (x : Str) : Dq K H (.str x) (.str x)
  | lst {a : Addr} {xs : List V} {ds : List PyData} : SqL K H a xs → DqAll K H xs ds → Dq K H (.ref a) (.list ds)
  | tup {a : Addr} {xs : List V} {ds : List PyData} : SqT K H a xs → DqAll K H xs ds → Dq K H (.ref a) (.tuple ds)
  | dct {a : Addr} {ks : List Key} {xs : List V} {ds : List PyData} : H a = some (.dK (ks.zip xs)) → ks.length = xs.length → DqAll K H xs ds → Dq K H (.ref a) (.dict ((ks.map keyD).zip ds))
inductive DqAll (K : W.Frag) (H : Hp) : List V → List PyData → Prop
  | nil : DqAll K H [] []
  | cons {v : V} {vs : List V} {d : PyData} {ds : List PyData} : Dq K H v d → DqAll K H vs ds → DqAll K H (v :: vs) (d :: ds)
end

/-- the interpreter's table of modules is written down, and it is a dict -/
def SysD (K : W.Frag) : Prop := ∃ o, K.lookup sysModules = some o ∧ o.cls = .type "dict"
theorem keys_read {prog : Program} {w : World} {h : Heap} : ∀ {es : List DictEntry} {ks : List Key} {us : List Value}, ks.length = us.length → PySem.Pairs (mixKind prog w) es (ks.zip us) →
    ReadsAll h (es.map (·.key)) (ks.map keyD) [] ∧ es.map (·.val) = us
  | [], ks, us, l, p => by
    cases ks with
    | nil =>
      cases us with
      | nil => exact ⟨.nil, rfl⟩
      | cons _ _ => cases l
    | cons _ _ =>
      cases us with
      | nil => cases l
      | cons _ _ => cases p
  | e :: es, ks, us, l, p => by
    cases ks with
    | nil =>
      cases us with
      | nil => cases p
      | cons _ _ => cases l
    | cons k ks =>
      cases us with
      | nil => cases l
      | cons u us =>
        cases p with
        | cons h1 h2 h3 =>
          obtain ⟨r1, r2⟩ := keys_read (h := h) (Nat.succ.inj l) h3
          refine ⟨?_, ?_⟩
          · rcases keyIs_shape (show keyIs k e.key = true from h1) with ⟨i, t, e1, e2⟩ | ⟨x, t, e1, e2⟩
            · have q : ReadsAll h (e.key :: es.map (·.key)) (keyD k :: ks.map keyD) ([] ++ []) := by
                rw [e1, e2]
                exact .cons (.int i t) r1
              exact q
            · have q : ReadsAll h (e.key :: es.map (·.key)) (keyD k :: ks.map keyD) ([] ++ []) := by
                rw [e1, e2]
                exact .cons (.str x t) r1
              exact q
          · show e.val :: es.map (·.val) = u :: us
            rw [r2, show e.val = u from h2]
theorem kv_split : ∀ {ks : List Key} {xs : List V} {vs : List (Key × Value)}, ks.length = xs.length → KV (ks.zip xs) vs → ∃ us, us.length = xs.length ∧ vs = ks.zip us ∧ Vals xs us
  | [], [], _, _, h => by
    cases h
    exact ⟨[], rfl, rfl, .nil⟩
  | [], _ :: _, _, l, _ => by cases l
  | _ :: _, [], _, l, _ => by cases l
  | k :: ks, x :: xs, vs, l, h => by
    cases h with
    | @cons p q _ qs h1 h2 =>
      obtain ⟨us, e1, e2, e3⟩ := kv_split (Nat.succ.inj l) h2
      obtain ⟨qk, qv⟩ := q
      obtain ⟨a1, a2⟩ := h1
      refine ⟨qv :: us, congrArg Nat.succ e1, ?_, .cons a2 e3⟩
      rw [e2]
      have a1' : k = qk := a1
      rw [a1']
      rfl
section
variable {X : Cx} {pins : List (Addr × Obj)} {σ : L2.St} {H : Hp} {s : Shared}
theorem Dq.reads (sd : SysD X.K) (I : Inv X pins σ H s) {v : V} {d : PyData} (h : Dq X.K H v d) : ∀ u, RelV v u → ∃ as, Reads s.heap u d as ∧ sysModules ∉ as := by
  refine Dq.rec (motive_1 := fun v d _ => ∀ u, RelV v u → ∃ as, Reads s.heap u d as ∧ sysModules ∉ as)
    (motive_2 := fun vs ds _ => ds.length = vs.length ∧ ∀ us, Vals vs us → ∃ as, ReadsAll s.heap us ds as ∧ sysModules ∉ as) ?_ ?_ ?_ ?_ ?_ ?_ ?_ ?_ ?_ h
  · intro u r
    cases r
    exact ⟨_, .none, fun z => nomatch z⟩
  · intro b u r
    cases r
    exact ⟨_, .bool b, fun z => nomatch z⟩
  · intro i u r
    obtain ⟨t, rfl⟩ := r
    exact ⟨_, .int i t, fun z => nomatch z⟩
  · intro x u r
    obtain ⟨t, rfl⟩ := r
    exact ⟨_, .str x t, fun z => nomatch z⟩
  · intro a xs ds hs _ ih u r
    cases r
    obtain ⟨its, rv, ⟨o, n, ho, hc, _, hd⟩, _⟩ := I.list hs
    obtain ⟨as, hr, hn⟩ := ih.2 its rv
    refine ⟨_, .list ho hc hd hr, fun z => ?_⟩
    rcases List.mem_cons.mp z with z | z
    · obtain ⟨o2, q1, q2⟩ := sd
      have q3 := I.kIn _ _ q1
      rw [z, ho] at q3
      have q4 : o = o2 := Option.some.inj q3
      rw [← q4, hc] at q2
      exact absurd (Value.type.inj q2) (by decide)
    · exact hn z
  · intro a xs ds hs _ ih u r
    cases r
    obtain ⟨its, rv, ⟨o, ho, hc, n, hd⟩, _⟩ := I.tuple hs
    obtain ⟨as, hr, hn⟩ := ih.2 its rv
    exact ⟨_, .tuple ho hc hd hr, hn⟩
  · intro a ks xs ds ha hl _ ih u r
    cases r
    obtain ⟨el, hrs⟩ := ih
    obtain ⟨_, ya, vs, ra, o, es, ep, ho, hex, hd, _, hp, _⟩ := (show ObjOk X.prog X.w H s.heap a (.dK (ks.zip xs)) from I.hok a _ ha)
    obtain ⟨us, l1, e1, rv⟩ := kv_split hl ra
    subst e1
    have lk : ks.length = us.length := hl.trans l1.symm
    obtain ⟨k1, k2⟩ := keys_read (h := s.heap) lk hp
    obtain ⟨as, hr, hn⟩ := hrs us rv
    have m1 : (ks.map keyD).length = ds.length := by rw [List.length_map, hl, el]
    refine ⟨a :: [] ++ as, ?_, fun z => ?_⟩
    · refine .dict ho hex.1 hd ?_ ?_
      · rw [show ((ks.map keyD).zip ds).map (·.1) = ks.map keyD from List.map_fst_zip (Nat.le_of_eq m1)]
        exact k1
      · rw [show ((ks.map keyD).zip ds).map (·.2) = ds from List.map_snd_zip (Nat.le_of_eq m1.symm), k2]
        exact hr
    · rcases List.mem_cons.mp z with z | z
      · rw [← z] at ya
        simp at ya
      · exact hn z
  · exact ⟨rfl, fun us r => by
      cases r
      exact ⟨_, .nil, fun z => nomatch z⟩⟩
  · intro v vs d ds _ _ ih1 ih2
    refine ⟨congrArg Nat.succ ih2.1, fun us r => ?_⟩
    cases r with
    | cons r1 r2 =>
      obtain ⟨as, q1, n1⟩ := ih1 _ r1
      obtain ⟨bs, q2, n2⟩ := ih2.2 _ r2
      exact ⟨_, .cons q1 q2, fun z => (List.mem_append.mp z).elim n1 n2⟩
end
/-- what can be shown: short enough, no huge ints, at most 60 deep -/
def okD (d : PyData) : Bool := d.showable && (decide (d.depth ≤ 60) && decide (d.shown.length ≤ sizeLine))
section
variable {X : Cx}
/-- repr(x), x a list, a tuple or a dict of data -/
def rRepr (K : W.Frag) : List V → Hp → VK → Prop := fun xs H Q => ∃ (a : Addr) (d : PyData), xs = [.ref a] ∧ Dq K H (.ref a) d ∧ okD d = true ∧ Q (.str d.shown) H
theorem call_repr (gd : Gd X.A) (sd : SysD X.K) (hu : X.A.units + 64 < cLine) : CallR X (.builtin "repr") (rRepr X.K) := by
  intro pins s σ H xs us Q I r h
  obtain ⟨a, d, rfl, hd, ok, q⟩ := h
  obtain ⟨o1, o2⟩ := Bool.and_eq_true_iff.mp ok
  obtain ⟨o3, o4⟩ := Bool.and_eq_true_iff.mp o2
  have dp : d.depth ≤ 60 := of_decide_eq_true o3
  cases r with
  | cons r1 r2 =>
    cases r2
    obtain ⟨as, hr, hn⟩ := hd.reads sd I _ r1
    cases r1
    exact repr_of_reads' hr o1 (fun _ => hn) gd (by omega) (fun _ _ e => e) (fun h' u tk k => ⟨.str d.shown, H, I.kept (t' := tk) k, ⟨u, rfl⟩, q⟩) (of_decide_eq_true o4)
end
end L2.Mb
set_option maxRecDepth 100000
set_option maxHeartbeats 4000000
namespace L2.Mb
open PySem PySem.Spec PyProof.Rows Mx
section
variable {P : Program} {w : World} {K : W.Frag} {mg mb : Str → Option Value} {CX : CXT} {k : Nat} {fa a : Addr} {fd : FuncData} {x : Str} {sp : Sp} {s1 : Shared} {vs : List Value} {ns : List Int}
/-- what the law's call leaves -/
abbrev LawEnd (s1 : Shared) : Result → Shared → Prop := fun r s' => r = .ok (.ret (.bool true)) ∧ OldK s1.heap s'.heap ∧ s'.os = s1.os ∧ AllBare s'.gens
theorem lawG_core {H : Hp} {V0 : Array Value} (KX : K.In s1.heap) (hns : s1.heap.Ns mainGlobals mg) (hb : s1.heap.Ns builtinsNs mb) (hbb : ∀ x : Str, x ≠ "__name__" → mb x = bootBuiltins x) (hlim : s1.heap.NoLimit) (hg : s1.gens = #[])
    (hr : Room k callerA) (F : ∀ base : Heap, K.In base → base.Ns mainGlobals mg → FnG P w K mg base CX k fa fd [x] sp) (hbind : ∀ (s : Shared) (u : Value), BindsTo s fd ⟨[u], []⟩ [(x, u)])
    (ha : s1.heap.get? a = some { cls := .type "list", data := .seq V0 }) (hO : Only H) (hok : HOk P w H s1.heap) (hA : ∀ c, c ≠ a → H c = none) (hK : H a ≠ none → K.lookup a = none)
    (hsp : sp [.ref a] H (fun v _ => v = .bl true) fun _ _ _ => False) (hCX : ∀ e s', CX [] H s1 (fun _ _ _ => False) e s' → False) :
    codeAny (model P w) callerA (.call (.ref fa) ⟨[.ref a], []⟩) (LawEnd s1) s1 := by
  have keepD : ∀ {c : Addr} {o : Obj} {es : Array DictEntry} {ep : Nat}, s1.heap.get? c = some o → o.data = .dict es ep → H c = none := fun {c o es ep} e d => by
    by_cases q : c = a
    · rw [q, ha] at e
      cases e
      cases d
    · exact hA c q
  have nsH : ∀ {c : Addr} {m : Str → Option Value}, s1.heap.Ns c m → (hidT s1.heap H).Ns c m := fun {c m} z => by
    obtain ⟨o, es, ep, e, d, r⟩ := z
    exact ⟨o, es, ep, hidT_get e (keepD e d), d, r⟩
  have KH : K.In (hidT s1.heap H) := fun c o e => by
    refine hidT_get (KX c o e) ?_
    by_cases q : c = a
    · cases z : H c with
      | none => rfl
      | some u =>
        have y := hK (by rw [← q, z]; exact fun t => nomatch t)
        rw [q, y] at e
        cases e
    · exact hA c q
  obtain ⟨mc, l1, l2⟩ := hlim
  have M : Mod K mg (hidT s1.heap H) := { kin := KH, glob := nsH hns, blt := ⟨mb, nsH hb, hbb⟩, nolimit := ⟨mc, nsH l1, l2⟩ }
  have e0 : Env0 P w K mg (hidT s1.heap H) callerA [] s1 H := ⟨rfl, M, fun c o e => of_hidT e, Nat.le_of_eq (hidT_size _ _), trivial, (fun c hc => absurd (show c ∈ ([] : List Addr) from hc) (by simp)), hok, .of_eq hg⟩
  have run := (F _ KH (nsH hns)).run callerA [] s1 H ⟨[.ref a], []⟩ [.ref a] [.ref a] _ _ rfl hr e0 (hbind s1 (.ref a)) (.cons rfl .nil) hsp
  refine codeAny_mono run fun r s' h => ?_
  cases r with
  | error e => exact ((hCX e s' h).elim)
  | ok fl =>
    cases fl with
    | next => exact (False.elim h)
    | brk => exact (False.elim h)
    | cont => exact (False.elim h)
    | ret u =>
      obtain ⟨v, H', os, bare, un, hok', rv, q⟩ := h
      have q' : v = .bl true := q
      subst q'
      obtain rfl : u = Value.bool true := rv
      refine ⟨rfl, OldK.of_keep fun c o e => ?_, os, bare⟩
      cases z : H c with
      | none => exact un.keep c o e z (fun y => absurd (show c ∈ ([] : List Addr) from y) (by simp)) (by simp)
      | some u =>
        rcases hO c with y | ⟨ob, xs, y⟩
        · rw [z] at y
          cases y
        · obtain ⟨e1, _⟩ := hok c _ y
          obtain ⟨e2, _⟩ := hok' c _ (un.frzs c ob _ y)
          rw [e] at e1
          cases e1
          exact e2
theorem lawG_call (KX : K.In s1.heap) (hns : s1.heap.Ns mainGlobals mg) (hb : s1.heap.Ns builtinsNs mb) (hbb : ∀ x : Str, x ≠ "__name__" → mb x = bootBuiltins x) (hlim : s1.heap.NoLimit) (hg : s1.gens = #[])
    (ha : s1.heap.get? a = some { cls := .type "list", data := .seq vs.toArray }) (hi : IntsAre vs ns) (hl : ns.length ≤ sizeLine) (hr : Room k callerA)
    (F : ∀ base : Heap, K.In base → base.Ns mainGlobals mg → FnG P w K mg base CX k fa fd [x] sp) (hbind : ∀ (s : Shared) (u : Value), BindsTo s fd ⟨[u], []⟩ [(x, u)])
    (hsp : ∀ H : Hp, Only H → SqL K H a (ns.map V.int) → sp [.ref a] H (fun v _ => v = .bl true) fun _ _ _ => False) (hCX : ∀ H e s', CX [] H s1 (fun _ _ _ => False) e s' → False) :
    codeAny (model P w) callerA (.call (.ref fa) ⟨[.ref a], []⟩) (LawEnd s1) s1 := by
  have rv := vals_ints hi
  have hlen := hi.length
  cases hk : K.lookup a with
  | some o =>
    have e := KX a o hk
    rw [ha] at e
    cases e
    have hO : Only (fun _ => none) := fun _ => .inl rfl
    have hS : SqL K (fun _ => none) a (ns.map V.int) := .inr ⟨_, vs.toArray, _, hk, rfl, rfl, rfl, by rw [List.size_toArray, hlen]; exact hl, by simpa using rv⟩
    exact lawG_core KX hns hb hbb hlim hg hr F hbind ha hO (fun c u z => by cases (show (none : Option HO) = some u from z)) (fun _ _ => rfl) (fun z => absurd rfl z) (hsp _ hO hS) (hCX _)
  | none =>
    let H : Hp := fun c => if c = a then some (.frz { cls := .type "list", data := .seq vs.toArray } (.lst (ns.map V.int))) else none
    have Ha : H a = some (.frz { cls := .type "list", data := .seq vs.toArray } (.lst (ns.map V.int))) := if_pos rfl
    have Hn : ∀ c, c ≠ a → H c = none := fun c hc => if_neg hc
    have hO : Only H := fun c => by
      by_cases hc : c = a
      · exact .inr ⟨_, _, by rw [hc]; exact Ha⟩
      · exact .inl (Hn c hc)
    have hS : SqL K H a (ns.map V.int) := .inl (.inr ⟨_, Ha⟩)
    refine lawG_core KX hns hb hbb hlim hg hr F hbind ha hO (fun c u z => ?_) Hn (fun _ => hk) (hsp _ hO hS) (hCX _)
    by_cases hc : c = a
    · rw [hc, Ha] at z
      cases z
      rw [hc]
      exact ⟨ha, by rw [List.length_map]; exact hl, vs, _, rv, ha⟩
    · rw [Hn c hc] at z
      cases z
end
/-- the law's end over a head that reads facts -/
theorem walkG {l : W.OpenLaw} {n k : Nat} {q : Program} {loose : List Str} {XP : (Str → Option Value) → Heap → Prop} {YP : World → Heap → Prop} {d : DefRec} {CX : CXT} {x : Str}
    (hn : l.most = some n) (hn2 : n ≤ sizeLine) (hdf : d.params.defaults = []) (hr : Room k callerA)
    (F : ∀ (w : World) (mg : Str → Option Value) (fa : Addr) (h : Heap), YP w h → h.Ns mainGlobals mg → mg d.name = some (.ref fa) →
      ∃ (K : W.Frag) (fd : FuncData) (sp : Sp), K.In h ∧ (∀ (s : Shared) (u : Value), BindsTo s fd ⟨[u], []⟩ [(x, u)]) ∧
        (∀ (H : Hp) (a : Addr) (ns : List Int), ns.length ≤ n → Only H → SqL K H a (ns.map V.int) → sp [.ref a] H (fun v _ => v = .bl true) fun _ _ _ => False) ∧
        ∀ base : Heap, K.In base → base.Ns mainGlobals mg → FnG l.prog w K mg base CX k fa fd [x] sp)
    (hCX : ∀ (H : Hp) (s : Shared) (e : Value) (s' : Shared), CX [] H s (fun _ _ _ => False) e s' → False) :
    W.WalkO q loose XP YP l.row.toRowW d [] (fun f vs => PySem.call f vs) := by
  refine Att.attach_call hn hdf fun w s0 s1 mg mb fa o pm cd doc a vs ns G Y ho hd hcd hmg hobj hints hlen hg => ?_
  obtain ⟨K, fd, sp, KX, hb, hsp, hF⟩ := F w mg fa _ Y G.T.g hmg
  exact lawG_call KX G.T.g G.T.b G.T.builtins G.T.nolimit hg hobj hints (Nat.le_trans hlen hn2) hr hF hb (fun H hO hS => hsp H a ns hlen hO hS) fun H e s' => hCX H s1 e s'
end L2.Mb
set_option maxRecDepth 100000
set_option maxHeartbeats 4000000
namespace L2.Mb
open PySem PySem.Spec PyProof.Rows Mx LamX
/-! ### the law's end where lambdas run: tables of code objects, no repr under way -/
/-- an empty table stands at t -/
def Bare (h : Heap) (t : Addr) : Prop := h.get? t = some { cls := .none, data := .fields #[] }
/-- what is known of the module of built-ins -/
def BltMod (mg : Str → Option Value) (h : Heap) : Prop := ∃ (bm : Addr) (ob : Obj), mg "__builtins__" = some (.ref bm) ∧ bm ≠ builtinsNs ∧ h.get? bm = some ob ∧ ob.cls = .type "module" ∧ ob.dict = some builtinsNs ∧ ob.data = .plain
/-- what is tracked at first: the tables, perhaps the script -/
def hpT (a : Addr) (ts : List Addr) (fr : Option HO) : Hp := fun c => if c ∈ ts then some (.tbl #[]) else if c = a then fr else none
section
variable {a : Addr} {ts : List Addr} {fr : Option HO}
theorem hpT_t {c : Addr} (h : c ∈ ts) : hpT a ts fr c = some (.tbl #[]) := if_pos h
theorem hpT_a (h : a ∉ ts) : hpT a ts fr a = fr := (if_neg h).trans (if_pos rfl)
theorem hpT_n {c : Addr} (h : c ∉ ts) (n : c ≠ a) : hpT a ts fr c = none := (if_neg h).trans (if_neg n)
theorem hpT_cases {c : Addr} {u : HO} (h : hpT a ts fr c = some u) : (c ∈ ts ∧ u = .tbl #[]) ∨ (c ∉ ts ∧ c = a ∧ fr = some u) := by
  by_cases m : c ∈ ts
  · rw [hpT_t m] at h
    cases h
    exact .inl ⟨m, rfl⟩
  · by_cases e : c = a
    · subst e
      rw [hpT_a m] at h
      exact .inr ⟨m, rfl, h⟩
    · rw [hpT_n m e] at h
      cases h
end
section
variable {P : Program} {w : World} {K : W.Frag} {mg mb : Str → Option Value} {CX : CXT} {k : Nat} {fa a : Addr} {fd : FuncData} {x : Str} {sp : Sp} {s1 : Shared} {vs : List Value} {ns : List Int} {cs : List (Addr × Addr)}
theorem lawT_core {fr : Option HO} {V0 : Array Value} (KX : K.In s1.heap) (hns : s1.heap.Ns mainGlobals mg) (hb : s1.heap.Ns builtinsNs mb) (hbb : ∀ x : Str, x ≠ "__name__" → mb x = bootBuiltins x) (hlim : s1.heap.NoLimit) (hg : s1.gens = #[])
    (bt : ∀ p ∈ cs, Bare s1.heap p.2) (nk : ∀ p ∈ cs, K.lookup p.2 = none) (cd : ∀ p ∈ cs, W.CodeHd s1.heap p.1 p.2) (bm : BltMod mg s1.heap) (hr : Room k callerA)
    (F : ∀ base : Heap, K.In base → base.Ns mainGlobals mg → (∀ p ∈ cs, TabB base mg p.1 p.2) → FnG P w K mg base CX k fa fd [x] sp) (hbind : ∀ (s : Shared) (u : Value), BindsTo s fd ⟨[u], []⟩ [(x, u)])
    (ha : s1.heap.get? a = some { cls := .type "list", data := .seq V0 }) (hfr : fr = none ∨ (∃ o xs, fr = some (.frz o (.lst xs))) ∧ K.lookup a = none) (hfo : ∀ u, fr = some u → ∀ H : Hp, ObjOk P w H s1.heap a u)
    (hsp : sp [.ref a] (hpT a (cs.map Prod.snd) fr) (fun v _ => v = .bl true) fun _ _ _ => False) (hCX : ∀ e s', CX [] (hpT a (cs.map Prod.snd) fr) s1 (fun _ _ _ => False) e s' → False) :
    codeAny (model P w) callerA (.call (.ref fa) ⟨[.ref a], []⟩) (LawEnd s1) s1 := by
  generalize hts : cs.map Prod.snd = ts at hsp hCX
  have isT : ∀ c ∈ ts, Bare s1.heap c := fun c hc => by
    rw [← hts] at hc
    obtain ⟨p, hp, rfl⟩ := List.mem_map.mp hc
    exact bt p hp
  have notK : ∀ c ∈ ts, K.lookup c = none := fun c hc => by
    rw [← hts] at hc
    obtain ⟨p, hp, rfl⟩ := List.mem_map.mp hc
    exact nk p hp
  have aT : a ∉ ts := fun z => by
    have q := (isT a z).symm.trans ha
    have q2 : Data.fields #[] = Data.seq V0 _ := congrArg Obj.data (Option.some.inj q)
    cases q2
  -- what is neither a list nor an empty table is not tracked
  have free : ∀ {c : Addr} {o : Obj}, s1.heap.get? c = some o → (∀ v n, o.data ≠ .seq v n) → o.data ≠ .fields #[] → hpT a ts fr c = none := fun {c o} e d1 d2 => by
    refine hpT_n (fun m => ?_) fun z => ?_
    · have q := Option.some.inj ((isT c m).symm.trans e)
      exact d2 (by rw [← q])
    · rw [z] at e
      have q := Option.some.inj (ha.symm.trans e)
      exact d1 V0 _ (by rw [← q])
  have nsT : ∀ {c : Addr} {m : Str → Option Value}, s1.heap.Ns c m → (hidT s1.heap (hpT a ts fr)).Ns c m := fun {c m} z => by
    obtain ⟨o, es, ep, e, d, r⟩ := z
    exact ⟨o, es, ep, hidT_get e (free e (fun v n y => by rw [d] at y; cases y) fun y => by rw [d] at y; cases y), d, r⟩
  have KT : K.In (hidT s1.heap (hpT a ts fr)) := fun c o e => by
    refine hidT_get (KX c o e) ?_
    cases z : hpT a ts fr c with
    | none => rfl
    | some u =>
      rcases hpT_cases z with ⟨m, _⟩ | ⟨_, m, hu⟩
      · rw [notK c m] at e
        cases e
      · rcases hfr with y | ⟨_, y⟩
        · rw [y] at hu
          cases hu
        · rw [m, y] at e
          cases e
  have tb : ∀ p ∈ cs, TabB (hidT s1.heap (hpT a ts fr)) mg p.1 p.2 := fun p hp => by
    have b0 := bt p hp
    obtain ⟨go, ge, gp, g1, g2, g3⟩ := hns
    have gT : mainGlobals ≠ p.2 := fun z => by
      rw [z] at g1
      have q := Option.some.inj (b0.symm.trans g1)
      rw [← q] at g2
      cases g2
    refine ⟨?_, ?_, gT⟩
    · obtain ⟨o, us, file, tf, flags, tg, inF, text, tt, e1, c1, c2, c3, rest⟩ := cd p hp
      exact ⟨o, us, file, tf, flags, tg, inF, text, tt, hidT_get e1 (free e1 (fun v n y => by rw [c2] at y; cases y) fun y => by
        rw [c2] at y
        cases y
        simp at c3), c1, c2, c3, rest⟩
    · obtain ⟨m, ob, m1, m2, m3, m4, m5, m6⟩ := bm
      refine ⟨m, ob, m1, m2, fun z => ?_, fun z => ?_, hidT_get m3 (free m3 (fun v n y => by rw [m6] at y; cases y) fun y => by rw [m6] at y; cases y), m4, m5, m6⟩
      · rw [z] at m3
        have q := Option.some.inj (m3.symm.trans g1)
        rw [q, g2] at m6
        cases m6
      · rw [z] at m3
        have q := Option.some.inj (m3.symm.trans b0)
        rw [q] at m6
        cases m6
  have ok : HOk P w (hpT a ts fr) s1.heap := fun c u z => by
    rcases hpT_cases z with ⟨m, rfl⟩ | ⟨_, rfl, hu⟩
    · exact isT c m
    · exact hfo u hu _
  obtain ⟨mc, l1, l2⟩ := hlim
  have M : Mod K mg (hidT s1.heap (hpT a ts fr)) := { kin := KT, glob := nsT hns, blt := ⟨mb, nsT hb, hbb⟩, nolimit := ⟨mc, nsT l1, l2⟩ }
  have e0 : Env0 P w K mg (hidT s1.heap (hpT a ts fr)) callerA [] s1 (hpT a ts fr) := ⟨rfl, M, fun c o e => of_hidT e, Nat.le_of_eq (hidT_size _ _), True.intro, (fun c hc => absurd (show c ∈ ([] : List Addr) from hc) (by simp)), ok, .of_eq hg⟩
  have run := (F _ KT (nsT hns) tb).run callerA [] s1 (hpT a ts fr) ⟨[.ref a], []⟩ [.ref a] [.ref a] _ _ rfl hr e0 (hbind s1 (.ref a)) (.cons rfl .nil) hsp
  refine codeAny_mono run fun r s' h => ?_
  cases r with
  | error e => exact ((hCX e s' h).elim)
  | ok fl =>
    cases fl with
    | next => exact (False.elim h)
    | brk => exact (False.elim h)
    | cont => exact (False.elim h)
    | ret u =>
      obtain ⟨v, H', os, bare, un, hok', rv, q⟩ := h
      have q' : v = .bl true := q
      subst q'
      obtain rfl : u = Value.bool true := rv
      have keep : ∀ c o, c ∉ ts → s1.heap.get? c = some o → s'.heap.get? c = some o := fun c o nt e => by
        cases z : hpT a ts fr c with
        | none => exact un.keep c o e z (fun y => absurd (show c ∈ ([] : List Addr) from y) (by simp)) (by simp)
        | some u =>
          rcases hpT_cases z with ⟨m, _⟩ | ⟨_, rfl, hu⟩
          · exact absurd m nt
          · rcases hfr with y | ⟨⟨ob, xs, y⟩, _⟩
            · rw [y] at hu
              cases hu
            · rw [y] at hu
              cases hu
              obtain ⟨e1, _⟩ := ok c _ z
              obtain ⟨e2, _⟩ := hok' c _ (un.frzs c ob _ z)
              rw [e] at e1
              cases e1
              exact e2
      have more : ∀ p ∈ cs, ∃ us : Array Value, s'.heap.get? p.2 = some { cls := .none, data := .fields us } := fun p hp => by
        obtain ⟨us, z⟩ := un.tbls p.2 #[] (hpT_t (by rw [← hts]; exact List.mem_map.mpr ⟨p, hp, rfl⟩))
        exact ⟨_, hok' p.2 _ z⟩
      refine ⟨rfl, { old := fun c o e => ?_, there := fun c o e => ?_ }, os, bare⟩
      · by_cases m : c ∈ ts
        · rw [← hts] at m
          obtain ⟨p, hp, rfl⟩ := List.mem_map.mp m
          obtain ⟨us, hus⟩ := more p hp
          have b0 := bt p hp
          obtain rfl := Option.some.inj (b0.symm.trans e)
          exact .inr (.inl ⟨((cd p hp).tab b0).isCodeTable, rfl, #[], us, rfl, hus.trans (by rw [Array.empty_append])⟩)
        · exact .inl (keep c o m e)
      · by_cases m : c ∈ ts
        · rw [← hts] at m
          obtain ⟨p, hp, rfl⟩ := List.mem_map.mp m
          obtain ⟨us, hus⟩ := more p hp
          exact ⟨_, hus⟩
        · exact ⟨o, keep c o m e⟩
theorem lawT_call (KX : K.In s1.heap) (hns : s1.heap.Ns mainGlobals mg) (hb : s1.heap.Ns builtinsNs mb) (hbb : ∀ x : Str, x ≠ "__name__" → mb x = bootBuiltins x) (hlim : s1.heap.NoLimit) (hg : s1.gens = #[])
    (bt : ∀ p ∈ cs, Bare s1.heap p.2) (nk : ∀ p ∈ cs, K.lookup p.2 = none) (cd : ∀ p ∈ cs, W.CodeHd s1.heap p.1 p.2) (bm : BltMod mg s1.heap)
    (ha : s1.heap.get? a = some { cls := .type "list", data := .seq vs.toArray }) (hi : IntsAre vs ns) (hl : ns.length ≤ sizeLine) (hr : Room k callerA)
    (F : ∀ base : Heap, K.In base → base.Ns mainGlobals mg → (∀ p ∈ cs, TabB base mg p.1 p.2) → FnG P w K mg base CX k fa fd [x] sp) (hbind : ∀ (s : Shared) (u : Value), BindsTo s fd ⟨[u], []⟩ [(x, u)])
    (hsp : ∀ H : Hp, (∀ p ∈ cs, H p.2 = some (.tbl #[])) → SqL K H a (ns.map V.int) → sp [.ref a] H (fun v _ => v = .bl true) fun _ _ _ => False) (hCX : ∀ H e s', CX [] H s1 (fun _ _ _ => False) e s' → False) :
    codeAny (model P w) callerA (.call (.ref fa) ⟨[.ref a], []⟩) (LawEnd s1) s1 := by
  have rv := vals_ints hi
  have hlen := hi.length
  have aT : a ∉ cs.map Prod.snd := fun z => by
    obtain ⟨p, hp, e⟩ := List.mem_map.mp z
    have q := bt p hp
    rw [e] at q
    have q2 := (q.symm.trans ha)
    have q3 : Data.fields #[] = Data.seq vs.toArray _ := congrArg Obj.data (Option.some.inj q2)
    cases q3
  have ht : ∀ (fr : Option HO) (p), p ∈ cs → hpT a (cs.map Prod.snd) fr p.2 = some (.tbl #[]) := fun fr p hp => hpT_t (List.mem_map.mpr ⟨p, hp, rfl⟩)
  cases hk : K.lookup a with
  | some o =>
    have e := KX a o hk
    rw [ha] at e
    cases e
    have hS : SqL K (hpT a (cs.map Prod.snd) none) a (ns.map V.int) := .inr ⟨_, vs.toArray, _, hk, rfl, rfl, rfl, by rw [List.size_toArray, hlen]; exact hl, by simpa using rv⟩
    exact lawT_core (fr := none) KX hns hb hbb hlim hg bt nk cd bm hr F hbind ha (.inl rfl) (fun u z => by cases z) (hsp _ (ht _) hS) (hCX _)
  | none =>
    have hS : SqL K (hpT a (cs.map Prod.snd) (some (.frz { cls := .type "list", data := .seq vs.toArray } (.lst (ns.map V.int))))) a (ns.map V.int) := .inl (.inr ⟨_, hpT_a aT⟩)
    refine lawT_core KX hns hb hbb hlim hg bt nk cd bm hr F hbind ha (.inr ⟨⟨_, _, rfl⟩, hk⟩) (fun u z => ?_) (hsp _ (ht _) hS) (hCX _)
    cases z
    exact fun H => ⟨ha, by rw [List.length_map]; exact hl, vs, _, rv, ha⟩
end
/-- the law's end over a head that reads facts, with tables -/
theorem walkT {l : W.OpenLaw} {n k : Nat} {q : Program} {loose : List Str} {XP : (Str → Option Value) → Heap → Prop} {YP : World → Heap → Prop} {d : DefRec} {CX : CXT} {x : Str}
    (hn : l.most = some n) (hn2 : n ≤ sizeLine) (hdf : d.params.defaults = []) (hr : Room k callerA)
    (F : ∀ (w : World) (mg : Str → Option Value) (fa : Addr) (h : Heap), YP w h → h.Ns mainGlobals mg → mg d.name = some (.ref fa) →
      ∃ (K : W.Frag) (fd : FuncData) (sp : Sp) (cs : List (Addr × Addr)), K.In h ∧ (∀ p ∈ cs, Bare h p.2) ∧ (∀ p ∈ cs, K.lookup p.2 = none) ∧ (∀ p ∈ cs, W.CodeHd h p.1 p.2) ∧ (∀ (s : Shared) (u : Value), BindsTo s fd ⟨[u], []⟩ [(x, u)]) ∧
        (∀ (H : Hp) (a : Addr) (ns : List Int), ns.length ≤ n → (∀ p ∈ cs, H p.2 = some (.tbl #[])) → SqL K H a (ns.map V.int) → sp [.ref a] H (fun v _ => v = .bl true) fun _ _ _ => False) ∧
        ∀ base : Heap, K.In base → base.Ns mainGlobals mg → (∀ p ∈ cs, TabB base mg p.1 p.2) → FnG l.prog w K mg base CX k fa fd [x] sp)
    (hCX : ∀ (H : Hp) (s : Shared) (e : Value) (s' : Shared), CX [] H s (fun _ _ _ => False) e s' → False) :
    W.WalkO q loose XP YP l.row.toRowW d [] (fun f vs => PySem.call f vs) := by
  refine Att.attach_call hn hdf fun w s0 s1 mg mb fa o pm cd doc a vs ns G Y ho hd hcd hmg hobj hints hlen hg => ?_
  obtain ⟨K, fd, sp, cs, KX, bt, nk, ch, hb, hsp, hF⟩ := F w mg fa _ Y G.T.g hmg
  exact lawT_call KX G.T.g G.T.b G.T.builtins G.T.nolimit hg bt nk ch G.T.bmain hobj hints (Nat.le_trans hlen hn2) hr hF hb (fun H hT hS => hsp H a ns hlen hT hS) fun H e s' => hCX H s1 e s'
end L2.Mb
set_option maxRecDepth 100000
set_option maxHeartbeats 4000000
namespace L2.Mb
open PySem PySem.Spec PyProof.Rows Mx

/-! ### an error that was caught and is kept behind its suite -/
/-- the record of a caught error: its class, its dict -/
def exh (a C d : Addr) : HO := .ext fun h => ∃ (o : Obj) (vs : Array Value), h.get? a = some o ∧ o.cls = .ref C ∧ o.dict = some d ∧ o.data = .fields vs
def HAt (H : Hp) (a C : Addr) (fs : List (Str × V)) : Prop := ∃ d, H a = some (exh a C d) ∧ H d = some (.xd fs)
theorem exh_ok {P : Program} {w : World} {H : Hp} {h : Heap} {a C d : Addr} {o : Obj} {vs : Array Value} (e : h.get? a = some o) (c : o.cls = .ref C) (k : o.dict = some d) (f : o.data = .fields vs) : ObjOk P w H h a (exh a C d) :=
  ⟨⟨o, vs, e, c, k, f⟩, ⟨o, e⟩, fun h1 h2 z kk => by
    obtain ⟨o1, v1, e1, r⟩ := z
    exact ⟨o1, v1, kk _ e1, r⟩⟩
section
variable {X : Cx} {pins : List (Addr × Obj)} {σ : St} {H : Hp} {s : Shared}
/-- an object that was made since the def began is looked at from now on -/
theorem inv_know {a : Addr} {o : HO} (I : Inv X pins σ H s) (na : H a = none) (n0 : X.s_0.heap.get? a = none) (nL : a ≠ X.env.locals) (nc : ∀ x c, X.env.cells.lookup x = some c → c ≠ a) (np : ∀ p ∈ X.pn ++ pins, p.1 ≠ a)
    (new : ObjOk X.prog X.w (upd H a o) s.heap a o) : Inv X pins σ (upd H a o) s := by
  have far : ∀ {b : Addr} {u : HO}, H b = some u → b ≠ a := fun e => ne_of_none e na
  refine ⟨I.ok, I.os, I.bare, ⟨I.base.keep, I.base.slot, fun b u e n hx => ?_, I.base.there, fun b xs e => ?_, fun b u v e => ?_, fun b ps e => ?_⟩, I.loc, I.cell, ?_, fun x c e => ?_, fun p hp => ?_, fun b u e => ?_, I.len⟩
  · have hb : b ≠ a := fun z => by
      rw [z, n0] at e
      cases e
    rw [upd_ne hb]
    exact I.base.free b u e n hx
  · have q := I.base.tups b xs e
    rw [upd_ne (far q)]
    exact q
  · have q := I.base.frzs b u v e
    rw [upd_ne (far q)]
    exact q
  · obtain ⟨more, q⟩ := I.base.tbls b ps e
    exact ⟨more, by rw [upd_ne (far q)]; exact q⟩
  · rw [upd_ne (Ne.symm nL)]
    exact I.free
  · rw [upd_ne (nc x c e)]
    exact I.freeC x c e
  · obtain ⟨z1, z2, z3⟩ := I.pin p hp
    exact ⟨z1, by rw [upd_ne (np p hp)]; exact z2, z3⟩
  · by_cases hb : b = a
    · subst hb
      rw [upd_same] at e
      cases e
      exact new
    · rw [upd_ne hb] at e
      refine (I.hok b u e).stay (fun c v _ q => q) (fun c q => ?_) fun c xs q => ?_
      · rw [upd_ne (far q)]
        exact q
      · rw [upd_ne (far q)]
        exact q
theorem unsuiteK {a : Addr} {q : Addr × Obj} {pn' : List (Addr × Obj)} (I : Inv (X.suite a (q :: (X.pn ++ pins))) pn' σ H s) (ok : X.Ok) : Inv X (q :: pins) σ H s :=
  ⟨ok, I.os, I.bare, I.base, I.loc, I.cell, I.free, I.freeC, fun p hp => by
    refine I.pin p (List.mem_append_left _ ?_)
    rcases List.mem_append.mp hp with z | z
    · exact List.mem_cons_of_mem _ (List.mem_append_left _ z)
    · rcases List.mem_cons.mp z with z | z
      · rw [z]
        exact List.mem_cons_self
      · exact List.mem_cons_of_mem _ (List.mem_append_right _ z), I.hok, I.len⟩
theorem flying_kept {B h h' : Heap} {l : List Env} {e : Addr} {Z : Obj → Prop} (x : HandSPX.FlyingZ B l e Z h) (k : ∀ b o, h.get? b = some o → h'.get? b = some o) : HandSPX.FlyingZ B l e Z h' := by
  obtain ⟨k1, k2, k3, oe, vs, T, oT, ts, e1, e2, e3, e4, e5, e6, e7, e8⟩ := x
  exact ⟨fun b o q => k b o (k1 b o q), k2, k3.of_keeps fun b o q _ => ⟨o, k b o q, rfl⟩, oe, vs, T, oT, ts, k _ _ e1, e2, e3, e4, e5, e6, k _ _ e7, e8⟩
end
/-- what 'except (x1, x2, x3) as n' wishes of an error that it catches, behind which the error is kept -/
def wHold (K : W.Frag) (n : Nat) (cs : List Value) (i : Nat) (ts : Addr → Value → Option Addr → TS) (D : Ends) : WX := fun cls d σ H => ∃ C dd, cls = .ref C ∧ d = some dd ∧ W.exmAny K cls cs = some true ∧
  ∀ a, σ.length = n → H a = none → ts a cls d { nx := fun σ' H' => H' a = none → D.nx (σ'.set i none) (upd H' a (exh a C dd)), rt := fun _ _ => False, bk := fun _ _ => False, ct := fun _ _ => False } (σ.set i (some (.ref a))) H
section
variable {X : Cx} {x1 x2 x3 n : Str} {c1 c2 c3 : Value} {i j : Nat} {body suite : List Stmt} {b₀ : Stmt} {p1 p2 p3 pt pos pos' : Pos} {tb : WX → TS} {ts : Addr → Value → Option Addr → TS}
theorem ps_try_hold (hs : X.stack = X.env :: X.outer) (hf : X.env.frame = some X.env.locals) (hx : X.ex = []) (hN : X.N.Nodup) (hi : X.N[i]? = some n) (hln : X.env.kindOf n = some .local) (g1 : Gl X x1) (m1 : X.mg x1 = some c1) (g2 : Gl X x2) (m2 : X.mg x2 = some c2)
    (g3 : Gl X x3) (m3 : X.mg x3 = some c3) (d1 : (x1 == ("__debug__" : Str)) = false) (d2 : (x2 == ("__debug__" : Str)) = false) (d3 : (x3 == ("__debug__" : Str)) = false)
    (hb : ∀ (W : WX) (pn : List (Addr × Obj)) (xe : Value → Shared → Prop), Takes (X.tr pn xe) W → PassesOwn (model X.prog X.w) X.A X.env xe → PSs (X.tr pn xe) body (tb W))
    (hsu : ∀ (a : Addr) (oe : Obj) (cls : Value) (d : Option Addr) (pn : List (Addr × Obj)), Zc cls d oe → (∃ vs, oe.data = .fields vs) → PSs (X.suite a ((a, oe) :: pn)) (b₀ :: suite) (ts a cls d)) :
    PS X (.Try body [.ExceptHandler (some (.Tuple [.Name x1 p1, .Name x2 p2, .Name x3 p3] j pt)) (some n) (b₀ :: suite) pos'] [] [] pos) (fun D σ H => tb (wHold X.K X.N.length [c1, c2, c3] i ts D) D σ H) := by
  refine ⟨fun pins s σ H D I h => ?_⟩
  have ok := I.ok
  have fr : X.A.frames = some (X.env :: X.outer) := by
    rw [ok.frames, hs]
  have hloc : Loc X.env.scope n := .inl hln
  refine wpAny_Try_except ?_
  refine wpAny_mono ((hb (wHold X.K X.N.length [c1, c2, c3] i ts D) (X.pn ++ pins) (fun e sa => wpAny (model X.prog X.w) X.A (noteFrame e X.env) (fun _ sb => wpAny (model X.prog X.w) X.A (setFlight e none) (fun _ sc =>
    wpAny (model X.prog X.w) X.A (handleBy e X.env [.ExceptHandler (some (.Tuple [.Name x1 p1, .Name x2 p2, .Name x3 p3] j pt)) (some n) (b₀ :: suite) pos']) (SP X pins D) X.xe sc) X.xe sb) X.xe sa) (fun u s' xx => ?_) PassesOwn.looking).run [] s σ H D (I.toTry _) h) (fun f s1 hsp => ?_) (fun _ _ z => z)
  · obtain ⟨a, B, sI, pins', σ', H', cls, d, rfl, J', nb, up, sky, na, os, ag, C, dd, rfl, rfl, ha, hyes⟩ := xx
    have J : Inv X pins σ' H' sI := J'.ofTry ok
    have sky2 : Sky B (X.env :: X.outer) a (Zc (.ref C) (some dd)) X.env.locals s'.heap := by
      rw [← hs]
      exact sky
    show wpAny (model X.prog X.w) X.A (noteFrame (.ref a) X.env) _ _ _
    refine Sky.land Zc.steady fr hf sky2 fun hA flA upA => ?_
    have JA : Inv X pins σ' H' { s' with heap := hA } := J.landed nb flA.1 (up.trans upA) os ag
    obtain ⟨oA, vA, eA, zA, dA⟩ := flA.there
    have nfr : a ∉ frs (X.env :: X.outer) := fun hm => by
      obtain ⟨_, o2, e2, nf2⟩ := flA.2.2.1.mem hm
      rw [eA] at e2
      cases e2
      exact nf2 _ dA
    have nL : a ≠ X.env.locals := fun z => nfr (List.mem_filterMap.mpr ⟨X.env, List.mem_cons_self, by rw [hf, z]⟩)
    have nF : a ∉ X.fs := fun hm => by
      obtain ⟨e, he, q⟩ := List.mem_filterMap.mp hm
      exact nfr (List.mem_filterMap.mpr ⟨e, List.mem_cons_of_mem _ he, q⟩)
    have nI : ∀ o, sI.heap.get? a ≠ some o := fun o e => by
      have q := nb a o e (by rw [hs]; exact nfr)
      rw [flA.2.1] at q
      cases q
    have n0 : X.s_0.heap.get? a = none := by
      cases q : X.s_0.heap.get? a with
      | none => rfl
      | some o =>
        obtain ⟨o2, e2⟩ := J.base.there a o q (by rw [hx]; exact List.not_mem_nil)
        exact absurd e2 (nI o2)
    have nc : ∀ x c, X.env.cells.lookup x = some c → c ≠ a := fun x c e z => by
      obtain ⟨_, oc, hoc, _⟩ := J.cell x c e
      rw [z] at hoc
      exact nI _ hoc
    have np : ∀ p ∈ X.pn ++ pins, p.1 ≠ a := fun p hp z => by
      have q := (J.pin p hp).1
      rw [z] at q
      exact nI _ q
    have SA := JA.suite eA dA na nL nF
    refine wpAny_handleBy_cons (codeAny_handlers_test ?_) (by intro q; cases q)
    refine wpAny_Tuple ?_
    refine wpAny_items_cons (ld_glob (X := X.suite a ((a, oA) :: (X.pn ++ pins))) SA g1 m1 ?_ d1)
    refine wpAny_items_cons (ld_glob (X := X.suite a ((a, oA) :: (X.pn ++ pins))) SA g2 m2 ?_ d2)
    refine wpAny_items_cons (ld_glob (X := X.suite a ((a, oA) :: (X.pn ++ pins))) SA g3 m3 ?_ d3)
    refine wpAny_items_nil ⟨by size_fits, ?_⟩
    have kp : ∀ q o, hA.get? q = some o → (hA.push { cls := .type "tuple", data := .seq [c1, c2, c3].toArray }).get? q = some o := fun _ _ z => Heap.get?_push_of_some _ z
    have LT : W.Looks (model X.prog X.w) hA (typeOf (.ref a)) (.ref C) := fun A Q E s k q => wpAny_typeOf_ref (k _ _ eA) (by rw [zA.1]; exact q)
    refine (W.exm_tup3 (M := model X.prog X.w) (JA.kIn.keeps kp) (LT.keeps kp) (Heap.get?_push_size hA rfl) ha).here ?_
    refine codeAny_handlers_suite_as ?_
    have flB := flying_kept flA kp
    have upB : hA.UpToSlots (hA.push { cls := .type "tuple", data := .seq [c1, c2, c3].toArray }) := Heap.UpToSlots.of_keeps kp
    refine HandSPX.lands_againZ flB fun h4 fl4 up4 => ?_
    have J4 : Inv X pins σ' H' { s' with heap := h4 } := J.landed nb fl4.1 (((up.trans upA).trans upB).trans up4) os ag
    obtain ⟨o4, v4, e4, z4, f4⟩ := fl4.there
    have S4 := J4.suite e4 f4 na nL nF
    refine store_ok (X := X.suite a ((a, o4) :: (X.pn ++ pins))) (v := .ref a) S4 hN hi hloc rfl (fun s5 S5 => ?_) (.inr hln)
    refine wpAny_mono ((hsu a o4 (.ref C) (some dd) (X.pn ++ pins) z4 ⟨_, f4⟩).run [] s5 _ H' _ S5 (hyes a J.len na)) (fun f s6 hsp => ?_) (fun _ _ z => False.elim z)
    cases f with
    | next =>
      obtain ⟨σ6, H6, S6, q6⟩ := hsp
      refine gone_ok (unsuiteK S6 ok) hN hi hln fun s7 J7 => ?_
      have e7 := (J7.pin (a, o4) (List.mem_append_right _ List.mem_cons_self)).1
      have u7 := (J7.pin (a, o4) (List.mem_append_right _ List.mem_cons_self)).2.1
      have K7 : Inv X pins (σ6.set i none) H6 s7 := J7.pins_of fun r hr => J7.pin r (List.mem_append_right _ (List.mem_cons_of_mem _ hr))
      exact ⟨_, _, inv_know K7 u7 n0 nL nc np (exh_ok e7 z4.1 z4.2 f4), q6 u7⟩
    | brk =>
      obtain ⟨σ6, H6, S6, q6⟩ := hsp
      exact q6.elim
    | cont =>
      obtain ⟨σ6, H6, S6, q6⟩ := hsp
      exact q6.elim
    | ret u =>
      obtain ⟨v6, σ6, H6, S6, r6, q6⟩ := hsp
      exact q6.elim
  · cases f with
    | next =>
      obtain ⟨σ', H', J', q⟩ := hsp
      exact wpAny_execs_nil ⟨σ', H', J'.ofTry ok, q⟩
    | brk =>
      obtain ⟨σ', H', J', q⟩ := hsp
      exact ⟨σ', H', J'.ofTry ok, q⟩
    | cont =>
      obtain ⟨σ', H', J', q⟩ := hsp
      exact ⟨σ', H', J'.ofTry ok, q⟩
    | ret u =>
      obtain ⟨v, σ', H', J', r, q⟩ := hsp
      exact ⟨v, σ', H', J'.ofTry ok, r, q⟩
end
/-! ### what is asked of it -/
section
variable {X : Cx} {C : Addr} {f : Str} {e : Expr} {te : TE} {pos : Pos} {b : EB} {fI : Addr}
theorem hat_inst {pins : List (Addr × Obj)} {σ : St} {H : Hp} {s : Shared} {a : Addr} {fs : List (Str × V)} (I : Inv X pins σ H s) (h : HAt H a C fs) :
    ∃ (ox od : Obj) (d : Addr) (mA : Str → Option Value), W.InstAt s.heap a ox C (some od) ∧ s.heap.get? d = some od ∧ s.heap.Ns1 d mA ∧ ∀ g, RelO (fs.lookup g) (mA g) := by
  obtain ⟨d, e1, e2⟩ := h
  have z : ObjOk X.prog X.w H s.heap a (.ext fun h => ∃ (o : Obj) (vs : Array Value), h.get? a = some o ∧ o.cls = .ref C ∧ o.dict = some d ∧ o.data = .fields vs) := I.hok a _ e1
  obtain ⟨⟨o, vs, q1, q2, q3, q4⟩, _, _⟩ := z
  have y : ObjOk X.prog X.w H s.heap d (.xd fs) := I.hok d _ e2
  obtain ⟨mA, hns, rel⟩ := y
  obtain ⟨oD, hoD, _⟩ := lookIn_ns hns
  exact ⟨o, oD, d, mA, ⟨q1, q2, by unfold W.notCls; rw [q4] <;> rfl, by rw [q3]; exact hoD⟩, hoD, hns, rel⟩
/-- isinstance(e, c) | isinstance(e, (c, ..)), e such an error -/
def rIsH (K : W.Frag) : List V → Hp → VK → Prop := fun xs H Q => ∃ (a C fI : Addr) (b : EB) (fs : List (Str × V)) (c : V) (r : Bool), xs = [.ref a, c] ∧ HAt H a C fs ∧ EC K C fI b ∧ Q (.bl r) H ∧
  ((∃ u, ClsV c u ∧ W.kitOne K (.ref C) u = some r) ∨ ∃ (tp : Addr) (cs : List V) (us : List Value), c = .ref tp ∧ H tp = some (.tup cs) ∧ Paired ClsV cs us ∧ W.kitAny K (.ref C) us = some r)
theorem call_isH : CallR X (.builtin "isinstance") (rIsH X.K) := by
  intro pins s σ H xs us Q I r h
  obtain ⟨a, C, fI, b, fs, c, z, rfl, hx, T, q, hc⟩ := h
  obtain ⟨u1, u2, rfl, r1, r2⟩ := vals2 r
  cases (show u1 = Value.ref a from r1)
  obtain ⟨ox, od, d, mA, J, _⟩ := hat_inst I hx
  rcases hc with ⟨u, k, e⟩ | ⟨tp, cs, ws, rfl, hT, k, e⟩
  · have e2 := k.eq r2
    subst e2
    exact W.kia_one (W.kitx_exc T.isc T.ga T.gg T.base T.cl T.gs T.tk T.isob) I.kIn J e (fun z => nomatch z) fun tk => ⟨.bl z, H, I.tok tk, rfl, q⟩
  · cases (show u2 = Value.ref tp from r2)
    obtain ⟨_, its, rv, o, h1, h2, n, h3⟩ := (show ObjOk X.prog X.w H s.heap tp (.tup cs) from I.hok tp _ hT)
    have e3 := ClsV.all k rv
    subst e3
    obtain ⟨oc, od2, dt, sl⟩ := o
    simp only at h2 h3
    subst h2 h3
    exact W.kia_tup (W.kitx_exc T.isc T.ga T.gg T.base T.cl T.gs T.tk T.isob) I.kIn J h1 e (fun z => nomatch z) fun tk => ⟨.bl z, H, I.tok tk, rfl, q⟩
/-- e.f of such an error -/
def tGetH (K : W.Frag) (f : Str) (te : TE) : TE := fun σ H Q => te σ H fun x H1 => ∃ (a C fI : Addr) (b : EB) (fs : List (Str × V)) (v : V), x = .ref a ∧ HAt H1 a C fs ∧ EC K C fI b ∧ W.findIn K (.ref C) f = some none ∧ fs.lookup f = some v ∧ Q v H1
theorem pe_getH (he : PE X e te) (hb : attributeBase e f X.env (eval e X.env) = eval e X.env := by rfl) : PE X (.Attribute e f pos) (tGetH X.K f te) := by
  refine ⟨fun pins s σ H Q I h => ?_⟩
  refine attr_of hb (thn (he.run pins s σ H _ I h) fun u s1 hh => ?_)
  obtain ⟨x, H1, I1, rx, a, C, fI, b, fs, v, ex, hx, T, hno, l, q⟩ := hh
  subst ex
  obtain rfl : u = Value.ref a := rx
  obtain ⟨ox, od, d, mA, J, hd, hns, hr⟩ := hat_inst I1 hx
  obtain ⟨od2, ho, hl⟩ := lookIn_ns hns
  rw [hd] at ho
  cases ho
  obtain ⟨u, hu, ru⟩ := RelO.some_of (v := v) (o := mA f) (by rw [← l]; exact hr f)
  exact HandSPX.exc_get I1.kIn J T.ga T.gg T.base (W.findObj_own T.hd hno rfl (by rw [hl, hu])) (handed_of ru) ⟨v, H1, I1.tok _, ru, q⟩
end
/-! ### the own classes over ValueError are raised -/
theorem own_VE (l : List Value) : own .val l = true → HandSPX.refsVE l = true := by
  induction l with
  | nil => exact fun h => by cases h
  | cons v r ih =>
    intro h
    rcases own_cases h with ⟨c, r2, e, h2⟩ | e
    · cases e
      exact ih h2
    · rw [e]
      rfl
theorem EC.oex {K : W.Frag} {C fI : Addr} (T : EC K C fI .val) (ty : W.typeIn K (.ref C) = some (.type "type")) : OexC K C where
  cls := by
    obtain ⟨nm, q, N, bs, bm, sn, sub, ab, col, dd, k0, k1, k2, k3, k5, h, ho⟩ := T.cls
    exact ⟨nm, q, N, bs, bm, sn, sub, ab, col, dd, k0, k1, k2, k3, k5, h, own_VE _ ho⟩
  sa := T.sa
  exC := T.base
  tyC := ty
  kC := T.kp
end L2.Mb
set_option maxRecDepth 100000
set_option maxHeartbeats 4000000
namespace L2.Mb
open PySem PySem.Spec PyProof.Rows Mx
/-! ### str(x), repr(x) of an own instance -/
/-- the own method is asked -/
def rOwn (C : Addr) (sp : Sp) : List V → Hp → VK → Prop := fun xs H Q => ∃ (a dx : Addr) (fs : List (Str × V)), xs = [.ref a] ∧ H a = some (.ins C dx fs) ∧ sp [.ref a] H (fun v H' => (∃ y, v = .str y) ∧ Q v H') (fun _ _ _ => False)
section
variable {X : Cx} {CX : CXT} {k : Nat} {C f : Addr} {fd : FuncData} {p0 : Str} {sp : Sp}
theorem back_str {pins : List (Addr × Obj)} {σ : St} {H : Hp} {s : Shared} {Q : VK} {a : Addr} {A2 : Around} (F : FnOk X.prog X.w X.K X.mg X.base CX k f fd [p0] sp) (hr : Room k A2) (e0 : Env0 X.prog X.w X.K X.mg X.base A2 X.stack s H) (hb : Binds X.K fd [p0] [])
    (hx : Passes CX X (fun _ _ _ => False)) (I : Inv X pins σ H s) (h : sp [.ref a] H (fun v H' => (∃ y, v = .str y) ∧ Q v H') (fun _ _ _ => False)) :
    wpAny (model X.prog X.w) A2 (call (.ref f) [.ref a]) (W.StrBack (EP X pins σ Q)) X.xe s := by
  refine wpAny_call (codeAny_mono (F.run A2 X.stack s H ⟨[.ref a], []⟩ [.ref a] [.ref a] _ _ hr e0 (by
    have z := hb s [.ref a] I.kIn rfl
    simpa using z) (.cons rfl .nil) h) fun r s' hq => ?_)
  cases r with
  | error e => exact hx pins σ H s e s' I hq
  | ok fl =>
    cases fl with
    | ret u =>
      obtain ⟨v, H', J, rv, ⟨y, ey⟩, q⟩ := I.after hq
      subst ey
      obtain ⟨t, et⟩ := rv
      subst et
      exact ⟨.str y, H', J, ⟨t, rfl⟩, q⟩
    | next => exact False.elim hq
    | brk => exact False.elim hq
    | cont => exact False.elim hq
theorem call_strO (F : FnOk X.prog X.w X.K X.mg X.base CX k f fd [p0] sp) (hs : W.findIn X.K (.ref C) "__str__" = some (some (.ref f))) (hf : W.isFn X.K (.ref f) = true) (hb : Binds X.K fd [p0] []) (hx : Passes CX X (fun _ _ _ => False)) (hr : Room (k + 2) X.A) :
    CallR X (.type "str") (rOwn C sp) := by
  intro pins s σ H xs us Q I r h
  obtain ⟨a, dx, fs, rfl, ea, q⟩ := h
  cases r with
  | cons r1 r2 =>
    cases r2
    cases r1
    obtain ⟨mA, O, _⟩ := ins_get I.hok ea
    obtain ⟨od, J, _⟩ := O.look
    exact W.kso_call hr.in1.in1.units0 I.kIn J hs hf (back_str F hr.in1.in1 I.env0.in1.in1 hb hx I q)
theorem call_reprO (F : FnOk X.prog X.w X.K X.mg X.base CX k f fd [p0] sp) (hs : W.findIn X.K (.ref C) "__repr__" = some (some (.ref f))) (hf : W.isFn X.K (.ref f) = true) (hb : Binds X.K fd [p0] []) (hx : Passes CX X (fun _ _ _ => False)) (hr : Room (k + 1) X.A) :
    CallR X (.builtin "repr") (rOwn C sp) := by
  intro pins s σ H xs us Q I r h
  obtain ⟨a, dx, fs, rfl, ea, q⟩ := h
  cases r with
  | cons r1 r2 =>
    cases r2
    cases r1
    obtain ⟨mA, O, _⟩ := ins_get I.hok ea
    obtain ⟨od, J, _⟩ := O.look
    obtain ⟨m, fr⟩ := I.fr
    exact W.repr_K hr.in1.units0 fr I.ok.mod.kin J hs hf (back_str F hr.in1 I.env0.in1 hb hx I q)
end
/-! ### C.m(k = v), a classmethod -/
section
variable {X : Cx} {CX : CXT} {k : Nat} {C p g : Addr} {mc : Value} {fd : FuncData} {ps ks : List Str} {sp : Sp} {E : XK} {o : Expr} {kws : List Keyword} {m : Str} {pos apos : Pos} {ta : TE} {t : TA} {pl : Sem Bool} {gg : List Value → List Value} {gV : List V → List V}
def tCMethK (C : Addr) (sp : Sp) (n : Nat) (gV : List V → List V) (E : XK) (ta : TE) (t : TA) : TE := fun σ H Q => ta σ H fun x H1 => x = .ref C ∧ t σ H1 fun vs H2 => vs.length = n ∧ sp (.ref C :: gV vs) H2 Q E
theorem pe_cmethK (he : PE X o ta) (r : ClX.CRead X.K C mc) (c : ClX.CMet X.K C mc m p g) (F : FnOk X.prog X.w X.K X.mg X.base CX k g fd ps sp) (hb : KwB X.K fd ps ks gg gV) (hr : Room k X.A) (hx : Passes CX X E) (ha : PK X kws t)
    (hall : (backToKw pos (keywordEach kws X.env)).all (·.1.isSome) = true := by rfl) (hks : (backToKw pos (keywordEach kws X.env)).filterMap (·.1) = ks := by rfl)
    (hpl : ((backTo pos (starEach [] X.env)).any (·.1) || (backToKw pos (keywordEach kws X.env)).any (·.1.isNone)) = false := by rfl)
    (ht : eval (.Call (.Attribute o m apos) [] kws pos) X.env = (do
      let ov ← eval o X.env
      standAt apos.atName
      let (f, first) ← holding [ov] (getMethod ov m pl)
      callWith pos f first (backTo pos (starEach [] X.env)) (backToKw pos (keywordEach kws X.env))) := by rfl) :
    PE X (.Call (.Attribute o m apos) [] kws pos) (tCMethK C sp ks.length gV E ta t) := by
  refine ⟨fun pins s σ H Q I h => ?_⟩
  refine W.methodCall_KW (pl := pl) (thn (he.run pins s σ H _ I h) fun u s1 ⟨x, H1, I1, rx, ex, q⟩ => ?_) ht
  subst ex
  obtain rfl : u = Value.ref C := rx
  refine ClX.getmethcm_ok I1 r c fun s2 I2 => ?_
  refine W.callWith_of hpl (W.keeps_M (self := .ref C) c.fi) (evalArgs_kw2_nil hall (thn (ha.run pos _ s2 σ H1 _ I2 q) fun ws s3 ⟨zs, H2, I3, rz, l2, q2⟩ => ⟨⟨ClX.pin_at I3, I3.kIn⟩, ?_⟩))
  rw [hks]
  have hq := q2
  have e0 := I3.env0
  have z : wpAny (model X.prog X.w) X.A (call (.ref s1.heap.objs.size) [] (ks.zip ws)) (EP X ((s1.heap.objs.size, W.methodObj (.ref g) (.ref C)) :: _) σ Q) X.xe s3 :=
    wpAny_call (W.method_call (ClX.pin_at I3) (codeAny_mono (F.run X.A X.stack s3 H2 ⟨[.ref C], ks.zip ws⟩ (.ref C :: gg ws) (.ref C :: gV zs) Q E hr e0 (hb.to s3 C ws I3.kIn (rz.length.symm.trans l2)) (.cons rfl (hb.rel rz)) hq) fun r s' hq' => by
      cases r with
      | error e => exact hx _ σ H2 s3 e s' I3 hq'
      | ok fl =>
        cases fl with
        | ret u => exact I3.after hq'
        | next => exact False.elim hq'
        | brk => exact False.elim hq'
        | cont => exact False.elim hq'))
  exact thn z fun _ _ y => ClX.unpinE y
end
end L2.Mb
set_option maxRecDepth 100000
set_option maxHeartbeats 4000000
namespace Mv
open PySem PySem.Spec PyProof.Rows L2 Evl
/-! ### more of what a reading evaluates to -/
section
variable {K : W.Frag} {σ : L2.St} {H H' : Hp} {te ta tb tc tl : TE} {t : TT} {v x y z : V}
theorem ev_chain {r r' : R2} {a b : Bool} (ha : Ev ta σ H x) (hb : Ev tb σ H y) (hr : RV r x y H (.bl a)) (hc : a = true → Ev tc σ H z) (hr2 : a = true → RV r' y z H (.bl b)) : Ev (tChain r r' ta tb tc) σ H (.bl (a && b)) := fun H1 e Q q =>
  ha H1 e _ fun H2 e2 => hb H2 (e.trans e2) _ fun H3 e3 => hr H3 ((e.trans e2).trans e3) _ fun H4 e4 => ⟨a, rfl, by
    have e14 := (e2.trans e3).trans e4
    cases a with
    | true => exact hc rfl H4 (e.trans e14) _ fun H5 e5 => hr2 rfl H5 ((e.trans e14).trans e5) _ fun H6 e6 => q H6 ((e14.trans e5).trans e6)
    | false => exact q H4 e14⟩
theorem et_chain {r r' : R2} {a b : Bool} (h : Ev (tChain r r' ta tb tc) σ H (.bl (a && b))) : EvT (tTest (tChain r r' ta tb tc)) σ H (a && b) := et_test h
theorem rv_int {g : Int → Int → V} {i j : Int} : RV (rI0 g) (.int i) (.int j) H (g i j) := rv_I0
/-- s + t -/
def rCatS : R2 := fun x y H Q => ∃ i j : Str, x = .str i ∧ y = .str j ∧ i.length + j.length ≤ sizeLine ∧ Q (.str (i ++ j)) H
theorem rv_catS {i j : Str} (h : i.length + j.length ≤ 100000) : RV rCatS (.str i) (.str j) H (.str (i ++ j)) := fun H1 _ _ q => ⟨i, j, rfl, rfl, sz_of h, q H1 (Ex.refl H1)⟩
/-- c in s, c one sign -/
def rInSg : R2 := fun x y H Q => ∃ (c : Nat) (z : Str), x = .str ⟨#[c]⟩ ∧ y = .str z ∧ Q (.bl (decide (c ∈ z.cps.toList))) H
theorem rv_inSg {c : Nat} {z : Str} : RV rInSg (.str ⟨#[c]⟩) (.str z) H (.bl (decide (c ∈ z.cps.toList))) := fun H1 _ _ q => ⟨c, z, rfl, rfl, q H1 (Ex.refl H1)⟩
def rNiSg : R2 := fun x y H Q => ∃ (c : Nat) (z : Str), x = .str ⟨#[c]⟩ ∧ y = .str z ∧ Q (.bl (!decide (c ∈ z.cps.toList))) H
theorem rv_niSg {c : Nat} {z : Str} : RV rNiSg (.str ⟨#[c]⟩) (.str z) H (.bl (!decide (c ∈ z.cps.toList))) := fun H1 _ _ q => ⟨c, z, rfl, rfl, q H1 (Ex.refl H1)⟩
/-- len(s), int(s), str(n) -/
def rLenT : List V → Hp → VK → Prop := fun xs H Q => ∃ z : Str, xs = [.str z] ∧ z.length ≤ sizeLine ∧ Q (.int z.length) H
theorem rc_lenT {w : Str} (h : w.length ≤ 100000) : RC rLenT [.str w] H (.int (w.length : Int)) := fun H1 _ _ q => ⟨w, rfl, sz_of h, q H1 (Ex.refl H1)⟩
def rIntT : List V → Hp → VK → Prop := fun xs H Q => ∃ (a : Str) (n : Int), xs = [.str a] ∧ PySem.intText? a = some n ∧ a.length ≤ 640 ∧ Q (.int n) H
theorem rc_intT {w : Str} {n : Int} (h : PySem.intText? w = some n) (l : w.length ≤ 640) : RC rIntT [.str w] H (.int n) := fun H1 _ _ q => ⟨w, n, rfl, h, l, q H1 (Ex.refl H1)⟩
def rStrI : List V → Hp → VK → Prop := fun xs H Q => ∃ i : Int, xs = [.int i] ∧ i.natAbs.log2 < 1920 ∧ Q (.str (toString i)) H
theorem rc_strI {i : Int} (h : i.natAbs.log2 < 1920) : RC rStrI [.int i] H (.str (toString i)) := fun H1 _ _ q => ⟨i, rfl, h, q H1 (Ex.refl H1)⟩
theorem rc_isi {x c : V} {t u : Value} {b : Bool} (k : ClsV c u) (ty : ∀ H1, Ex H H1 → TyX K H1 x t) (e : W.kitOne K t u = some b) : RC (rIsi K) [x, c] H (.bl b) := fun H1 e1 _ q => ⟨x, c, t, u, b, rfl, k, ty H1 e1, e, q H1 (Ex.refl H1)⟩
/-- a text's slice -/
theorem ev_slS {tl th : TO} {w : Str} {lo hi : Option Int} (h : Ev te σ H (.str w)) (h1 : EvO tl σ H lo) (h2 : EvO th σ H hi) (hs : w.length ≤ 100000) : Ev (tSl rSlS te tl th) σ H (.str (cutS w lo hi)) := fun H1 e _ q =>
  h H1 e _ fun H2 e2 => h1 H2 (e.trans e2) _ fun H3 e3 => h2 H3 ((e.trans e2).trans e3) _ fun H4 e4 => ⟨w, rfl, sz_of hs, q H4 ((e2.trans e3).trans e4)⟩
/-- a comprehension over a text -/
theorem el_lcS {w : Str} {j : Nat} {vs : List Nat} (f : Nat → Bool) (g : Nat → V) (h : Ev tl σ H (.str w)) (hz : w.cps.size ≤ 40000) (hw : ∀ x, wipe ((wipe σ vs).set j (some x)) vs = wipe σ vs)
    (ht : ∀ (i c : Nat) H1, Ex H H1 → w.cps[i]? = some c → EvT t ((wipe σ vs).set j (some (.str ⟨#[c]⟩))) H1 (f i)) (he : ∀ (i c : Nat) H1, Ex H H1 → w.cps[i]? = some c → f i = true → Ev te ((wipe σ vs).set j (some (.str ⟨#[c]⟩))) H1 (g i)) :
    EvL (tLc (iStr tl) (gName j) t te vs) σ H (given w.cps.size f g) := fun H0 e Q q => h H0 e _ fun H1 e1 => ⟨w, rfl, fun Dl hD =>
  lc_it walk_str (Cw H1 f g Dl) ⟨hD, Ex.new hD, upd_same⟩ (fun _ _ _ _ => trivial) (fun i x H2 H3 hi p y => by
    obtain ⟨rfl, c, hc, rfl⟩ := y
    exact ⟨hw _, cw_turn p (by omega) (ht i c H1 (e.trans e1) hc) (fun hf => he i c H1 (e.trans e1) hc hf)⟩) (fun H' p => q Dl H' (fresh_back e1 p.1) (e1.trans p.2.1) p.2.2)⟩
/-- over a new tuple -/
theorem el_lcNT {xs : List V} {j : Nat} {vs : List Nat} (f : Nat → Bool) (g : Nat → V) (h : EvU tl σ H xs) (hz : xs.length ≤ 40000) (hw : ∀ x, wipe ((wipe σ vs).set j (some x)) vs = wipe σ vs)
    (ht : ∀ (i : Nat) (x : V) H1, Ex H H1 → xs[i]? = some x → EvT t ((wipe σ vs).set j (some x)) H1 (f i)) (he : ∀ (i : Nat) (x : V) H1, Ex H H1 → xs[i]? = some x → f i = true → Ev te ((wipe σ vs).set j (some x)) H1 (g i)) :
    EvL (tLc (iTup K tl) (gName j) t te vs) σ H (given xs.length f g) := fun H0 e Q q => h H0 e _ fun a H1 ha e1 hx => ⟨a, rfl, ⟨xs, st_of hx⟩, fun Dl hD =>
  lc_it (walk_tup (K := K) (xs := xs)) (Cw H1 f g Dl) ⟨hD, Ex.new hD, upd_same⟩ (fun _ H' _ p => st_of (p.2.1 a _ hx)) (fun i x H2 H3 hi p y => by
    obtain ⟨rfl, hc⟩ := y
    exact ⟨hw x, cw_turn p (by omega) (ht i x H1 (e.trans e1) hc) (fun hf => he i x H1 (e.trans e1) hc hf)⟩) (fun H' p => q Dl H' (fresh_back e1 p.1) (e1.trans p.2.1) p.2.2)⟩
/-- all(a new list of truths) -/
theorem ev_allN {bs : List Bool} (ha : EvL ta σ H (bs.map V.bl)) : Ev (tCB (rAll K) (tCons ta tNil)) σ H (.bl (bs.all id)) := fun H1 e Q q => ha H1 e _ fun p H2 _ e2 hp => ⟨p, bs, rfl, sq_of hp, q H2 e2⟩
/-- s.split(t), s.partition(t), s.join(xs) -/
theorem el_split {a b : Str} {r : V → List V → Hp → VK → Prop} (h : Ev ta σ H (.str a)) (h2 : Ev tb σ H (.str b)) (hr : r = fun x xs H Q => ∃ a b, x = .str a ∧ xs = [.str b] ∧ (b.length == 0) = false ∧ a.length + 2 ≤ sizeLine ∧ rNewStrs (Txt.split a b) H Q)
    (hb : (b.length == 0) = false) (hz : a.length ≤ 99000) : EvL (tM1 r ta tb) σ H ((Txt.split a b).map V.str) := fun H1 e Q q => h H1 e _ fun H2 e2 => ⟨⟨a, rfl⟩, h2 H2 (e.trans e2) _ fun H3 e3 => by
    subst hr
    exact ⟨a, b, rfl, rfl, hb, Nat.le_trans (show a.length + 2 ≤ 100000 by omega) (by decide), fun p hp => q p _ (fresh_back (e2.trans e3) hp) ((e2.trans e3).trans (Ex.new hp)) upd_same⟩⟩
end
end Mv
set_option maxRecDepth 100000
set_option maxHeartbeats 4000000
namespace Mv
open PySem PySem.Spec PyProof.Rows L2 L2.Mb Evl
section
variable {K : W.Frag} {σ : L2.St} {H H' : Hp} {te ta tb tc tl : TE} {t : TT} {v x y z : V}
/-! ### lists of texts -/
theorem dp_strs : ∀ l : List Str, DpAll K H (l.map V.str) (l.map PyData.str)
  | [] => .nil
  | b :: r => .cons (.str b) (dp_strs r)
abbrev okS (l : List Str) : Prop := l.all PyData.strOk = true
theorem strs_lay : ∀ l : List Str, okS l → PyData.canLayAll0 (l.map PyData.str) = true ∧ PyData.depthAll (l.map PyData.str) = 0
  | [], _ => ⟨by simp [PyData.canLayAll0], by simp [PyData.depthAll]⟩
  | b :: r, h => by
    have h0 : (PyData.strOk b && r.all PyData.strOk) = true := by simpa [okS] using h
    obtain ⟨hb, hr⟩ := Bool.and_eq_true_iff.mp h0
    obtain ⟨h1, h2⟩ := strs_lay r hr
    refine ⟨?_, ?_⟩
    · simp only [List.map_cons, PyData.canLayAll0, PyData.canLay0, h1, hb, Bool.and_self]
    · simp only [List.map_cons, PyData.depthAll, PyData.depth, h2, Nat.max_self]
theorem strs_shaped (l : List Str) (h : okS l) : SeqAt.shaped (.list (l.map PyData.str)) = true := by
  obtain ⟨h1, h2⟩ := strs_lay l h
  show (PyData.canLay0 (.list (l.map PyData.str)) && decide (PyData.depth (.list (l.map PyData.str)) ≤ 64)) = true
  simp only [PyData.canLay0, PyData.depth, h1, h2]
  decide
theorem eqv_strs : ∀ l m : List Str, PyData.eqvAll (l.map PyData.str) (m.map PyData.str) = decide (l = m)
  | [], [] => by simp [PyData.eqvAll]
  | [], b :: r => by simp [PyData.eqvAll]
  | a :: l, [] => by simp [PyData.eqvAll]
  | a :: l, b :: r => by
    simp only [List.map_cons, PyData.eqvAll, PyData.eqv, eqv_strs l r, List.cons.injEq, Bool.decide_and]
    by_cases h : a = b <;> simp [h]
theorem rv_eqStrs {r q : Addr} {l m : List Str} (hr : SqL K H r (l.map V.str)) (hq : SqL K H q (m.map V.str)) (ol : okS l) (om : okS m) : RV (rEqD K) (.ref r) (.ref q) H (.bl (decide (l = m))) := fun H1 e Q k => by
  refine ⟨_, _, .lst (ex_l e hr) (dp_strs l), .lst (ex_l e hq) (dp_strs m), strs_shaped l ol, strs_shaped m om, ?_⟩
  have z : PyData.eqv (.list (l.map PyData.str)) (.list (m.map PyData.str)) = decide (l = m) := by simp only [PyData.eqv, eqv_strs]
  rw [z]
  exact k H1 (Ex.refl H1)
/-- the piece of one item -/
def one1 (l : List Str) (k : Nat) : List Str := match l[k]? with
  | some x => [x]
  | none => []
theorem cut_one (l : List Str) (k : Nat) : cutV (l.map V.str) (some (k : Int)) (some ((k : Int) + 1)) = (one1 l k).map V.str := by
  unfold cutV one1
  rw [show ((k : Int) + 1) = ((k + 1 : Nat) : Int) by omega, HT.sIx_nat, HT.sIx_nat, List.length_map]
  cases h : l[k]? with
  | none =>
    have hk := List.getElem?_eq_none_iff.mp h
    have e : min (k + 1) l.length - min k l.length = 0 := by omega
    rw [e]
    rfl
  | some x =>
    obtain ⟨hk, hx⟩ := List.getElem?_eq_some_iff.mp h
    rw [show min k l.length = k by omega, show min (k + 1) l.length = k + 1 by omega, show k + 1 - k = 1 by omega, ← List.map_drop, List.drop_eq_getElem_cons hk, hx]
    rfl
theorem one_eq (l : List Str) (k : Nat) (x : Str) : decide (one1 l k = [x]) = decide (l[k]? = some x) := by
  unfold one1
  cases l[k]? with
  | none => simp
  | some y => simp
/-- s.partition(t) -/
theorem eu_part {a b : Str} {r : V → List V → Hp → VK → Prop} (h : Ev ta σ H (.str a)) (h2 : Ev tb σ H (.str b)) (hr : r = fun x xs H Q => ∃ a b, x = .str a ∧ xs = [.str b] ∧ (b.length == 0) = false ∧ a.length ≤ sizeLine ∧
      ∀ p, H p = none → Q (.ref p) (upd H p (.tup [.str (Txt.partition a b).1, .str (Txt.partition a b).2.1, .str (Txt.partition a b).2.2])))
    (hb : (b.length == 0) = false) (hz : a.length ≤ 100000) : EvU (tM1 r ta tb) σ H [.str (Txt.partition a b).1, .str (Txt.partition a b).2.1, .str (Txt.partition a b).2.2] := fun H1 e Q q => h H1 e _ fun H2 e2 => ⟨⟨a, rfl⟩, h2 H2 (e.trans e2) _ fun H3 e3 => by
    subst hr
    exact ⟨a, b, rfl, rfl, hb, sz_of hz, fun p hp => q p _ (fresh_back (e2.trans e3) hp) ((e2.trans e3).trans (Ex.new hp)) upd_same⟩⟩
/-- s.join(xs), xs known -/
theorem ev_join {a : Str} {p : Addr} {ys : List Str} {r : V → List V → Hp → VK → Prop} (h : Ev ta σ H (.str a)) (h2 : Ev tb σ H (.ref p)) (hr : r = fun x xs H Q => ∃ a p, ∃ ys : List Str, x = .str a ∧ xs = [.ref p] ∧ (SqL K H p (ys.map V.str) ∨ SqT K H p (ys.map V.str)) ∧
      (ys.map (·.length)).sum + ys.length * a.length ≤ 16777216 ∧ Q (.str (Txt.join a ys)) H) (hp : SqL K H p (ys.map V.str)) (hz : (ys.map (·.length)).sum + ys.length * a.length ≤ 16777216) : Ev (tM1 r ta tb) σ H (.str (Txt.join a ys)) := fun H1 e Q q =>
  h H1 e _ fun H2 e2 => ⟨⟨a, rfl⟩, h2 H2 (e.trans e2) _ fun H3 e3 => by
    subst hr
    exact ⟨a, p, ys, rfl, rfl, .inl (ex_l ((e.trans e2).trans e3) hp), hz, q H3 (e2.trans e3)⟩⟩
/-- a, b, c = e, e a new tuple -/
theorem s_unp3 {D : Ends} {i j k : Nat} {a b c : V} (h : EvU te σ H [a, b, c]) (kk : ∀ H1, Ex H H1 → D.nx (((σ.set i (some a)).set j (some b)).set k (some c)) H1) :
    tAsg te (gTup K 3 (gCons (gName i) (gCons (gName j) (gCons (gName k) gNil)))) D σ H := h H (Ex.refl H) _ fun p H1 _ e hp => ⟨p, [a, b, c], rfl, st_of hp, rfl, a, [b, c], rfl, b, [c], rfl, c, [], rfl, rfl, kk H1 e⟩
end
end Mv
set_option maxRecDepth 100000
set_option maxHeartbeats 4000000
namespace L2.Mb
open PySem PySem.Spec PyProof.Rows Mx PySem.W
/-! ### x | y, x & y by an own method, both of one own class -/
section
variable {prog : Program} {w : World} {A : Around} {E : Value → Shared → Prop} {s : Shared} {K : W.Frag} {x y C f : Addr} {ox oy : Obj} {od oe : Option Obj} {nm : String} {name : Str} {cd : ClassData} {r : List Value}
theorem fills_own {M : Model} {h : Heap} (X : K.In h) (hc : clsIn K C = some cd) (hm : cd.mro = .ref C :: r) (hs : findIn K (.ref C) (dunder nm) = some (some (.ref f))) : Looks M h (fillsNumberSlot (.ref C) nm) true := by
  have L : Looks M h (mroOf (.ref C)) cd.mro := (looks_clsIn X hc).andThen .now
  have L2 : Looks M h (typeLookup (.ref C) (dunder nm)) (some (.ref f)) := looks_findIn X hs
  unfold fillsNumberSlot
  refine L.andThen ?_
  rw [hm]
  intro A Q E s k q
  simp only [List.anyM]
  refine wpAny_bind (wpAny_bind (wpAny_bind (L2 A _ E s k ?_)))
  exact wpAny_pure (wpAny_pure (wpAny_pure q))
theorem special_own {M : Model} {args : List Value} {Q : Option Value → Shared → Prop} (X : K.In s.heap) (I : InstAt s.heap x ox C od) (hs : findIn K (.ref C) name = some (some (.ref f))) (hf : isFn K (.ref f) = true)
    (h : wpAny M A (call (.ref f) (.ref x :: args)) (fun v => Q (some v)) E s) : wpAny M A (callSpecial? (.ref x) name args) Q E s := by
  unfold callSpecial?
  refine wpAny_bind (wpAny_bind (I.type.here ((looks_findIn X hs).here ?_)))
  refine wpAny_holding (wpAny_bind ((bind_fn X _ (beq_iff_eq.mp hf)).here ?_))
  exact wpAny_bind (wpAny_mono h (fun v s' h' => wpAny_pure h') fun _ _ h' => h')
theorem or_one {Q : Value → Shared → Prop} (nm : String) (X : K.In s.heap) (I : InstAt s.heap x ox C od) (J : InstAt s.heap y oy C oe) (hc : clsIn K C = some cd) (hm : cd.mro = .ref C :: r) (hs : findIn K (.ref C) (dunder nm) = some (some (.ref f))) (hf : isFn K (.ref f) = true)
    (h : wpAny (model prog w) A (call (.ref f) [.ref x, .ref y]) (W.CmpBack Q) E s) : wpAny (model prog w) A (binaryOp1 nm (.ref x) (.ref y)) (fun r s' => ∃ v, r = some v ∧ Q v s') E s := by
  have one : wpAny (model prog w) A (tryMethod (.ref x) (dunder nm) (.ref y)) (fun r s' => ∃ v, r = some v ∧ Q v s') E s := by
    unfold tryMethod
    refine wpAny_bind (special_own X I hs hf (wpAny_mono h (fun v s' hv => ?_) fun _ _ e => e))
    cases v <;> first | exact hv.elim | exact wpAny_pure ⟨_, rfl, hv⟩
  unfold binaryOp1
  refine wpAny_bind (I.type.here (wpAny_bind (J.type.here (wpAny_bind ((fills_own X hc hm hs).here ?_)))))
  have e : (Value.ref C == Value.ref C) = true := beq_self_eq_true _
  simp only [e, if_true, Bool.and_false, Bool.false_eq_true, if_false, Bool.true_and, Bool.not_false]
  refine wpAny_bind (wpAny_pure ?_)
  simp only [Bool.false_eq_true, if_false, if_true, Bool.false_and]
  refine wpAny_bind (wpAny_pure ?_)
  simp only [Bool.false_eq_true, if_false, if_true, Bool.false_and]
  refine wpAny_bind (wpAny_mono one (fun v s' z => ?_) fun _ _ e => e)
  obtain ⟨u, rfl, hq⟩ := z
  exact wpAny_pure ⟨u, rfl, hq⟩
theorem bor_own {Q : Value → Shared → Prop} (X : K.In s.heap) (I : InstAt s.heap x ox C od) (J : InstAt s.heap y oy C oe) (hc : clsIn K C = some cd) (hm : cd.mro = .ref C :: r) (hs : findIn K (.ref C) "__or__" = some (some (.ref f))) (hf : isFn K (.ref f) = true)
    (h : wpAny (model prog w) A (call (.ref f) [.ref x, .ref y]) (W.CmpBack Q) E s) : wpAny (model prog w) A (binaryOp .BitOr (.ref x) (.ref y)) Q E s := by
  unfold binaryOp
  refine wpAny_holding ?_
  refine wpAny_bind (wpAny_mono (or_one (Q := Q) "or" X I J hc hm hs hf h) (fun v s' z => ?_) fun _ _ e => e)
  obtain ⟨u, rfl, hq⟩ := z
  exact wpAny_pure hq
theorem band_own {Q : Value → Shared → Prop} (X : K.In s.heap) (I : InstAt s.heap x ox C od) (J : InstAt s.heap y oy C oe) (hc : clsIn K C = some cd) (hm : cd.mro = .ref C :: r) (hs : findIn K (.ref C) "__and__" = some (some (.ref f))) (hf : isFn K (.ref f) = true)
    (h : wpAny (model prog w) A (call (.ref f) [.ref x, .ref y]) (W.CmpBack Q) E s) : wpAny (model prog w) A (binaryOp .BitAnd (.ref x) (.ref y)) Q E s := by
  unfold binaryOp
  refine wpAny_holding ?_
  refine wpAny_bind (wpAny_mono (or_one (Q := Q) "and" X I J hc hm hs hf h) (fun v s' z => ?_) fun _ _ e => e)
  obtain ⟨u, rfl, hq⟩ := z
  exact wpAny_pure hq
end
/-- the own method is asked of both -/
def rOwn2 (C : Addr) (sp : Sp) : R2 := fun a b H Q => ∃ (x y dx dy : Addr) (fs gs : List (Str × V)), a = .ref x ∧ b = .ref y ∧ H x = some (.ins C dx fs) ∧ H y = some (.ins C dy gs) ∧ sp [.ref x, .ref y] H (fun v H' => (∃ p, v = .ref p) ∧ Q v H') (fun _ _ _ => False)
/-- the class stands first in its own order -/
def Mro1 (K : W.Frag) (C : Addr) : Prop := ∃ cd r, clsIn K C = some cd ∧ cd.mro = .ref C :: r
section
variable {X : Cx} {CX : CXT} {k : Nat} {C f : Addr} {fd : FuncData} {ps : List Str} {sp : Sp}
theorem back_ref {pins : List (Addr × Obj)} {σ : L2.St} {H : Hp} {s : Shared} {Q : VK} {x y : Addr} (F : FnOk X.prog X.w X.K X.mg X.base CX k f fd ps sp) (hr : Room k X.A) (hb : Binds X.K fd ps []) (hx : Passes CX X (fun _ _ _ => False)) (I : Inv X pins σ H s)
    (h : sp [.ref x, .ref y] H (fun v H' => (∃ p, v = .ref p) ∧ Q v H') (fun _ _ _ => False)) :
    wpAny (model X.prog X.w) X.A (call (.ref f) [.ref x, .ref y]) (W.CmpBack (EP X pins σ Q)) X.xe s := by
  have hl := F.len _ _ _ _ h
  refine wpAny_call (codeAny_mono (F.run X.A X.stack s H ⟨[.ref x, .ref y], []⟩ [.ref x, .ref y] [.ref x, .ref y] _ _ hr I.env0 (by
    have z := hb s [.ref x, .ref y] I.kIn (by simpa using hl)
    simpa using z) (.cons rfl (.cons rfl .nil)) h) fun r s' hq => ?_)
  cases r with
  | error e => exact hx pins σ H s e s' I hq
  | ok fl =>
    cases fl with
    | ret u =>
      obtain ⟨v, H', J, rv, ⟨p, ep⟩, q⟩ := I.after hq
      subst ep
      obtain rfl : u = Value.ref p := rv
      exact ⟨.ref p, H', J, rfl, q⟩
    | next => exact False.elim hq
    | brk => exact False.elim hq
    | cont => exact False.elim hq
theorem op_borO (F : FnOk X.prog X.w X.K X.mg X.base CX k f fd ps sp) (hr : Room k X.A) (hb : Binds X.K fd ps []) (hx : Passes CX X (fun _ _ _ => False)) (hm : Mro1 X.K C) (hs : findIn X.K (.ref C) "__or__" = some (some (.ref f))) (hf : isFn X.K (.ref f) = true) :
    OpR X (binaryOp .BitOr) (rOwn2 C sp) := by
  intro pins s σ H a b u v Q I ra rb h
  obtain ⟨x, y, dx, dy, fs, gs, rfl, rfl, e1, e2, q⟩ := h
  cases ra
  cases rb
  obtain ⟨cd, r, h1, h2⟩ := hm
  obtain ⟨_, O1, _⟩ := ins_get I.hok e1
  obtain ⟨_, O2, _⟩ := ins_get I.hok e2
  obtain ⟨_, J1, _⟩ := O1.look
  obtain ⟨_, J2, _⟩ := O2.look
  exact bor_own I.kIn J1 J2 h1 h2 hs hf (back_ref F hr hb hx I q)
theorem op_bandO (F : FnOk X.prog X.w X.K X.mg X.base CX k f fd ps sp) (hr : Room k X.A) (hb : Binds X.K fd ps []) (hx : Passes CX X (fun _ _ _ => False)) (hm : Mro1 X.K C) (hs : findIn X.K (.ref C) "__and__" = some (some (.ref f))) (hf : isFn X.K (.ref f) = true) :
    OpR X (binaryOp .BitAnd) (rOwn2 C sp) := by
  intro pins s σ H a b u v Q I ra rb h
  obtain ⟨x, y, dx, dy, fs, gs, rfl, rfl, e1, e2, q⟩ := h
  cases ra
  cases rb
  obtain ⟨cd, r, h1, h2⟩ := hm
  obtain ⟨_, O1, _⟩ := ins_get I.hok e1
  obtain ⟨_, O2, _⟩ := ins_get I.hok e2
  obtain ⟨_, J1, _⟩ := O1.look
  obtain ⟨_, J2, _⟩ := O2.look
  exact band_own I.kIn J1 J2 h1 h2 hs hf (back_ref F hr hb hx I q)
end
end L2.Mb
set_option maxRecDepth 100000
set_option maxHeartbeats 4000000
namespace L2.Mb
open PySem PySem.Spec PyProof.Rows Mx
open PySem.SeqAt PySem.MeetsSeq
/-! ### a text beside a dict -/
theorem strDict1 (z : Str) (t : Tok) (a : Addr) (c : Value) (es : Array DictEntry) (k : Nat) (dd : Option Addr) (sl : Array (Option Value)) :
    Meets (Builtin.«str.__eq__» ⟨[.str z t, .ref a], []⟩) (fun _ R s => s.heap.get? a = some { cls := c, dict := dd, data := .dict es k, slots := sl } ∧ R (.ok (.ret .notImplemented)) s) := by
  refine .of_wp fun p w A R s q => ?_
  obtain ⟨hp, g, d, tk, os⟩ := s
  obtain ⟨hl, q⟩ := q
  wp_walk using wpAny_loadPart' hl, wpAny_load hl
  exact ⟨_, rfl, q⟩
theorem strDict2 (z : Str) (t : Tok) (a : Addr) (es : Array DictEntry) (k : Nat) (dd : Option Addr) (sl : Array (Option Value)) :
    Meets (Builtin.«dict.__eq__» ⟨[.ref a, .str z t], []⟩) (fun _ R s => s.heap.get? a = some { cls := .type "dict", dict := dd, data := .dict es k, slots := sl } ∧ R (.ok (.ret .notImplemented)) s) := by
  refine .of_wp fun p w A R s q => ?_
  obtain ⟨hp, g, d, tk, os⟩ := s
  obtain ⟨hl, q⟩ := q
  have f1 := F.sub_str_dict
  wp_walk using wpAny_loadPart' hl, wpAny_load hl
  exact ⟨_, rfl, q⟩
theorem eqAt_strDict {A : Around} {s : Shared} {a : Addr} {o : Obj} {es : Array DictEntry} {k : Nat} (z : Str) (t : Tok) (ho : s.heap.get? a = some o) (hc : o.cls = .type "dict") (hd : o.data = .dict es k) (hu : A.units < cLine) : EqAt A s (.str z t) (.ref a) false := fun prog w E Q h => by
  obtain ⟨oc, dd, data, sl⟩ := o
  simp only at hc hd
  subst hc hd
  unfold eqBool
  refine wpAny_holding (wpAny_ite_split (fun q => absurd (eq_of_beq q) nofun) (fun _ => wpAny_bind ?_))
  refine rc_eq_decline_or (k := false) (typeIs_str s z t) ⟨_, ho, rfl⟩ (by decide) F.sub_dict_str F.slot_str_eq F.slot_dict_eq_refl
    (fun _ q => call_meets F.slot_str_eq (typeIs_str s z t) F.entry_str_eq (F.args_str_eq_2 _ _) (strDict1 z t a (.type "dict") es k dd sl) ⟨ho, q⟩)
    (fun _ q => call_meets F.slot_dict_eq_refl ⟨_, ho, rfl⟩ F.entry_dict_eq (F.args_dict_eq_2 _ _) (strDict2 z t a es k dd sl) ⟨ho, q⟩)
    (fun _ q => wpAny_of_eq (rfl : isSame (.str z t) (.ref a) = pure false) q) (.inr hu) (wpAny_truthy_bool h)
/-! ### any value that was written or laid on the way -/
inductive AnyV (H : Hp) : V → Prop
  | non : AnyV H .non
  | bl (b : Bool) : AnyV H (.bl b)
  | int (n : Int) : AnyV H (.int n)
  | str (z : Str) : AnyV H (.str z)
  | lst {a : Addr} {xs : List V} : H a = some (.lst xs) → AnyV H (.ref a)
  | tup {a : Addr} {xs : List V} : H a = some (.tup xs) → AnyV H (.ref a)
  | dct {a : Addr} {kvs : List (Key × V)} : H a = some (.dK kvs) → AnyV H (.ref a)
theorem AnyV.mono {H H' : Hp} {v : V} (h : AnyV H v) (e : ∀ a o, H a = some o → (∀ ps, o ≠ .tbl ps) → H' a = some o) : AnyV H' v := by
  cases h with
  | non => exact .non
  | bl b => exact .bl b
  | int n => exact .int n
  | str z => exact .str z
  | lst h => exact .lst (e _ _ h fun ps z => by cases z)
  | tup h => exact .tup (e _ _ h fun ps z => by cases z)
  | dct h => exact .dct (e _ _ h fun ps z => by cases z)
def inS : V → List Str → Bool
  | .str z, ws => ws.any fun w => w == z
  | _, _ => false
def eS (x : V) (y : Value) : Bool := match x, y with
  | .str z, .str w _ => w == z
  | _, _ => false
theorem any_strs (x : V) : ∀ (ws : List Str) (its : List Value), Vals (ws.map V.str) its → its.any (eS x) = inS x ws
  | [], its, r => by
    cases r
    cases x <;> rfl
  | w :: ws, its, r => by
    cases r with
    | cons r1 r2 =>
      obtain ⟨t, rfl⟩ := r1
      have ih := any_strs x ws _ r2
      rw [List.any_cons, ih]
      cases x <;> simp [eS, inS]
def rNotW (K : W.Frag) : R2 := fun x y H Q => ∃ (p : Addr) (ws : List Str), y = .ref p ∧ SqT K H p (ws.map V.str) ∧ AnyV H x ∧ Q (.bl (!inS x ws)) H
theorem item_str : ∀ {ws : List Str} {its : List Value}, Vals (ws.map V.str) its → ∀ {y : Value}, y ∈ its → ∃ w t, y = .str w t
  | [], its, r, y, hy => by
    cases r
    cases hy
  | w :: ws, its, r, y, hy => by
    cases r with
    | cons r1 r2 =>
      rcases List.mem_cons.mp hy with e | h
      · obtain ⟨t, q⟩ := r1
        exact ⟨w, t, e.trans q⟩
      · exact item_str r2 h
theorem op_notInW {X : Cx} (hu : X.A.units + 64 < cLine) : OpR X (compareOp .NotIn) (rNotW X.K) := by
  intro pins s σ H x y v u Q I rx ry h
  obtain ⟨p, ws, rfl, ht, hx, q⟩ := h
  cases ry
  obtain ⟨its, rv, ⟨o, ho, hc, n, hd⟩, _⟩ := I.tuple ht
  have hu1 : X.A.in1.units < cLine := by
    show X.A.units + 1 < cLine
    omega
  refine notIn_tupleAt (eS x) ⟨o, ho, hc, n, hd⟩ (fun y hy => ?_) ?_
  · obtain ⟨w, t, rfl⟩ := item_str rv (by simpa using hy)
    cases hx with
    | non =>
      cases rx
      exact EqAt.str_none w t
    | bl b =>
      cases rx
      exact EqAt.str_bool w t b
    | int n =>
      obtain ⟨t2, rfl⟩ := rx
      exact EqAt.str_int w t n t2
    | str z =>
      obtain ⟨t2, rfl⟩ := rx
      exact EqAt.str_str w t z t2
    | lst h =>
      cases rx
      obtain ⟨its2, _, ⟨o2, n2, ho2, hc2, _, hd2⟩, _⟩ := I.list (SqL.of h)
      exact EqAt.str_list w t ⟨o2, ho2, hc2, n2, hd2⟩ hu1
    | tup h =>
      cases rx
      obtain ⟨its2, _, ⟨o2, ho2, hc2, n2, hd2⟩, _⟩ := I.tuple (.inl (.inl h))
      exact EqAt.str_tuple w t ⟨o2, ho2, hc2, n2, hd2⟩ hu1
    | dct h =>
      cases rx
      obtain ⟨_, ya, vs, ra, o2, es, ep, ho2, hex, hd2, _⟩ := (show ObjOk X.prog X.w H s.heap _ (.dK _) from I.hok _ _ h)
      exact eqAt_strDict w t ho2 hex.1 hd2 hu1
  · rw [show its.toArray.any (eS x) = inS x ws from (List.any_toArray).trans (any_strs x ws its rv)]
    exact ⟨.bl _, H, I, rfl, q⟩
end L2.Mb
set_option maxRecDepth 100000
set_option maxHeartbeats 4000000
namespace L2.Mb
open PySem PySem.Spec PyProof.Rows Mx PySem.W
/-! ### x != y where the class has an own == alone -/
theorem neSlot : Slot "object" (Str.ofString "__ne__") "object.__ne__" :=
  Slot.of (owner := "object") (n := "__ne__") (by rw [typeLookup_type, builtinLookup_eq_fast]; kernel_rfl) (by decide +kernel) (by decide +kernel) (by decide +kernel) (.inl (by decide +kernel)) (by rw [isSubtype_type]; kernel_rfl)
section
variable {prog : Program} {w : World} {A : Around} {E : Value → Shared → Prop} {s : Shared} {K : W.Frag} {x C f : Addr} {ox : Obj} {od : Option Obj} {b tb : Value}
theorem objNe_own {Q : Fin → Shared → Prop} (X : K.In s.heap) (I : InstAt s.heap x ox C od) (hs : findIn K (.ref C) "__eq__" = some (some (.ref f))) (hf : isFn K (.ref f) = true) (hu : A.units < cLine)
    (h : wpAny (model prog w) A (call (.ref f) [.ref x, b]) (fun v s' => ∃ k, v = .bool k ∧ Q (.done (.ret (.bool (!k)))) s') E s) : wpAny (model prog w) A (Builtin.«object.__ne__» ⟨[.ref x, b], []⟩) Q E s := by
  unfold Builtin.«object.__ne__»
  repeat (first
    | with_reducible refine wpAny_cRoomFor hu ?_
    | (refine wpAny_bind (m := callSpecialIfBound? (.ref x) (Str.ofString "__eq__") [b]) (ifBound_K X I hs hf (wpAny_mono h (fun r s' hr => by
          obtain ⟨k, rfl, hq⟩ := hr
          repeat (first | exact hq | exact wpAny_pure hq | exact wpAny_truthy_bool hq | (refine wpAny_bind (m := truthy (.bool _)) (wpAny_truthy_bool ?_)) | wp_step)) fun _ _ e => e)))
    | wp_step)
theorem tryNe_own {Q : Value → Shared → Prop} (X : K.In s.heap) (I : InstAt s.heap x ox C od) (hs : findIn K (.ref C) "__eq__" = some (some (.ref f))) (hf : isFn K (.ref f) = true) (hn : findIn K (.ref C) "__ne__" = some (some (.builtin "object.__ne__")))
    (ho : mroIn K C (.type "object") = some true) (hu : A.units + 1 < cLine) (h : wpAny (model prog w) A.in1 (call (.ref f) [.ref x, b]) (fun v s' => ∃ k, v = .bool k ∧ Q (.bool (!k)) s') E s) :
    wpAny (model prog w) A (tryCompare (.ref x) (Str.ofString "__ne__") b) (fun r s' => ∃ v, r = some v ∧ Q v s') E s := by
  have hi : Looks (model prog w) s.heap (isInstance (.ref x) (.type "object")) true := I.type.andThen (looks_mroIn X ho)
  have run : wpAny (model prog w) A (call (.builtin "object.__ne__") [.ref x, b]) (fun v s' => ∃ k, v = .bool (!k) ∧ Q (.bool (!k)) s') E s :=
    wpAny_call (codeAny_call_builtin neSlot.plain F.cmpEntry_ne (@check_slot (model prog w) _ _ s "object.__ne__" "object" "__ne__" (.ref x) [b] [] _ F.cmpKind_ne F.cmpSplit_ne hi (F.cmpArgs_ne _ _)
      (objNe_own (A := A.in1) X I hs hf hu (wpAny_mono h (fun v s' hv => by
        obtain ⟨k, e, q⟩ := hv
        exact ⟨k, e, k, rfl, q⟩) fun _ _ e => e))))
  have one : wpAny (model prog w) A (callSpecialIfBound? (.ref x) (Str.ofString "__ne__") [b]) (fun r s' => ∃ k, r = some (.bool k) ∧ Q (.bool k) s') E s := by
    have fin2 : wpAny (model prog w) A (call (.builtin "object.__ne__") ([.ref x] ++ [b]) >>= fun v => pure (some v)) (fun r s' => ∃ k, r = some (.bool k) ∧ Q (.bool k) s') E s :=
      wpAny_bind (wpAny_mono run (fun v s' hv => by
        obtain ⟨k, rfl, q⟩ := hv
        exact wpAny_pure ⟨_, rfl, q⟩) fun _ _ e => e)
    simp only [callSpecialIfBound?, bindSpecialIfBound?]
    refine wpAny_holding (wpAny_bind (wpAny_bind (wpAny_bind (I.type.here ((looks_findIn X hn).here ?_)))))
    refine wpAny_bind (wpAny_askSetting (wpAny_ite ?_))
    split
    · exact wpAny_bind (wpAny_of_eq (neSlot.bind _) (wpAny_pure (by exact fin2)))
    · exact wpAny_tryCatch (wpAny_bind (wpAny_of_eq (neSlot.bind _) (wpAny_pure (by exact fin2))))
  unfold tryCompare
  refine wpAny_bind (wpAny_mono one (fun r s' z => ?_) fun _ _ e => e)
  obtain ⟨k, rfl, q⟩ := z
  exact wpAny_pure ⟨_, rfl, q⟩
theorem ne_own {Q : Value → Shared → Prop} (X : K.In s.heap) (I : InstAt s.heap x ox C od) (hb : Looks (model prog w) s.heap (typeOf b) tb) (nf : notFirst K C tb = true) (hs : findIn K (.ref C) "__eq__" = some (some (.ref f))) (hf : isFn K (.ref f) = true)
    (hn : findIn K (.ref C) "__ne__" = some (some (.builtin "object.__ne__"))) (ho : mroIn K C (.type "object") = some true) (hu : A.units + 1 < cLine)
    (h : wpAny (model prog w) A.in1 (call (.ref f) [.ref x, b]) (fun v s' => ∃ k, v = .bool k ∧ Q (.bool (!k)) s') E s) : wpAny (model prog w) A (richCompare .NotEq (.ref x) b) Q E s := by
  have one := tryNe_own (Q := Q) X I hs hf hn ho hu h
  unfold richCompare
  simp only [oneThing_ref]
  refine wpAny_holding (wpAny_bind (wpAny_cRoomFor (Nat.lt_of_succ_lt hu) ?_))
  refine wpAny_bind (I.type.here (wpAny_bind (hb.here ?_)))
  split
  · rename_i q
    have e : subIn K tb (.ref C) = some false := (Bool.or_eq_true_iff.mp nf).elim (fun e => by rw [beq_iff_eq.mp e] at q; simp at q) beq_iff_eq.mp
    refine wpAny_bind ((looks_subIn X e).here ?_)
    simp only [Bool.false_eq_true, if_false]
    refine wpAny_bind (wpAny_mono one (fun r s' z => ?_) fun _ _ e => e)
    obtain ⟨v, rfl, hq⟩ := z
    exact wpAny_pure hq
  · refine wpAny_bind (wpAny_pure ?_)
    simp only [Bool.false_eq_true, if_false]
    refine wpAny_bind (wpAny_mono one (fun r s' z => ?_) fun _ _ e => e)
    obtain ⟨v, rfl, hq⟩ := z
    exact wpAny_pure hq
end
end L2.Mb
set_option maxRecDepth 100000
set_option maxHeartbeats 4000000
namespace L2.Mb
open PySem PySem.Spec PyProof.Rows Mx PySem.W
/-! ### x == y, x != y by an own ==, y an instance of the same class or any other value -/
def CmpV (C : Addr) (H : Hp) (y : V) : Prop := (∃ b dy gs, y = .ref b ∧ H b = some (.ins C dy gs)) ∨ AnyV H y
section
variable {X : Cx} {CX : CXT} {k : Nat} {C f : Addr} {fd : FuncData} {ps : List Str} {sp : Sp} {pins : List (Addr × Obj)} {σ : L2.St} {H : Hp} {s : Shared}
theorem looks_obj {M : Model} {h : Heap} {a : Addr} {o : Obj} {t : Value} (e : h.get? a = some o) (c : o.cls = t) : Looks M h (typeOf (.ref a)) t := c ▸ (Looks.ld e).andThen .now
theorem cmp_type {y : V} {u : Value} {M : Model} (I : Inv X pins σ H s) (ry : RelV y u) (hy : CmpV C H y) : ∃ tb, Looks M s.heap (typeOf u) tb ∧ notFirst X.K C tb = true := by
  rcases hy with ⟨b, dy, gs, rfl, hb⟩ | hy
  · cases ry
    obtain ⟨_, O, _⟩ := ins_get I.hok hb
    obtain ⟨_, J, _⟩ := O.look
    exact ⟨.ref C, J.type, by simp [notFirst]⟩
  · cases hy with
    | non =>
      cases ry
      exact ⟨.type "NoneType", looks_typeIn I.kIn rfl, by kernel_rfl⟩
    | bl b =>
      cases ry
      exact ⟨.type "bool", looks_typeIn I.kIn rfl, by kernel_rfl⟩
    | int n =>
      obtain ⟨t, rfl⟩ := ry
      exact ⟨.type "int", looks_typeIn I.kIn rfl, by kernel_rfl⟩
    | str z =>
      obtain ⟨t, rfl⟩ := ry
      exact ⟨.type "str", looks_typeIn I.kIn rfl, by kernel_rfl⟩
    | lst h =>
      cases ry
      obtain ⟨_, _, ⟨o, n, ho, hc, _⟩, _⟩ := I.list (SqL.of h)
      exact ⟨.type "list", looks_obj ho hc, by kernel_rfl⟩
    | tup h =>
      cases ry
      obtain ⟨_, _, ⟨o, ho, hc, _⟩, _⟩ := I.tuple (.inl (.inl h))
      exact ⟨.type "tuple", looks_obj ho hc, by kernel_rfl⟩
    | dct h =>
      cases ry
      obtain ⟨_, ya, vs, ra, o, es, ep, ho, hex, hd, _⟩ := (show ObjOk X.prog X.w H s.heap _ (.dK _) from I.hok _ _ h)
      exact ⟨.type "dict", looks_obj ho hex.1, by kernel_rfl⟩
theorem back_bool {R : Bool → Hp → Prop} {a : Addr} {y : V} {u : Value} {A2 : Around} (F : FnOk X.prog X.w X.K X.mg X.base CX k f fd ps sp) (hr : Room k A2) (e0 : Env0 X.prog X.w X.K X.mg X.base A2 X.stack s H) (hb : Binds X.K fd ps []) (hx : Passes CX X (fun _ _ _ => False))
    (I : Inv X pins σ H s) (ry : RelV y u) (h : sp [.ref a, y] H (fun v H' => ∃ c, v = .bl c ∧ R c H') (fun _ _ _ => False)) :
    wpAny (model X.prog X.w) A2 (call (.ref f) [.ref a, u]) (fun v s' => ∃ c H', v = .bool c ∧ Inv X pins σ H' s' ∧ R c H') X.xe s := by
  have hl := F.len _ _ _ _ h
  refine wpAny_call (codeAny_mono (F.run A2 X.stack s H ⟨[.ref a, u], []⟩ [.ref a, u] [.ref a, y] _ _ hr e0 (by
    have z := hb s [.ref a, u] I.kIn (by simpa using hl)
    simpa using z) (.cons rfl (.cons ry .nil)) h) fun r s' hq => ?_)
  cases r with
  | error e => exact hx pins σ H s e s' I hq
  | ok fl =>
    cases fl with
    | ret v =>
      obtain ⟨v, H', J, rv, ⟨c, ec, q⟩⟩ := I.after hq
      subst ec
      cases rv
      exact ⟨c, H', rfl, J, q⟩
    | next => exact False.elim hq
    | brk => exact False.elim hq
    | cont => exact False.elim hq
def rCmpO (C : Addr) (sp : Sp) (neg : Bool) : R2 := fun x y H Q => ∃ a dx fs, x = .ref a ∧ H a = some (.ins C dx fs) ∧ CmpV C H y ∧ sp [.ref a, y] H (fun v H' => ∃ c, v = .bl c ∧ Q (.bl (if neg then !c else c)) H') (fun _ _ _ => False)
theorem op_eqO (F : FnOk X.prog X.w X.K X.mg X.base CX k f fd ps sp) (hr : Room k X.A) (hb : Binds X.K fd ps []) (hx : Passes CX X (fun _ _ _ => False)) (hs : findIn X.K (.ref C) "__eq__" = some (some (.ref f))) (hf : isFn X.K (.ref f) = true) : OpR X (compareOp .Eq) (rCmpO C sp false) := by
  intro pins s σ H x y v u Q I rx ry h
  obtain ⟨a, dx, fs, rfl, ea, hy, q⟩ := h
  cases rx
  obtain ⟨tb, L, nf⟩ := cmp_type (C := C) (M := model X.prog X.w) I ry hy
  obtain ⟨_, O, _⟩ := ins_get I.hok ea
  obtain ⟨_, J, _⟩ := O.look
  obtain ⟨m, hF⟩ := I.fr
  refine cmp_K (op := .Eq) (tb := tb) hr.units0 hF I.ok.mod.kin J L nf hs hf (wpAny_mono (back_bool (R := fun c H' => Q (.bl c) H') F hr I.env0 hb hx I ry q) (fun r s' z => ?_) fun _ _ e => e)
  obtain ⟨c, H', rfl, J, z⟩ := z
  exact ⟨.bl c, H', J, rfl, z⟩
theorem op_neO (F : FnOk X.prog X.w X.K X.mg X.base CX k f fd ps sp) (hr : Room (k + 1) X.A) (hb : Binds X.K fd ps []) (hx : Passes CX X (fun _ _ _ => False)) (hs : findIn X.K (.ref C) "__eq__" = some (some (.ref f))) (hf : isFn X.K (.ref f) = true)
    (hn : findIn X.K (.ref C) "__ne__" = some (some (.builtin "object.__ne__"))) (ho : mroIn X.K C (.type "object") = some true) : OpR X (compareOp .NotEq) (rCmpO C sp true) := by
  intro pins s σ H x y v u Q I rx ry h
  obtain ⟨a, dx, fs, rfl, ea, hy, q⟩ := h
  cases rx
  obtain ⟨tb, L, nf⟩ := cmp_type (C := C) (M := model X.prog X.w) I ry hy
  obtain ⟨_, O, _⟩ := ins_get I.hok ea
  obtain ⟨_, J, _⟩ := O.look
  have hun := hr.units
  refine ne_own (tb := tb) I.kIn J L nf hs hf hn ho (by omega) (wpAny_mono (back_bool (R := fun c H' => Q (.bl (!c)) H') F hr.in1 I.env0.in1 hb hx I ry q) (fun r s' z => ?_) fun _ _ e => e)
  obtain ⟨c, H', rfl, J, z⟩ := z
  exact ⟨c, rfl, .bl (!c), H', J, rfl, z⟩
end
end L2.Mb
set_option maxRecDepth 100000
set_option maxHeartbeats 4000000
namespace L2.Mb
open PySem PySem.Spec PyProof.Rows Mx Evl
/-! ### a list over zip of two lists -/
section
variable {K : W.Frag} {σ : L2.St} {H : Hp} {te : TE}
/-- two lists, one after the other -/
def EvLL (ta : TA) (σ : L2.St) (H : Hp) (xs ys : List V) : Prop := ∀ H1, Ex H H1 → ∀ Q : List V → Hp → Prop, (∀ a b H2, Ex H1 H2 → H2 a = some (.lst xs) → H2 b = some (.lst ys) → Q [.ref a, .ref b] H2) → ta σ H1 Q
theorem ell_cons {ta tb : TE} {xs ys : List V} (h1 : EvL ta σ H xs) (h2 : EvL tb σ H ys) : EvLL (tCons ta (tCons tb tNil)) σ H xs ys := fun H1 e Q q => h1 H1 e _ fun a H2 _ e2 ha => h2 H2 (e.trans e2) _ fun b H3 _ e3 hb => q a b H3 (e2.trans e3) (e3 _ _ ha) hb
theorem el_lcZ {ta : TA} {i j : Nat} {vs : List Nat} {xs ys : List V} (v : Nat → V) (h : EvLL ta σ H xs ys) (hl : xs.length = ys.length) (hz : xs.length ≤ 40000) (hw : ∀ x y, wipe (((wipe σ vs).set i (some x)).set j (some y)) vs = wipe σ vs)
    (he : ∀ (k : Nat) (x y : V) H1, Ex H H1 → xs[k]? = some x → ys[k]? = some y → Ev te (((wipe σ vs).set i (some x)).set j (some y)) H1 (v k)) :
    EvL (tLc (iZip K ta) (gTup K 2 (gCons (gName i) (gCons (gName j) gNil))) tYes te vs) σ H (given xs.length (fun _ => true) v) := fun H0 e Q q => h H0 e _ fun a b H1 e1 ha hb =>
  ⟨a, b, xs, ys, rfl, sq_of ha, sq_of hb, fun Dl hD => lc_it (walk_zip (n := xs.length) (by omega)) (Cw H1 (fun _ => true) v Dl) ⟨hD, Ex.new hD, upd_same⟩ (fun k H' _ p => ⟨sq_of (p.2.1 a _ ha), sq_of (p.2.1 b _ hb)⟩) (fun k x H2 H3 hk p y => by
    obtain ⟨T, x', y', rfl, hT, rfl, f1, f2⟩ := y
    refine ⟨T, [x', y'], rfl, st_of upd_same, rfl, x', [y'], rfl, y', [], rfl, rfl, hw x' y', ?_⟩
    have p2 : Cw H1 (fun _ => true) v Dl k (upd H2 T (.tup [x', y'])) := ⟨p.1, p.2.1.trans (Ex.new hT), by rw [upd_ne (ne_of_none p.2.2 hT)]; exact p.2.2⟩
    exact cw_turn p2 (by omega) (fun H4 _ Q q => q H4 (Ex.refl H4)) (fun _ => he k x' y' H1 (e.trans e1) f1 f2)) (fun H' p => q Dl H' (fresh_back e1 p.1) (e1.trans p.2.1) p.2.2)⟩
end
end L2.Mb
set_option maxRecDepth 100000
set_option maxHeartbeats 4000000
namespace L2.Mb
open PySem PySem.Spec PyProof.Rows Mx
/-! ### o.m(k = v), an own method -/
section
variable {X : Cx} {CX : CXT} {k : Nat} {C f : Addr} {fd : FuncData} {ps ks : List Str} {sp : Sp} {E : XK} {o : Expr} {kws : List Keyword} {m : Str} {pos apos : Pos} {ta : TE} {t : TA} {pl : Sem Bool} {gg : List Value → List Value} {gV : List V → List V}
def tMethK (C : Addr) (m : Str) (sp : Sp) (n : Nat) (gV : List V → List V) (E : XK) (ta : TE) (t : TA) : TE := fun σ H Q => ta σ H fun x H1 => ∃ a dx fs, x = .ref a ∧ H1 a = some (.ins C dx fs) ∧ fs.lookup m = none ∧ t σ H1 fun vs H2 => vs.length = n ∧ sp (.ref a :: gV vs) H2 Q E
theorem pe_methK (he : PE X o ta) (c : Cls X.K C) (hm : Meth X.K C m f) (F : FnOk X.prog X.w X.K X.mg X.base CX k f fd ps sp) (hb : KwB X.K fd ps ks gg gV) (hr : Room k X.A) (hx : Passes CX X E) (ha : PK X kws t)
    (hall : (backToKw pos (keywordEach kws X.env)).all (·.1.isSome) = true := by rfl) (hks : (backToKw pos (keywordEach kws X.env)).filterMap (·.1) = ks := by rfl)
    (hpl : ((backTo pos (starEach [] X.env)).any (·.1) || (backToKw pos (keywordEach kws X.env)).any (·.1.isNone)) = false := by rfl)
    (ht : eval (.Call (.Attribute o m apos) [] kws pos) X.env = (do
      let ov ← eval o X.env
      standAt apos.atName
      let (f, first) ← holding [ov] (getMethod ov m pl)
      callWith pos f first (backTo pos (starEach [] X.env)) (backToKw pos (keywordEach kws X.env))) := by rfl) :
    PE X (.Call (.Attribute o m apos) [] kws pos) (tMethK C m sp ks.length gV E ta t) := by
  refine ⟨fun pins s σ H Q I h => ?_⟩
  refine W.methodCall_KW (pl := pl) (thn (he.run pins s σ H _ I h) fun u s1 ⟨x, H1, I1, rx, a, dx, fs, ex, ea, l, q⟩ => ?_) ht
  subst ex
  obtain rfl : u = Value.ref a := rx
  refine getmeth_ok I1 ea c hm l ?_
  refine W.callWith_of hpl (W.keeps_K hm.kp) (evalArgs_kw2_nil hall (thn (ha.run pos _ s1 σ H1 _ I1 q) fun ws s3 ⟨zs, H2, I3, rz, l2, q2⟩ => ⟨I3.kIn, ?_⟩))
  rw [hks]
  exact wpAny_call (codeAny_mono (F.run X.A X.stack s3 H2 ⟨[.ref a], ks.zip ws⟩ (.ref a :: gg ws) (.ref a :: gV zs) Q E hr I3.env0 (hb.to s3 a ws I3.kIn (rz.length.symm.trans l2)) (.cons rfl (hb.rel rz)) q2) fun r s' hq' => by
    cases r with
    | error e => exact hx _ σ H2 s3 e s' I3 hq'
    | ok fl =>
      cases fl with
      | ret u => exact I3.after hq'
      | next => exact False.elim hq'
      | brk => exact False.elim hq'
      | cont => exact False.elim hq')
end
end L2.Mb
set_option maxRecDepth 100000
set_option maxHeartbeats 4000000
namespace L2.Mb
open PySem PySem.Spec PyProof.Rows Mx
/-! ### f(k = v, ..): an own def by keywords alone -/
section
variable {X : Cx} {CX : CXT} {k : Nat} {f : Addr} {fd : FuncData} {ps ks : List Str} {sp : Sp} {E : XK} {x : Str} {kws : List Keyword} {p pos : Pos} {tk : TA} {g : List Value → List Value → List Value} {gV : List V → List V → List V}
def tCallK0 (sp : Sp) (gV : List V → List V → List V) (E : XK) (tk : TA) : TE := fun σ H Q => tk σ H fun zs H2 => sp (gV [] zs) H2 Q E
theorem pe_callK0 (F : FnOk X.prog X.w X.K X.mg X.base CX k f fd ps sp) (hr : Room k X.A) (hg : Gl X x) (hm : X.mg x = some (.ref f)) (hk : W.keepIn X.K (.ref f) = true) (hb : KBinds X.K fd ps ks g gV) (hx : Passes CX X E) (hkw : PK X kws tk)
    (hall : (backToKw pos (keywordEach kws X.env)).all (·.1.isSome) = true := by rfl) (hks : (backToKw pos (keywordEach kws X.env)).filterMap (·.1) = ks := by rfl) (hdb : (x == ("__debug__" : Str)) = false := by decide)
    (hpl : ((backTo pos (starEach [] X.env)).any (·.1) || (backToKw pos (keywordEach kws X.env)).any (·.1.isNone)) = false := by rfl) : PE X (.Call (.Name x p) [] kws pos) (tCallK0 sp gV E tk) := by
  refine ⟨fun pins s σ H Q I h => ?_⟩
  refine wpAny_Call_Name_kw (ld_glob I hg hm ?_ hdb)
  refine W.callWith_of hpl (W.keeps_K hk) (evalArgs_kw2_nil hall (thn (hkw.run pos pins s σ H _ I h) fun ws s2 ⟨zs, H2, I2, rz, q2⟩ => ⟨I2.kIn, ?_⟩))
  rw [hks]
  exact run_fnk F hr hb hx I2 .nil rz q2
end
end L2.Mb
set_option maxRecDepth 100000
set_option maxHeartbeats 4000000
namespace L2.Mb
open PySem PySem.Spec PyProof.Rows Mx
open PySem.SeqAt PySem.MeetsSeq
/-! ### x != "..": x of any kind -/
theorem strDictN1 (z : Str) (t : Tok) (a : Addr) (c : Value) (es : Array DictEntry) (k : Nat) (dd : Option Addr) (sl : Array (Option Value)) :
    Meets (Builtin.«str.__ne__» ⟨[.str z t, .ref a], []⟩) (fun _ R s => s.heap.get? a = some { cls := c, dict := dd, data := .dict es k, slots := sl } ∧ R (.ok (.ret .notImplemented)) s) := by
  refine .of_wp fun p w A R s q => ?_
  obtain ⟨hp, g, d, tk, os⟩ := s
  obtain ⟨hl, q⟩ := q
  wp_walk using wpAny_loadPart' hl, wpAny_load hl
  exact ⟨_, rfl, q⟩
theorem strDictN2 (z : Str) (t : Tok) (a : Addr) (es : Array DictEntry) (k : Nat) (dd : Option Addr) (sl : Array (Option Value)) :
    Meets (Builtin.«dict.__ne__» ⟨[.ref a, .str z t], []⟩) (fun _ R s => s.heap.get? a = some { cls := .type "dict", dict := dd, data := .dict es k, slots := sl } ∧ R (.ok (.ret .notImplemented)) s) := by
  refine .of_wp fun p w A R s q => ?_
  obtain ⟨hp, g, d, tk, os⟩ := s
  obtain ⟨hl, q⟩ := q
  have f1 := F.sub_str_dict
  wp_walk using wpAny_loadPart' hl, wpAny_load hl
  exact ⟨_, rfl, q⟩
theorem rcNe_dictStr {A : Around} {s : Shared} {a : Addr} {o : Obj} {es : Array DictEntry} {k : Nat} (z : Str) (t : Tok) (ho : s.heap.get? a = some o) (hc : o.cls = .type "dict") (hd : o.data = .dict es k) (hu : A.units < cLine) : RcNeAt A s (.ref a) (.str z t) true := fun prog w E Q h => by
  obtain ⟨oc, dd, data, sl⟩ := o
  simp only at hc hd
  subst hc hd
  exact rc_ne_decline_or (k := false) ⟨_, ho, rfl⟩ (typeIs_str s z t) (by decide) F.sub_str_dict F.slot_dict_ne F.slot_str_ne_refl
    (fun _ q => call_meets F.slot_dict_ne ⟨_, ho, rfl⟩ F.entry_dict_ne (F.args_dict_ne_2 _ _) (strDictN2 z t a es k dd sl) ⟨ho, q⟩)
    (fun _ q => call_meets F.slot_str_ne_refl (typeIs_str s z t) F.entry_str_ne (F.args_str_ne_2 _ _) (strDictN1 z t a (.type "dict") es k dd sl) ⟨ho, q⟩)
    (fun _ q => wpAny_of_eq (rfl : isSame (.ref a) (.str z t) = pure false) q) (.inr hu) h
def isS (x : V) (z : Str) : Bool := match x with
  | .str y => decide (y = z)
  | _ => false
def rNeW : R2 := fun x y H Q => ∃ z : Str, y = .str z ∧ AnyV H x ∧ Q (.bl (!isS x z)) H
theorem op_neW {X : Cx} (hu : X.A.units < cLine) : OpR X (compareOp .NotEq) rNeW := by
  intro pins s σ H x y v u Q I rx ry h
  obtain ⟨z, rfl, hx, q⟩ := h
  have nod : ∀ z2 : Str, x = .str z2 → wpAny (model X.prog X.w) X.A (compareOp .NotEq v u) (EP X pins σ Q) X.xe s := fun z2 e => by
    subst e
    exact op_ne pins s σ H (.str z2) (.str z) v u Q I rx ry ⟨rfl, by
      have e2 : (!decide (V.str z2 = V.str z)) = !isS (.str z2) z := by
        show _ = !decide (z2 = z)
        by_cases h : z2 = z
        · rw [decide_eq_true h, decide_eq_true (congrArg V.str h)]
        · rw [decide_eq_false h, decide_eq_false (fun w => h (V.str.inj w))]
      rw [e2]
      exact q⟩
  cases hx with
  | non => exact op_ne pins s σ H .non (.str z) v u Q I rx ry ⟨rfl, q⟩
  | bl b => exact op_ne pins s σ H (.bl b) (.str z) v u Q I rx ry ⟨rfl, q⟩
  | int n => exact op_ne pins s σ H (.int n) (.str z) v u Q I rx ry ⟨rfl, q⟩
  | str z2 => exact nod z2 rfl
  | lst h =>
    obtain ⟨t, rfl⟩ := ry
    cases rx
    obtain ⟨its2, _, ⟨o2, n2, ho2, hc2, _, hd2⟩, _⟩ := I.list (SqL.of h)
    exact RcNeAt.list_str z t ⟨o2, ho2, hc2, n2, hd2⟩ hu X.prog X.w X.xe _ ⟨.bl _, H, I, rfl, q⟩
  | tup h =>
    obtain ⟨t, rfl⟩ := ry
    cases rx
    obtain ⟨its2, _, ⟨o2, ho2, hc2, n2, hd2⟩, _⟩ := I.tuple (.inl (.inl h))
    exact RcNeAt.tuple_str z t ⟨o2, ho2, hc2, n2, hd2⟩ hu X.prog X.w X.xe _ ⟨.bl _, H, I, rfl, q⟩
  | dct h =>
    obtain ⟨t, rfl⟩ := ry
    cases rx
    obtain ⟨_, ya, vs, ra, o2, es, ep, ho2, hex, hd2, _⟩ := (show ObjOk X.prog X.w H s.heap _ (.dK _) from I.hok _ _ h)
    exact rcNe_dictStr z t ho2 hex.1 hd2 hu X.prog X.w X.xe _ ⟨.bl _, H, I, rfl, q⟩
end L2.Mb
set_option maxRecDepth 100000
set_option maxHeartbeats 4000000
namespace L2.Sr
open PySem PySem.Spec PyProof.Rows L2 StX
/-! ### C(*xs, y): a star ahead of others; C() by a positional promise -/
section
variable {M : Model} {A : Around} {E : Value → Shared → Prop} {s : Shared}
theorem evalArgs_two {f : Value} {x y : Sem Value} {b : Bool} {rest : List (Bool × Sem Value)} {Q : Args → Shared → Prop}
    (h : wpAny M A (spliced ((true, x) :: (b, y) :: rest)) (fun vs s' => Q ⟨vs, []⟩ s') E s) : wpAny M A (evalArgs f true ((true, x) :: (b, y) :: rest) []) Q E s := by
  unfold evalArgs
  show wpAny M A (spliced ((true, x) :: (b, y) :: rest) >>= _) Q E s
  refine wpAny_bind (wpAny_mono h (fun vs s' h' => ?_) fun _ _ x => x)
  refine wpAny_holding ?_
  exact wpAny_bind (wpAny_pure (wpAny_bind (wpAny_pure (wpAny_pure h'))))
theorem callWith_SF {K : PySem.W.Frag} {h₀ : Heap} {f : Value} {first : List Value} {pos p : Pos} {env : Env} {e e2 : Expr} {rest : List Expr} {Q : Value → Shared → Prop} (_X : K.In h₀) (hk : PySem.W.keepIn K f = true)
    (h : wpAny M A (spliced (backTo pos (starEach (.Starred e p :: e2 :: rest) env))) (fun vs s₁ => K.In s₁.heap ∧ wpAny M A (call f (first ++ vs)) Q E s₁) E s)
    (he : starEach (.Starred e p :: e2 :: rest) env = (true, eval e env) :: (false, eval e2 env) :: starEach rest env := by rfl) :
    wpAny M A (callWith pos f first (backTo pos (starEach (.Starred e p :: e2 :: rest) env)) []) Q E s := by
  rw [he] at h ⊢
  exact PySem.W.ks_call rfl (PySem.W.keeps_K hk) (evalArgs_two h)
end
section
variable {X : Cx} {CX : CXT} {k i : Nat} {f C : Addr} {sp : Sp} {E : XK} {x : Str} {e e2 : Expr} {es : List Expr} {te : TE} {t : TA} {p q pos : Pos}
theorem pe_makeS (M : Mk X.K C f) (F : FnR X.prog X.w X.K X.mg X.base CX k f sp) (hr : Room (k + 1) X.A) (hg : Gl X x) (hm : X.mg x = some (.ref C)) (hx : Passes CX X E) (ha : PA X (.Starred e q :: e2 :: es) t) (hdb : (x == ("__debug__" : Str)) = false := by decide)
    (he : starEach (.Starred e q :: e2 :: es) X.env = (true, eval e X.env) :: (false, eval e2 X.env) :: starEach es X.env := by rfl) : PE X (.Call (.Name x p) (.Starred e q :: e2 :: es) [] pos) (tMakeR C sp E t) := by
  refine ⟨fun pins s σ H Q I h => ?_⟩
  refine wpAny_Call_Name_kw (ld_glob I hg hm ?_ hdb)
  refine callWith_SF (h₀ := X.base) I.ok.mod.kin M.kp (thn (ha.run pos pins s σ H _ I h) fun us s1 ⟨vs, H1, I1, r, q⟩ => ⟨I1.kIn, ?_⟩) he
  exact run_makeR M F hr hx I1 r q
theorem pe_makeR0 (M : Mk X.K C f) (F : FnR X.prog X.w X.K X.mg X.base CX k f sp) (hr : Room (k + 1) X.A) (hg : Gl X x) (hm : X.mg x = some (.ref C)) (hx : Passes CX X E) (hdb : (x == ("__debug__" : Str)) = false := by decide) : PE X (.Call (.Name x p) [] [] pos) (tMakeR C sp E tNil) := by
  refine ⟨fun pins s σ H Q I h => ?_⟩
  refine wpAny_Call_Name_kw (ld_glob I hg hm ?_ hdb)
  exact PySem.W.callWith_K0 I.kIn M.kp (run_makeR (us := []) M F hr hx I .nil h)
end
end L2.Sr
set_option maxRecDepth 100000
set_option maxHeartbeats 4000000
namespace L2.Sr
open PySem PySem.Spec PyProof.Rows L2 StX
/-! ### C(*xs) by a positional promise -/
section
variable {X : Cx} {CX : CXT} {k : Nat} {f C : Addr} {sp : Sp} {E : XK} {x : Str} {e : Expr} {te : TE} {p sp_ pos : Pos}
def tMakeS1 (K : W.Frag) (C : Addr) (sp : Sp) (E : XK) (te : TE) : TE := fun σ H Q => te σ H fun y H1 => ∃ a xs, y = V.ref a ∧ (SqT K H1 a xs ∨ SqL K H1 a xs) ∧ ∀ x dx, H1 x = Option.none → H1 dx = Option.none → dx ≠ x →
  sp (V.ref x :: xs) (upd (upd H1 dx (.own x)) x (.ins C dx [])) (fun v H2 => v = .non ∧ Q (.ref x) H2) E
theorem pe_makeS1 (M : Mk X.K C f) (F : FnR X.prog X.w X.K X.mg X.base CX k f sp) (hr : Room (k + 1) X.A) (hg : Gl X x) (hm : X.mg x = some (.ref C)) (hx : Passes CX X E) (he : PE X e te) (hdb : (x == ("__debug__" : Str)) = false := by decide)
    (hst : starEach [.Starred e sp_] X.env = [(true, eval e X.env)] := by rfl) : PE X (.Call (.Name x p) [.Starred e sp_] [] pos) (tMakeS1 X.K C sp E te) := by
  refine ⟨fun pins s σ H Q I h => ?_⟩
  refine wpAny_Call_Name_kw (ld_glob I hg hm ?_ hdb)
  refine PySem.W.callWith_S (h₀ := X.base) I.ok.mod.kin M.kp (thn (he.run pins s σ H _ I h) fun v s1 ⟨y, H1, I1, ry, a, xs, ey, hxs, q⟩ => ?_) hst
  subst ey
  obtain rfl : v = Value.ref a := ry
  exact star_any I1 hxs fun us s2 I2 rv => ⟨I2.kIn, run_makeR M F hr hx I2 rv q⟩
end
theorem pt_never {X : Cx} {e : Expr} : PT X e (fun _ _ _ => False) := ⟨fun _ _ _ _ _ _ h => h.elim⟩
end L2.Sr
set_option maxRecDepth 100000
set_option maxHeartbeats 4000000
namespace L2.M2
open PySem PySem.Spec PyProof.Rows L2 Mx L2.Mb
def top (i : Nat) : Stmt := PySem.Challenge.pw_meetbehind_k12_least_sets_and_blockers.main.body.getD i (.Pass ⟨0, 0, 0, 0⟩)
abbrev FnP (K : W.Frag) (x : Str) (st : Stmt) (f : Addr) (fd : FuncData) : Prop := FunD K x x (defArgs st) (defBody st) (defScope st) [] [] f fd
/-- a def of a class: m its name, q the qualified one -/
abbrev FnC (K : W.Frag) (m q : Str) (st : Stmt) (kws : List (Str × V)) (f : Addr) (fd : FuncData) : Prop := FunD K m q (defArgs st) (defBody st) (defScope st) [] kws f fd
/-- the built-in names that nobody has taken -/
structure Bt (mg : Str → Option Value) : Prop where
  KeyError : mg "KeyError" = none
  LookupError : mg "LookupError" = none
  OverflowError : mg "OverflowError" = none
  ValueError : mg "ValueError" = none
  abs : mg "abs" = none
  any : mg "any" = none
  bool : mg "bool" = none
  enumerate : mg "enumerate" = none
  int : mg "int" = none
  isinstance : mg "isinstance" = none
  len : mg "len" = none
  list : mg "list" = none
  range : mg "range" = none
  repr : mg "repr" = none
  set : mg "set" = none
  sorted : mg "sorted" = none
  sum : mg "sum" = none
  tuple : mg "tuple" = none
abbrev s_InvalidQuestion_init : Stmt := inClass (top 2) 0
abbrev n_InvalidQuestion_init : List Str := ["self", "question"]
abbrev p_InvalidQuestion_init : List Str := ["self", "question"]
theorem sc_InvalidQuestion_init : FnScope n_InvalidQuestion_init p_InvalidQuestion_init (defScope s_InvalidQuestion_init) := ⟨rfl, rfl, rfl, by decide +kernel, rfl, by decide +kernel, by decide +kernel⟩
abbrev s_NoStation_init : Stmt := inClass (top 3) 0
abbrev n_NoStation_init : List Str := ["self", "name"]
abbrev p_NoStation_init : List Str := ["self", "name"]
theorem sc_NoStation_init : FnScope n_NoStation_init p_NoStation_init (defScope s_NoStation_init) := ⟨rfl, rfl, rfl, by decide +kernel, rfl, by decide +kernel, by decide +kernel⟩
abbrev s_TooMany_init : Stmt := inClass (top 4) 0
abbrev n_TooMany_init : List Str := ["self", "limit"]
abbrev p_TooMany_init : List Str := ["self", "limit"]
theorem sc_TooMany_init : FnScope n_TooMany_init p_TooMany_init (defScope s_TooMany_init) := ⟨rfl, rfl, rfl, by decide +kernel, rfl, by decide +kernel, by decide +kernel⟩
abbrev s_least_sets : Stmt := top 7
abbrev n_least_sets : List Str := ["items", "holds", "search", "found", "blocking", "fresh", "mask"]
abbrev p_least_sets : List Str := ["items", "holds"]
theorem sc_least_sets : FnScope n_least_sets p_least_sets (defScope s_least_sets) := ⟨rfl, rfl, rfl, by decide +kernel, rfl, by decide +kernel, by decide +kernel⟩
abbrev s_blockers : Stmt := top 8
abbrev n_blockers : List Str := ["sets", "items", "part", "item", "bits", "at", "blocking", "mask"]
abbrev p_blockers : List Str := ["sets"]
theorem sc_blockers : FnScope n_blockers p_blockers (defScope s_blockers) := ⟨rfl, rfl, rfl, by decide +kernel, rfl, by decide +kernel, by decide +kernel⟩
abbrev s_Search_init : Stmt := inClass (top 9) 0
abbrev n_Search_init : List Str := ["self", "items", "holds"]
abbrev p_Search_init : List Str := ["self", "items", "holds"]
theorem sc_Search_init : FnScope n_Search_init p_Search_init (defScope s_Search_init) := ⟨rfl, rfl, rfl, by decide +kernel, rfl, by decide +kernel, by decide +kernel⟩
abbrev s_Search_members : Stmt := inClass (top 9) 1
abbrev n_Search_members : List Str := ["self", "mask", "at", "item"]
abbrev p_Search_members : List Str := ["self", "mask"]
theorem sc_Search_members : FnScope n_Search_members p_Search_members (defScope s_Search_members) := ⟨rfl, rfl, rfl, by decide +kernel, rfl, by decide +kernel, by decide +kernel⟩
abbrev s_Search_least_outside : Stmt := inClass (top 9) 2
abbrev n_Search_least_outside : List Str := ["self", "masks", "every", "mask"]
abbrev p_Search_least_outside : List Str := ["self", "masks"]
theorem sc_Search_least_outside : FnScope n_Search_least_outside p_Search_least_outside (defScope s_Search_least_outside) := ⟨rfl, rfl, rfl, by decide +kernel, rfl, by decide +kernel, by decide +kernel⟩
abbrev s_Search_lessened : Stmt := inClass (top 9) 3
abbrev n_Search_lessened : List Str := ["self", "mask", "at", "fewer"]
abbrev p_Search_lessened : List Str := ["self", "mask"]
theorem sc_Search_lessened : FnScope n_Search_lessened p_Search_lessened (defScope s_Search_lessened) := ⟨rfl, rfl, rfl, by decide +kernel, rfl, by decide +kernel, by decide +kernel⟩
abbrev s_Search_is_held : Stmt := inClass (top 9) 4
abbrev n_Search_is_held : List Str := ["self", "mask", "holds"]
abbrev p_Search_is_held : List Str := ["self", "mask"]
theorem sc_Search_is_held : FnScope n_Search_is_held p_Search_is_held (defScope s_Search_is_held) := ⟨rfl, rfl, rfl, by decide +kernel, rfl, by decide +kernel, by decide +kernel⟩
abbrev s_meeting_also : Stmt := top 10
abbrev n_meeting_also : List Str := ["masks", "mask", "kept", "one", "bits", "at", "longer", "bit"]
abbrev p_meeting_also : List Str := ["masks", "mask"]
theorem sc_meeting_also : FnScope n_meeting_also p_meeting_also (defScope s_meeting_also) := ⟨rfl, rfl, rfl, by decide +kernel, rfl, by decide +kernel, by decide +kernel⟩
abbrev s_in_order : Stmt := top 11
abbrev n_in_order : List Str := ["parts"]
abbrev p_in_order : List Str := ["parts"]
theorem sc_in_order : FnScope n_in_order p_in_order (defScope s_in_order) := ⟨rfl, rfl, rfl, by decide +kernel, rfl, by decide +kernel, by decide +kernel⟩
abbrev s_law_pen : Stmt := top 13
abbrev n_law_pen : List Str := ["_law_script"]
abbrev p_law_pen : List Str := ["_law_script"]
theorem sc_law_pen : FnScope n_law_pen p_law_pen (defScope s_law_pen) := ⟨rfl, rfl, rfl, by decide +kernel, rfl, by decide +kernel, by decide +kernel⟩
abbrev s_law_draw : Stmt := top 14
abbrev n_law_draw : List Str := ["_law_pen_here", "_law_bound", "_law_digit", "_law_at", "_law_cell", "_law_great", "_law_mixed_here"]
abbrev p_law_draw : List Str := ["_law_pen_here", "_law_bound"]
theorem sc_law_draw : FnScope n_law_draw p_law_draw (defScope s_law_draw) := ⟨rfl, rfl, rfl, by decide +kernel, rfl, by decide +kernel, by decide +kernel⟩
abbrev s_law_things : Stmt := top 15
abbrev n_law_things : List Str := ["_law_pen_here", "_law_many", "_law_letters", "_law_words", "_law_style", "_law_k"]
abbrev p_law_things : List Str := ["_law_pen_here", "_law_many"]
theorem sc_law_things : FnScope n_law_things p_law_things (defScope s_law_things) := ⟨rfl, rfl, rfl, by decide +kernel, rfl, by decide +kernel, by decide +kernel⟩
abbrev s_law_mixed : Stmt := top 16
abbrev n_law_mixed : List Str := ["_law_pen_here", "_law_some", "_law_rest", "_law_k"]
abbrev p_law_mixed : List Str := ["_law_pen_here", "_law_some"]
theorem sc_law_mixed : FnScope n_law_mixed p_law_mixed (defScope s_law_mixed) := ⟨rfl, rfl, rfl, by decide +kernel, rfl, by decide +kernel, by decide +kernel⟩
abbrev s_law_size : Stmt := top 17
abbrev n_law_size : List Str := ["_law_mask", "_law_k"]
abbrev p_law_size : List Str := ["_law_mask"]
theorem sc_law_size : FnScope n_law_size p_law_size (defScope s_law_size) := ⟨rfl, rfl, rfl, by decide +kernel, rfl, by decide +kernel, by decide +kernel⟩
abbrev s_law_seeds : Stmt := top 18
abbrev n_law_seeds : List Str := ["_law_pen_here", "_law_many", "_law_style", "_law_size_here", "_law_mask", "_law_pairs", "_law_k", "_law_lone", "_law_every"]
abbrev p_law_seeds : List Str := ["_law_pen_here", "_law_many"]
theorem sc_law_seeds : FnScope n_law_seeds p_law_seeds (defScope s_law_seeds) := ⟨rfl, rfl, rfl, by decide +kernel, rfl, by decide +kernel, by decide +kernel⟩
abbrev s_law_least : Stmt := top 19
abbrev n_law_least : List Str := ["_law_masks", "_law_found", "_law_size_here", "_law_mask", "_law_one"]
abbrev p_law_least : List Str := ["_law_masks"]
theorem sc_law_least : FnScope n_law_least p_law_least (defScope s_law_least) := ⟨rfl, rfl, rfl, by decide +kernel, rfl, by decide +kernel, by decide +kernel⟩
abbrev s_law_written : Stmt := top 20
abbrev n_law_written : List Str := ["_law_ladder", "_law_masks", "_law_rows", "_law_mask", "_law_row", "_law_k", "_law_size_here"]
abbrev p_law_written : List Str := ["_law_ladder", "_law_masks"]
theorem sc_law_written : FnScope n_law_written p_law_written (defScope s_law_written) := ⟨rfl, rfl, rfl, by decide +kernel, rfl, by decide +kernel, by decide +kernel⟩
abbrev s_law_judge : Stmt := top 21
abbrev n_law_judge : List Str := ["_law_ladder", "_law_seeds_here", "_law_noted", "_law_mask", "_law_k", "_law_found", "_law_seed"]
abbrev p_law_judge : List Str := ["_law_ladder", "_law_seeds_here", "_law_noted"]
theorem sc_law_judge : FnScope n_law_judge p_law_judge (defScope s_law_judge) := ⟨rfl, rfl, rfl, by decide +kernel, rfl, by decide +kernel, by decide +kernel⟩
abbrev s_law_asked_right : Stmt := top 22
abbrev n_law_asked_right : List Str := ["_law_ladder", "_law_noted", "_law_some", "_law_one"]
abbrev p_law_asked_right : List Str := ["_law_ladder", "_law_noted"]
theorem sc_law_asked_right : FnScope n_law_asked_right p_law_asked_right (defScope s_law_asked_right) := ⟨rfl, rfl, rfl, by decide +kernel, rfl, by decide +kernel, by decide +kernel⟩
abbrev s_law_meets : Stmt := top 23
abbrev n_law_meets : List Str := ["_law_one", "_law_masks", "_law_mask"]
abbrev p_law_meets : List Str := ["_law_one", "_law_masks"]
theorem sc_law_meets : FnScope n_law_meets p_law_meets (defScope s_law_meets) := ⟨rfl, rfl, rfl, by decide +kernel, rfl, by decide +kernel, by decide +kernel⟩
abbrev s_law_hit : Stmt := top 24
abbrev n_law_hit : List Str := ["_law_many", "_law_masks", "_law_one"]
abbrev p_law_hit : List Str := ["_law_many", "_law_masks"]
theorem sc_law_hit : FnScope n_law_hit p_law_hit (defScope s_law_hit) := ⟨rfl, rfl, rfl, by decide +kernel, rfl, by decide +kernel, by decide +kernel⟩
abbrev s_law_refused : Stmt := top 25
abbrev n_law_refused : List Str := ["_law_ask", "_law_caught"]
abbrev p_law_refused : List Str := ["_law_ask"]
theorem sc_law_refused : FnScope n_law_refused p_law_refused (defScope s_law_refused) := ⟨rfl, rfl, rfl, by decide +kernel, rfl, by decide +kernel, by decide +kernel⟩
abbrev s_law_right : Stmt := top 26
abbrev n_law_right : List Str := ["_law_pen_here", "_law_many", "_law_things_here", "_law_ladder", "_law_seeds_here", "_law_due", "_law_against", "_law_given", "_law_kept", "_law_noted", "_law_judge_here", "_law_page", "_law_some", "_law_row"]
abbrev p_law_right : List Str := ["_law_pen_here", "_law_many"]
theorem sc_law_right : FnScope n_law_right p_law_right (defScope s_law_right) := ⟨rfl, rfl, rfl, by decide +kernel, rfl, by decide +kernel, by decide +kernel⟩
abbrev s_law : Stmt := top 27
abbrev n_law : List Str := ["_law_script", "_law_pen_here", "_law_turn", "_law_nine", "_law_always", "_law_given", "_law_told"]
abbrev p_law : List Str := ["_law_script"]
theorem sc_law : FnScope n_law p_law (defScope s_law) := ⟨rfl, rfl, rfl, by decide +kernel, rfl, by decide +kernel, by decide +kernel⟩
end L2.M2
set_option maxRecDepth 100000
set_option maxHeartbeats 4000000
namespace L2.Mb
open PySem PySem.Spec PyProof.Rows L2 Evl Mv
/-! ### comprehensions with two fors -/
/-- a source: it gives xs in turn as long as nothing that stands behind its making is changed -/
def EvI (wi : TI) (σ : L2.St) (H : Hp) (xs : List V) : Prop := ∀ H0, Ex H H0 → ∀ R : It → Hp → Prop, (∀ J H1 G, Ex H0 H1 → Walk J xs.length G (YAt xs) → (∀ H', Ex H1 H' → G H') → R J H1) → wi σ H0 R
/-- the same of an old source: it stands as long as the heap H stands -/
def EvO1 (wi : TI) (σ : L2.St) (H : Hp) (xs : List V) : Prop := ∀ H0, Ex H H0 → ∀ R : It → Hp → Prop, (∀ J H1 G, Ex H0 H1 → Walk J xs.length G (YAt xs) → (∀ H', Ex H H' → G H') → R J H1) → wi σ H0 R
section
variable {K : W.Frag} {σ : L2.St} {H : Hp} {tl te : TE} {t t1 : TT} {wi wi1 : TI}
theorem EvO1.ei {xs : List V} (h : EvO1 wi σ H xs) : EvI wi σ H xs := fun H0 e R k => h H0 e R fun J H1 G e1 w g => k J H1 G e1 w fun H' e' => g H' ((e.trans e1).trans e')
theorem eo_list {a : Addr} {xs : List V} (h : Ev tl σ H (.ref a)) (hx : SqL K H a xs) : EvO1 (iList K tl) σ H xs := fun H0 e R k => h H0 e _ fun H1 e1 => ⟨a, rfl, ⟨xs, ex_l (e.trans e1) hx⟩, k _ H1 _ e1 walk_list fun H' e' => ex_l e' hx⟩
theorem eo_tup {a : Addr} {xs : List V} (h : Ev tl σ H (.ref a)) (hx : SqT K H a xs) : EvO1 (iTup K tl) σ H xs := fun H0 e R k => h H0 e _ fun H1 e1 => ⟨a, rfl, ⟨xs, ex_t (e.trans e1) hx⟩, k _ H1 _ e1 walk_tup fun H' e' => ex_t e' hx⟩
theorem ei_new {xs : List V} (h : EvL tl σ H xs) : EvI (iList K tl) σ H xs := fun H0 e R k => h H0 e _ fun a H1 ha e1 hx => ⟨a, rfl, ⟨xs, sq_of hx⟩, k _ H1 _ e1 walk_list fun H' e' => sq_of (e' _ _ hx)⟩
theorem ei_newT {xs : List V} (h : EvU tl σ H xs) : EvI (iTup K tl) σ H xs := fun H0 e R k => h H0 e _ fun a H1 ha e1 hx => ⟨a, rfl, ⟨xs, st_of hx⟩, k _ H1 _ e1 walk_tup fun H' e' => st_of (e' _ _ hx)⟩
/-- one for over any source -/
theorem el_lcI {α : Type} {l : List α} {c : α → V} {j : Nat} {vs : List Nat} (f : α → Bool) (v : α → V) (h : EvI wi σ H (l.map c)) (hz : l.length ≤ 40000) (hw : ∀ x, wipe ((wipe σ vs).set j (some x)) vs = wipe σ vs)
    (ht : ∀ x ∈ l, ∀ H1, Ex H H1 → EvT t ((wipe σ vs).set j (some (c x))) H1 (f x)) (he : ∀ x ∈ l, ∀ H1, Ex H H1 → f x = true → Ev te ((wipe σ vs).set j (some (c x))) H1 (v x)) :
    EvL (tLc wi (gName j) t te vs) σ H ((l.filter f).map v) := fun H0 e Q q => h H0 e _ fun J H1 G e1 w hG D hD => by
  rw [List.length_map] at w
  refine lc_it w (fun i H' => Ex H1 H' ∧ H' D = some (.lst (((l.take i).filter f).map v))) ⟨Ex.new hD, upd_same⟩ (fun i H' _ p => hG H' p.1) (fun i x H2 H' hi p y => ?_) (fun H' p => ?_)
  · obtain ⟨rfl, hx⟩ := y
    rw [List.getElem?_map] at hx
    cases ex : l[i]? with
    | none => rw [ex] at hx; cases hx
    | some a =>
      rw [ex] at hx
      cases hx
      have ha := List.mem_of_getElem? ex
      have et : (l.take (i + 1)).filter f = (l.take i).filter f ++ (if f a then [a] else []) := by
        rw [List.take_add_one, ex, List.filter_append]
        cases hf : f a <;> simp [hf]
      refine ⟨hw _, ?_⟩
      refine ht a ha H1 (e.trans e1) H' p.1 _ fun H3 e3 => ?_
      cases hf : f a with
      | false =>
        show Ex H1 H3 ∧ H3 D = some (.lst (((l.take (i + 1)).filter f).map v))
        refine ⟨p.1.trans e3, ?_⟩
        rw [et, hf]
        simpa using e3 _ _ p.2
      | true =>
        show te _ H3 fun y H4 => ∃ acc, H4 D = some (.lst acc) ∧ acc.length < sizeLine ∧ Ex H1 (upd H4 D (.lst (acc ++ [y]))) ∧ (upd H4 D (.lst (acc ++ [y]))) D = some (.lst (((l.take (i + 1)).filter f).map v))
        refine he a ha H1 (e.trans e1) hf H3 (p.1.trans e3) _ fun H4 e4 => ⟨_, e4 _ _ (e3 _ _ p.2), ?_, Ex.mut ((p.1.trans e3).trans e4) hD, ?_⟩
        · refine sz_lt ?_
          rw [List.length_map]
          have h1 := List.length_filter_le f (l.take i)
          have h2 := List.length_take_le i l
          have : l.length ≤ 40000 := hz
          have h3 : (l.take i).length ≤ l.length := by rw [List.length_take]; omega
          omega
        · rw [upd_same, et, hf, if_pos rfl, List.map_append]
          rfl
  · refine q D H' (fresh_back e1 hD) (e1.trans p.1) ?_
    rw [p.2, List.take_of_length_le (Nat.le_refl _)]
theorem flat_len {α : Type} {l : List α} {g : α → List V} {n : Nat} (h : ∀ x ∈ l, (g x).length ≤ n) : (l.flatMap g).length ≤ n * l.length := by
  induction l with
  | nil => exact Nat.zero_le _
  | cons a r ih =>
    rw [List.flatMap_cons, List.length_append, List.length_cons, Nat.mul_add, Nat.mul_one]
    have h1 := h a List.mem_cons_self
    have h2 := ih fun x hx => h x (List.mem_cons_of_mem _ hx)
    omega
/-- two fors, the second over an old source -/
theorem el_lc2 {α β : Type} {l : List α} {c : α → V} {ys : α → List β} {d : β → V} {j j1 : Nat} {vs vs1 : List Nat} (f : α → Bool) (f1 : α → β → Bool) (v : α → β → V) (h : EvI wi σ H (l.map c)) (hz : l.length ≤ 300) (hz1 : ∀ x ∈ l, (ys x).length ≤ 300)
    (hw : ∀ x, wipe ((wipe σ vs).set j (some x)) vs = wipe σ vs) (hw1 : ∀ x y, wipe ((wipe ((wipe σ vs).set j (some x)) vs1).set j1 (some y)) vs1 = wipe ((wipe σ vs).set j (some x)) vs1)
    (ht : ∀ x ∈ l, ∀ H1, Ex H H1 → EvT t ((wipe σ vs).set j (some (c x))) H1 (f x)) (hi : ∀ x ∈ l, f x = true → EvO1 wi1 ((wipe σ vs).set j (some (c x))) H ((ys x).map d))
    (ht1 : ∀ x ∈ l, ∀ y ∈ ys x, f x = true → ∀ H1, Ex H H1 → EvT t1 ((wipe ((wipe σ vs).set j (some (c x))) vs1).set j1 (some (d y))) H1 (f1 x y))
    (he : ∀ x ∈ l, ∀ y ∈ ys x, f x = true → f1 x y = true → ∀ H1, Ex H H1 → Ev te ((wipe ((wipe σ vs).set j (some (c x))) vs1).set j1 (some (d y))) H1 (v x y)) :
    EvL (tLc2 wi (gName j) t wi1 (gName j1) t1 te vs vs1) σ H ((l.filter f).flatMap fun x => ((ys x).filter (f1 x)).map (v x)) := fun H0 e Q q => h H0 e _ fun J H1 G e1 w hG D hD => by
  rw [List.length_map] at w
  have e01 := e.trans e1
  let part : Nat → List V := fun i => ((l.take i).filter f).flatMap fun x => ((ys x).filter (f1 x)).map (v x)
  let Pv : Nat → Hp → Prop := fun i H' => Ex H1 H' ∧ H' D = some (.lst (part i))
  have plen : ∀ i, (part i).length ≤ 300 * 300 := fun i => by
    refine Nat.le_trans (flat_len (n := 300) fun x hx => ?_) (Nat.mul_le_mul_left 300 ?_)
    · rw [List.length_map]
      exact Nat.le_trans (List.length_filter_le _ _) (hz1 x (List.mem_of_mem_take (List.mem_filter.mp hx).1))
    · refine Nat.le_trans (List.length_filter_le _ _) ?_
      rw [List.length_take]
      omega
  refine ⟨fun i m H' => m = l.length - i ∧ i ≤ l.length ∧ Pv i H', ⟨l.length, by simp, Nat.zero_le _, Ex.new hD, upd_same⟩, ?_⟩
  rintro i m H2 ⟨rfl, hi0, p⟩
  have q0 := hG H2 p.1
  by_cases hlt : i < l.length
  · refine .inr ⟨w.goes i H2 hlt q0, Pv (i + 1), fun H' p' => ⟨l.length - (i + 1), by omega, rfl, hlt, p'⟩, fun x H' y => ?_⟩
    obtain ⟨rfl, hx⟩ := w.yields i H2 x H' hlt q0 y
    rw [List.getElem?_map] at hx
    cases ex : l[i]? with
    | none => rw [ex] at hx; cases hx
    | some a =>
      rw [ex] at hx
      cases hx
      have ha := List.mem_of_getElem? ex
      have et : part (i + 1) = part i ++ (if f a then ((ys a).filter (f1 a)).map (v a) else []) := by
        show ((l.take (i + 1)).filter f).flatMap _ = _
        rw [List.take_add_one, ex, List.filter_append, List.flatMap_append]
        cases hf : f a <;> simp [hf, part]
      refine ⟨hw _, ?_⟩
      refine ht a ha H' (e01.trans p.1) H' (Ex.refl _) _ fun H3 e3 => ?_
      cases hf : f a with
      | false =>
        show Pv (i + 1) H3
        refine ⟨p.1.trans e3, ?_⟩
        rw [et, hf]
        simpa using e3 _ _ p.2
      | true =>
        show wi1 _ H3 _
        refine hi a ha hf H3 ((e01.trans p.1).trans e3) _ fun J1 H4 G1 e4 w1 hG1 => ?_
        rw [List.length_map] at w1
        let P1 : Nat → Hp → Prop := fun k H' => Ex H1 H' ∧ H' D = some (.lst (part i ++ (((ys a).take k).filter (f1 a)).map (v a)))
        have l1 := hz1 a ha
        have al : ∀ k, (part i ++ (((ys a).take k).filter (f1 a)).map (v a)).length < 100000 := fun k => by
          rw [List.length_append, List.length_map]
          have h1 := plen i
          have h2 := List.length_filter_le (f1 a) ((ys a).take k)
          have h3 : ((ys a).take k).length ≤ (ys a).length := by rw [List.length_take]; omega
          omega
        refine ⟨fun k m H' => m = (ys a).length - k ∧ k ≤ (ys a).length ∧ P1 k H', ⟨(ys a).length, by simp, Nat.zero_le _, (p.1.trans e3).trans e4, by simpa using e4 _ _ (e3 _ _ p.2)⟩, ?_⟩
        rintro k m H5 ⟨rfl, hk0, p1⟩
        have q1 := hG1 H5 (e01.trans p1.1)
        by_cases hk : k < (ys a).length
        · refine .inr ⟨w1.goes k H5 hk q1, P1 (k + 1), fun H' p' => ⟨(ys a).length - (k + 1), by omega, rfl, hk, p'⟩, fun x H' y => ?_⟩
          obtain ⟨rfl, hx⟩ := w1.yields k H5 x H' hk q1 y
          rw [List.getElem?_map] at hx
          cases ey : (ys a)[k]? with
          | none => rw [ey] at hx; cases hx
          | some b =>
            rw [ey] at hx
            cases hx
            have hb := List.mem_of_getElem? ey
            have et1 : ((ys a).take (k + 1)).filter (f1 a) = ((ys a).take k).filter (f1 a) ++ (if f1 a b then [b] else []) := by
              rw [List.take_add_one, ey, List.filter_append]
              cases hg : f1 a b <;> simp [hg]
            refine ⟨hw1 _ _, ?_⟩
            refine ht1 a ha b hb hf H' (e01.trans p1.1) H' (Ex.refl _) _ fun H6 e6 => ?_
            cases hg : f1 a b with
            | false =>
              show P1 (k + 1) H6
              refine ⟨p1.1.trans e6, ?_⟩
              rw [et1, hg]
              simpa using e6 _ _ p1.2
            | true =>
              show te _ H6 _
              refine he a ha b hb hf hg H6 ((e01.trans p1.1).trans e6) H6 (Ex.refl _) _ fun H7 e7 => ⟨_, e7 _ _ (e6 _ _ p1.2), sz_lt (al k), Ex.mut ((p1.1.trans e6).trans e7) hD, ?_⟩
              rw [upd_same, et1, hg, if_pos rfl, List.map_append, ← List.append_assoc]
              rfl
        · have ek : k = (ys a).length := by omega
          subst ek
          refine .inl ⟨w1.stops H5 q1, p1.1, ?_⟩
          rw [p1.2, et, hf, if_pos rfl, List.take_of_length_le (Nat.le_refl _)]
  · have ei : i = l.length := by omega
    subst ei
    refine .inl ⟨w.stops H2 q0, q D H2 (fresh_back e1 hD) (e1.trans p.1) ?_⟩
    rw [p.2]
    show some (HO.lst (((l.take l.length).filter f).flatMap _)) = _
    rw [List.take_of_length_le (Nat.le_refl _)]
theorem el_catG {ta tb : TE} {p : Addr} {xs ys : List V} (h1 : Ev ta σ H (.ref p)) (hp : H p = some (.lst xs)) (h2 : EvL tb σ H ys) (hz : xs.length + ys.length ≤ 100000) : EvL (tOp rCat ta tb) σ H (xs ++ ys) := fun H1 e Q q => h1 H1 e _ fun H2 e2 => h2 H2 (e.trans e2) _ fun r H3 nr e3 hr =>
  ⟨p, r, xs, ys, rfl, rfl, e3 _ _ (e2 _ _ (e _ _ hp)), hr, sz_of hz, fun s hs => q s _ (fresh_back (e2.trans e3) hs) ((e2.trans e3).trans (Ex.new hs)) upd_same⟩
end
end L2.Mb
set_option maxRecDepth 100000
namespace L2.C
/-! ### sets of a few things as numbers -/
def Sub (a b : Nat) : Prop := ∀ i, a.testBit i = true → b.testBit i = true
def Meet (a b : Nat) : Prop := ∃ i, a.testBit i = true ∧ b.testBit i = true
theorem Sub.refl (a : Nat) : Sub a a := fun _ h => h
theorem Sub.trans {a b c : Nat} (h : Sub a b) (k : Sub b c) : Sub a c := fun i z => k i (h i z)
theorem Sub.anti {a b : Nat} (h : Sub a b) (k : Sub b a) : a = b := Nat.eq_of_testBit_eq fun i => by
  cases ha : a.testBit i with
  | true => exact (h i ha).symm
  | false =>
    cases hb : b.testBit i with
    | true => rw [← ha, k i hb]
    | false => rfl
theorem sub_and {a b : Nat} : Sub a b ↔ a &&& b = a := by
  constructor
  · intro h
    refine Nat.eq_of_testBit_eq fun i => ?_
    rw [Nat.testBit_and]
    cases ha : a.testBit i with
    | true => rw [h i ha]; rfl
    | false => rfl
  · intro h i ha
    have z := congrArg (fun x => x.testBit i) h
    simp only [Nat.testBit_and, ha, Bool.true_and] at z
    exact z
theorem meet_and {a b : Nat} : Meet a b ↔ a &&& b ≠ 0 := by
  constructor
  · rintro ⟨i, h1, h2⟩ z
    have q := congrArg (fun x => x.testBit i) z
    simp only [Nat.testBit_and, h1, h2, Bool.true_and, Nat.zero_testBit] at q
    cases q
  · intro h
    by_cases z : ∃ i, a.testBit i = true ∧ b.testBit i = true
    · exact z
    · refine absurd (Nat.eq_of_testBit_eq fun i => ?_) h
      rw [Nat.testBit_and, Nat.zero_testBit]
      cases ha : a.testBit i with
      | false => rfl
      | true =>
        cases hb : b.testBit i with
        | false => rfl
        | true => exact absurd ⟨i, ha, hb⟩ z
theorem Meet.comm {a b : Nat} (h : Meet a b) : Meet b a := h.elim fun i z => ⟨i, z.2, z.1⟩
theorem Meet.mono {a b c : Nat} (h : Meet a c) (s : Sub a b) : Meet b c := h.elim fun i z => ⟨i, s i z.1, z.2⟩
theorem Sub.le {a b : Nat} (h : Sub a b) : a ≤ b := by
  rw [← sub_and.mp h]
  exact Nat.and_le_right
theorem sub_or_l (a b : Nat) : Sub a (a ||| b) := fun i h => by rw [Nat.testBit_or, h]; rfl
theorem sub_or_r (a b : Nat) : Sub b (a ||| b) := fun i h => by rw [Nat.testBit_or, h, Bool.or_true]
theorem or_sub {a b c : Nat} (h : Sub a c) (k : Sub b c) : Sub (a ||| b) c := fun i z => by
  rw [Nat.testBit_or, Bool.or_eq_true] at z
  exact z.elim (h i) (k i)
theorem bit_sub {i b : Nat} (h : b.testBit i = true) : Sub (2 ^ i) b := fun j z => by
  rw [Nat.testBit_two_pow] at z
  rw [← of_decide_eq_true z]
  exact h
/-! ### what meets every one of a list, and the least of these -/
def Tr (F : List Nat) (b : Nat) : Prop := ∀ m ∈ F, Meet b m
def MinTr (F : List Nat) (b : Nat) : Prop := Tr F b ∧ ∀ c, Sub c b → Tr F c → c = b
theorem Tr.mono {F : List Nat} {a b : Nat} (h : Tr F a) (s : Sub a b) : Tr F b := fun m hm => (h m hm).mono s
/-- below each number with a property there is a least one with it -/
theorem least_below {T : Nat → Prop} : ∀ b, T b → ∃ d, Sub d b ∧ T d ∧ ∀ c, Sub c d → T c → c = d := by
  intro b
  induction b using Nat.strongRecOn with
  | ind b ih =>
    intro hb
    by_cases z : ∃ c, Sub c b ∧ T c ∧ c ≠ b
    · obtain ⟨c, h1, h2, h3⟩ := z
      obtain ⟨d, k1, k2, k3⟩ := ih c (Nat.lt_of_le_of_ne h1.le h3) h2
      exact ⟨d, k1.trans h1, k2, k3⟩
    · refine ⟨b, Sub.refl b, hb, fun c hc ht => ?_⟩
      by_cases e : c = b
      · exact e
      · exact absurd ⟨c, hc, ht, e⟩ z
theorem minTr_below {F : List Nat} {b : Nat} (h : Tr F b) : ∃ d, Sub d b ∧ MinTr F d := by
  obtain ⟨d, h1, h2, h3⟩ := least_below (T := Tr F) b h
  exact ⟨d, h1, h2, h3⟩
/-- one more to be met -/
def kept (B : List Nat) (m : Nat) : List Nat := B.filter fun b => decide (b &&& m ≠ 0)
def bitsOf (n m : Nat) : List Nat := ((List.range n).filter fun i => m.testBit i).map fun i => 2 ^ i
def longer (n : Nat) (B : List Nat) (m : Nat) : List Nat := (B.filter fun b => !decide (b &&& m ≠ 0)).flatMap fun b => (bitsOf n m).map fun t => b ||| t
def meeting (n : Nat) (B : List Nat) (m : Nat) : List Nat := kept B m ++ (longer n B m).filter fun b => !(kept B m).any fun k => decide (k &&& b = k)
theorem mem_kept {B : List Nat} {m b : Nat} : b ∈ kept B m ↔ b ∈ B ∧ Meet b m := by
  unfold kept
  rw [List.mem_filter, decide_eq_true_eq, meet_and]
theorem mem_bits {n m t : Nat} : t ∈ bitsOf n m ↔ ∃ i, i < n ∧ m.testBit i = true ∧ t = 2 ^ i := by
  unfold bitsOf
  rw [List.mem_map]
  constructor
  · rintro ⟨i, hi, rfl⟩
    obtain ⟨h1, h2⟩ := List.mem_filter.mp hi
    exact ⟨i, List.mem_range.mp h1, h2, rfl⟩
  · rintro ⟨i, h1, h2, rfl⟩
    exact ⟨i, List.mem_filter.mpr ⟨List.mem_range.mpr h1, h2⟩, rfl⟩
theorem mem_longer {n : Nat} {B : List Nat} {m b : Nat} : b ∈ longer n B m ↔ ∃ d i, d ∈ B ∧ ¬ Meet d m ∧ i < n ∧ m.testBit i = true ∧ b = d ||| 2 ^ i := by
  unfold longer
  rw [List.mem_flatMap]
  constructor
  · rintro ⟨d, hd, hb⟩
    obtain ⟨h1, h2⟩ := List.mem_filter.mp hd
    obtain ⟨t, ht, rfl⟩ := List.mem_map.mp hb
    obtain ⟨i, k1, k2, rfl⟩ := mem_bits.mp ht
    refine ⟨d, i, h1, fun z => ?_, k1, k2, rfl⟩
    rw [decide_eq_true (meet_and.mp z)] at h2
    cases h2
  · rintro ⟨d, i, h1, h2, k1, k2, rfl⟩
    refine ⟨d, List.mem_filter.mpr ⟨h1, ?_⟩, List.mem_map.mpr ⟨_, mem_bits.mpr ⟨i, k1, k2, rfl⟩, rfl⟩⟩
    rw [decide_eq_false fun z => h2 (meet_and.mpr z)]
    rfl
theorem mem_meeting {n : Nat} {B : List Nat} {m b : Nat} : b ∈ meeting n B m ↔ b ∈ kept B m ∨ (b ∈ longer n B m ∧ ∀ k ∈ kept B m, ¬ Sub k b) := by
  unfold meeting
  rw [List.mem_append, List.mem_filter]
  refine or_congr Iff.rfl (and_congr Iff.rfl ?_)
  rw [Bool.not_eq_true', List.any_eq_false]
  refine ⟨fun h k hk z => h k hk (decide_eq_true (sub_and.mp z)), fun h k hk z => h k hk (sub_and.mpr (of_decide_eq_true z))⟩
def AllMin (F B : List Nat) : Prop := ∀ b, b ∈ B ↔ MinTr F b
theorem allMin_nil : AllMin [] [0] := fun b => by
  rw [List.mem_singleton]
  constructor
  · rintro rfl
    exact ⟨fun m hm => (by cases hm), fun c hc _ => Nat.le_zero.mp (Sub.le hc)⟩
  · intro h
    exact (h.2 0 (fun i z => (by rw [Nat.zero_testBit] at z; cases z)) fun m hm => (by cases hm)).symm
/-- Berge's step -/
theorem allMin_step {n : Nat} {F B : List Nat} {m : Nat} (hm : m < 2 ^ n) (h : AllMin F B) : AllMin (m :: F) (meeting n B m) := fun b => by
  have bitlt : ∀ {i}, m.testBit i = true → i < n := fun {i} hi => by
    refine Nat.lt_of_not_le fun z => ?_
    rw [Nat.testBit_lt_two_pow (Nat.lt_of_lt_of_le hm (Nat.pow_le_pow_right (by decide) z))] at hi
    cases hi
  have tr1 : ∀ {c}, Tr (m :: F) c → Tr F c ∧ Meet c m := fun {c} z => ⟨fun k hk => z k (List.mem_cons_of_mem _ hk), z m List.mem_cons_self⟩
  have tr2 : ∀ {c}, Tr F c → Meet c m → Tr (m :: F) c := fun {c} z y k hk => by
    rcases List.mem_cons.mp hk with rfl | hk
    · exact y
    · exact z k hk
  rw [mem_meeting]
  constructor
  · rintro (hk | ⟨hl, hf⟩)
    · obtain ⟨h1, h2⟩ := mem_kept.mp hk
      obtain ⟨k1, k2⟩ := (h b).mp h1
      exact ⟨tr2 k1 h2, fun c hc ht => k2 c hc (tr1 ht).1⟩
    · obtain ⟨d, i, hd, hn, hi, hb, rfl⟩ := mem_longer.mp hl
      obtain ⟨d1, d2⟩ := (h d).mp hd
      refine ⟨tr2 (d1.mono (sub_or_l _ _)) ⟨i, sub_or_r _ _ i (by rw [Nat.testBit_two_pow_self]), hb⟩, fun c hc ht => ?_⟩
      obtain ⟨t1, t2⟩ := tr1 ht
      obtain ⟨e, he, hme⟩ := minTr_below t1
      -- the bit i is in c
      have ci : c.testBit i = true := by
        obtain ⟨j, j1, j2⟩ := t2
        have z := hc j j1
        rw [Nat.testBit_or, Bool.or_eq_true] at z
        rcases z with z | z
        · exact absurd ⟨j, z, j2⟩ hn
        · rw [Nat.testBit_two_pow] at z
          rw [of_decide_eq_true z]
          exact j1
      by_cases ei : e.testBit i = true
      · exact absurd (he.trans hc) (hf e (mem_kept.mpr ⟨(h e).mpr hme, ⟨i, ei, hb⟩⟩))
      · have ed : Sub e d := fun j hj => by
          have z := hc j (he j hj)
          rw [Nat.testBit_or, Bool.or_eq_true] at z
          rcases z with z | z
          · exact z
          · rw [Nat.testBit_two_pow] at z
            rw [of_decide_eq_true z] at ei
            exact absurd hj ei
        have e2 := d2 e ed hme.1
        rw [e2] at he
        exact Sub.anti hc (or_sub he (bit_sub ci))
  · rintro ⟨h1, h2⟩
    obtain ⟨t1, t2⟩ := tr1 h1
    obtain ⟨d, hd, hmd⟩ := minTr_below t1
    by_cases z : Meet d m
    · have e := h2 d hd (tr2 hmd.1 z)
      rw [← e]
      exact .inl (mem_kept.mpr ⟨(h d).mpr hmd, z⟩)
    · obtain ⟨i, i1, i2⟩ := t2
      have e : d ||| 2 ^ i = b := h2 _ (or_sub hd (bit_sub i1)) (tr2 (hmd.1.mono (sub_or_l _ _)) ⟨i, sub_or_r _ _ i (by rw [Nat.testBit_two_pow_self]), i2⟩)
      refine .inr ⟨mem_longer.mpr ⟨d, i, (h d).mpr hmd, z, bitlt i2, i2, e.symm⟩, fun k hk hs => ?_⟩
      obtain ⟨k1, k2⟩ := mem_kept.mp hk
      obtain ⟨q1, q2⟩ := (h k).mp k1
      have kb := h2 k hs (tr2 q1 k2)
      subst kb
      have dk := q2 d hd hmd.1
      subst dk
      exact z k2
/-- no one twice -/
theorem nodup_meeting {n : Nat} {B : List Nat} {m : Nat} (h : B.Nodup) : (meeting n B m).Nodup := by
  unfold meeting
  rw [List.nodup_append]
  refine ⟨List.Pairwise.filter _ h, List.Pairwise.filter _ ?_, fun a ha b hb e => ?_⟩
  · unfold longer
    have g : ∀ L : List Nat, L.Nodup → (∀ d ∈ L, ¬ Meet d m) → (L.flatMap fun b => (bitsOf n m).map fun t => b ||| t).Nodup := by
      intro L
      induction L with
      | nil => intro _ _; exact List.nodup_nil
      | cons d L ih =>
        intro hl hd
        obtain ⟨l1, l2⟩ := List.nodup_cons.mp hl
        rw [List.flatMap_cons, List.nodup_append]
        have nd := hd d List.mem_cons_self
        have back : ∀ {d e i j : Nat}, ¬ Meet d m → ¬ Meet e m → m.testBit i = true → m.testBit j = true → d ||| 2 ^ i = e ||| 2 ^ j → i = j ∧ d = e := fun {d e i j} hd he hi hj q => by
          have ij : i = j := by
            have z : (e ||| 2 ^ j).testBit i = true := by
              rw [← q, Nat.testBit_or, Nat.testBit_two_pow_self, Bool.or_true]
            rw [Nat.testBit_or, Bool.or_eq_true] at z
            rcases z with z | z
            · exact absurd ⟨i, z, hi⟩ he
            · rw [Nat.testBit_two_pow] at z
              exact (of_decide_eq_true z).symm
          subst ij
          refine ⟨rfl, Sub.anti (fun k hk => ?_) fun k hk => ?_⟩
          · have z : (e ||| 2 ^ i).testBit k = true := by
              rw [← q, Nat.testBit_or, hk, Bool.true_or]
            rw [Nat.testBit_or, Bool.or_eq_true] at z
            rcases z with z | z
            · exact z
            · rw [Nat.testBit_two_pow] at z
              rw [← of_decide_eq_true z] at hk
              exact absurd ⟨i, hk, hi⟩ hd
          · have z : (d ||| 2 ^ i).testBit k = true := by
              rw [q, Nat.testBit_or, hk, Bool.true_or]
            rw [Nat.testBit_or, Bool.or_eq_true] at z
            rcases z with z | z
            · exact z
            · rw [Nat.testBit_two_pow] at z
              rw [← of_decide_eq_true z] at hk
              exact absurd ⟨i, hk, hi⟩ he
        refine ⟨?_, ih l2 fun e he => hd e (List.mem_cons_of_mem _ he), fun a ha b hb e => ?_⟩
        · unfold bitsOf
          rw [List.map_map]
          refine List.pairwise_map.mpr (List.Pairwise.imp_of_mem (R := fun a b => a ≠ b) ?_ (List.Pairwise.filter _ List.nodup_range))
          intro i j hi hj ne q
          exact ne (back nd nd (List.mem_filter.mp hi).2 (List.mem_filter.mp hj).2 q).1
        · subst e
          obtain ⟨t, ht, rfl⟩ := List.mem_map.mp ha
          obtain ⟨i, _, hi, rfl⟩ := mem_bits.mp ht
          obtain ⟨d2, hd2, hb⟩ := List.mem_flatMap.mp hb
          obtain ⟨t2, ht2, q⟩ := List.mem_map.mp hb
          obtain ⟨j, _, hj, rfl⟩ := mem_bits.mp ht2
          have z := (back nd (hd d2 (List.mem_cons_of_mem _ hd2)) hi hj q.symm).2
          subst z
          exact l1 hd2
    refine g _ (List.Pairwise.filter _ h) fun d hd z => ?_
    have q := (List.mem_filter.mp hd).2
    rw [decide_eq_true (meet_and.mp z)] at q
    cases q
  · subst e
    obtain ⟨_, z⟩ := List.mem_filter.mp hb
    rw [Bool.not_eq_true', List.any_eq_false] at z
    exact z a ha (decide_eq_true (sub_and.mp (Sub.refl a)))
/-! ### what is found, and that nothing is missing -/
def Up (f : Nat → Bool) : Prop := ∀ a b, Sub a b → f a = true → f b = true
def MinF (f : Nat → Bool) (s : Nat) : Prop := f s = true ∧ ∀ c, Sub c s → f c = true → c = s
/-- all is found where no set outside a least blocker has it -/
theorem all_found {n : Nat} {f : Nat → Bool} {F B : List Nat} (up : Up f) (hF : ∀ m ∈ F, MinF f m ∧ m < 2 ^ n) (hB : AllMin F B) (no : ∀ b ∈ B, f ((2 ^ n - 1) &&& ((2 ^ n - 1) ^^^ b)) = false) {s : Nat} (hs : s < 2 ^ n) (h : MinF f s) : s ∈ F := by
  have bt : ∀ i, (2 ^ n - 1).testBit i = decide (i < n) := fun i => Nat.testBit_two_pow_sub_one n i
  have sn : ∀ i, s.testBit i = true → i < n := fun i hi => by
    refine Nat.lt_of_not_le fun z => ?_
    rw [Nat.testBit_lt_two_pow (Nat.lt_of_lt_of_le hs (Nat.pow_le_pow_right (by decide) z))] at hi
    cases hi
  by_cases z : ∃ m, m ∈ F ∧ Sub m s
  · obtain ⟨m, h1, h2⟩ := z
    rw [← h.2 m h2 (hF m h1).1.1]
    exact h1
  · -- what is not in s meets all
    have t : Tr F ((2 ^ n - 1) ^^^ s) ∨ ∃ m ∈ F, ∃ i, n ≤ i ∧ m.testBit i = true := by
      by_cases y : ∃ m ∈ F, ∃ i, n ≤ i ∧ m.testBit i = true
      · exact .inr y
      · refine .inl fun m hm => ?_
        by_cases q : ∃ i, m.testBit i = true ∧ s.testBit i = false
        · obtain ⟨i, q1, q2⟩ := q
          refine ⟨i, ?_, q1⟩
          have il : i < n := Nat.lt_of_not_le fun w => y ⟨m, hm, i, w, q1⟩
          rw [Nat.testBit_xor, bt, decide_eq_true il, q2]
          rfl
        · refine absurd ⟨m, hm, fun i hi => ?_⟩ z
          cases hsi : s.testBit i with
          | true => rfl
          | false => exact absurd ⟨i, hi, hsi⟩ q
    rcases t with t | ⟨m, hm, i, hi, hb⟩
    · obtain ⟨b, h1, h2⟩ := minTr_below t
      have e := no b ((hB b).mpr h2)
      have s2 : Sub s ((2 ^ n - 1) &&& ((2 ^ n - 1) ^^^ b)) := fun i hi => by
        rw [Nat.testBit_and, Nat.testBit_xor, bt, decide_eq_true (sn i hi)]
        cases hbi : b.testBit i with
        | false => rfl
        | true =>
          have q := h1 i hbi
          rw [Nat.testBit_xor, bt, decide_eq_true (sn i hi), hi] at q
          cases q
      rw [up _ _ s2 h.1] at e
      cases e
    · -- a found one has no bit beyond
      rw [Nat.testBit_lt_two_pow (Nat.lt_of_lt_of_le (hF m hm).2 (Nat.pow_le_pow_right (by decide) hi))] at hb
      cases hb
end L2.C
set_option maxRecDepth 100000
set_option maxHeartbeats 4000000
namespace L2.C
open PySem PySem.Spec PyProof.Rows
/-! ### what the program's signs do to masks -/
theorem and_nat (a b : Nat) : Builtin.bitAnd (a : Int) (b : Int) = ((a &&& b : Nat) : Int) := by
  rw [bitAnd_pp (Int.natCast_nonneg a) (Int.natCast_nonneg b)]
  rfl
/-- a without b -/
def less (a b : Nat) : Nat := a - (a &&& b)
theorem and_not_nat (a b : Nat) : Builtin.bitAnd (a : Int) (Builtin.bitNot (b : Int)) = ((less a b : Nat) : Int) := by
  rw [bitAnd_not, and_nat]
  have h : a &&& b ≤ a := Nat.and_le_left
  unfold less
  omega
theorem bit_and (a b i : Nat) : (a &&& b).testBit i = (a.testBit i && b.testBit i) := Nat.testBit_and a b i
theorem less_xor (a b : Nat) : less a b = a ^^^ (a &&& b) := by
  unfold less
  have key : (a ^^^ (a &&& b)) + (a &&& b) = a := by
    have h1 : (a ^^^ (a &&& b)) &&& (a &&& b) = 0 := by
      apply Nat.eq_of_testBit_eq
      intro i
      rw [Nat.testBit_and, Nat.testBit_xor, Nat.testBit_and, Nat.zero_testBit]
      cases a.testBit i <;> cases b.testBit i <;> rfl
    have h2 : (a ^^^ (a &&& b)) ||| (a &&& b) = a := by
      apply Nat.eq_of_testBit_eq
      intro i
      rw [Nat.testBit_or, Nat.testBit_xor, Nat.testBit_and]
      cases a.testBit i <;> cases b.testBit i <;> rfl
    have h3 := nat_or_add_and (a ^^^ (a &&& b)) (a &&& b)
    rw [h1, h2] at h3
    omega
  omega
theorem bit_less (a b i : Nat) : (less a b).testBit i = (a.testBit i && !b.testBit i) := by
  rw [less_xor, Nat.testBit_xor, Nat.testBit_and]
  cases a.testBit i <;> cases b.testBit i <;> rfl
theorem or_nat (a b : Nat) : Builtin.bitOr (a : Int) (b : Int) = ((a ||| b : Nat) : Int) := by
  rw [bitOr_and, and_nat]
  have h := nat_or_add_and a b
  omega
theorem less_zero {a b : Nat} : less a b = 0 ↔ a &&& b = a := by
  unfold less
  have h : a &&& b ≤ a := Nat.and_le_left
  constructor <;> intro z <;> omega
theorem bit_one (m i : Nat) : Builtin.bitAnd ((m : Int) / 2 ^ i) 1 = if m.testBit i then 1 else 0 := by
  have h := Bits.bitAnd_mask (x := (m : Int) / 2 ^ i) 1 (Int.ediv_nonneg (Int.natCast_nonneg m) (Int.le_of_lt (Int.pow_pos (by decide))))
  have e : ((2 : Int) ^ 1 - 1) = 1 := by decide
  rw [e] at h
  rw [h]
  have e2 : ((m : Int) / 2 ^ i) = ((m / 2 ^ i : Nat) : Int) := by
    rw [Int.natCast_ediv]
    norm_cast
  rw [e2]
  rw [Nat.testBit_eq_decide_div_mod_eq]
  have e3 : (((m / 2 ^ i : Nat) : Int) % 2 ^ 1) = ((m / 2 ^ i % 2 : Nat) : Int) := by
    have : (2 : Int) ^ 1 = 2 := by decide
    rw [this]
    omega
  rw [e3]
  have h4 : m / 2 ^ i % 2 = 0 ∨ m / 2 ^ i % 2 = 1 := by omega
  rcases h4 with h4 | h4 <;> rw [h4] <;> rfl
theorem bits_size {m n : Nat} (h : m < 2 ^ n) : bitsOf (Builtin.Int.intBits (m : Int)) m = bitsOf n m := by
  have h1 : m < 2 ^ Builtin.Int.intBits (m : Int) := natAbs_lt_pow_bits (m : Int)
  have h2 : Builtin.Int.intBits (m : Int) ≤ n := intBits_le h
  generalize Builtin.Int.intBits (m : Int) = k at h1 h2
  obtain ⟨d, rfl⟩ := Nat.exists_eq_add_of_le h2
  unfold bitsOf
  have e : (List.range (k + d)).filter (fun i => m.testBit i) = (List.range k).filter fun i => m.testBit i := by
    rw [List.range_add, List.filter_append]
    have : (List.map (fun x => k + x) (List.range d)).filter (fun i => m.testBit i) = [] := by
      rw [List.filter_eq_nil_iff]
      intro x hx
      obtain ⟨y, _, rfl⟩ := List.mem_map.mp hx
      rw [Nat.testBit_lt_two_pow (Nat.lt_of_lt_of_le h1 (Nat.pow_le_pow_right (by decide) (Nat.le_add_right _ _)))]
      decide
    rw [this, List.append_nil]
  rw [e]
end L2.C
set_option maxRecDepth 100000
set_option maxHeartbeats 8000000
namespace L2.M2
open PySem PySem.Spec PyProof.Rows L2 Mx L2.Mb Evl Mv L2.C
/-! ### one set more to be met -/
abbrev nMt : List Str := ["masks", "mask", "kept", "one", "bits", "at", "longer", "bit", "other"]
theorem sc_Mt : FnScope nMt p_meeting_also (defScope s_meeting_also) := ⟨rfl, rfl, rfl, by decide +kernel, rfl, by decide +kernel, by decide +kernel⟩
abbrev natV (n : Nat) : V := .int (n : Int)
def spMt (K : W.Frag) : Sp := fun vs H Q _ => ∃ (a : Addr) (B : List Nat) (m : Nat), vs = [.ref a, natV m] ∧ SqL K H a (B.map natV) ∧ B.length ≤ 256 ∧ m < 2 ^ 8 ∧ ∀ t H', H t = none → Ex H H' → H' t = some (.lst ((meeting 8 B m).map natV)) → Q (.ref t) H'
def tTrI (K : W.Frag) (ta : TE) : TT := fun σ H Q => ta σ H fun x H' => ∃ k, TruV K x H' k ∧ Q k H'
abbrev tAn (a b : TE) : TE := tOp (rI0 fun i j => .int (Builtin.bitAnd i j)) a b
abbrev tOr2 (a b : TE) : TE := tOp (rI0 fun i j => .int (Builtin.bitOr i j)) a b
def rShl1 : R2 := fun x y H Q => ∃ k : Nat, x = .int 1 ∧ y = .int (k : Int) ∧ k ≤ 134217727 ∧ Q (.int (2 ^ k)) H
def rShr : R2 := fun x y H Q => ∃ (i : Int) (k : Nat), x = .int i ∧ y = .int (k : Int) ∧ Q (.int (i / 2 ^ k)) H
abbrev tNo (a : TE) : TE := tUn (rU fun i => .int (Builtin.bitNot i)) a
section
variable {X : Cx} {a : Expr} {ta : TE}
theorem op_shl1 : OpR X (binaryOp .LShift) rShl1 := op_oneShl
theorem op_shr1 : OpR X (binaryOp .RShift) rShr := op_shrN
theorem pt_tru (ha : PE X a ta) (he : ∀ whole, isTrue a X.env whole = (do let v ← whole; standAt a.pos; holding [v] (truthy v))) : PT X a (tTrI X.K ta) := pt_truth ha he
end
section
variable {K : W.Frag} {σ : L2.St} {H : Hp} {ta tb te : TE} {t : TT}
theorem et_tru {x : V} {b : Bool} (h : Ev te σ H x) (hb : ∀ H', TruV K x H' b) : EvT (tTrI K te) σ H b := fun H1 e Q q => h H1 e _ fun H2 e2 => ⟨b, hb H2, q H2 e2⟩
theorem ev_anyN {bs : List Bool} (ha : EvL ta σ H (bs.map V.bl)) : Ev (tCB (rAny K) (tCons ta tNil)) σ H (.bl (bs.any id)) := fun H1 e Q q => ha H1 e _ fun p H2 hp e2 h2 => ⟨p, bs, rfl, sq_of h2, q H2 e2⟩
theorem tru_nat {n : Nat} {H' : Hp} : TruV K (natV n) H' (decide (n ≠ 0)) := by
  show decide (n ≠ 0) = ((n : Int) != 0)
  cases n with
  | zero => rfl
  | succ n => 
    have : ((n + 1 : Nat) : Int) ≠ 0 := by omega
    rw [bne_iff_ne.mpr this]
    rfl
end
section
variable {K : W.Frag} {σ : L2.St} {H : Hp} {ta tb te tl : TE} {t : TT}
theorem ev_an {a b : Nat} (ha : Ev ta σ H (natV a)) (hb : Ev tb σ H (natV b)) : Ev (tAn ta tb) σ H (natV (a &&& b)) := ev_is (ev_op ha hb rv_I0) (congrArg V.int (and_nat a b))
theorem ev_or2 {a b : Nat} (ha : Ev ta σ H (natV a)) (hb : Ev tb σ H (natV b)) : Ev (tOr2 ta tb) σ H (natV (a ||| b)) := ev_is (ev_op ha hb rv_I0) (congrArg V.int (or_nat a b))
theorem ru_not {i : Int} : RU (rU fun i => .int (Builtin.bitNot i)) (.int i) H (.int (Builtin.bitNot i)) := fun H1 _ _ q => ⟨i, rfl, q H1 (Ex.refl H1)⟩
theorem ev_anNo {a b : Nat} (ha : Ev ta σ H (natV a)) (hb : Ev tb σ H (natV b)) : Ev (tAn ta (tNo tb)) σ H (natV (less a b)) := ev_is (ev_op ha (ev_un hb ru_not) rv_I0) (congrArg V.int (and_not_nat a b))
theorem et_nat {n : Nat} (h : Ev te σ H (natV n)) : EvT (tTrI K te) σ H (decide (n ≠ 0)) := et_tru h fun _ => tru_nat
theorem ev_at {m i : Nat} (ha : Ev ta σ H (natV m)) (hb : Ev tb σ H (natV i)) : Ev (tAn (tOp rShr ta tb) (tC (.int 1))) σ H (natV (if m.testBit i then 1 else 0)) := by
  refine ev_is (ev_op (ev_op ha hb (z := .int ((m : Int) / 2 ^ i)) (fun H1 _ _ q => ⟨_, i, rfl, rfl, q H1 (Ex.refl H1)⟩)) ev_c rv_I0) ?_
  rw [bit_one]
  cases m.testBit i <;> rfl
theorem et_at {m i : Nat} (ha : Ev ta σ H (natV m)) (hb : Ev tb σ H (natV i)) : EvT (tTrI K (tAn (tOp rShr ta tb) (tC (.int 1)))) σ H (m.testBit i) := et_is (et_nat (ev_at ha hb)) (by cases m.testBit i <;> rfl)
theorem ev_shl1 {i : Nat} (hb : Ev tb σ H (natV i)) (hi : i ≤ 1000) : Ev (tOp rShl1 (tC (.int 1)) tb) σ H (natV (2 ^ i)) := by
  refine ev_op ev_c hb fun H1 _ _ q => ⟨i, rfl, rfl, by omega, ?_⟩
  have e : natV (2 ^ i) = .int (2 ^ i) := by
    show V.int ((2 ^ i : Nat) : Int) = _
    rw [Int.natCast_pow]
    rfl
  rw [← e]
  exact q H1 (Ex.refl H1)
theorem ev_bitl {m : Nat} (ha : Ev ta σ H (natV m)) : Ev (tBits ta) σ H (natV (Builtin.Int.intBits (m : Int))) := fun H1 e Q q => ha H1 e _ fun H2 e2 => ⟨_, rfl, q H2 e2⟩
theorem et_yes : EvT tYes σ H true := fun H1 _ _ q => q H1 (Ex.refl H1)
end
section
variable {P : Program} {w : World} {K : W.Frag} {mg : Str → Option Value} {base : Heap} {f : Addr} {fd : FuncData}
theorem ok_meeting (B : Bt mg) (F : FnP K "_meeting_also" s_meeting_also f fd) : FnOk P w K mg base CX0 1 f fd p_meeting_also (spMt K) := by
  refine F.ok sc_Mt (fun vs H Q E h => ?_) (fun cdv A outer s H vs Q E hr h => ?_)
  · obtain ⟨a, B, m, rfl, _⟩ := h
    rfl
  · obtain ⟨a, Bs, m, rfl, ha, hB, hm, k⟩ := h
    have nd := sc_Mt.nd
    have hu := hr.units
    refine ⟨_, PSs.nox (pss_cons (ps_set (i := 2) nd rfl (Or.inr rfl) (pe_lc (own := [("one", 3)]) (g := gName 3) (tt := tTrI K (tAn (tVar 3) (tVar 1))) (te := tVar 3) (by rfl) nd (pi_list (pv 0)) (blkOk_by (N := nMt) (sc := defScope s_meeting_also) (by decide +kernel)) (fun _ _ _ _ _ => pg_name (i := 3) nd rfl (Or.inl rfl))
          (fun _ _ _ _ _ => pts_one (pt_tru (pe_op op_and (pv 3) (pv 1)) (fun _ => rfl))) (fun _ _ _ _ _ => pv 3)))
      (pss_cons (ps_set (i := 4) nd rfl (Or.inr rfl) (pe_lc (own := [("at", 5)]) (g := gName 5) (tt := tTrI K (tAn (tOp rShr (tVar 1) (tVar 5)) (tC (.int 1)))) (te := tOp rShl1 (tC (.int 1)) (tVar 5)) (by rfl) nd (pi_range1 (by rfl) B.range (pa_cons (pe_bits (pv 1)) pa_nil)) (blkOk_by (N := nMt) (sc := defScope s_meeting_also) (by decide +kernel)) (fun _ _ _ _ _ => pg_name (i := 5) nd rfl (Or.inl rfl))
          (fun _ _ _ _ _ => pts_one (pt_tru (pe_op op_and (pe_op op_shr1 (pv 1) (pv 5)) pe_int) (fun _ => rfl))) (fun _ _ _ _ _ => pe_op op_shl1 pe_int (pv 5))))
      (pss_cons (ps_setLc2 (i := 6) (own := [("one", 3), ("bit", 7)]) (vs1 := [7]) (g := gName 3) (g1 := gName 7) (tt := tNot (tTrI K (tAn (tVar 3) (tVar 1)))) (wi1 := iList K (tVar 4)) (tt1 := tYes) (te := tOr2 (tVar 3) (tVar 7)) (by rfl) nd rfl rfl (sw_true rfl rfl rfl (by decide +kernel)) (pi_list (pv 0)) (blkOk_by (N := nMt) (sc := defScope s_meeting_also) (by decide +kernel)) (by decide) (fun _ _ _ _ _ => pg_name (i := 3) nd rfl (Or.inl rfl))
          (fun _ _ _ _ _ => pts_one (pt_not (pt_tru (pe_op op_and (pv 3) (pv 1)) (fun _ => rfl)))) (fun _ _ _ _ _ => pi_list (pv 4)) (fun _ _ _ _ _ => pg_name (i := 7) nd rfl (Or.inl rfl)) (fun _ _ _ _ _ => pts_nil) (fun _ _ _ _ _ => pe_op op_or (pv 3) (pv 7)))
      (pss_one (ps_ret (pe_op op_cat (pv 2) (pe_lc (own := [("one", 3)]) (g := gName 3) (tt := tNot (tB (tCB (rAny K) (tCons (tLc (iList K (tVar 2)) (gName 8) tYes (tOp rEq (tAn (tVar 8) (tNo (tVar 3))) (tC (.int 0))) [8]) tNil)))) (te := tVar 3) (by rfl) nd (pi_list (pv 6)) (blkOk_by (N := nMt) (sc := defScope s_meeting_also) (by decide +kernel)) (fun _ _ _ _ _ => pg_name (i := 3) nd rfl (Or.inr rfl))
          (fun _ _ _ _ _ => pts_one (pt_not (pt_val (pe_callB (cr_any (by rfl)) (by rfl) B.any (by decide +kernel) (pa_cons (pe_lc (own := [("other", 8)]) (g := gName 8) (tt := tYes) (te := tOp rEq (tAn (tVar 8) (tNo (tVar 3))) (tC (.int 0))) (by rfl) nd (pi_list (pv 2)) (blkOk_by (N := nMt) (by rfl)) (fun _ _ _ _ _ => pg_name (i := 8) nd rfl (Or.inl rfl)) (fun _ _ _ _ _ => pts_nil) (fun _ _ _ _ _ => pe_cmpR op_eq (pe_op op_and (pv 8) (pe_un un_inv (pv 3))) pe_int (nomark _))) pa_nil))))) (fun _ _ _ _ _ => pv 3)))))))), ?_⟩
    have w1 := el_lcI (wi := iList K (tVar 0)) (σ := [some (.ref a), some (natV m), none, none, none, none, none, none, none]) (H := H) (t := tTrI K (tAn (tVar 3) (tVar 1))) (te := tVar 3) (l := Bs) (c := natV) (j := 3) (vs := [3]) (fun b => decide (b &&& m ≠ 0)) natV (eo_list (ev_var rfl) ha).ei (by omega) (fun _ => rfl)
      (fun x hx H1 e => et_nat (ev_an (ev_var rfl) (ev_var rfl))) (fun x hx H1 e _ => ev_var rfl)
    refine q_asgL w1 fun kp H1 n1 e1 h1 => ?_
    have lb : Builtin.Int.intBits (m : Int) ≤ 8 := intBits_le hm
    have w2 := el_lcR1 (ta := tCons (tBits (tVar 1)) tNil) (σ := [some (.ref a), some (natV m), some (.ref kp), none, none, none, none, none, none]) (H := H1) (t := tTrI K (tAn (tOp rShr (tVar 1) (tVar 5)) (tC (.int 1)))) (te := tOp rShl1 (tC (.int 1)) (tVar 5)) (j := 5) (vs := [5]) (n := ((Builtin.Int.intBits (m : Int) : Nat) : Int)) (fun i => m.testBit i) (fun i => natV (2 ^ i)) (ea_cons (ev_bitl (ev_var rfl)) ea_nil) (by omega) (fun _ => rfl)
      (fun i H2 e hi => et_at (ev_var rfl) (ev_var rfl)) (fun i H2 e hi _ => ev_shl1 (ev_var rfl) (by omega))
    rw [Int.toNat_natCast] at w2
    have eb : given (Builtin.Int.intBits (m : Int)) (fun i => m.testBit i) (fun i => natV (2 ^ i)) = (bitsOf 8 m).map natV := by
      rw [← bits_size hm]
      unfold given bitsOf
      rw [List.map_map]
      rfl
    rw [eb] at w2
    refine q_asgL w2 fun bp H2 n2 e2 h2 => ?_
    have lbits : (bitsOf 8 m).length ≤ 8 := by
      unfold bitsOf
      rw [List.length_map]
      exact List.length_filter_le _ _
    have w3 := el_lc2 (wi := iList K (tVar 0)) (wi1 := iList K (tVar 4)) (σ := [some (.ref a), some (natV m), some (.ref kp), none, some (.ref bp), none, none, none, none]) (H := H2) (t := tNot (tTrI K (tAn (tVar 3) (tVar 1)))) (t1 := tYes) (te := tOr2 (tVar 3) (tVar 7)) (l := Bs) (c := natV) (ys := fun _ => bitsOf 8 m) (d := natV) (j := 3) (j1 := 7) (vs := [3, 7]) (vs1 := [7])
      (fun b => !decide (b &&& m ≠ 0)) (fun _ _ => true) (fun b t => natV (b ||| t)) (eo_list (ev_var rfl) (ex_l (e1.trans e2) ha)).ei (by omega) (fun _ _ => by omega) (fun _ => rfl) (fun _ _ => rfl)
      (fun x hx H1 e => et_not (et_nat (ev_an (ev_var rfl) (ev_var rfl)))) (fun x hx _ => eo_list (ev_var rfl) (sq_of h2)) (fun x _ y _ _ H1 e => et_yes) (fun x _ y _ _ _ H1 e => ev_or2 (ev_var rfl) (ev_var rfl))
    have el : ((Bs.filter fun b => !decide (b &&& m ≠ 0)).flatMap fun x => ((bitsOf 8 m).filter fun _ => true).map fun t => natV (x ||| t)) = (longer 8 Bs m).map natV := by
      unfold longer
      rw [List.map_flatMap]
      have e0 : ((bitsOf 8 m).filter fun _ => true) = bitsOf 8 m := List.filter_eq_self.mpr fun _ _ => rfl
      rw [e0]
      congr 1
      funext x
      rw [List.map_map]
      rfl
    rw [el] at w3
    refine q_asgL w3 fun lp H3 n3 e3 h3 => ?_
    have llong : (longer 8 Bs m).length ≤ 2048 := by
      have h := flat_len (n := 8) (l := Bs.filter fun b => !decide (b &&& m ≠ 0)) (g := fun x => (bitsOf 8 m).map fun t => natV (x ||| t)) (fun x _ => by rw [List.length_map]; exact lbits)
      have h5 := List.length_filter_le (fun b => !decide (b &&& m ≠ 0)) Bs
      have : ((Bs.filter fun b => !decide (b &&& m ≠ 0)).flatMap fun x => (bitsOf 8 m).map fun t => natV (x ||| t)).length = (longer 8 Bs m).length := by
        have e0 : ((bitsOf 8 m).filter fun _ => true) = bitsOf 8 m := List.filter_eq_self.mpr fun _ _ => rfl
        rw [← List.length_map (f := natV) (as := longer 8 Bs m), ← el, e0]
      omega
    have lkept : (kept Bs m).length ≤ 256 := Nat.le_trans (List.length_filter_le _ _) hB
    have lk2 : (List.filter (fun b => decide (b &&& m ≠ 0)) Bs).length ≤ 256 := lkept
    have w4 := el_lcI (wi := iList K (tVar 6)) (σ := [some (.ref a), some (natV m), some (.ref kp), none, some (.ref bp), none, some (.ref lp), none, none]) (H := H3) (t := tNot (tB (tCB (rAny K) (tCons (tLc (iList K (tVar 2)) (gName 8) tYes (tOp rEq (tAn (tVar 8) (tNo (tVar 3))) (tC (.int 0))) [8]) tNil)))) (te := tVar 3) (l := longer 8 Bs m) (c := natV) (j := 3) (vs := [3]) (fun b => !(kept Bs m).any fun k => decide (k &&& b = k)) natV (eo_list (ev_var rfl) (sq_of h3)).ei (by omega) (fun _ => rfl)
      (fun x hx H4 e => by
        have w5 := el_lcI (wi := iList K (tVar 2)) (σ := [some (.ref a), some (natV m), some (.ref kp), some (natV x), some (.ref bp), none, some (.ref lp), none, none]) (H := H4) (t := tYes) (te := tOp rEq (tAn (tVar 8) (tNo (tVar 3))) (tC (.int 0))) (l := kept Bs m) (c := natV) (j := 8) (vs := [8]) (fun _ => true) (fun k => .bl (decide (k &&& x = k))) (eo_list (ev_var rfl) (sq_of (e _ _ (e3 _ _ (e2 _ _ h1))))).ei (by omega) (fun _ => rfl)
          (fun y hy H5 e5 => et_yes) (fun y hy H5 e5 _ => ev_is (ev_op (ev_anNo (ev_var rfl) (ev_var rfl)) ev_c (rv_eq rfl)) (by
            congr 1
            refine decide_eq_decide.mpr ?_
            rw [← less_zero]
            constructor
            · intro z
              have : ((less y x : Nat) : Int) = 0 := V.int.inj z
              omega
            · intro z
              show V.int ((less y x : Nat) : Int) = .int 0
              rw [z]
              rfl))
        have e0 : ((kept Bs m).filter fun _ => true) = kept Bs m := List.filter_eq_self.mpr fun _ _ => rfl
        rw [e0] at w5
        have e9 : ((kept Bs m).map fun k => V.bl (decide (k &&& x = k))) = ((kept Bs m).map fun k => decide (k &&& x = k)).map V.bl := by
          rw [List.map_map]
          rfl
        rw [e9] at w5
        refine et_not (et_is (et_B (ev_anyN w5)) ?_)
        rw [List.any_map]
        rfl) (fun x hx H1 e _ => ev_var rfl)
    have lfin : ((longer 8 Bs m).filter fun b => !(kept Bs m).any fun k => decide (k &&& b = k)).length ≤ 2048 := Nat.le_trans (List.length_filter_le _ _) llong
    refine s_retL (el_catG (p := kp) (ev_var rfl) (e3 _ _ (e2 _ _ h1)) w4 (by rw [List.length_map, List.length_map]; omega)) fun t H5 n5 e5 h5 => ?_
    refine k t H5 (fresh_back ((e1.trans e2).trans e3) n5) (((e1.trans e2).trans e3).trans e5) ?_
    rw [h5]
    unfold meeting
    exact congrArg (fun l => some (HO.lst l)) List.map_append.symm
end
end L2.M2
set_option maxRecDepth 100000
set_option maxHeartbeats 4000000
namespace L2.Sr
open PySem PySem.Spec PyProof.Rows L2 Srt SrtO
/-! ### the order of keys -/
def ltK : Key → Key → Bool
  | .inl a, .inl b => decide (a < b)
  | .inr x, .inr y => decide (x.cps.toList < y.cps.toList)
  | .inl _, .inr _ => true
  | .inr _, .inl _ => false
def isT : Key → Bool
  | .inl _ => false
  | .inr _ => true
/-- a strict order in which any two different things stand one ahead of the other -/
structure Lin {α : Type} (lt : α → α → Bool) : Prop where
  irr : ∀ x, lt x x = false
  tr : ∀ x y z, lt x y = true → lt y z = true → lt x z = true
  tot : ∀ x y, x ≠ y → lt x y = true ∨ lt y x = true
namespace Lin
variable {α : Type} {lt : α → α → Bool}
theorem asym (L : Lin lt) {x y : α} (h : lt x y = true) : lt y x = false := by
  cases e : lt y x with
  | false => rfl
  | true => exact (L.irr x).symm.trans (L.tr _ _ _ h e) |>.symm
theorem eq_of (L : Lin lt) {x y : α} (h1 : lt x y = false) (h2 : lt y x = false) : x = y := by
  by_cases e : x = y
  · exact e
  · rcases L.tot x y e with z | z
    · rw [h1] at z; cases z
    · rw [h2] at z; cases z
theorem swo (L : Lin lt) : Swo lt := ⟨fun x y h => L.asym h, fun x y z h1 h2 => by
  cases e : lt z x with
  | false => rfl
  | true =>
    by_cases q : x = y
    · subst q
      rw [h2] at e
      cases e
    · rcases L.tot x y q with w | w
      · rw [L.tr _ _ _ e w] at h2
        cases h2
      · rw [h1] at w
        cases w⟩
/-- rows in order with the same items are equal -/
theorem uniq (L : Lin lt) : ∀ {l m : List α}, Srtd lt l → Srtd lt m → l.Perm m → l = m
  | [], m, _, _, p => (List.nil_perm.mp p).symm
  | x :: l, [], _, _, p => by
    have := p.length_eq
    simp at this
  | x :: l, y :: m, h1, h2, p => by
    have e : x = y := by
      have a : lt y x = false := by
        rcases List.mem_cons.mp (p.symm.subset (List.mem_cons_self (a := y) (l := m))) with z | z
        · rw [z]; exact L.irr _
        · exact srtd_head h1 y z
      have b : lt x y = false := by
        rcases List.mem_cons.mp (p.subset (List.mem_cons_self (a := x) (l := l))) with z | z
        · rw [z]; exact L.irr _
        · exact srtd_head h2 x z
      exact L.eq_of b a
    subst e
    rw [L.uniq (List.pairwise_cons.mp h1).2 (List.pairwise_cons.mp h2).2 (List.Perm.cons_inv p)]
end Lin
/-- the order of tuples -/
def lexG {α : Type} [DecidableEq α] (lt : α → α → Bool) : List α → List α → Bool
  | [], [] => false
  | [], _ :: _ => true
  | _ :: _, [] => false
  | x :: xs, y :: ys => if x = y then lexG lt xs ys else lt x y
theorem lexG_cons {α : Type} [DecidableEq α] {lt : α → α → Bool} (x y : α) (xs ys : List α) : lexG lt (x :: xs) (y :: ys) = if x = y then lexG lt xs ys else lt x y := rfl
theorem lin_lex {α : Type} [DecidableEq α] {lt : α → α → Bool} (L : Lin lt) : Lin (lexG lt) where
  irr := fun l => by
    induction l with
    | nil => rfl
    | cons x l ih => rw [lexG_cons, if_pos rfl]; exact ih
  tr := fun l => by
    induction l with
    | nil =>
      intro m n h1 h2
      cases n with
      | nil => cases m <;> cases h2
      | cons z n => rfl
    | cons x l ih =>
      intro m n h1 h2
      cases m with
      | nil => cases h1
      | cons y m =>
        cases n with
        | nil => cases h2
        | cons z n =>
          rw [lexG_cons] at h1 h2 ⊢
          by_cases e : x = y
          · subst e
            rw [if_pos rfl] at h1
            by_cases e2 : x = z
            · rw [if_pos e2] at h2 ⊢
              exact ih _ _ h1 h2
            · rw [if_neg e2] at h2 ⊢
              exact h2
          · rw [if_neg e] at h1
            by_cases e2 : y = z
            · subst e2
              rw [if_neg e]
              exact h1
            · rw [if_neg e2] at h2
              have h3 := L.tr _ _ _ h1 h2
              by_cases e3 : x = z
              · subst e3
                rw [L.irr] at h3
                cases h3
              · rw [if_neg e3]
                exact h3
  tot := fun l => by
    induction l with
    | nil =>
      intro m h
      cases m with
      | nil => exact absurd rfl h
      | cons y m => exact .inl rfl
    | cons x l ih =>
      intro m h
      cases m with
      | nil => exact .inr rfl
      | cons y m =>
        rw [lexG_cons, lexG_cons]
        by_cases e : x = y
        · subst e
          rw [if_pos rfl, if_pos rfl]
          exact ih m fun z => h (by rw [z])
        · rw [if_neg e, if_neg (Ne.symm e)]
          exact L.tot x y e
theorem cps_inj {x y : Str} (h : x.cps.toList = y.cps.toList) : x = y := by
  obtain ⟨a⟩ := x
  obtain ⟨b⟩ := y
  have h : a.toList = b.toList := h
  rw [Array.toList_inj.mp h]
theorem lin_K : Lin ltK where
  irr := fun x => by
    cases x with
    | inl a => exact decide_eq_false (Int.lt_irrefl a)
    | inr x => exact decide_eq_false (List.lt_irrefl _)
  tr := fun x y z h1 h2 => by
    cases x with
    | inl a =>
      cases z with
      | inr c => rfl
      | inl c =>
        cases y with
        | inr b => cases h2
        | inl b =>
          have h1 := of_decide_eq_true (show decide (a < b) = true from h1)
          have h2 := of_decide_eq_true (show decide (b < c) = true from h2)
          exact decide_eq_true (Int.lt_trans h1 h2)
    | inr a =>
      cases y with
      | inl b => cases h1
      | inr b =>
        cases z with
        | inl c => cases h2
        | inr c =>
          have h1 := of_decide_eq_true (show decide (a.cps.toList < b.cps.toList) = true from h1)
          have h2 := of_decide_eq_true (show decide (b.cps.toList < c.cps.toList) = true from h2)
          exact decide_eq_true (List.lt_trans h1 h2)
  tot := fun x y h => by
    cases x with
    | inl a =>
      cases y with
      | inr b => exact .inl rfl
      | inl b =>
        have e : a ≠ b := fun z => h (by rw [z])
        rcases Int.lt_or_gt_of_ne e with z | z
        · exact .inl (decide_eq_true z)
        · exact .inr (decide_eq_true z)
    | inr a =>
      cases y with
      | inl b => exact .inr rfl
      | inr b =>
        by_cases z : a.cps.toList < b.cps.toList
        · exact .inl (decide_eq_true z)
        · by_cases w : b.cps.toList < a.cps.toList
          · exact .inr (decide_eq_true w)
          · exact absurd (congrArg Sum.inr (cps_inj (List.le_antisymm (List.not_lt.mp w) (List.not_lt.mp z)))) h
/-- an item of a key: a number or a text, or a tuple of such -/
inductive Dt where
  | k (x : Key)
  | t (l : List Key)
  deriving DecidableEq
def ltD : Dt → Dt → Bool
  | .k x, .k y => ltK x y
  | .t l, .t m => lexG ltK l m
  | .k _, .t _ => true
  | .t _, .k _ => false
theorem lin_D : Lin ltD where
  irr := fun x => by
    cases x with
    | k x => exact lin_K.irr x
    | t l => exact (lin_lex lin_K).irr l
  tr := fun x y z h1 h2 => by
    cases x with
    | k a =>
      cases z with
      | t c => rfl
      | k c =>
        cases y with
        | t b => cases h2
        | k b => exact lin_K.tr a b c h1 h2
    | t a =>
      cases y with
      | k b => cases h1
      | t b =>
        cases z with
        | k c => cases h2
        | t c => exact (lin_lex lin_K).tr a b c h1 h2
  tot := fun x y h => by
    cases x with
    | k a =>
      cases y with
      | t b => exact .inl rfl
      | k b => exact lin_K.tot a b fun z => h (by rw [z])
    | t a =>
      cases y with
      | k b => exact .inr rfl
      | t b => exact (lin_lex lin_K).tot a b fun z => h (by rw [z])
end L2.Sr
set_option maxRecDepth 100000
set_option maxHeartbeats 4000000
namespace L2.Sr
open PySem PySem.Spec PyProof.Rows L2 Srt SrtO
/-! ### two keys compared by the sort -/
theorem eqAt_key (A : Around) (s : Shared) {k l : Key} {u v : Value} (h1 : keyIs k u = true) (h2 : keyIs l v = true) : SeqAt.EqAt A s u v (decide (k = l)) := by
  rcases keyIs_shape h1 with ⟨a, t, rfl, rfl⟩ | ⟨x, t, rfl, rfl⟩
  · rcases keyIs_shape h2 with ⟨b, u, rfl, rfl⟩ | ⟨y, u, rfl, rfl⟩
    · rw [key_ll]
      exact SeqAt.EqAt.int_int a t b u
    · rw [key_lr]
      exact SeqAt.EqAt.int_str a t y u
  · rcases keyIs_shape h2 with ⟨b, u, rfl, rfl⟩ | ⟨y, u, rfl, rfl⟩
    · rw [key_rl]
      exact SeqAt.EqAt.str_int x t b u
    · rw [key_rr]
      have z := SeqAt.EqAt.str_str (A := A) (s := s) x t y u
      rw [show (x == y) = decide (x = y) from by
        cases e : decide (x = y) with
        | true => rw [of_decide_eq_true e]; simp
        | false =>
          have n : x ≠ y := of_decide_eq_false e
          simpa using n] at z
      exact z
theorem rcLt_key (A : Around) (s : Shared) {k l : Key} {u v : Value} (h1 : keyIs k u = true) (h2 : keyIs l v = true) (hc : isT k = isT l) (prog : Program) (w : World) (E : Value → Shared → Prop) (Q : Value → Shared → Prop) (h : Q (.bool (ltK k l)) s) :
    wpAny (model prog w) A (richCompare .Lt u v) Q E s := by
  rcases keyIs_shape h1 with ⟨a, t, rfl, rfl⟩ | ⟨x, t, rfl, rfl⟩
  · rcases keyIs_shape h2 with ⟨b, u, rfl, rfl⟩ | ⟨y, u, rfl, rfl⟩
    · exact HT.rcLt_int A s a t b u prog w E Q h
    · cases hc
  · rcases keyIs_shape h2 with ⟨b, u, rfl, rfl⟩ | ⟨y, u, rfl, rfl⟩
    · cases hc
    · exact DT.rcLt_str A s x t y u prog w E Q h
/-- keys in a tuple -/
inductive KeysAre : List Value → List Key → Prop
  | nil : KeysAre [] []
  | cons {v : Value} {k : Key} {vs : List Value} {ks : List Key} : keyIs k v = true → KeysAre vs ks → KeysAre (v :: vs) (k :: ks)
theorem KeysAre.length {vs : List Value} {ks : List Key} (h : KeysAre vs ks) : vs.length = ks.length := by
  induction h with
  | nil => rfl
  | cons _ _ ih => rw [List.length_cons, List.length_cons, ih]
/-- at each place numbers alone, or texts alone -/
def fitK (p : Nat → Bool) (l : List Key) : Prop := ∀ i x, l[i]? = some x → isT x = p i
theorem fitK.tail {p : Nat → Bool} {x : Key} {l : List Key} (h : fitK p (x :: l)) : fitK (fun i => p (i + 1)) l := fun i y e => h (i + 1) y (by rw [List.getElem?_cons_succ]; exact e)
theorem fitK.head {p : Nat → Bool} {x : Key} {l : List Key} (h : fitK p (x :: l)) : isT x = p 0 := h 0 x rfl
section
open PySem.SeqAt
open PySem.AutoSeq1 (wpAny_loadPart')
open PySem.MeetsSeq PySem.MeetsSeq2 PySem.MeetsSeq3
theorem tuple_lt_keys (l b : Addr) (items items2 : Array Value) (n n2 : Nat) (dd dd2 : Option Addr) (sl sl2 : Array (Option Value)) (ns ms : List Key) (p0 : Nat → Bool) (hi : KeysAre items.toList ns) (hj : KeysAre items2.toList ms) (f1 : fitK p0 ns) (f2' : fitK p0 ms) :
    Meets (Builtin.«tuple.__lt__» ⟨[.ref l, .ref b], []⟩)
      (fun _ R s => s.heap.get? l = some { cls := .type "tuple", dict := dd, data := .seq items n, slots := sl } ∧ s.heap.get? b = some { cls := .type "tuple", dict := dd2, data := .seq items2 n2, slots := sl2 } ∧
        R (.ok (.ret (.bool (lexG ltK ns ms)))) s) :=
  .of_wp fun prog w A R s h => by
    obtain ⟨hp, g, d, tk, os⟩ := s; obtain ⟨hl, hb, h⟩ := h
    have f2 := AutoSeq1.sub_tuple_tuple
    have z1 : items.size = ns.length := by rw [← hi.length]; simp
    have z2 : items2.size = ms.length := by rw [← hj.length]; simp
    wp_walk using wpAny_loadPart' hl, wpAny_loadPart' hb, wpAny_forIn_list _ (fun rest b s' => b.1 = none ∧ s' = ⟨hp, g, d, tk, os⟩ ∧ ∃ (vs ws : List Value) (ns' ms' : List Key) (p' : Nat → Bool), rest = vs.zip ws ∧
      KeysAre vs ns' ∧ KeysAre ws ms' ∧ fitK p' ns' ∧ fitK p' ms' ∧ ns'.length + items2.size = ms'.length + items.size ∧ R (.ok (.ret (.bool (lexG ltK ns' ms')))) ⟨hp, g, d, tk, os⟩) _
    case turn =>
      rintro ⟨y, x⟩ rest b s' ⟨hb', rfl, vs, ws, ns', ms', p', hz, hvi, hwi, g1, g2, hlen, hR⟩
      cases hvi with
      | nil => rw [List.zip_nil_left] at hz; cases hz
      | @cons v a vs' ks' ha hvi' =>
        cases hwi with
        | nil => rw [List.zip_nil_right] at hz; cases hz
        | @cons u c ws' ls' hc hwi' =>
          rw [List.zip_cons_cons] at hz
          injection hz with hyx hrest
          injection hyx with hy hx
          subst hy hx
          rw [lexG_cons] at hR
          simp only [List.length_cons] at hlen
          have he := eqAt_key A.in1 ⟨hp, g, d, tk, os⟩ ha hc
          refine wpAny_bind (he prog w _ _ ?_)
          cases e : decide (a = c) with
          | true =>
            rw [if_pos (of_decide_eq_true e)] at hR
            wp_walk
            exact ⟨rfl, rfl, _, _, _, _, _, hrest, hvi', hwi', g1.tail, g2.tail, by omega, hR⟩
          | false =>
            rw [if_neg (of_decide_eq_false e)] at hR
            have hri := rcLt_key A.in1 ⟨hp, g, d, tk, os⟩ ha hc (g1.head.trans g2.head.symm) prog w
            wp_walk using hri
            exact ⟨_, rfl, by simpa using hR⟩
    case fin =>
      rintro ⟨b1, b2⟩ s' ⟨hb', rfl, vs, ws, ns', ms', p', hz, hvi, hwi, _, _, hlen, hR⟩
      simp only at hb'
      subst hb'
      have hv : lexG ltK ns' ms' = decide (items.size < items2.size) := by
        cases hvi with
        | nil =>
          cases hwi with
          | nil =>
            simp only [List.length_nil] at hlen
            show false = _
            exact (decide_eq_false (by omega)).symm
          | cons hc hw =>
            simp only [List.length_nil, List.length_cons] at hlen
            show true = _
            exact (decide_eq_true (by omega)).symm
        | cons ha hv =>
          cases hwi with
          | nil =>
            simp only [List.length_nil, List.length_cons] at hlen
            show false = _
            exact (decide_eq_false (by omega)).symm
          | cons hc hw =>
            rw [List.zip_cons_cons] at hz
            cases hz
      rw [hv] at hR
      wp_walk
      exact ⟨_, rfl, by simpa [Builtin.Tuple.tupleCompareSizes] using hR⟩
    case h =>
      exact ⟨rfl, rfl, items.toList, items2.toList, ns, ms, p0, rfl, hi, hj, f1, f2', by omega, h⟩
end
section
variable {prog : Program} {w : World} {A : Around} {E : Value → Shared → Prop} {s : Shared}
theorem lt_tupKeys {l b : Addr} {items items2 : Array Value} {ns ms : List Key} {p : Nat → Bool} {Q : Value → Shared → Prop} (hl : IsTup s.heap l items) (hb : IsTup s.heap b items2) (hi : KeysAre items.toList ns) (hj : KeysAre items2.toList ms) (f1 : fitK p ns) (f2 : fitK p ms)
    (hu : A.units < cLine) (h : Q (.bool (lexG ltK ns ms)) s) : wpAny (model prog w) A (compareOp .Lt (.ref l) (.ref b)) Q E s := by
  obtain ⟨⟨cls, dd, data, sl⟩, ho, hc, n, hd⟩ := id hl
  obtain ⟨⟨cls2, dd2, data2, sl2⟩, ho2, hc2, n2, hd2⟩ := id hb
  simp only at hc hd hc2 hd2
  subst hc hd hc2 hd2
  exact richCompare_meets_room (op := .Lt) ⟨_, ho, rfl⟩ ⟨_, ho2, rfl⟩ PySem.F.slot_tuple_lt PySem.F.entry_tuple_lt (PySem.F.args_tuple_lt_2 _ _) (tuple_lt_keys l b items items2 n n2 dd dd2 sl sl2 ns ms p hi hj f1 f2)
    ⟨ho, ho2, show Value.bool (lexG ltK ns ms) ≠ Value.notImplemented ∧ Q (.bool (lexG ltK ns ms)) s from ⟨(fun x => nomatch x), h⟩⟩ hu
end
/-! ### items of keys: numbers, texts, tuples of such -/
def RD (h : Heap) : Value → Dt → Prop
  | u, .k x => keyIs x u = true
  | u, .t l => ∃ (a : Addr) (its : Array Value), u = .ref a ∧ IsTup h a its ∧ KeysAre its.toList l
/-- what may stand at a place: a number, a text, a tuple whose places are told -/
inductive Pt where
  | i | s
  | t (p : Nat → Bool)
def fitD : Pt → Dt → Prop
  | .i, .k x => isT x = false
  | .s, .k x => isT x = true
  | .t p, .t l => fitK p l
  | _, _ => False
def fits (p : Nat → Pt) (l : List Dt) : Prop := ∀ i d, l[i]? = some d → fitD (p i) d
theorem fits.tail {p : Nat → Pt} {x : Dt} {l : List Dt} (h : fits p (x :: l)) : fits (fun i => p (i + 1)) l := fun i y e => h (i + 1) y (by rw [List.getElem?_cons_succ]; exact e)
theorem fits.head {p : Nat → Pt} {x : Dt} {l : List Dt} (h : fits p (x :: l)) : fitD (p 0) x := h 0 x rfl
theorem keysAre_items {prog : Program} {w : World} : ∀ {vs : List Value} {ks : List Key}, KeysAre vs ks → ItemsAre (mixKind prog w) ks vs
  | _, _, .nil => .nil
  | _, _, .cons h r => .cons h (keysAre_items r)
section
variable {prog : Program} {w : World} {A : Around} {E : Value → Shared → Prop} {s : Shared}
theorem eqBool_D {u v : Value} {d e : Dt} {Q : Bool → Shared → Prop} (hu : A.units < cLine) (h1 : RD s.heap u d) (h2 : RD s.heap v e) {p : Pt} (f1 : fitD p d) (f2 : fitD p e) (h : Q (decide (d = e)) s) : wpAny (model prog w) A (eqBool u v) Q E s := by
  cases d with
  | k x =>
    cases e with
    | k y =>
      refine eqAt_key A s h1 h2 prog w E Q ?_
      rw [show decide (x = y) = decide (Dt.k x = Dt.k y) from by
        by_cases z : x = y
        · rw [z, decide_eq_true rfl, decide_eq_true rfl]
        · rw [decide_eq_false z, decide_eq_false fun q => z (by cases q; rfl)]]
      exact h
    | t m => cases p <;> first | exact f2.elim | exact f1.elim
  | t l =>
    cases e with
    | k y => cases p <;> first | exact f2.elim | exact f1.elim
    | t m =>
      obtain ⟨a, its, rfl, ⟨o, ho, hc, n, hd⟩, ka⟩ := h1
      obtain ⟨b, its2, rfl, ⟨o2, ho2, hc2, n2, hd2⟩, kb⟩ := h2
      refine wpAny_eqBool_tuple (knd := mixKind prog w) (x := l) (y := m) hu ⟨o, its, n, ho, hc, hd, keysAre_items ka⟩ ⟨o2, its2, n2, ho2, hc2, hd2, keysAre_items kb⟩ ?_
      rw [show decide (l = m) = decide (Dt.t l = Dt.t m) from by
        by_cases z : l = m
        · rw [z, decide_eq_true rfl, decide_eq_true rfl]
        · rw [decide_eq_false z, decide_eq_false fun q => z (by cases q; rfl)]]
      exact h
theorem lt_D {u v : Value} {d e : Dt} {Q : Bool → Shared → Prop} (hu : A.units < cLine) (h1 : RD s.heap u d) (h2 : RD s.heap v e) {p : Pt} (f1 : fitD p d) (f2 : fitD p e) (h : Q (ltD d e) s) : wpAny (model prog w) A (compareOp .Lt u v) (PySem.W.BoolBack Q) E s := by
  cases d with
  | k x =>
    cases e with
    | k y =>
      refine rcLt_key A s h1 h2 ?_ prog w E (PySem.W.BoolBack Q) h
      cases p with
      | i => exact (show isT x = false from f1).trans (show isT y = false from f2).symm
      | s => exact (show isT x = true from f1).trans (show isT y = true from f2).symm
      | t p => exact f1.elim
    | t m => cases p <;> first | exact f2.elim | exact f1.elim
  | t l =>
    cases e with
    | k y => cases p <;> first | exact f2.elim | exact f1.elim
    | t m =>
      obtain ⟨a, its, rfl, ta, ka⟩ := h1
      obtain ⟨b, its2, rfl, tb, kb⟩ := h2
      cases p with
      | i => exact f1.elim
      | s => exact f1.elim
      | t p => exact lt_tupKeys ta tb ka kb f1 f2 hu h
/-- the sort's own comparison of two first items -/
theorem oneLt_D (c : Bool) {u v : Value} {d e : Dt} {Q : Bool → Shared → Prop} (hu : A.units < cLine) (h1 : RD s.heap u d) (h2 : RD s.heap v e) {p : Pt} (f1 : fitD p d) (f2 : fitD p e) (hc : c = true → ∀ q, p ≠ .t q) (h : Q (ltD d e) s) : wpAny (model prog w) A (oneLt' c u v) Q E s := by
  cases c with
  | false => exact PySem.W.kat_one u v (lt_D hu h1 h2 f1 f2 h)
  | true =>
    cases p with
    | t q => exact absurd rfl (hc rfl q)
    | i =>
      cases d with
      | t l => exact f1.elim
      | k x =>
        cases e with
        | t m => exact f2.elim
        | k y =>
          cases x with
          | inr x => cases (show true = false from f1)
          | inl x =>
            cases y with
            | inr y => cases (show true = false from f2)
            | inl y =>
              rcases keyIs_shape (show keyIs _ _ = true from h1) with ⟨a, t, e1, rfl⟩ | ⟨_, _, e1, _⟩
              · cases e1
                rcases keyIs_shape (show keyIs _ _ = true from h2) with ⟨b, t2, e2, rfl⟩ | ⟨_, _, e2, _⟩
                · cases e2
                  exact oneLt_int h
                · cases e2
              · cases e1
    | s =>
      cases d with
      | t l => exact f1.elim
      | k x =>
        cases e with
        | t m => exact f2.elim
        | k y =>
          cases x with
          | inl x => cases (show false = true from f1)
          | inr x =>
            cases y with
            | inl y => cases (show false = true from f2)
            | inr y =>
              rcases keyIs_shape (show keyIs _ _ = true from h1) with ⟨_, _, e1, _⟩ | ⟨a, t, e1, rfl⟩
              · cases e1
              · cases e1
                rcases keyIs_shape (show keyIs _ _ = true from h2) with ⟨_, _, e2, _⟩ | ⟨b, t2, e2, rfl⟩
                · cases e2
                · cases e2
                  exact oneLt_str h
inductive DsAre (h : Heap) : List Value → List Dt → Prop
  | nil : DsAre h [] []
  | cons {v : Value} {d : Dt} {vs : List Value} {ds : List Dt} : RD h v d → DsAre h vs ds → DsAre h (v :: vs) (d :: ds)
theorem DsAre.length {h : Heap} {vs : List Value} {ks : List Dt} (x : DsAre h vs ks) : vs.length = ks.length := by
  induction x with
  | nil => rfl
  | cons _ _ ih => rw [List.length_cons, List.length_cons, ih]
/-- two tuples, item by item -/
theorem kat_D {b : Bool} {Q : Bool → Shared → Prop} (hu : A.units < cLine) {fin : Bool} : ∀ {xs ys : List Value} {ds es : List Dt} {p : Nat → Pt} {i : Nat}, DsAre s.heap xs ds → DsAre s.heap ys es → fits p ds → fits p es → (b = true → i = 0 → ∀ q, p 0 ≠ .t q) →
    (fin = decide (ds.length < es.length)) → Q (lexG ltD ds es) s → PySem.W.KatLex prog w A b fin Q (xs.zip ys) i s
  | [], ys, ds, es, p, i, h1, h2, _, _, _, hf, h => by
    cases h1
    rw [List.zip_nil_left]
    refine PySem.W.kat_nil ?_
    rw [hf]
    cases h2 with
    | nil => exact h
    | cons _ _ => exact h
  | x :: xs, [], ds, es, p, i, h1, h2, _, _, _, hf, h => by
    cases h2
    rw [List.zip_nil_right]
    refine PySem.W.kat_nil ?_
    rw [hf]
    cases h1 with
    | cons _ _ => exact h
  | x :: xs, y :: ys, ds, es, p, i, h1, h2, g1, g2, hc, hf, h => by
    cases h1 with
    | @cons _ d _ ds' hd r1 =>
      cases h2 with
      | @cons _ e _ es' he r2 =>
        rw [List.zip_cons_cons]
        refine PySem.W.kat_cons (eqBool_D hu hd he g1.head g2.head ?_)
        rw [lexG_cons] at h
        refine PySem.W.kat_go (fun e1 => ?_) (fun e1 => ?_)
        · rw [if_pos (of_decide_eq_true e1)] at h
          refine PySem.W.kat_yes (kat_D hu r1 r2 g1.tail g2.tail (fun _ z => by cases z) ?_ h)
          rw [hf, List.length_cons, List.length_cons]
          exact decide_eq_decide.mpr (by omega)
        · rw [if_neg (of_decide_eq_false e1)] at h
          refine PySem.W.kat_no (oneLt_D _ hu hd he g1.head g2.head (fun z => ?_) h)
          rw [Bool.and_eq_true] at z
          exact hc z.1 (by simpa using z.2)
end
end L2.Sr
set_option maxRecDepth 100000
set_option maxHeartbeats 4000000
namespace L2.Sr
open PySem PySem.Spec PyProof.Rows L2 Srt SrtO
/-! ### whole keys: a number, a text, a tuple of items -/
inductive KD where
  | a (x : Key)
  | l (ds : List Dt)
  deriving DecidableEq
def ltKD : KD → KD → Bool
  | .a x, .a y => ltK x y
  | .l d, .l e => lexG ltD d e
  | .a _, .l _ => true
  | .l _, .a _ => false
theorem lin_KD : Lin ltKD where
  irr := fun x => by
    cases x with
    | a x => exact lin_K.irr x
    | l d => exact (lin_lex lin_D).irr d
  tr := fun x y z h1 h2 => by
    cases x with
    | a x =>
      cases z with
      | l c => rfl
      | a c =>
        cases y with
        | l b => cases h2
        | a b => exact lin_K.tr x b c h1 h2
    | l x =>
      cases y with
      | a b => cases h1
      | l b =>
        cases z with
        | a c => cases h2
        | l c => exact (lin_lex lin_D).tr x b c h1 h2
  tot := fun x y h => by
    cases x with
    | a x =>
      cases y with
      | l b => exact .inl rfl
      | a b => exact lin_K.tot x b fun z => h (by rw [z])
    | l x =>
      cases y with
      | a b => exact .inr rfl
      | l b => exact (lin_lex lin_D).tot x b fun z => h (by rw [z])
/-- what all keys of a sort look like -/
inductive Shp where
  | a (t : Bool)
  | l (p : Nat → Pt)
def fitS : Shp → KD → Prop
  | .a t, .a x => isT x = t
  | .l p, .l ds => ds ≠ [] ∧ fits p ds
  | _, _ => False
def RV (h : Heap) : Value → KD → Prop
  | u, .a x => keyIs x u = true
  | u, .l ds => ∃ (a : Addr) (its : Array Value), u = .ref a ∧ IsTup h a its ∧ DsAre h its.toList ds
section
variable {prog : Program} {w : World} {A : Around} {E : Value → Shared → Prop} {s : Shared}
theorem ints_all : ∀ {vs : List Value} {k : Value → KD}, (∀ v ∈ vs, RV s.heap v (k v) ∧ fitS (.a false) (k v)) → ∃ ns, IntsAre vs ns
  | [], _, _ => ⟨[], .nil⟩
  | v :: vs, k, h => by
    obtain ⟨ns, r⟩ := ints_all (vs := vs) (k := k) fun u hu => h u (List.mem_cons_of_mem _ hu)
    obtain ⟨h1, h2⟩ := h v List.mem_cons_self
    cases e : k v with
    | l ds => rw [e] at h2; exact h2.elim
    | a x =>
      rw [e] at h1 h2
      rcases keyIs_shape (show keyIs x v = true from h1) with ⟨i, t, rfl, rfl⟩ | ⟨y, t, rfl, rfl⟩
      · exact ⟨i :: ns, .cons i t r⟩
      · cases (show true = false from h2)
theorem strs_all : ∀ {vs : List Value} {k : Value → KD}, (∀ v ∈ vs, RV s.heap v (k v) ∧ fitS (.a true) (k v)) → ∃ ns, StrsAre vs ns
  | [], _, _ => ⟨[], .nil⟩
  | v :: vs, k, h => by
    obtain ⟨ns, r⟩ := strs_all (vs := vs) (k := k) fun u hu => h u (List.mem_cons_of_mem _ hu)
    obtain ⟨h1, h2⟩ := h v List.mem_cons_self
    cases e : k v with
    | l ds => rw [e] at h2; exact h2.elim
    | a x =>
      rw [e] at h1 h2
      rcases keyIs_shape (show keyIs x v = true from h1) with ⟨i, t, rfl, rfl⟩ | ⟨y, t, rfl, rfl⟩
      · cases (show false = true from h2)
      · exact ⟨y :: ns, .cons y t r⟩
/-- the first items of tuples -/
theorem firsts_all : ∀ {vs : List Value} {k : Value → KD} {p : Nat → Pt}, (∀ v ∈ vs, RV s.heap v (k v) ∧ fitS (.l p) (k v)) → ∃ fs : List Value, PySem.W.KatTups s.heap vs fs ∧ fs.length = vs.length ∧ ∀ f ∈ fs, ∃ d, RD s.heap f d ∧ fitD (p 0) d
  | [], _, _, _ => ⟨[], PySem.W.KatTups.nil, rfl, fun f hf => by cases hf⟩
  | v :: vs, k, p, h => by
    obtain ⟨fs, r, hl, hi⟩ := firsts_all (vs := vs) (k := k) (p := p) fun u hu => h u (List.mem_cons_of_mem _ hu)
    obtain ⟨h1, h2⟩ := h v List.mem_cons_self
    cases e : k v with
    | a x => rw [e] at h2; exact h2.elim
    | l ds =>
      rw [e] at h1 h2
      obtain ⟨a, its, rfl, ⟨o, ho, hc, n, hd⟩, da⟩ := h1
      obtain ⟨ne, ft⟩ := h2
      cases hds : ds with
      | nil => exact absurd hds ne
      | cons d ds' =>
        rw [hds] at da ft
        obtain ⟨l0⟩ := its
        have da : DsAre s.heap l0 (d :: ds') := da
        cases da with
        | @cons f _ fr _ hf hr =>
          refine ⟨f :: fs, PySem.W.KatTups.cons ho hc hd rfl r, congrArg Nat.succ hl, fun g hg => ?_⟩
          rcases List.mem_cons.mp hg with z | z
          · rw [z]
            exact ⟨d, hf, ft.head⟩
          · exact hi g z
theorem looks_tup {f : Value} {d : Dt} {q : Nat → Bool} (h : RD s.heap f d) (g : fitD (.t q) d) : PySem.W.Looks (model prog w) s.heap (typeOf f) (Value.type "tuple") := by
  cases d with
  | k x => exact g.elim
  | t l =>
    obtain ⟨a, its, rfl, ⟨o, ho, hc, _⟩, _⟩ := h
    have z : PySem.W.Looks (model prog w) s.heap (typeOf (.ref a)) o.cls := (PySem.W.Looks.ld ho).andThen .now
    rw [hc] at z
    exact z
theorem looks_int {f : Value} {d : Dt} (h : RD s.heap f d) (g : fitD .i d) : PySem.W.Looks (model prog w) s.heap (typeOf f) (Value.type "int") := by
  cases d with
  | t l => exact g.elim
  | k x =>
    rcases keyIs_shape (show keyIs x f = true from h) with ⟨i, t, rfl, rfl⟩ | ⟨y, t, rfl, rfl⟩
    · exact PySem.W.Looks.now
    · cases (show true = false from g)
theorem looks_str {f : Value} {d : Dt} (h : RD s.heap f d) (g : fitD .s d) : PySem.W.Looks (model prog w) s.heap (typeOf f) (Value.type "str") := by
  cases d with
  | t l => exact g.elim
  | k x =>
    rcases keyIs_shape (show keyIs x f = true from h) with ⟨i, t, rfl, rfl⟩ | ⟨y, t, rfl, rfl⟩
    · cases (show false = true from g)
    · exact PySem.W.Looks.now
/-- such keys can be sorted -/
theorem sortable {vs : List Value} {k : Value → KD} {sh : Shp} (hu : A.units < cLine) (h2 : 2 ≤ vs.length) (hv : ∀ v ∈ vs, RV s.heap v (k v) ∧ fitS sh (k v)) :
    ∃ κ, (∀ (Q : SortKind → Shared → Prop) (E : Value → Shared → Prop), Q κ s → wpAny (model prog w) A (keyKind' vs.toArray) Q E s) ∧ Cmp prog w A s κ (fun p => p.1 ∈ vs) (lt2 fun v u => ltKD (k v) (k u)) := by
  obtain ⟨v1, v2, rest, ev⟩ : ∃ v1 v2 rest, vs = v1 :: v2 :: rest := by
    match vs, h2 with
    | v1 :: v2 :: rest, _ => exact ⟨v1, v2, rest, rfl⟩
  cases sh with
  | a t =>
    refine ⟨oneType', fun Q E hq => ?_, fun p q hp hq => ?_⟩
    · cases t with
      | false =>
        obtain ⟨ns, hI⟩ := ints_all hv
        rw [ev] at hI ⊢
        rw [keyKind_ints hI]
        exact wpAny_pure hq
      | true =>
        obtain ⟨ns, hI⟩ := strs_all hv
        rw [ev] at hI ⊢
        rw [keyKind_strs hI]
        exact wpAny_pure hq
    · obtain ⟨a1, a2⟩ := hv _ hp
      obtain ⟨b1, b2⟩ := hv _ hq
      show wpAny (model prog w) A (keyLt' oneType' p.1 q.1) (fun r s' => s' = s ∧ r = ltKD (k p.1) (k q.1)) (fun _ _ => False) s
      rw [keyLt'_oneType]
      cases e1 : k p.1 with
      | l ds => rw [e1] at a2; exact a2.elim
      | a x =>
        cases e2 : k q.1 with
        | l ds => rw [e2] at b2; exact b2.elim
        | a y =>
          rw [e1] at a1 a2
          rw [e2] at b1 b2
          have fx : fitD (if t = true then .s else .i) (.k x) := by
            cases t
            · exact a2
            · exact a2
          have fy : fitD (if t = true then .s else .i) (.k y) := by
            cases t
            · exact b2
            · exact b2
          exact oneLt_D true (d := .k x) (e := .k y) hu a1 b1 fx fy (fun _ q z => by cases t <;> cases z) ⟨rfl, rfl⟩
  | l p =>
    obtain ⟨fs, r, hl, hi⟩ := firsts_all hv
    refine ⟨tuples' (match p 0 with
      | .t _ => false
      | _ => true), fun Q E hq => ?_, fun x y hx hy => ?_⟩
    · cases e : p 0 with
      | i =>
        rw [e] at hi hq
        refine PySem.W.kat_kind (T := .type "int") r (by omega) (fun f hm => ?_) (by rfl) ?_
        · obtain ⟨d, d1, d2⟩ := hi f hm
          exact looks_int d1 d2
        · have z : (Value.type "int" != Value.type "tuple") = true := by first | decide +kernel | rfl | decide
          rw [z]
          exact hq
      | s =>
        rw [e] at hi hq
        refine PySem.W.kat_kind (T := .type "str") r (by omega) (fun f hm => ?_) (by rfl) ?_
        · obtain ⟨d, d1, d2⟩ := hi f hm
          exact looks_str d1 d2
        · have z : (Value.type "str" != Value.type "tuple") = true := by first | decide +kernel | rfl | decide
          rw [z]
          exact hq
      | t q =>
        rw [e] at hi hq
        refine PySem.W.kat_kind (T := .type "tuple") r (by omega) (fun f hm => ?_) (by rfl) ?_
        · obtain ⟨d, d1, d2⟩ := hi f hm
          exact looks_tup d1 d2
        · have z : (Value.type "tuple" != Value.type "tuple") = false := by first | rfl | decide | simp
          rw [z]
          exact hq
    · obtain ⟨a1, a2⟩ := hv _ hx
      obtain ⟨b1, b2⟩ := hv _ hy
      show wpAny (model prog w) A (keyLt' (tuples' _) x.1 y.1) (fun r s' => s' = s ∧ r = ltKD (k x.1) (k y.1)) (fun _ _ => False) s
      cases e1 : k x.1 with
      | a z => rw [e1] at a2; exact a2.elim
      | l ds =>
        cases e2 : k y.1 with
        | a z => rw [e2] at b2; exact b2.elim
        | l es =>
          rw [e1] at a1 a2
          rw [e2] at b1 b2
          obtain ⟨a, its, ea, ⟨o, ho, hc, n, hd⟩, da⟩ := a1
          obtain ⟨b, its2, eb, ⟨o2, ho2, hc2, n2, hd2⟩, db⟩ := b1
          rw [ea, eb]
          refine PySem.W.kat_lt ho hd ho2 hd2 (kat_D hu da db a2.2 b2.2 (fun z _ q e => ?_) ?_ ⟨rfl, rfl⟩)
          · rw [e] at z
            cases z
          · have l1 := da.length
            have l2 := db.length
            rw [Array.length_toList] at l1 l2
            rw [l1, l2]
end
/-! ### the same of tracked values -/
def DVl (K : PySem.W.Frag) (H : Hp) : V → Dt → Prop
  | v, .k x => v = kV x
  | v, .t l => ∃ a, v = .ref a ∧ SqT K H a (l.map kV)
inductive DVs (K : PySem.W.Frag) (H : Hp) : List V → List Dt → Prop
  | nil : DVs K H [] []
  | cons {v : V} {d : Dt} {vs : List V} {ds : List Dt} : DVl K H v d → DVs K H vs ds → DVs K H (v :: vs) (d :: ds)
/-- what a key says -/
def KDV (K : PySem.W.Frag) (H : Hp) : V → KD → Prop
  | v, .a x => v = kV x
  | v, .l ds => ∃ a us, v = .ref a ∧ SqT K H a us ∧ DVs K H us ds
theorem keyIs_of {k : Key} {u : Value} (r : RelV (kV k) u) : keyIs k u = true := by
  cases k with
  | inl i =>
    obtain ⟨t, rfl⟩ := r
    exact keyIs_int i t
  | inr x =>
    obtain ⟨t, rfl⟩ := r
    exact keyIs_str x t
theorem keysAre_of : ∀ {l : List Key} {us : List Value}, Vals (l.map kV) us → KeysAre us l
  | [], _, .nil => .nil
  | _ :: _, _, .cons h r => .cons (keyIs_of h) (keysAre_of r)
section
variable {X : Cx} {pins : List (Addr × Obj)} {σ : L2.St} {H : Hp} {s : Shared}
theorem rd_of (I : Inv X pins σ H s) {v : V} {d : Dt} {u : Value} (h : DVl X.K H v d) (r : RelV v u) : RD s.heap u d := by
  cases d with
  | k x =>
    have h : v = kV x := h
    rw [h] at r
    exact keyIs_of r
  | t l =>
    obtain ⟨a, rfl, hs⟩ := h
    obtain ⟨its, rv, it, _⟩ := I.tuple hs
    exact ⟨a, its.toArray, r, it, keysAre_of rv⟩
theorem dsAre_of (I : Inv X pins σ H s) : ∀ {vs : List V} {ds : List Dt} {us : List Value}, DVs X.K H vs ds → Vals vs us → DsAre s.heap us ds
  | _, _, _, .nil, .nil => .nil
  | _, _, _, .cons h t, .cons r q => .cons (rd_of I h r) (dsAre_of I t q)
theorem rv_of (I : Inv X pins σ H s) {v : V} {d : KD} {u : Value} (h : KDV X.K H v d) (r : RelV v u) : RV s.heap u d := by
  cases d with
  | a x =>
    have h : v = kV x := h
    rw [h] at r
    exact keyIs_of r
  | l ds =>
    obtain ⟨a, us, rfl, hs, hd⟩ := h
    obtain ⟨its, rv, it, _⟩ := I.tuple hs
    exact ⟨a, its.toArray, r, it, dsAre_of I hd rv⟩
end
/-- the V that a value is -/
def bk (u : Value) : V := (absV u).getD .non
theorem bk_of {v : V} {u : Value} (r : RelV v u) : bk u = v := by
  unfold bk
  rw [r.abs] <;> rfl
theorem bk_map : ∀ {vs : List V} {us : List Value}, Vals vs us → us.map bk = vs
  | _, _, .nil => rfl
  | _, _, .cons r t => by rw [List.map_cons, bk_of r, bk_map t]
theorem bk_vals : ∀ {us : List Value}, (∀ u ∈ us, ∃ v, RelV v u) → Vals (us.map bk) us
  | [], _ => .nil
  | u :: us, h => by
    obtain ⟨v, r⟩ := h u List.mem_cons_self
    rw [List.map_cons]
    refine .cons ?_ (bk_vals fun w hw => h w (List.mem_cons_of_mem _ hw))
    rw [bk_of r]
    exact r
theorem vals_mem : ∀ {vs : List V} {us : List Value}, Vals vs us → ∀ u ∈ us, ∃ v ∈ vs, RelV v u
  | _, _, .nil, u, hu => by cases hu
  | _, _, .cons r t, u, hu => by
    rcases List.mem_cons.mp hu with z | z
    · rw [z]
      exact ⟨_, List.mem_cons_self, r⟩
    · obtain ⟨v, hv, q⟩ := vals_mem t u z
      exact ⟨v, List.mem_cons_of_mem _ hv, q⟩
end L2.Sr
set_option maxRecDepth 100000
set_option maxHeartbeats 4000000
namespace L2.Sr
open PySem PySem.Spec PyProof.Rows L2 Srt SrtO
/-! ### collect of a list or tuple, with the heap told -/
section
variable {prog : Program} {w : World} {A : Around} {E : Value → Shared → Prop} {s : Shared}
abbrev chp (h : Heap) (vs : List Value) : Heap := (h.push (seqObj "list" #[] 0)).update h.objs.size (Obj.mapSeq (· ++ vs.toArray))
/-- a list or a tuple of these items -/
def IsSq (h : Heap) (l : Addr) (vs : List Value) : Prop := h.IsList l vs.toArray ∨ h.IsTuple l vs.toArray
theorem collect_tup {l : Addr} {vs : List Value} {Q : List Value → Shared → Prop} (ht : s.heap.IsTuple l vs.toArray) (h : Q vs { s with heap := chp s.heap vs }) (hz : vs.length ≤ sizeLine) :
    wpAny (model prog w) A (collect (.ref l)) Q E s := by
  obtain ⟨o, ho, hc, n, hd⟩ := id ht
  have new : (s.heap.push (seqObj "list" #[] 0)).get? s.heap.objs.size = some (seqObj "list" #[] 0) := Heap.get?_push_size _ rfl
  have old : (s.heap.push (seqObj "list" #[] 0)).get? l = some o := Heap.get?_push_of_some _ ho
  unfold collect
  refine wpAny_bind (wpAny_runValue (codeAny_builtin entry_proto_collect' ?_))
  show wpAny _ _ (newList [] >>= fun d => again (.builtin "list.__iadd__" ⟨[d, .ref l], []⟩)) _ _ s
  refine wpAny_bind (wpAny_newList (wpAny_pure ⟨Code.quiet_builtin _ (by decide +kernel), codeAny_builtin entry_list_iadd' ?_⟩))
  show wpAny _ _ (Builtin.List.listExtendWith (.ref s.heap.objs.size) (.ref l) (.ref s.heap.objs.size)) _ _ { s with heap := s.heap.push (seqObj "list" #[] 0) }
  unfold Builtin.List.listExtendWith
  refine wpAny_bind (wpAny_typeOf (T := "tuple") ⟨o, old, hc⟩ ?_)
  rw [if_pos (by
    have z : (Value.type "tuple" == Value.type "tuple") = true := by rfl
    rw [z]
    simp)]
  refine wpAny_bind (listItems_at old hd ?_)
  refine wpAny_bind (listItems_at new rfl ?_)
  rw [if_neg (by simp)]
  refine wpAny_bind (listUpdate_at new rfl ?_ (Nat.zero_le _) (by show (#[] ++ vs.toArray).size ≤ sizeLine + 1; simp only [Array.size_append, List.size_toArray, List.length_nil]; omega))
  refine wpAny_pure ?_
  show wpAny (model prog w) A (load s.heap.objs.size >>= fun o => match o.data with
    | .seq xs _ => pure xs.toList
    | _ => unsupported "internal:collect") Q E { s with heap := chp s.heap vs }
  refine wpAny_bind (wpAny_load (get?_update_seq new _) ?_)
  show wpAny _ _ (pure ((#[] : Array Value) ++ vs.toArray).toList) Q E _
  rw [show ((#[] : Array Value) ++ vs.toArray).toList = vs from by simp]
  exact wpAny_pure h
theorem collect_sq {l : Addr} {vs : List Value} {Q : List Value → Shared → Prop} (hs : IsSq s.heap l vs) (h : Q vs { s with heap := chp s.heap vs }) (hz : vs.length ≤ sizeLine) : wpAny (model prog w) A (collect (.ref l)) Q E s := by
  rcases hs with z | z
  · exact collect_list z h hz
  · exact collect_tup z h hz
abbrev cpy (h : Heap) (vs : List Value) : Heap := (chp h vs).push (seqObj "list" vs.toArray 0)
theorem chp_size (h : Heap) (vs : List Value) : (chp h vs).objs.size = h.objs.size + 1 := by
  rw [Heap.size_update, size_push']
theorem cpy_at (h : Heap) (vs : List Value) : (cpy h vs).get? (h.objs.size + 1) = some (seqObj "list" vs.toArray 0) := by
  rw [← chp_size h vs]
  exact Heap.get?_push_size _ rfl
theorem cpy_old (h : Heap) (vs : List Value) : ∀ b o, h.get? b = some o → b ≠ h.objs.size + 1 ∧ (cpy h vs).get? b = some o := fun b o q => by
  have hlt : b < h.objs.size := Heap.lt_size q
  refine ⟨Nat.ne_of_lt (Nat.lt_succ_of_lt hlt), Heap.get?_push_of_some _ ?_⟩
  rw [Heap.get?_update_ne _ _ _ _ (Nat.ne_of_lt hlt)]
  exact Heap.get?_push_of_some _ q
/-- sorted(x), x a list or a tuple -/
theorem sorted_sq {l : Addr} {vs : List Value} {ltv : Value → Value → Bool} {Q : Value → Shared → Prop} (O : Swo ltv) (hl : IsSq s.heap l vs) (hz : vs.length ≤ sizeLine)
    (hS : 2 ≤ vs.length → ∀ (h₁ : Heap) (a : Addr), h₁.get? a = some (seqObj "list" vs.toArray 0) → (∀ b o, s.heap.get? b = some o → b ≠ a ∧ h₁.get? b = some o) → SortableO prog w A.in1.in1 { s with heap := h₁ } a vs ltv)
    (h : ∀ out : List Value, Srtd ltv out → out.Perm vs → Q (.ref (s.heap.objs.size + 1)) { s with heap := sortedAll s.heap vs out.toArray }) :
    wpAny (model prog w) A (call (.builtin "sorted") [.ref l]) Q E s := by
  refine Calls.call_function_entry kind_sorted plain_sorted entry_sorted (args_sorted1 _) ?_
  unfold Builtin.«sorted»
  refine wpAny_bind (m := checkCount "sorted" 1 1 _) (wpAny_pure ?_)
  refine wpAny_bind (collect_sq hl ?_ hz)
  refine wpAny_bind (wpAny_newList ?_ hz)
  show wpAny _ _ _ _ _ { s with heap := cpy s.heap vs }
  rw [chp_size]
  refine wpAny_bind (wpAny_holding (wpAny_call_entry slot_list_sort ⟨_, cpy_at s.heap vs, rfl⟩ entry_list_sort (list_sort_ord O (cpy_at s.heap vs) hz (fun h2 => hS h2 _ _ (cpy_at s.heap vs) (cpy_old s.heap vs)) fun out hs hb => ⟨_, rfl, ?_⟩) (args_list_sort _)))
  exact wpAny_pure ⟨_, rfl, h out hs hb.perm⟩
end
section
variable {X : Cx} {pins : List (Addr × Obj)} {σ : L2.St} {H : Hp} {s : Shared}
theorem Inv.sq (I : Inv X pins σ H s) {a : Addr} {xs : List V} (h : SqL X.K H a xs ∨ SqT X.K H a xs) : ∃ its : List Value, Vals xs its ∧ IsSq s.heap a its ∧ xs.length ≤ sizeLine := by
  rcases h with z | z
  · obtain ⟨its, r, p, l⟩ := I.list z
    exact ⟨its, r, .inl p.isList, l⟩
  · obtain ⟨its, r, p, l⟩ := I.tuple z
    exact ⟨its, r, .inr p, l⟩
/-- sorted(x), x a list or a tuple of keys of one look -/
def rSortD (K : PySem.W.Frag) : List V → Hp → VK → Prop := fun vs H Q => ∃ (a : Addr) (xs : List V) (k : V → KD) (sh : Shp), vs = [.ref a] ∧ (SqL K H a xs ∨ SqT K H a xs) ∧ (∀ x ∈ xs, KDV K H x (k x) ∧ fitS sh (k x)) ∧
  ∀ (ys : List V) (p : Addr), Srtd (fun x y => ltKD (k x) (k y)) ys → ys.Perm xs → H p = none → Q (.ref p) (upd H p (.lst ys))
theorem RV.keeps {h h' : Heap} (kp : ∀ b o, h.get? b = some o → o.cls = .type "tuple" → h'.get? b = some o) {u : Value} {d : KD} (r : RV h u d) : RV h' u d := by
  have kd : ∀ {v : Value} {e : Dt}, RD h v e → RD h' v e := fun {v e} z => by
    cases e with
    | k x => exact z
    | t l =>
      obtain ⟨a, its, e1, ⟨o, ho, hc, r⟩, q⟩ := z
      exact ⟨a, its, e1, ⟨o, kp a o ho hc, hc, r⟩, q⟩
  have ks : ∀ {vs : List Value} {ds : List Dt}, DsAre h vs ds → DsAre h' vs ds := fun {vs ds} z => by
    induction z with
    | nil => exact .nil
    | cons a _ ih => exact .cons (kd a) ih
  cases d with
  | a x => exact r
  | l ds =>
    obtain ⟨a, its, e1, ⟨o, ho, hc, q⟩, z⟩ := r
    exact ⟨a, its, e1, ⟨o, kp a o ho hc, hc, q⟩, ks z⟩
theorem cr_sortD (hu : X.A.in1.in1.units < cLine) : CallR X (.builtin "sorted") (rSortD X.K) := by
  intro pins s σ H vs us Q I r h
  obtain ⟨a, xs, k, sh, rfl, hs, hk, q⟩ := h
  obtain ⟨its, rv, hl, hz⟩ := Inv.sq I hs
  rw [Vals.ref1 r]
  have hz' : its.length ≤ sizeLine := by rw [← rv.length]; exact hz
  have all : ∀ v ∈ its, RV s.heap v (k (bk v)) ∧ fitS sh (k (bk v)) := fun v hv => by
    obtain ⟨x, hx, rx⟩ := vals_mem rv v hv
    rw [bk_of rx]
    exact ⟨rv_of I (hk x hx).1 rx, (hk x hx).2⟩
  have O : Swo fun v u : Value => ltKD (k (bk v)) (k (bk u)) := ⟨fun x y => lin_KD.swo.asym _ _, fun x y z => lin_KD.swo.tr _ _ _⟩
  refine sorted_sq O hl hz' (fun h2 h₁ a' e' kk h' keep => ?_) fun out h1 h2 => ?_
  · refine sortable (sh := sh) hu h2 fun v hv => ⟨(all v hv).1.keeps fun b o e hc => keep b o (fun z => ?_) (kk b o e).2, (all v hv).2⟩
    exact (kk b o e).1 z
  · have ho : ∀ u ∈ out, ∃ v, RelV v u := fun u hu => by
      obtain ⟨v, _, r⟩ := vals_mem rv u (h2.subset hu)
      exact ⟨v, r⟩
    obtain ⟨ep, he'⟩ := sortedAll_at s.heap its out.toArray
    have e1 : (out.map bk).Perm xs := by
      have z := h2.map bk
      rw [bk_map rv] at z
      exact z
    have hlen : (out.map bk).length ≤ sizeLine := by
      rw [e1.length_eq]
      exact hz
    refine ⟨.ref _, upd H (s.heap.objs.size + 1) (.lst (out.map bk)), I.laid (t' := s.toks) (fun _ _ => sortedAll_old) (Nat.le_succ _) ⟨hlen, out, ep, bk_vals ho, he'⟩, rfl, q _ _ ?_ e1 (I.hok.fresh (Nat.le_succ _))⟩
    exact List.pairwise_map.mpr h1
end
end L2.Sr
set_option maxRecDepth 100000
set_option maxHeartbeats 4000000
namespace L2.Sr
open PySem PySem.Spec PyProof.Rows L2 PySem.SeqAt
/-! ### xs != [], xs == [] of any list -/
def rNil (K : PySem.W.Frag) (neg : Bool) : R2 := fun x y H Q => ∃ a b xs, x = .ref a ∧ y = .ref b ∧ SqL K H a xs ∧ SqL K H b [] ∧ Q (.bl (if neg then !xs.isEmpty else xs.isEmpty)) H
section
variable {X : Cx}
theorem op_neNil (hu : X.A.units < cLine) : OpR X (compareOp .NotEq) (rNil X.K true) := by
  intro pins s σ H x y v u Q I rx ry h
  obtain ⟨a, b, xs, rfl, rfl, ha, hb, q⟩ := h
  cases rx
  cases ry
  obtain ⟨its, r, pl, hz⟩ := I.list ha
  obtain ⟨its2, r2, pl2, hz2⟩ := I.list hb
  have e2 : its2 = [] := by cases r2; rfl
  subst e2
  cases xs with
  | nil =>
    have e1 : its = [] := by cases r; rfl
    subst e1
    exact RcNeAt.lists (e := fun _ => true) pl.isList pl2.isList rfl hu (fun j h1 h2 => absurd h1 (Nat.not_lt_zero _)) _ _ _ _ ⟨.bl false, H, I, rfl, q⟩
  | cons z zs =>
    have hl : its.length = (z :: zs).length := r.length.symm
    exact RcNeAt.lists_lengths pl.isList pl2.isList (by simp [hl]) hu _ _ _ _ ⟨.bl true, H, I, rfl, q⟩
theorem op_eqNil (hu : X.A.units < cLine) : OpR X (compareOp .Eq) (rNil X.K false) := by
  intro pins s σ H x y v u Q I rx ry h
  obtain ⟨a, b, xs, rfl, rfl, ha, hb, q⟩ := h
  cases rx
  cases ry
  obtain ⟨its, r, pl, hz⟩ := I.list ha
  obtain ⟨its2, r2, pl2, hz2⟩ := I.list hb
  have e2 : its2 = [] := by cases r2; rfl
  subst e2
  cases xs with
  | nil =>
    have e1 : its = [] := by cases r; rfl
    subst e1
    exact RcAt.lists (e := fun _ => true) pl.isList pl2.isList rfl hu (fun j h1 h2 => absurd h1 (Nat.not_lt_zero _)) _ _ _ _ ⟨.bl true, H, I, rfl, q⟩
  | cons z zs =>
    have hl : its.length = (z :: zs).length := r.length.symm
    exact RcAt.lists_lengths pl.isList pl2.isList (by simp [hl]) hu _ _ _ _ ⟨.bl false, H, I, rfl, q⟩
end
end L2.Sr
set_option maxRecDepth 100000
set_option maxHeartbeats 4000000
namespace L2.Mb
open PySem PySem.Spec PyProof.Rows L2 Evl Mv Sr Srt SrtO
/-! ### lists of new tuples, and such lists sorted -/
def TpA (H : Hp) (p : Addr) (xss : List (List V)) : Prop := ∃ ps : List (Addr × List V), ps.map Prod.snd = xss ∧ H p = some (.lst (ps.map fun q => .ref q.1)) ∧ ∀ q ∈ ps, H q.1 = some (.tup q.2)
theorem TpA.mono {H H' : Hp} {p : Addr} {xss : List (List V)} (h : TpA H p xss) (e : Ex H H') : TpA H' p xss := by
  obtain ⟨ps, h1, h2, h3⟩ := h
  exact ⟨ps, h1, e _ _ h2, fun q hq => e _ _ (h3 q hq)⟩
/-- what gives a list of new tuples -/
def EvTq (te : TE) (σ : L2.St) (H : Hp) (P : List (List V) → Prop) : Prop := ∀ H1, Ex H H1 → ∀ Q : VK, (∀ p H2 xss, H1 p = none → Ex H1 H2 → TpA H2 p xss → P xss → Q (.ref p) H2) → te σ H1 Q
section
variable {K : W.Frag} {σ : L2.St} {H : Hp} {ta tb te : TE} {t : TT} {wi : TI}
/-- a comprehension of new pairs -/
theorem el_tupI {α : Type} {l : List α} {c : α → V} {j : Nat} {vs : List Nat} (f : α → Bool) (ga gb : α → V) (h : EvI wi σ H (l.map c)) (hz : l.length ≤ 40000) (hw : ∀ x, wipe ((wipe σ vs).set j (some x)) vs = wipe σ vs)
    (ht : ∀ x ∈ l, ∀ H1, Ex H H1 → EvT t ((wipe σ vs).set j (some (c x))) H1 (f x)) (he : ∀ x ∈ l, ∀ H1, Ex H H1 → Ev ta ((wipe σ vs).set j (some (c x))) H1 (ga x)) (hb : ∀ x ∈ l, ∀ H1, Ex H H1 → Ev tb ((wipe σ vs).set j (some (c x))) H1 (gb x)) :
    EvTq (tLc wi (gName j) t (tTup (tCons ta (tCons tb tNil))) vs) σ H (fun xss => xss = (l.filter f).map fun x => [ga x, gb x]) := fun H0 e Q q => h H0 e _ fun J H1 G e1 w hG D hD => by
  rw [List.length_map] at w
  refine lc_it w (fun i H' => Ex H1 H' ∧ ∃ ps : List (Addr × List V), ps.map Prod.snd = (((l.take i).filter f).map fun x => [ga x, gb x]) ∧ H' D = some (.lst (ps.map fun q => .ref q.1)) ∧ ∀ q ∈ ps, H' q.1 = some (.tup q.2)) ⟨Ex.new hD, [], rfl, upd_same, fun _ z => by cases z⟩ (fun i H' _ p => hG H' p.1) (fun i x H2 H' hi p y => ?_) (fun H' p => ?_)
  · obtain ⟨rfl, hx⟩ := y
    rw [List.getElem?_map] at hx
    cases ex : l[i]? with
    | none => rw [ex] at hx; cases hx
    | some a =>
      rw [ex] at hx
      cases hx
      have ha := List.mem_of_getElem? ex
      obtain ⟨p1, ps, p2, p3, p4⟩ := p
      have et : (l.take (i + 1)).filter f = (l.take i).filter f ++ (if f a then [a] else []) := by
        rw [List.take_add_one, ex, List.filter_append]
        cases hf : f a <;> simp [hf]
      have plen : ps.length ≤ 40000 := by
        have z := congrArg List.length p2
        rw [List.length_map, List.length_map] at z
        have h1 := List.length_filter_le f (l.take i)
        rw [List.length_take] at h1
        omega
      refine ⟨hw _, ?_⟩
      refine ht a ha H' ((e.trans e1).trans p1) H' (Ex.refl _) _ fun H3 e3 => ?_
      cases hf : f a with
      | false =>
        refine ⟨p1.trans e3, ps, ?_, e3 _ _ p3, fun q hq => e3 _ _ (p4 q hq)⟩
        rw [et, hf, if_neg (by decide), List.append_nil, p2]
      | true =>
        refine he a ha H3 (((e.trans e1).trans p1).trans e3) H3 (Ex.refl _) _ fun H4 e4 => hb a ha H4 ((((e.trans e1).trans p1).trans e3).trans e4) H4 (Ex.refl _) _ fun H5 e5 => ⟨(by show 2 ≤ sizeLine; decide), fun w nw => ?_⟩
        have e35 := (e3.trans e4).trans e5
        have x6 := Ex.new (o := .tup [ga a, gb a]) nw
        have hD6 := x6 _ _ (e35 _ _ p3)
        have wD : w ≠ D := fun z => by rw [z, e35 _ _ p3] at nw; cases nw
        refine ⟨_, hD6, sz_lt (by rw [List.length_map]; omega), ?_, ps ++ [(w, [ga a, gb a])], ?_, ?_, fun q hq => ?_⟩
        · exact Ex.mut ((p1.trans e35).trans x6) hD
        · rw [et, hf, if_pos rfl, List.map_append, List.map_append, p2]
          rfl
        · rw [upd_same, List.map_append]
          rfl
        · rcases List.mem_append.mp hq with hq | hq
          · have z := x6 _ _ (e35 _ _ (p4 q hq))
            rw [upd_ne (fun y => by rw [y, hD6] at z; cases z)]
            exact z
          · rw [List.mem_singleton.mp hq]
            show (upd _ D _) w = _
            rw [upd_ne wD, upd_same]
  · obtain ⟨p1, ps, p2, p3, p4⟩ := p
    rw [List.take_of_length_le (Nat.le_refl _)] at p2
    exact q D H' _ (fresh_back e1 hD) (e1.trans p1) ⟨ps, p2, p3, p4⟩ rfl
theorem perm_lift {α β : Type} {g : α → β} : ∀ {qs rs : List β}, qs.Perm rs → ∀ l : List α, rs = l.map g → ∃ l' : List α, l'.Perm l ∧ qs = l'.map g := by
  intro qs rs h
  induction h with
  | nil =>
    intro l e
    exact ⟨l, .refl _, e⟩
  | cons x _ ih =>
    intro l e
    cases l with
    | nil => cases e
    | cons a r =>
      rw [List.map_cons] at e
      injection e with e1 e2
      obtain ⟨l', h1, h2⟩ := ih r e2
      exact ⟨a :: l', h1.cons a, by rw [h2, e1, List.map_cons]⟩
  | swap x y r =>
    intro l e
    match l, e with
    | a :: b :: l2, e =>
      rw [List.map_cons, List.map_cons] at e
      injection e with e1 e2
      injection e2 with e2 e3
      exact ⟨b :: a :: l2, List.Perm.swap a b l2, by rw [e1, e2, e3]; rfl⟩
  | trans _ _ ih1 ih2 =>
    intro l e
    obtain ⟨l1, h1, h2⟩ := ih2 l e
    obtain ⟨l2, h3, h4⟩ := ih1 l1 h2
    exact ⟨l2, h3.trans h1, h4⟩
/-- how a tuple of these is ordered -/
abbrev keyOfD (dd : V → Dt) (us : List V) : KD := .l (us.map dd)
theorem dvs_of {dd : V → Dt} : ∀ {us : List V}, (∀ u ∈ us, DVl K H u (dd u)) → DVs K H us (us.map dd)
  | [], _ => .nil
  | u :: us, h => .cons (h u List.mem_cons_self) (dvs_of fun x hx => h x (List.mem_cons_of_mem _ hx))
theorem dvl_mono {H' : Hp} {v : V} {d : Dt} (h : DVl K H v d) (e : Ex H H') : DVl K H' v d := by
  cases d with
  | k x => exact h
  | t l =>
    obtain ⟨a, h1, h2⟩ := h
    exact ⟨a, h1, ex_t e h2⟩
/-- sorted over new tuples -/
theorem eq_sorted {P : List (List V) → Prop} {p : Nat → Pt} (dd : V → Dt) (h : EvTq te σ H P) (hd : ∀ xss, P xss → ∀ us ∈ xss, us ≠ [] ∧ fits p (us.map dd) ∧ ∀ u ∈ us, DVl K H u (dd u)) :
    EvTq (tCB (rSortD K) (tCons te tNil)) σ H (fun yss => ∃ xss, P xss ∧ yss.Perm xss ∧ Srtd (fun x y => ltKD (keyOfD dd x) (keyOfD dd y)) yss) := fun H0 e Q q => h H0 e _ fun a H1 xss na e1 ht hP => by
  obtain ⟨ps, hps, hl, hts⟩ := ht
  let k : V → KD := fun v => match v with
    | .ref b => (match H1 b with | some (.tup us) => keyOfD dd us | _ => .l [])
    | _ => .l []
  have kk : ∀ q ∈ ps, k (.ref q.1) = keyOfD dd q.2 := fun q hq => by
    show (match H1 q.1 with | some (.tup us) => keyOfD dd us | _ => .l []) = _
    rw [hts q hq]
  refine ⟨a, ps.map fun q => .ref q.1, k, .l p, rfl, .inl (sq_of hl), fun x hx => ?_, fun qs r hs hperm nr => ?_⟩
  · obtain ⟨q, hq, rfl⟩ := List.mem_map.mp hx
    have hm : q.2 ∈ xss := by rw [← hps]; exact List.mem_map.mpr ⟨q, hq, rfl⟩
    obtain ⟨d1, d2, d3⟩ := hd xss hP q.2 hm
    rw [kk q hq]
    refine ⟨⟨q.1, q.2, rfl, st_of (hts q hq), dvs_of fun u hu => dvl_mono (d3 u hu) (e.trans e1)⟩, fun z => d1 (List.map_eq_nil_iff.mp z), d2⟩
  · obtain ⟨ps', hp', rfl⟩ := perm_lift hperm ps rfl
    have x1 := Ex.new (o := .lst (ps'.map fun q => V.ref q.1)) nr
    refine q r _ (ps'.map Prod.snd) (fresh_back e1 nr) (e1.trans x1) ⟨ps', rfl, upd_same, fun q hq => x1 _ _ (hts q (hp'.subset hq))⟩ ⟨xss, hP, ?_, ?_⟩
    · rw [← hps]
      exact hp'.map _
    · refine List.pairwise_map.mpr ?_
      refine (List.pairwise_map.mp hs).imp_of_mem fun {x y} hx hy z => ?_
      replace z : ltKD (k (.ref y.1)) (k (.ref x.1)) = false := z
      rw [kk x (hp'.subset hx), kk y (hp'.subset hy)] at z
      exact z
end
end L2.Mb
set_option maxRecDepth 100000
set_option maxHeartbeats 8000000
namespace L2.M2
open PySem PySem.Spec PyProof.Rows L2 Mx L2.Mb Evl Mv L2.C Sr Srt SrtO
/-! ### the law's size, meets -/
def sizeN (m : Nat) : Nat := ((List.range 8).map fun i => if m.testBit i then 1 else 0).sum
def spSz : Sp := fun vs H Q _ => ∃ m : Nat, vs = [natV m] ∧ ∀ H', Ex H H' → Q (natV (sizeN m)) H'
def spMs (K : W.Frag) : Sp := fun vs H Q _ => ∃ (a : Addr) (B : List Nat) (m : Nat), vs = [natV m, .ref a] ∧ SqL K H a (B.map natV) ∧ B.length ≤ 256 ∧ ∀ H', Ex H H' → Q (.bl (B.all fun b => decide (b &&& m ≠ 0))) H'
theorem sum_cast : ∀ ns : List Nat, ((ns.map fun n : Nat => (n : Int)).sum : Int) = (ns.sum : Nat)
  | [] => rfl
  | a :: r => by
    rw [List.map_cons, List.sum_cons, List.sum_cons, sum_cast r]
    omega
section
variable {K : W.Frag} {σ : L2.St} {H : Hp} {ta tb te tl : TE} {t : TT}
theorem ev_sumN {ns : List Nat} (h : EvL te σ H (ns.map natV)) : Ev (tCB (rSum K) (tCons te tNil)) σ H (natV ns.sum) := fun H1 e Q q => h H1 e _ fun p H2 hp e2 h2 => by
  have e1 : ns.map natV = (ns.map fun n : Nat => (n : Int)).map V.int := by
    rw [List.map_map]
    rfl
  have e3 := sum_cast ns
  refine ⟨p, _, rfl, sq_of (by rw [h2, e1]), ?_⟩
  rw [e3]
  exact q H2 e2
theorem ev_eqNilN {neg : Bool} {xs : List V} (h : EvL te σ H xs) : Ev (tOp (rNil K neg) te (tLst tNil)) σ H (.bl (if neg then !xs.isEmpty else xs.isEmpty)) := fun H1 e Q q => h H1 e _ fun p H2 hp e2 h2 => ⟨Nat.zero_le _, fun r nr => ⟨p, r, xs, rfl, rfl, sq_of (Ex.new nr _ _ h2), sq_of upd_same, q _ (e2.trans (Ex.new nr))⟩⟩
end
section
variable {P : Program} {w : World} {K : W.Frag} {mg : Str → Option Value} {base : Heap} {f : Addr} {fd : FuncData}
theorem ok_size (B : Bt mg) (F : FnP K "_law_size" s_law_size f fd) : FnOk P w K mg base CX0 1 f fd p_law_size spSz := by
  refine F.ok sc_law_size (fun vs H Q E h => ?_) (fun cdv A outer s H vs Q E hr h => ?_)
  · obtain ⟨m, rfl, _⟩ := h
    rfl
  · obtain ⟨m, rfl, k⟩ := h
    have nd := sc_law_size.nd
    refine ⟨_, PSs.nox (pss_one (ps_ret (pe_callB (cr_sum (by rfl)) (by rfl) B.sum (by decide +kernel) (pa_cons (pe_lc (own := [("_law_k", 1)]) (g := gName 1) (tt := tYes) (te := tAn (tOp rShr (tVar 0) (tVar 1)) (tC (.int 1))) (by rfl) nd (pi_range1 (by rfl) B.range (pa_cons pe_int pa_nil)) (blkOk_by (N := n_law_size) (sc := defScope s_law_size) (by decide +kernel)) (fun _ _ _ _ _ => pg_name (i := 1) nd rfl (Or.inl rfl)) (fun _ _ _ _ _ => pts_nil) (fun _ _ _ _ _ => pe_op op_and (pe_op op_shr1 (pv 0) (pv 1)) pe_int)) pa_nil)))), ?_⟩
    have w1 := el_lcR1 (ta := tCons (tC (.int 8)) tNil) (σ := [some (natV m), none]) (H := H) (t := tYes) (te := tAn (tOp rShr (tVar 0) (tVar 1)) (tC (.int 1))) (j := 1) (vs := [1]) (n := 8) (fun _ => true) (fun i => natV (if m.testBit i then 1 else 0)) (ea_cons ev_c ea_nil) (by decide) (fun _ => rfl)
      (fun i H2 e hi => et_yes) (fun i H2 e hi _ => ev_at (ev_var rfl) (ev_var rfl))
    have e0 : given (8 : Int).toNat (fun _ => true) (fun i => natV (if m.testBit i then 1 else 0)) = ((List.range 8).map fun i => if m.testBit i then 1 else 0).map natV := by
      unfold given
      rw [List.filter_eq_self.mpr fun _ _ => rfl, List.map_map]
      rfl
    rw [e0] at w1
    exact s_ret (ev_sumN w1) fun H1 e1 => k H1 e1
theorem ok_meets (B : Bt mg) (F : FnP K "_law_meets" s_law_meets f fd) : FnOk P w K mg base CX0 1 f fd p_law_meets (spMs K) := by
  refine F.ok sc_law_meets (fun vs H Q E h => ?_) (fun cdv A outer s H vs Q E hr h => ?_)
  · obtain ⟨a, B, m, rfl, _⟩ := h
    rfl
  · obtain ⟨a, Bs, m, rfl, ha, hB, k⟩ := h
    have nd := sc_law_meets.nd
    have hu := Nat.lt_of_le_of_lt (Nat.le_add_right _ 64) hr.units
    refine ⟨_, PSs.nox (pss_one (ps_ret (pe_cmpR (op_eqNil hu) (pe_lc (own := [("_law_mask", 2)]) (g := gName 2) (tt := tTest (tOp rEq (tAn (tVar 2) (tVar 0)) (tC (.int 0)))) (te := tVar 2) (by rfl) nd (pi_list (pv 1)) (blkOk_by (N := n_law_meets) (sc := defScope s_law_meets) (by decide +kernel)) (fun _ _ _ _ _ => pg_name (i := 2) nd rfl (Or.inl rfl)) (fun _ _ _ _ _ => pts_one (pt_cmpR op_eq (pe_op op_and (pv 2) (pv 0)) pe_int (nomark _))) (fun _ _ _ _ _ => pv 2)) (pe_lst pa_nil) (nomark _)))), ?_⟩
    have w1 := el_lcI (wi := iList K (tVar 1)) (σ := [some (natV m), some (.ref a), none]) (H := H) (t := tTest (tOp rEq (tAn (tVar 2) (tVar 0)) (tC (.int 0)))) (te := tVar 2) (l := Bs) (c := natV) (j := 2) (vs := [2]) (fun b => decide (natV (b &&& m) = .int 0)) natV (eo_list (ev_var rfl) ha).ei (by omega) (fun _ => rfl)
      (fun x hx H1 e => et_test (ev_op (ev_an (ev_var rfl) (ev_var rfl)) ev_c (rv_eq rfl))) (fun x hx H1 e _ => ev_var rfl)
    refine s_ret (ev_is (ev_eqNilN (neg := false) w1) ?_) fun H1 e1 => k H1 e1
    congr 1
    show ((Bs.filter fun b => decide (natV (b &&& m) = .int 0)).map natV).isEmpty = _
    clear w1 ha hB k
    induction Bs with
    | nil => rfl
    | cons b r ih =>
      have eb : decide (natV (b &&& m) = .int 0) = !decide (b &&& m ≠ 0) := by
        rw [← decide_not]
        refine decide_eq_decide.mpr ?_
        rw [Decidable.not_not]
        constructor
        · intro z
          have : (((b &&& m : Nat)) : Int) = 0 := V.int.inj z
          omega
        · intro z
          show V.int ((b &&& m : Nat) : Int) = .int 0
          rw [z]
          rfl
      rw [List.filter_cons, eb, List.all_cons]
      cases decide (b &&& m ≠ 0) with
      | true => exact ih
      | false => rfl
end
end L2.M2
set_option maxRecDepth 100000
set_option maxHeartbeats 8000000
namespace L2.Mb
open PySem PySem.Spec PyProof.Rows L2 Evl Mv Sr Srt SrtO
/-- all but l stands as it stood -/
def Fr (l : Addr) (H H' : Hp) : Prop := ∀ c o, c ≠ l → H c = some o → H' c = some o
section
variable {K : W.Frag} {σ : L2.St} {H : Hp} {tl : TE} {tu : TS} {D : Ends}
/-- a for with two targets over a new list of pairs, while the list at l may change -/
theorem s_forTq {l : Addr} {xs0 : List V} {i1 i2 : Nat} {P : List (List V) → Prop} (hl : H l = some (.lst xs0)) (h : EvTq tl σ H P) (R : List (V × V) → Prop) (hP : ∀ xss, P xss → ∃ ks : List (V × V), xss = (ks.map fun k => [k.1, k.2]) ∧ R ks)
    (Pv : List (V × V) → Nat → L2.St → Hp → Prop) (h0 : ∀ ks H1, R ks → Ex H H1 → Pv ks 0 σ H1)
    (hs : ∀ ks i k σ' H1 H', R ks → ks[i]? = some k → Ex H H1 → Fr l H1 H' → Pv ks i σ' H' → tu { D with nx := fun σ2 H2 => Fr l H1 H2 ∧ Pv ks (i + 1) σ2 H2, ct := fun σ2 H2 => Fr l H1 H2 ∧ Pv ks (i + 1) σ2 H2, bk := D.nx } ((σ'.set i1 (some k.1)).set i2 (some k.2)) H')
    (hd : ∀ ks σ' H', R ks → Pv ks ks.length σ' H' → D.nx σ' H') : tFor (iList K tl) (gTup K 2 (gCons (gName i1) (gCons (gName i2) gNil))) tu D σ H :=
  h H (Ex.refl H) _ fun p H1 xss np e1 ht hx => by
    obtain ⟨ps, hps, hp, hts⟩ := ht
    obtain ⟨ks, rfl, hR⟩ := hP xss hx
    have pl : p ≠ l := fun e => by rw [e, hl] at np; cases np
    have lk : ps.length = ks.length := by
      have z := congrArg List.length hps
      simpa using z
    refine ⟨p, rfl, ⟨_, sq_of hp⟩, for_list (xs := ps.map fun q => V.ref q.1) (fun i σ' H' => Fr l H1 H' ∧ Pv ks i σ' H') ⟨fun _ _ _ z => z, h0 ks H1 hR e1⟩ (fun i σ' H' _ q => sq_of (q.1 _ _ pl hp)) (fun i x σ' H' hi q => ?_) (fun σ' H' q => hd ks σ' H' hR (by rw [← lk]; simpa using q.2))⟩
    rw [List.getElem?_map] at hi
    cases hy : ps[i]? with
    | none => rw [hy] at hi; cases hi
    | some y =>
      rw [hy] at hi
      obtain rfl : V.ref y.1 = x := Option.some.inj hi
      have li : i < ps.length := (List.getElem?_eq_some_iff.mp hy).1
      obtain ⟨k, hk⟩ : ∃ k, ks[i]? = some k := ⟨ks[i]'(by omega), List.getElem?_eq_getElem (by omega)⟩
      have hrow : y.2 = [k.1, k.2] := by
        have z : (ps.map Prod.snd)[i]? = (ks.map fun k => [k.1, k.2])[i]? := by rw [hps]
        rw [List.getElem?_map, List.getElem?_map, hy, hk] at z
        exact Option.some.inj z
      have hty := hts y (List.mem_of_getElem? hy)
      rw [hrow] at hty
      have yl : y.1 ≠ l := fun e => by
        have z := e1 _ _ hl
        rw [← e, hty] at z
        cases z
      exact ⟨y.1, [k.1, k.2], rfl, st_of (q.1 _ _ yl hty), rfl, k.1, [k.2], rfl, k.2, [], rfl, rfl, hs ks i k σ' H1 H' hR hk e1 q.1 q.2⟩
theorem q_forTq {tz : TS} {l : Addr} {xs0 : List V} {i1 i2 : Nat} {P : List (List V) → Prop} (hl : H l = some (.lst xs0)) (h : EvTq tl σ H P) (R : List (V × V) → Prop) (hP : ∀ xss, P xss → ∃ ks : List (V × V), xss = (ks.map fun k => [k.1, k.2]) ∧ R ks)
    (Pv : List (V × V) → Nat → L2.St → Hp → Prop) (h0 : ∀ ks H1, R ks → Ex H H1 → Pv ks 0 σ H1)
    (hs : ∀ ks i k σ' H1 H', R ks → ks[i]? = some k → Ex H H1 → Fr l H1 H' → Pv ks i σ' H' → tu { D with nx := fun σ2 H2 => Fr l H1 H2 ∧ Pv ks (i + 1) σ2 H2, ct := fun σ2 H2 => Fr l H1 H2 ∧ Pv ks (i + 1) σ2 H2, bk := tz D } ((σ'.set i1 (some k.1)).set i2 (some k.2)) H')
    (hd : ∀ ks σ' H', R ks → Pv ks ks.length σ' H' → tz D σ' H') : tSeq (tFor (iList K tl) (gTup K 2 (gCons (gName i1) (gCons (gName i2) gNil))) tu) tz D σ H := s_forTq (D := { D with nx := tz D }) hl h R hP Pv h0 hs hd

end
end L2.Mb
set_option maxRecDepth 100000
set_option maxHeartbeats 8000000
namespace L2.M2
open PySem PySem.Spec PyProof.Rows L2 Mx L2.Mb Evl Mv L2.C Sr Srt SrtO
/-- a def for its callers, errors and all -/
structure Fn0 (P : Program) (w : World) (K : W.Frag) (mg : Str → Option Value) (base : Heap) (x : Str) (k : Nat) (f : Addr) (fd : FuncData) (ps : List Str) (sp : Sp) : Prop where
  ok : FnOk P w K mg base CX0 k f fd ps sp
  m : mg x = some (.ref f)
  k : W.keepIn K (.ref f) = true
  b : Binds K fd ps []
/-! ### the least sets, worked out by the law -/
def leastF (ms : List Nat) : List Nat := ms.foldl (fun acc m => if acc.any (fun o => decide (o &&& m = o)) then acc else acc ++ [m]) []
def BySize (ms : List Nat) : Prop := ms.Pairwise fun a b => sizeN a ≤ sizeN b
def spLe (K : W.Frag) : Sp := fun vs H Q _ => ∃ (a : Addr) (B : List Nat), vs = [.ref a] ∧ SqL K H a (B.map natV) ∧ B.length ≤ 256 ∧ ∀ t H' ms, ms.Perm B → BySize ms → H t = none → Ex H H' → H' t = some (.lst ((leastF ms).map natV)) → Q (.ref t) H'
/-- numbers and texts as keys -/
def ddA : V → Dt
  | .int i => .k (.inl i)
  | .str s => .k (.inr s)
  | _ => .k (.inl 0)
theorem leastF_snoc (ms : List Nat) (m : Nat) : leastF (ms ++ [m]) = if (leastF ms).any (fun o => decide (o &&& m = o)) then leastF ms else leastF ms ++ [m] := by
  unfold leastF
  rw [List.foldl_append]
  rfl
theorem leastF_len (ms : List Nat) : (leastF ms).length ≤ ms.length := by
  have key : ∀ (l acc : List Nat), (l.foldl (fun acc m => if acc.any (fun o => decide (o &&& m = o)) then acc else acc ++ [m]) acc).length ≤ acc.length + l.length := by
    intro l
    induction l with
    | nil => exact fun acc => Nat.le_refl _
    | cons a r ih =>
      intro acc
      rw [List.foldl_cons]
      refine Nat.le_trans (ih _) ?_
      rw [List.length_cons]
      split
      · omega
      · rw [List.length_append, List.length_singleton]
        omega
  exact Nat.le_trans (key ms []) (by simp)
section
variable {P : Program} {w : World} {K : W.Frag} {mg : Str → Option Value} {base : Heap} {f f1 : Addr} {fd d1 : FuncData}
theorem ok_least (B : Bt mg) (Z : Fn0 P w K mg base "_law_size" 1 f1 d1 p_law_size spSz) (F : FnP K "_law_least" s_law_least f fd) : FnOk P w K mg base CX0 3 f fd p_law_least (spLe K) := by
  refine F.ok sc_law_least (fun vs H Q E h => ?_) (fun cdv A outer s H vs Q E hr h => ?_)
  · obtain ⟨a, B, rfl, _⟩ := h
    rfl
  · obtain ⟨a, Bs, rfl, ha, hB, k⟩ := h
    have nd := sc_law_least.nd
    have hu0 := hr.units0
    have hu2 := hr.in1.in1.units0
    refine ⟨_, PSs.nox (pss_cons (ps_set (i := 1) nd rfl (Or.inl rfl) (pe_lst pa_nil))
      (pss_cons (ps_for PassesOwn.never rfl (pi_list (pe_callB (cr_sortD hu2) (by rfl) B.sorted (by decide +kernel) (pa_cons (pe_lc (own := [("_law_mask", 3)]) (g := gName 3) (tt := tYes) (te := tTup (tCons (tCall spSz [] E (tCons (tVar 3) tNil)) (tCons (tVar 3) tNil))) (by rfl) nd (pi_list (pv 0)) (blkOk_by (N := n_law_least) (sc := defScope s_law_least) (by decide +kernel)) (fun _ _ _ _ _ => pg_name (i := 3) nd rfl (Or.inl rfl)) (fun _ _ _ _ _ => pts_nil)
          (fun _ _ _ _ _ => pe_tup (pa_cons (pe_call Z.ok (hr.mono (by decide)) (by rfl) Z.m Z.k Z.b .nil pass0 (pa_cons (pv 3) pa_nil)) (pa_cons (pv 3) pa_nil)))) pa_nil))) (pg_tup rfl (pgs_cons (pg_name (i := 2) nd rfl (Or.inl rfl)) (pgs_cons (pg_name (i := 3) nd rfl (Or.inr rfl)) pgs_nil)))
        (pss_one (ps_if (pt_cmpR (op_eqNil hu0) (pe_lc (own := [("_law_one", 4)]) (g := gName 4) (tt := tTest (tOp rEq (tAn (tVar 4) (tVar 3)) (tVar 4))) (te := tVar 4) (by rfl) nd (pi_list (pv 1)) (blkOk_by (N := n_law_least) (sc := defScope s_law_least) (by decide +kernel)) (fun _ _ _ _ _ => pg_name (i := 4) nd rfl (Or.inl rfl)) (fun _ _ _ _ _ => pts_one (pt_cmpR op_eq (pe_op op_and (pv 4) (pv 3)) (pv 4) (nomark _))) (fun _ _ _ _ _ => pv 4)) (pe_lst pa_nil) (nomark _))
          (pss_one (ps_expr (pe_bm PySem.F.plainAttrs_list PySem.F.slot_list_append PySem.F.type_list_append mt_append (pv 1) (pa_cons (pv 3) pa_nil)))) pss_nil)))
      (pss_one (ps_ret (pv 1))))), ?_⟩
    refine q_asgL (xs := []) (el_lst ea_nil (by decide)) fun fl H1 nfl e1 hfl => ?_
    have w1 := el_tupI (wi := iList K (tVar 0)) (σ := [some (.ref a), some (.ref fl), none, none, none]) (H := H1) (t := tYes) (ta := tCall spSz [] E (tCons (tVar 3) tNil)) (tb := tVar 3) (l := Bs) (c := natV) (j := 3) (vs := [3]) (fun _ => true) (fun m => natV (sizeN m)) natV (eo_list (ev_var rfl) (ex_l e1 ha)).ei (by omega) (fun _ => rfl)
      (fun x hx H2 e => et_yes) (fun x hx H2 e => ev_call (ea_cons (ev_var rfl) ea_nil) (fun H9 e9 Q9 q9 E9 => ⟨x, rfl, q9⟩)) (fun x hx H2 e => ev_var rfl)
    have ef : (Bs.filter fun _ => true) = Bs := List.filter_eq_self.mpr fun _ _ => rfl
    rw [ef] at w1
    have w2 := eq_sorted (K := K) (p := fun _ => Pt.i) ddA w1 (fun xss hx us hu => by
      subst hx
      obtain ⟨m, _, rfl⟩ := List.mem_map.mp hu
      refine ⟨by simp, ?_, fun u hu => ?_⟩
      · intro i d hd
        match i, hd with
        | 0, hd => cases hd; rfl
        | 1, hd => cases hd; rfl
      · rcases List.mem_cons.mp hu with z | z
        · rw [z]; rfl
        · rw [List.mem_singleton.mp z]; rfl)
    refine q_forTq (l := fl) hfl w2 (fun ks => ∃ ms : List Nat, ks = (ms.map fun m => (natV (sizeN m), natV m)) ∧ ms.Perm Bs ∧ BySize ms) (fun yss hy => ?_)
      (fun ks i σ' H' => ∃ x2 x3 ms, σ' = [some (.ref a), some (.ref fl), x2, x3, none] ∧ Ex H H' ∧ ks = (ms.map fun m => (natV (sizeN m), natV m)) ∧ ms.Perm Bs ∧ BySize ms ∧ H' fl = some (.lst ((leastF (ms.take i)).map natV)))
      (fun ks H2 hR e2 => ?_) (fun ks i kk σ' H2 H3 hR hk e2 fr pv => ?_) (fun ks σ' H3 hR pv => ?_)
    · obtain ⟨xss, rfl, hp, hs⟩ := hy
      obtain ⟨ms, hm, rfl⟩ := L2.Mb.perm_lift hp Bs rfl
      refine ⟨ms.map fun m => (natV (sizeN m), natV m), by rw [List.map_map]; rfl, ms, rfl, hm, ?_⟩
      refine (List.pairwise_map.mp hs).imp fun {x y} z => ?_
      replace z : ltKD (.l [.k (.inl (sizeN y : Int)), .k (.inl (y : Int))]) (.l [.k (.inl (sizeN x : Int)), .k (.inl (x : Int))]) = false := z
      by_cases he : sizeN y = sizeN x
      · omega
      · have hne : ¬ ((Dt.k (.inl (sizeN y : Int))) = Dt.k (.inl (sizeN x : Int))) := fun q => he (by injection q with q; injection q with q; omega)
        replace z : lexG ltD [.k (.inl (sizeN y : Int)), .k (.inl (y : Int))] [.k (.inl (sizeN x : Int)), .k (.inl (x : Int))] = false := z
        rw [lexG_cons, if_neg hne] at z
        replace z : decide ((sizeN y : Int) < (sizeN x : Int)) = false := z
        have := of_decide_eq_false z
        omega
    · obtain ⟨ms, rfl, hm, hb⟩ := hR
      exact ⟨none, none, ms, rfl, e1.trans e2, rfl, hm, hb, e2 _ _ hfl⟩
    · obtain ⟨x2, x3, ms, rfl, e, rfl, hm, hb, hf⟩ := pv
      rw [List.getElem?_map] at hk
      cases em : ms[i]? with
      | none => rw [em] at hk; cases hk
      | some m =>
        rw [em] at hk
        cases hk
        have tk : ms.take (i + 1) = ms.take i ++ [m] := by rw [List.take_add_one, em]; rfl
        have ll : (leastF (ms.take i)).length ≤ 256 := by
          refine Nat.le_trans (leastF_len _) ?_
          rw [List.length_take]
          have := hm.length_eq
          omega
        have w3 := el_lcI (wi := iList K (tVar 1)) (σ := [some (.ref a), some (.ref fl), some (natV (sizeN m)), some (natV m), none]) (H := H3) (t := tTest (tOp rEq (tAn (tVar 4) (tVar 3)) (tVar 4))) (te := tVar 4) (l := leastF (ms.take i)) (c := natV) (j := 4) (vs := [4]) (fun b => decide (natV (b &&& m) = natV b)) natV (eo_list (ev_var rfl) (sq_of hf)).ei (by omega) (fun _ => rfl)
          (fun x hx H4 e4 => et_test (ev_op (ev_an (ev_var rfl) (ev_var rfl)) (ev_var rfl) (rv_eq rfl))) (fun x hx H4 e4 _ => ev_var rfl)
        have eq1 : (((leastF (ms.take i)).filter fun b => decide (natV (b &&& m) = natV b)).map natV).isEmpty = !(leastF (ms.take i)).any (fun o => decide (o &&& m = o)) := by
          clear w3 hf ll
          generalize leastF (ms.take i) = L
          induction L with
          | nil => rfl
          | cons b r ih =>
            have eb : decide (natV (b &&& m) = natV b) = decide (b &&& m = b) := decide_eq_decide.mpr ⟨fun z => by
              have : ((b &&& m : Nat) : Int) = (b : Nat) := V.int.inj z
              omega, fun z => by rw [z]⟩
            rw [List.filter_cons, eb, List.any_cons]
            cases decide (b &&& m = b) with
            | true => rfl
            | false => exact ih
        refine s_when (et_test (ev_is (ev_eqNilN (neg := false) w3) (congrArg V.bl eq1))) (fun z H4 e4 => ?_) (fun z H4 e4 => ?_)
        · refine s_app (l := fl) (xs := (leastF (ms.take i)).map natV) (e4 _ _ hf) (ev_var rfl) (ev_var rfl) (by rw [List.length_map]; omega) fun H5 e5 => ?_
          refine ⟨fun c o hc ho => ?_, _, _, ms, rfl, ?_, rfl, hm, hb, ?_⟩
          · rw [upd_ne hc]
            exact e5 _ _ (e4 _ _ (fr c o hc ho))
          · exact Ex.mut ((e.trans e4).trans e5) (nfl)
          · rw [upd_same, tk, leastF_snoc]
            rw [Bool.not_eq_true'] at z
            rw [z, if_neg (by decide), List.map_append]
            rfl
        · refine ⟨fun c o hc ho => e4 _ _ (fr c o hc ho), _, _, ms, rfl, e.trans e4, rfl, hm, hb, ?_⟩
          rw [Bool.not_eq_false'] at z
          rw [tk, leastF_snoc, if_pos z]
          exact e4 _ _ hf
    · obtain ⟨x2, x3, ms, rfl, e, rfl, hm, hb, hf⟩ := pv
      rw [List.length_map, List.take_of_length_le (Nat.le_refl _)] at hf
      exact s_ret (ev_var rfl) fun H4 e4 => k fl H4 ms hm hb nfl (e.trans e4) (e4 _ _ hf)
end
end L2.M2
set_option maxRecDepth 100000
set_option maxHeartbeats 8000000
namespace L2.M2
open PySem PySem.Spec PyProof.Rows L2 Mx L2.Mb Evl Mv L2.C Sr Srt SrtO
/-! ### the least sets that meet all of some -/
def trN (n : Nat) (B : List Nat) : List Nat := (List.range (2 ^ n)).filter fun one => B.all fun b => decide (b &&& one ≠ 0)
def spHi (K : W.Frag) : Sp := fun vs H Q _ => ∃ (a : Addr) (B : List Nat) (n : Nat), vs = [natV n, .ref a] ∧ SqL K H a (B.map natV) ∧ B.length ≤ 256 ∧ n ≤ 8 ∧ ∀ t H' ms, ms.Perm (trN n B) → BySize ms → H t = none → Ex H H' → H' t = some (.lst ((leastF ms).map natV)) → Q (.ref t) H'
theorem trN_len {n : Nat} {B : List Nat} (h : n ≤ 8) : (trN n B).length ≤ 256 := by
  refine Nat.le_trans (List.length_filter_le _ _) ?_
  rw [List.length_range]
  exact Nat.pow_le_pow_right (n := 2) (by decide) h
theorem s_retC {σ : L2.St} {H : Hp} {D : Ends} {te : TE} {xs : List V} {sp : Sp} {E : XK} (h : EvL te σ H xs) (k : ∀ p H1, H p = none → Ex H H1 → H1 p = some (.lst xs) → sp [.ref p] H1 D.rt E) : tRet (tCall sp [] E (tCons te tNil)) D σ H :=
  h H (Ex.refl H) _ fun p H1 np e hp => k p H1 np e hp
section
variable {P : Program} {w : World} {K : W.Frag} {mg : Str → Option Value} {base : Heap} {f f1 f2 : Addr} {fd d1 d2 : FuncData}
theorem ok_hit (B : Bt mg) (M : Fn0 P w K mg base "_law_meets" 1 f1 d1 p_law_meets (spMs K)) (L : Fn0 P w K mg base "_law_least" 3 f2 d2 p_law_least (spLe K)) (F : FnP K "_law_hit" s_law_hit f fd) : FnOk P w K mg base CX0 4 f fd p_law_hit (spHi K) := by
  refine F.ok sc_law_hit (fun vs H Q E h => ?_) (fun cdv A outer s H vs Q E hr h => ?_)
  · obtain ⟨a, B, n, rfl, _⟩ := h
    rfl
  · obtain ⟨a, Bs, n, rfl, ha, hB, hn, k⟩ := h
    have nd := sc_law_hit.nd
    refine ⟨_, PSs.nox (pss_one (ps_ret (pe_call L.ok hr (by rfl) L.m L.k L.b .nil pass0 (pa_cons (pe_lc (own := [("_law_one", 2)]) (g := gName 2) (tt := tB (tCall (spMs K) [] E (tCons (tVar 2) (tCons (tVar 1) tNil)))) (te := tVar 2) (by rfl) nd (pi_range1 (by rfl) B.range (pa_cons (pe_op op_shl1 pe_int (pv 0)) pa_nil)) (blkOk_by (N := n_law_hit) (sc := defScope s_law_hit) (by decide +kernel)) (fun _ _ _ _ _ => pg_name (i := 2) nd rfl (Or.inl rfl))
      (fun _ _ _ _ _ => pts_one (pt_val (pe_call M.ok (hr.mono (by decide)) (by rfl) M.m M.k M.b .nil pass0 (pa_cons (pv 2) (pa_cons (pv 1) pa_nil))))) (fun _ _ _ _ _ => pv 2)) pa_nil)))), ?_⟩
    have h2 : 2 ^ n ≤ 256 := Nat.pow_le_pow_right (n := 2) (by decide) hn
    have h2' : ((2 ^ n : Nat) : Int) ≤ 256 := Int.ofNat_le.mpr h2
    have w1 := el_lcR1 (ta := tCons (tOp rShl1 (tC (.int 1)) (tVar 0)) tNil) (σ := [some (natV n), some (.ref a), none]) (H := H) (t := tB (tCall (spMs K) [] E (tCons (tVar 2) (tCons (tVar 1) tNil)))) (te := tVar 2) (j := 2) (vs := [2]) (n := ((2 ^ n : Nat) : Int)) (fun i => Bs.all fun b => decide (b &&& i ≠ 0)) natV (ea_cons (ev_shl1 (ev_var rfl) (by omega)) ea_nil) ⟨Int.natCast_nonneg _, Int.le_trans h2' (by decide)⟩ (fun _ => rfl)
      (fun i H2 e hi => et_B (ev_call (ea_cons (ev_var rfl) (ea_cons (ev_var rfl) ea_nil)) (fun H9 e9 Q9 q9 E9 => ⟨a, Bs, i, rfl, ex_l (e.trans e9) ha, hB, q9⟩))) (fun i H2 e hi _ => ev_var rfl)
    rw [Int.toNat_natCast] at w1
    have e0 : given (2 ^ n) (fun i => Bs.all fun b => decide (b &&& i ≠ 0)) natV = (trN n Bs).map natV := rfl
    rw [e0] at w1
    refine s_retC w1 fun p H1 np e1 hp => ?_
    exact ⟨p, trN n Bs, rfl, sq_of hp, trN_len hn, fun t H' ms hm hb nt et ht => k t H' ms hm hb (fresh_back e1 nt) (e1.trans et) ht⟩
end
end L2.M2
set_option maxRecDepth 100000
set_option maxHeartbeats 8000000
namespace L2.Mb
open PySem PySem.Spec PyProof.Rows L2 Evl Mv Sr Srt SrtO
/-- what gives a list of new tuples, not just made -/
def EvTw (te : TE) (σ : L2.St) (H : Hp) (P : List (List V) → Prop) : Prop := ∀ H1, Ex H H1 → ∀ Q : VK, (∀ p H2 xss, Ex H1 H2 → TpA H2 p xss → P xss → Q (.ref p) H2) → te σ H1 Q
/-- a new list of which something is known -/
def EvLy (te : TE) (σ : L2.St) (H : Hp) (P : List V → Prop) : Prop := ∀ H1, Ex H H1 → ∀ Q : VK, (∀ xs p H2, P xs → H1 p = none → Ex H1 H2 → H2 p = some (.lst xs) → Q (.ref p) H2) → te σ H1 Q
section
variable {K : W.Frag} {σ : L2.St} {H : Hp} {te tl : TE} {D : Ends}
theorem etw_var {i : Nat} {p : Addr} {xss : List (List V)} (hi : σ[i]? = some (some (.ref p))) (h : TpA H p xss) : EvTw (tVar i) σ H (fun x => x = xss) := fun H1 e Q k => ⟨_, hi, k p H1 xss (Ex.refl _) (h.mono e) rfl⟩
/-- sorted over new tuples -/
theorem eq_sortedW {P : List (List V) → Prop} {p : Nat → Pt} (dd : V → Dt) (h : EvTw te σ H P) (hd : ∀ xss, P xss → ∀ us ∈ xss, us ≠ [] ∧ fits p (us.map dd) ∧ ∀ u ∈ us, DVl K H u (dd u)) :
    EvTq (tCB (rSortD K) (tCons te tNil)) σ H (fun yss => ∃ xss, P xss ∧ yss.Perm xss ∧ Srtd (fun x y => ltKD (keyOfD dd x) (keyOfD dd y)) yss) := fun H0 e Q q => h H0 e _ fun a H1 xss e1 ht hP => by
  obtain ⟨ps, hps, hl, hts⟩ := ht
  let k : V → KD := fun v => match v with
    | .ref b => (match H1 b with | some (.tup us) => keyOfD dd us | _ => .l [])
    | _ => .l []
  have kk : ∀ q ∈ ps, k (.ref q.1) = keyOfD dd q.2 := fun q hq => by
    show (match H1 q.1 with | some (.tup us) => keyOfD dd us | _ => .l []) = _
    rw [hts q hq]
  refine ⟨a, ps.map fun q => .ref q.1, k, .l p, rfl, .inl (sq_of hl), fun x hx => ?_, fun qs r hs hperm nr => ?_⟩
  · obtain ⟨q, hq, rfl⟩ := List.mem_map.mp hx
    have hm : q.2 ∈ xss := by rw [← hps]; exact List.mem_map.mpr ⟨q, hq, rfl⟩
    obtain ⟨d1, d2, d3⟩ := hd xss hP q.2 hm
    rw [kk q hq]
    refine ⟨⟨q.1, q.2, rfl, st_of (hts q hq), dvs_of fun u hu => dvl_mono (d3 u hu) (e.trans e1)⟩, fun z => d1 (List.map_eq_nil_iff.mp z), d2⟩
  · obtain ⟨ps', hp', rfl⟩ := perm_lift hperm ps rfl
    have x1 := Ex.new (o := .lst (ps'.map fun q => V.ref q.1)) nr
    refine q r _ (ps'.map Prod.snd) (fresh_back e1 nr) (e1.trans x1) ⟨ps', rfl, upd_same, fun q hq => x1 _ _ (hts q (hp'.subset hq))⟩ ⟨xss, hP, ?_, ?_⟩
    · rw [← hps]
      exact hp'.map _
    · refine List.pairwise_map.mpr ?_
      refine (List.pairwise_map.mp hs).imp_of_mem fun {x y} hx hy z => ?_
      replace z : ltKD (k (.ref y.1)) (k (.ref x.1)) = false := z
      rw [kk x (hp'.subset hx), kk y (hp'.subset hy)] at z
      exact z

theorem tpa_snoc {l p : Addr} {xss : List (List V)} {us : List V} {xs : List V} (h : TpA H l xss) (hl : H l = some (.lst xs)) (hp : H p = some (.tup us)) : TpA (upd H l (.lst (xs ++ [.ref p]))) l (xss ++ [us]) := by
  obtain ⟨ps, rfl, a2, a3⟩ := h
  rw [a2] at hl
  obtain rfl : (ps.map fun q => V.ref q.1) = xs := HO.lst.inj (Option.some.inj hl)
  refine ⟨ps ++ [(p, us)], by rw [List.map_append]; rfl, by rw [upd_same, List.map_append]; rfl, fun q hq => ?_⟩
  have z : H q.1 = some (.tup q.2) := by
    rcases List.mem_append.mp hq with h | h
    · exact a3 q h
    · rw [List.mem_singleton.mp h]
      exact hp
  rw [upd_ne (fun e => by rw [e, a2] at z; cases z)]
  exact z
theorem TpA.at {l : Addr} {xss : List (List V)} (h : TpA H l xss) : ∃ xs, H l = some (.lst xs) ∧ xs.length = xss.length := by
  obtain ⟨ps, rfl, a2, a3⟩ := h
  exact ⟨_, a2, by simp⟩
/-- a comprehension with two targets over a new list of pairs -/
theorem ely_lcTq {i j : Nat} {vs : List Nat} {P : List (List V) → Prop} (h : EvTq tl σ H P) (R : List (V × V) → Prop) (hP : ∀ xss, P xss → ∃ ks : List (V × V), xss = (ks.map fun k => [k.1, k.2]) ∧ R ks) (hz : ∀ ks, R ks → ks.length ≤ 40000) (g : V × V → V)
    (hw : ∀ x y, wipe (((wipe σ vs).set i (some x)).set j (some y)) vs = wipe σ vs) (he : ∀ k H1, Ex H H1 → Ev te (((wipe σ vs).set i (some k.1)).set j (some k.2)) H1 (g k)) :
    EvLy (tLc (iList K tl) (gTup K 2 (gCons (gName i) (gCons (gName j) gNil))) tYes te vs) σ H (fun ys => ∃ ks, R ks ∧ ys = ks.map g) := fun H0 e Q q => h H0 e _ fun p H1 xss np e1 ht hx => by
  obtain ⟨ps, hps, hl, hts⟩ := ht
  obtain ⟨ks, rfl, hR⟩ := hP xss hx
  have lk : ps.length = ks.length := by
    have z := congrArg List.length hps
    simpa using z
  have lz := hz ks hR
  refine ⟨p, rfl, ⟨_, sq_of hl⟩, fun Dl hD => ?_⟩
  refine lc_list (xs := ps.map fun q => V.ref q.1) (fun n H' => Ex H1 H' ∧ H' Dl = some (.lst ((ks.take n).map g))) ⟨Ex.new hD, upd_same⟩ (fun n H' _ pp => sq_of (pp.1 _ _ hl)) (fun n x H' hi pp => ?_) (fun H' pp => ?_)
  · rw [List.getElem?_map] at hi
    cases hy : ps[n]? with
    | none => rw [hy] at hi; cases hi
    | some y =>
      rw [hy] at hi
      obtain rfl : V.ref y.1 = x := Option.some.inj hi
      have li : n < ps.length := (List.getElem?_eq_some_iff.mp hy).1
      obtain ⟨k, hk⟩ : ∃ k, ks[n]? = some k := ⟨ks[n]'(by omega), List.getElem?_eq_getElem (by omega)⟩
      have hrow : y.2 = [k.1, k.2] := by
        have z : (ps.map Prod.snd)[n]? = (ks.map fun k => [k.1, k.2])[n]? := by rw [hps]
        rw [List.getElem?_map, List.getElem?_map, hy, hk] at z
        exact Option.some.inj z
      have hty := hts y (List.mem_of_getElem? hy)
      rw [hrow] at hty
      have tk : ks.take (n + 1) = ks.take n ++ [k] := by rw [List.take_add_one, hk]; rfl
      refine ⟨y.1, [k.1, k.2], rfl, st_of (pp.1 _ _ hty), rfl, k.1, [k.2], rfl, k.2, [], rfl, rfl, hw _ _, ?_⟩
      show te _ H' _
      refine he k H' ((e.trans e1).trans pp.1) H' (Ex.refl _) _ fun H4 e4 => ⟨_, e4 _ _ pp.2, sz_lt (by rw [List.length_map, List.length_take]; omega), Ex.mut (pp.1.trans e4) hD, ?_⟩
      rw [upd_same, tk, List.map_append]
      rfl
  · refine q _ Dl H' ⟨ks, hR, rfl⟩ (fresh_back e1 hD) (e1.trans pp.1) ?_
    rw [pp.2, List.length_map, lk, List.take_of_length_le (Nat.le_refl _)]
end
end L2.Mb
set_option maxRecDepth 100000
set_option maxHeartbeats 8000000
namespace L2.M2
open PySem PySem.Spec PyProof.Rows L2 Mx L2.Mb Evl Mv L2.C Sr Srt SrtO
/-! ### rows of texts, written by the law -/
def rowOf (L : List Str) (m : Nat) : List Str := ((List.range L.length).filter fun k => m.testBit k).map fun k => L.getD k ""
/-- a tuple of rows -/
def RowT (H : Hp) (t : Addr) (rs : List (List Str)) : Prop := ∃ ps : List (Addr × List Str), ps.map Prod.snd = rs ∧ H t = some (.tup (ps.map fun q => .ref q.1)) ∧ ∀ q ∈ ps, H q.1 = some (.tup (q.2.map V.str))
def keyR (r : List Str) : KD := .l [.k (.inl (r.length : Int)), .t (r.map .inr)]
abbrev SrtR (rs : List (List Str)) : Prop := Srtd (fun x y => ltKD (keyR x) (keyR y)) rs
def keyV : V → Key
  | .str s => .inr s
  | .int i => .inl i
  | _ => .inl 0
/-- numbers, texts and tuples of these as keys, in a heap -/
def ddH (H : Hp) : V → Dt
  | .int i => .k (.inl i)
  | .str s => .k (.inr s)
  | .ref b => match H b with
    | some (.tup us) => .t (us.map keyV)
    | _ => .t []
  | _ => .k (.inl 0)
theorem ddH_row {H : Hp} {b : Addr} {r : List Str} (h : H b = some (.tup (r.map V.str))) : ddH H (.ref b) = .t (r.map .inr) := by
  show (match H b with | some (.tup us) => Dt.t (us.map keyV) | _ => .t []) = _
  rw [h]
  show Dt.t ((r.map V.str).map keyV) = _
  rw [List.map_map]
  rfl
def spWr (K : W.Frag) : Sp := fun vs H Q _ => ∃ (q a : Addr) (L : List Str) (B : List Nat), vs = [.ref q, .ref a] ∧ SqL K H q (L.map V.str) ∧ L.length ≤ 8 ∧ SqL K H a (B.map natV) ∧ B.length ≤ 256 ∧
  ∀ t H' rs, rs.Perm (B.map (rowOf L)) → SrtR rs → H t = none → Ex H H' → RowT H' t rs → Q (.ref t) H'
def rTupO (K : W.Frag) : List V → Hp → VK → Prop := fun xs H Q => ∃ p ys, xs = [.ref p] ∧ ((SqL K H p ys ∧ ∀ l, H l = none → Q (.ref l) (upd H l (.tup ys))) ∨ (SqT K H p ys ∧ Q (.ref p) H))
section
variable {K : W.Frag} {σ : L2.St} {H : Hp} {te : TE} {D : Ends}
theorem eu_tupO {xs : List V} (h : EvL te σ H xs) : EvU (tCB (rTupO K) (tCons te tNil)) σ H xs := fun H1 e Q q => h H1 e _ fun p H2 np e2 hp => ⟨p, xs, rfl, .inl ⟨sq_of hp, fun l nl => q l _ (fresh_back e2 nl) (e2.trans (Ex.new nl)) upd_same⟩⟩
theorem ev_lenT {ta : TE} {p : Addr} {xs : List V} (ha : Ev ta σ H (.ref p)) (h : SqT K H p xs) : Ev (tCB (rLenS K) (tCons ta tNil)) σ H (.int (xs.length : Int)) := fun H1 e Q q => ha H1 e _ fun H2 e2 => ⟨p, xs, rfl, .inr (ex_t (e.trans e2) h), q H2 e2⟩
theorem s_retTupY {P : List V → Prop} (h : EvLy te σ H P) (k : ∀ xs t H1, P xs → H t = none → Ex H H1 → H1 t = some (.tup xs) → D.rt (.ref t) H1) : tRet (tCB (rTupO K) (tCons te tNil)) D σ H :=
  h H (Ex.refl H) _ fun xs p H1 px np e hp => ⟨p, xs, rfl, .inl ⟨sq_of hp, fun l nl => k xs l _ px (fresh_back e nl) (e.trans (Ex.new nl)) upd_same⟩⟩
end
theorem rowOf_len {L : List Str} {m : Nat} : (rowOf L m).length ≤ L.length := by
  unfold rowOf
  rw [List.length_map]
  refine Nat.le_trans (List.length_filter_le _ _) ?_
  rw [List.length_range]
  exact Nat.le_refl _
section
variable {P : Program} {w : World} {K : W.Frag} {mg : Str → Option Value} {base : Heap} {f : Addr} {fd : FuncData}
theorem ok_written (B : Bt mg) (F : FnP K "_law_written" s_law_written f fd) : FnOk P w K mg base CX0 3 f fd p_law_written (spWr K) := by
  refine F.ok sc_law_written (fun vs H Q E h => ?_) (fun cdv A outer s H vs Q E hr h => ?_)
  · obtain ⟨q, a, L, B, rfl, _⟩ := h
    rfl
  · obtain ⟨q, a, L, Bs, rfl, hq, hL, ha, hB, k⟩ := h
    have nd := sc_law_written.nd
    have hu2 := hr.in1.in1.units0
    refine ⟨_, PSs.nox (pss_cons (ps_set (i := 2) nd rfl (Or.inl rfl) (pe_lst pa_nil))
      (pss_cons (ps_for PassesOwn.never rfl (pi_list (pv 1)) (pg_name (i := 3) nd rfl (Or.inr rfl))
        (pss_cons (ps_set (i := 4) nd rfl (Or.inl rfl) (pe_callTy (r := rTupO K) call_tuple_of (by rfl) B.tuple (by decide +kernel) (pa_cons (pe_lc (own := [("_law_k", 5)]) (g := gName 5) (tt := tTest (tOp rEq (tAn (tOp rShr (tVar 3) (tVar 5)) (tC (.int 1))) (tC (.int 1)))) (te := tOp (rIxL K) (tVar 0) (tVar 5)) (by rfl) nd (pi_range1 (by rfl) B.range (pa_cons (pe_callB call_len_seq (by rfl) B.len (by decide +kernel) (pa_cons (pv 0) pa_nil)) pa_nil)) (blkOk_by (N := n_law_written) (sc := defScope s_law_written) (by decide +kernel)) (fun _ _ _ _ _ => pg_name (i := 5) nd rfl (Or.inl rfl))
            (fun _ _ _ _ _ => pts_one (pt_cmpR op_eq (pe_op op_and (pe_op op_shr1 (pv 3) (pv 5)) pe_int) pe_int (nomark _))) (fun _ _ _ _ _ => pe_ix ix_list (pv 0) (pv 5) (fun _ _ => rfl))) pa_nil)))
        (pss_one (ps_expr (pe_bm PySem.F.plainAttrs_list PySem.F.slot_list_append PySem.F.type_list_append mt_append (pv 2) (pa_cons (pe_tup (pa_cons (pe_callB call_len_seq (by rfl) B.len (by decide +kernel) (pa_cons (pv 4) pa_nil)) (pa_cons (pv 4) pa_nil))) pa_nil))))))
      (pss_one (ps_ret (pe_callTy (r := rTupO K) call_tuple_of (by rfl) B.tuple (by decide +kernel) (pa_cons (pe_lc (own := [("_law_size_here", 6), ("_law_row", 4)]) (g := gTup K 2 (gCons (gName 6) (gCons (gName 4) gNil))) (tt := tYes) (te := tVar 4) (by rfl) nd (pi_list (pe_callB (cr_sortD hu2) (by rfl) B.sorted (by decide +kernel) (pa_cons (pv 2) pa_nil))) (blkOk_by (N := n_law_written) (sc := defScope s_law_written) (by decide +kernel)) (fun _ _ _ _ _ => pg_tup rfl (pgs_cons (pg_name (i := 6) nd rfl (Or.inl rfl)) (pgs_cons (pg_name (i := 4) nd rfl (Or.inl rfl)) pgs_nil)))
          (fun _ _ _ _ _ => pts_nil) (fun _ _ _ _ _ => pv 4)) pa_nil)))))), ?_⟩
    refine q_asgL (xs := []) (el_lst ea_nil (by decide)) fun rl H1 nrl e1 hrl => ?_
    refine q_forL (a := a) (xs := Bs.map natV) (ev_var rfl) (ex_l e1 ha) (fun i σ' H' => ∃ x3 x4 rs, σ' = [some (.ref q), some (.ref a), some (.ref rl), x3, x4, none, none] ∧ Ex H H' ∧ TpA H' rl (rs.map fun r : Addr × List Str => [natV r.2.length, .ref r.1]) ∧ rs.map Prod.snd = (Bs.take i).map (rowOf L) ∧ ∀ r ∈ rs, H' r.1 = some (.tup (r.2.map V.str)) ∧ r.1 ≠ rl)
      (fun H2 e2 => ⟨none, none, [], rfl, e1.trans e2, ⟨[], rfl, e2 _ _ hrl, fun _ z => by cases z⟩, rfl, fun _ z => by cases z⟩) (fun i σ' H' _ z => ?_) (fun i x σ' H' hx z => ?_) (fun σ' H' z => ?_)
    · obtain ⟨x3, x4, rs, rfl, e, _⟩ := z
      exact ex_l e ha
    · obtain ⟨x3, x4, rs, rfl, e, ht, hm, hr2⟩ := z
      rw [List.getElem?_map] at hx
      cases em : Bs[i]? with
      | none => rw [em] at hx; cases hx
      | some m =>
        rw [em] at hx
        cases hx
        have li : i < Bs.length := (List.getElem?_eq_some_iff.mp em).1
        have tk : Bs.take (i + 1) = Bs.take i ++ [m] := by rw [List.take_add_one, em]; rfl
        have lrs : rs.length ≤ 256 := by
          have z := congrArg List.length hm
          rw [List.length_map, List.length_map, List.length_take] at z
          omega
        have w1 := el_lcR1 (ta := tCons (tCB (rLenS K) (tCons (tVar 0) tNil)) tNil) (σ := [some (.ref q), some (.ref a), some (.ref rl), some (natV m), x4, none, none]) (H := H') (t := tTest (tOp rEq (tAn (tOp rShr (tVar 3) (tVar 5)) (tC (.int 1))) (tC (.int 1)))) (te := tOp (rIxL K) (tVar 0) (tVar 5)) (j := 5) (vs := [5]) (n := (L.length : Int)) (fun i => m.testBit i) (fun k => V.str (L.getD k ""))
          (ea_cons (ev_is (ev_len (ev_var rfl) (ex_l e hq)) (by rw [List.length_map])) ea_nil) (by omega) (fun _ => rfl)
          (fun i H2 e2 hi => et_is (et_test (ev_op (ev_at (ev_var rfl) (ev_var rfl)) ev_c (rv_eq rfl))) (by cases m.testBit i <;> rfl))
          (fun j H2 e2 hj _ => ev_op (ev_var rfl) (ev_var rfl) (rv_ixL (v := .str (L.getD j "")) (ex_l (e.trans e2) hq) (atI_nat (j := j) (by
            rw [List.getElem?_map]
            have hj' : j < L.length := by omega
            rw [List.getElem?_eq_getElem hj', List.getD_eq_getElem?_getD, List.getElem?_eq_getElem hj']
            rfl))))
        rw [Int.toNat_natCast] at w1
        have e0 : given L.length (fun i => m.testBit i) (fun k => V.str (L.getD k "")) = (rowOf L m).map V.str := by
          unfold given rowOf
          rw [List.map_map]
          rfl
        rw [e0] at w1
        refine q_asgU (eu_tupO w1) fun tp H2 ntp e2 htp => ?_
        obtain ⟨xs, hxs, lxs⟩ := ht.at
        refine s_appU (l := rl) (xs := xs) (ys := [natV (rowOf L m).length, .ref tp]) (e2 _ _ hxs) (ev_var rfl) (eu_tup (ea_cons (ev_is (ev_lenT (ev_var rfl) (st_of htp)) (by rw [List.length_map])) (ea_cons (ev_var rfl) ea_nil)) (by show 2 ≤ 100000; decide)) (by rw [lxs, List.length_map]; omega) fun pp H3 npp e3 hpp => ?_
        have tn : tp ≠ rl := fun z => by rw [z] at ntp; rw [hxs] at ntp; cases ntp
        have ht3 := tpa_snoc (ht.mono (e2.trans e3)) (e3 _ _ (e2 _ _ hxs)) hpp
        refine ⟨_, _, rs ++ [(tp, rowOf L m)], rfl, Ex.mut ((e.trans e2).trans e3) nrl, ?_, ?_, fun r hr3 => ?_⟩
        · rw [List.map_append]
          exact ht3
        · rw [List.map_append, hm, tk, List.map_append]
          rfl
        · rcases List.mem_append.mp hr3 with z | z
          · refine ⟨?_, (hr2 r z).2⟩
            rw [upd_ne (hr2 r z).2]
            exact e3 _ _ (e2 _ _ (hr2 r z).1)
          · rw [List.mem_singleton.mp z]
            refine ⟨?_, tn⟩
            rw [upd_ne tn]
            exact e3 _ _ htp
    · obtain ⟨x3, x4, rs, rfl, e, ht, hm, hr2⟩ := z
      rw [List.length_map, List.take_of_length_le (Nat.le_refl _)] at hm
      have lrs : rs.length ≤ 256 := by
        have z := congrArg List.length hm
        rw [List.length_map, List.length_map] at z
        omega
      have w2 := eq_sortedW (K := K) (p := fun i => if i = 0 then Pt.i else Pt.t fun _ => true) (ddH H') (etw_var (σ := [some (.ref q), some (.ref a), some (.ref rl), x3, x4, none, none]) (i := 2) rfl ht) (fun xss hx us hu => by
        subst hx
        obtain ⟨r, hr3, rfl⟩ := List.mem_map.mp hu
        have hrow := (hr2 r hr3).1
        refine ⟨by simp, ?_, fun u hu => ?_⟩
        · intro i d hd
          match i, hd with
          | 0, hd => cases hd; rfl
          | 1, hd =>
            rw [show ([natV r.2.length, V.ref r.1].map (ddH H'))[1]? = some (ddH H' (.ref r.1)) from rfl, ddH_row hrow] at hd
            cases hd
            intro i x hx
            rw [List.getElem?_map] at hx
            cases ey : r.2[i]? with
            | none => rw [ey] at hx; cases hx
            | some y => rw [ey] at hx; cases hx; rfl
        · rcases List.mem_cons.mp hu with z | z
          · rw [z]; rfl
          · rw [List.mem_singleton.mp z, ddH_row hrow]
            refine ⟨r.1, rfl, ?_⟩
            rw [List.map_map]
            exact st_of hrow)
      have w3 := ely_lcTq (K := K) (σ := [some (.ref q), some (.ref a), some (.ref rl), x3, x4, none, none]) (te := tVar 4) (i := 6) (j := 4) (vs := [6, 4]) w2 (fun ks => ∃ rs' : List (Addr × List Str), ks = (rs'.map fun r => (natV r.2.length, V.ref r.1)) ∧ rs'.Perm rs ∧ SrtR (rs'.map Prod.snd)) (fun yss hy => by
        obtain ⟨xss, rfl, hp, hs⟩ := hy
        obtain ⟨rs', hm', rfl⟩ := L2.Mb.perm_lift hp rs rfl
        refine ⟨rs'.map fun r => (natV r.2.length, V.ref r.1), by rw [List.map_map]; rfl, rs', rfl, hm', ?_⟩
        refine List.pairwise_map.mpr ((List.pairwise_map.mp hs).imp_of_mem fun {x y} hx hy z => ?_)
        have kx : ∀ r ∈ rs', keyOfD (ddH H') [natV r.2.length, V.ref r.1] = keyR r.2 := fun r hr3 => by
          show KD.l [.k (.inl (r.2.length : Int)), ddH H' (.ref r.1)] = _
          rw [ddH_row (hr2 r (hm'.subset hr3)).1]
          rfl
        replace z : ltKD (keyOfD (ddH H') [natV y.2.length, V.ref y.1]) (keyOfD (ddH H') [natV x.2.length, V.ref x.1]) = false := z
        rw [kx x hx, kx y hy] at z
        exact z) (fun ks hk => by
        obtain ⟨rs', rfl, hm', _⟩ := hk
        rw [List.length_map, hm'.length_eq]
        omega) (fun k => k.2) (fun _ _ => rfl) (fun k H1 e => ev_var rfl)
      refine s_retTupY w3 fun xs t H2 px nt e2 ht2 => ?_
      obtain ⟨ks, ⟨rs', rfl, hm', hs'⟩, rfl⟩ := px
      refine k t H2 (rs'.map Prod.snd) ?_ hs' (fresh_back e nt) (e.trans e2) ⟨rs', rfl, ?_, fun r hr3 => e2 _ _ (hr2 r (hm'.subset hr3)).1⟩
      · rw [← hm]
        exact hm'.map _
      · rw [ht2, List.map_map]
        rfl
end
end L2.M2
set_option maxRecDepth 100000
set_option maxHeartbeats 4000000
namespace L2.Mb
open PySem PySem.Spec PyProof.Rows Mx PySem.W
/-! ### y in x, y not in x by an own __contains__ -/
section
variable {X : Cx} {CX : CXT} {k : Nat} {C f : Addr} {fd : FuncData} {ps : List Str} {sp : Sp}
def rInO (C : Addr) (sp : Sp) (neg : Bool) : R2 := fun y x H Q => ∃ a dx fs, x = .ref a ∧ H a = some (.ins C dx fs) ∧ sp [.ref a, y] H (fun v H' => ∃ c, v = .bl c ∧ Q (.bl (if neg then !c else c)) H') (fun _ _ _ => False)
theorem op_inO (F : FnOk X.prog X.w X.K X.mg X.base CX k f fd ps sp) (hr : Room k X.A) (hb : Binds X.K fd ps []) (hx : Passes CX X (fun _ _ _ => False)) (hs : findIn X.K (.ref C) "__contains__" = some (some (.ref f))) (hf : isFn X.K (.ref f) = true) : OpR X (compareOp .In) (rInO C sp false) := by
  intro pins s σ H y x u v Q I ry rx h
  obtain ⟨a, dx, fs, rfl, ea, q⟩ := h
  cases rx
  obtain ⟨_, O, _⟩ := ins_get I.hok ea
  obtain ⟨_, J, _⟩ := O.look
  obtain ⟨m, hF⟩ := I.fr
  refine in_K hF I.ok.mod.kin J hs hf (wpAny_mono (back_bool (R := fun c H' => Q (.bl c) H') F hr I.env0 hb hx I ry q) (fun r s' z => ?_) fun _ _ e => e)
  obtain ⟨c, H', rfl, J, z⟩ := z
  exact wpAny_truthy_bool ⟨.bl c, H', J, rfl, z⟩
theorem op_notInO (F : FnOk X.prog X.w X.K X.mg X.base CX k f fd ps sp) (hr : Room k X.A) (hb : Binds X.K fd ps []) (hx : Passes CX X (fun _ _ _ => False)) (hs : findIn X.K (.ref C) "__contains__" = some (some (.ref f))) (hf : isFn X.K (.ref f) = true) : OpR X (compareOp .NotIn) (rInO C sp true) := by
  intro pins s σ H y x u v Q I ry rx h
  obtain ⟨a, dx, fs, rfl, ea, q⟩ := h
  cases rx
  obtain ⟨_, O, _⟩ := ins_get I.hok ea
  obtain ⟨_, J, _⟩ := O.look
  obtain ⟨m, hF⟩ := I.fr
  refine notIn_K hF I.ok.mod.kin J hs hf (wpAny_mono (back_bool (R := fun c H' => Q (.bl (!c)) H') F hr I.env0 hb hx I ry q) (fun r s' z => ?_) fun _ _ e => e)
  obtain ⟨c, H', rfl, J, z⟩ := z
  exact wpAny_truthy_bool ⟨.bl (!c), H', J, rfl, z⟩
end
end L2.Mb
set_option maxRecDepth 100000
set_option maxHeartbeats 4000000
namespace L2.Mb
open PySem PySem.Spec PyProof.Rows L2 Evl Mv LamX NdefX
/-! ### defs that outlive the def in which they were made: their cells are known from then on -/
def T0 : HO := .ext fun _ => True
def CelAt (H : Hp) (c : Addr) (v : V) : Prop := ∃ (o : Obj) (u : Value), H c = some (.frz o T0) ∧ o.data = .cell (some u) ∧ RelV v u
structure Clo (H : Hp) (f : Addr) (F : NF) (fr : List Str) (ws : List V) : Prop where
  f : H f = some (FnO f F)
  c : H F.c = some (CodeO F.c F.qual)
  len : ws.length = fr.length
  all : ∀ p ∈ F.cl, ∃ o, H p.2 = some (.frz o T0) ∧ ∃ v, o.data = .cell v
  inj : ∀ x y c, F.cl.lookup x = some c → F.cl.lookup y = some c → x = y
  has : ∀ (i : Nat) (y : Str), fr[i]? = some y → ∃ c, F.cl.lookup y = some c ∧ ∀ v, ws[i]? = some v → CelAt H c v
def hidC (cl : List (Str × Addr)) (H : Hp) : Hp := fun b => if b ∈ cl.map Prod.snd then none else H b
def shwC (cl : List (Str × Addr)) (H H' : Hp) : Hp := fun b => if b ∈ cl.map Prod.snd then H b else H' b
def AllC (cl : List (Str × Addr)) (H : Hp) : Prop := ∀ p ∈ cl, ∃ o, H p.2 = some (.frz o T0) ∧ ∃ v, o.data = .cell v
section
variable {P : Program} {w : World} {K : W.Frag} {mg : Str → Option Value} {base : Heap} {cl : List (Str × Addr)} {H H' : Hp} {h h' : Heap} {b : Addr} {u : HO}
theorem hid_in (m : b ∈ cl.map Prod.snd) : hidC cl H b = none := if_pos m
theorem hid_out (m : b ∉ cl.map Prod.snd) : hidC cl H b = H b := if_neg m
theorem shw_in (m : b ∈ cl.map Prod.snd) : shwC cl H H' b = H b := if_pos m
theorem shw_out (m : b ∉ cl.map Prod.snd) : shwC cl H H' b = H' b := if_neg m
theorem AllC.at_ (a : AllC cl H) (m : b ∈ cl.map Prod.snd) : ∃ o, H b = some (.frz o T0) ∧ ∃ v, o.data = .cell v := by
  obtain ⟨p, hp, rfl⟩ := List.mem_map.mp m
  exact a p hp
theorem AllC.out (a : AllC cl H) (e : H b = some u) (n : ∀ o, u ≠ .frz o T0) : b ∉ cl.map Prod.snd := fun m => by
  obtain ⟨o, z, _⟩ := a.at_ m
  rw [e] at z
  exact n o (Option.some.inj z)
theorem AllC.out0 (a : AllC cl H) (e : H b = none) : b ∉ cl.map Prod.snd := fun m => by
  obtain ⟨o, z, _⟩ := a.at_ m
  rw [e] at z
  cases z
theorem hid_some (e : hidC cl H b = some u) : H b = some u ∧ b ∉ cl.map Prod.snd := by
  by_cases m : b ∈ cl.map Prod.snd
  · rw [hid_in m] at e
    cases e
  · rw [hid_out m] at e
    exact ⟨e, m⟩
theorem hid_keep (a : AllC cl H) (e : H b = some u) (n : ∀ o, u ≠ .frz o T0) : hidC cl H b = some u := by
  rw [hid_out (a.out e n)]
  exact e
theorem hok_hid (a : AllC cl H) (x : HOk P w H h) : HOk P w (hidC cl H) h := fun c o e => by
  obtain ⟨e, _⟩ := hid_some e
  exact (x c o e).stay (fun _ _ _ q => q) (fun d q => hid_keep a q fun _ z => by cases z) fun d xs q => hid_keep a q fun _ z => by cases z
theorem cel_get (x : HOk P w H h) {o : Obj} (e : H b = some (.frz o T0)) : h.get? b = some o := (x b _ e).1
theorem env0_hid {A : Around} {outer : List Env} {s : Shared} (a : AllC cl H) (e : Env0 P w K mg base A outer s H) : Env0 P w K mg base A outer s (hidC cl H) :=
  ⟨e.frames, e.mod, fun c o z => ⟨(e.bs c o z).1, by rw [hid_out (a.out0 (e.bs c o z).2)]; exact (e.bs c o z).2⟩, e.bsz, e.funs, fun c hc => by rw [hid_out (a.out0 (e.frf c hc))]; exact e.frf c hc, hok_hid a e.hok, e.bare⟩
theorem ce_show {A : Around} {outer : List Env} {s s' : Shared} {Q : VK} {v : Value} (a : AllC cl H) (e : Env0 P w K mg base A outer s H) (c : CE outer P w (hidC cl H) s (fun v H' => (∀ b ∈ cl.map Prod.snd, H' b = none) → Q v (shwC cl H H')) v s') : CE outer P w H s Q v s' := by
  obtain ⟨x, H1, h1, h2, un, ok, rv, q⟩ := c
  have gone : ∀ {b}, b ∈ cl.map Prod.snd → H1 b = none := fun {b} m => by
    obtain ⟨o, z, _⟩ := a.at_ m
    exact un.free b o (cel_get e.hok z) (hid_in m) (by simp)
  refine ⟨x, shwC cl H H1, h1, h2, ⟨fun b o g n hb hx => ?_, fun b o g n hb hx => ?_, fun b o g n hx => ?_, un.there, fun b xs g => ?_, fun b o u g => ?_, fun b ps g => ?_⟩, fun b o g => ?_, rv, q fun b m => gone m⟩
  · have m := a.out0 n
    exact un.keep b o g (by rw [hid_out m]; exact n) hb hx
  · have m := a.out0 n
    exact un.slot b o g (by rw [hid_out m]; exact n) hb hx
  · have m := a.out0 n
    rw [shw_out m]
    exact un.free b o g (by rw [hid_out m]; exact n) hx
  · have m := a.out g fun _ z => by cases z
    rw [shw_out m]
    exact un.tups b xs (by rw [hid_out m]; exact g)
  · by_cases m : b ∈ cl.map Prod.snd
    · rw [shw_in m]
      exact g
    · rw [shw_out m]
      exact un.frzs b o u (by rw [hid_out m]; exact g)
  · have m := a.out g fun _ z => by cases z
    obtain ⟨more, z⟩ := un.tbls b ps (by rw [hid_out m]; exact g)
    exact ⟨more, by rw [shw_out m]; exact z⟩
  · by_cases m : b ∈ cl.map Prod.snd
    · rw [shw_in m] at g
      obtain ⟨o1, z, _⟩ := a.at_ m
      rw [g] at z
      cases z
      have g0 := cel_get e.hok g
      have nf : b ∉ frs outer := fun y => by
        have := e.frf b y
        rw [g] at this
        cases this
      have g1 := un.keep b o1 g0 (hid_in m) nf (by simp)
      exact ⟨g1, trivial, ⟨_, g1⟩, fun _ _ _ _ => trivial⟩
    · rw [shw_out m] at g
      refine (ok b o g).stay (fun _ _ _ q => q) (fun d q => ?_) fun d xs q => ?_
      · have m1 : d ∉ cl.map Prod.snd := fun y => by rw [gone y] at q; cases q
        rw [shw_out m1]
        exact q
      · have m1 : d ∉ cl.map Prod.snd := fun y => by rw [gone y] at q; cases q
        rw [shw_out m1]
        exact q
theorem Clo.cells {f : Addr} {F : NF} {fr : List Str} {ws : List V} (c : Clo H f F fr ws) (x : HOk P w H h) : CellsAt F.cl fr (ws.map some) h (hidC F.cl H) := by
  refine ⟨by rw [List.length_map]; exact c.len, fun y a e => ?_, c.inj, fun i y e => ?_⟩
  · have m : (y, a) ∈ F.cl := PySem.mem_of_lookup e
    obtain ⟨o, h1, v, h2⟩ := c.all _ m
    exact ⟨hid_in (List.mem_map.mpr ⟨_, m, rfl⟩), v, o, cel_get x h1, h2⟩
  · obtain ⟨a, h1, h2⟩ := c.has i y e
    refine ⟨a, h1, fun v ev => ?_⟩
    rw [List.getElem?_map] at ev
    cases z : ws[i]? with
    | none => rw [z] at ev; cases ev
    | some v1 =>
      rw [z] at ev
      cases ev
      obtain ⟨o, u, k1, k2, k3⟩ := h2 v z
      exact ⟨u, k3, o, cel_get x k1, k2⟩
end
theorem shw_ex {cl : List (Str × Addr)} {H H' : Hp} (g : ∀ b ∈ cl.map Prod.snd, H' b = none) : Ex H' (shwC cl H H') := fun b o h => by
  rw [shw_out fun m => by rw [g b m] at h; cases h]
  exact h
theorem shw_keep {cl : List (Str × Addr)} {H H' : Hp} {b : Addr} {u : HO} (a : AllC cl H) (k : hidC cl H b = some u → H' b = some u) (h : H b = some u) : shwC cl H H' b = some u := by
  by_cases m : b ∈ cl.map Prod.snd
  · rw [shw_in m]
    exact h
  · rw [shw_out m]
    exact k (by rw [hid_out m]; exact h)
theorem shw_none {cl : List (Str × Addr)} {H H' : Hp} {b : Addr} (k : H' b = none → hidC cl H b = none) (h : shwC cl H H' b = none) : H b = none := by
  by_cases m : b ∈ cl.map Prod.snd
  · rw [shw_in m] at h
    exact h
  · rw [shw_out m] at h
    have z := k h
    rw [hid_out m] at z
    exact z
/-- f(..), f a name that holds such a def -/
def tCallC (mk : List (Str × Addr) → Addr → NF) (fr : List Str) (i : Nat) (sp : List V → Sp) (t : TA) : TE := fun σ H Q => ∃ f cl c' ws, σ[i]? = some (some (.ref f)) ∧ H f = some (FnO f (mk cl c')) ∧
  t σ H fun vs H1 => Clo H1 f (mk cl c') fr ws ∧ sp ws vs (hidC cl H1) (fun v H' => (∀ b ∈ cl.map Prod.snd, H' b = none) → Q v (shwC cl H1 H')) (fun _ _ _ => False)
def spO (sp : List V → Sp) : List (Option V) → Sp := fun wo vs H Q E => ∃ ws, wo = ws.map some ∧ sp ws vs H Q E
section
variable {X : Cx} {mk : List (Str × Addr) → Addr → NF} {ps fr : List Str} {i j k : Nat} {x : Str} {sp : List V → Sp} {t : TA} {e : Expr} {es : List Expr} {p pos : Pos}
theorem pe_callC (Fn : ∀ f cl c', NOk X.prog X.w X.K X.mg X.base (fun _ _ _ _ _ _ => False) k f (mk cl c') ps fr (spO sp)) (hcl : ∀ cl c', (mk cl c').cl = cl) (hr : Room j X.A) (hk : k ≤ j) (hN : X.N[i]? = some x) (hv : Vis X.env.scope x) (ha : PA X (e :: es) t)
    (hd : (x == ("__debug__" : Str)) = false := by decide) (hcd : (x == ("__classdict__" : Str)) = false := by decide)
    (he : starEach (e :: es) X.env = (false, eval e X.env) :: starEach es X.env := by rfl) (hpl : (backTo pos (starEach es X.env)).any (·.1) = false := by rfl) :
    PE X (.Call (.Name x p) (e :: es) [] pos) (tCallC mk fr i sp t) := by
  refine ⟨fun pins s σ H Q I h => ?_⟩
  obtain ⟨f, cl, c', ws, hs, hf, ht⟩ := h
  refine wpAny_Call_Name_kw (thn ((pe_var (pos := p) hN hv hd hcd).run pins s σ H (fun v H1 => v = .ref f ∧ H1 = H) I ⟨.ref f, hs, rfl, rfl⟩) fun u s1 ⟨v, H1, I1, r1, q1⟩ => ?_)
  obtain ⟨ev, eH⟩ := q1
  subst ev
  rw [eH] at I1
  obtain rfl : u = Value.ref f := r1
  refine PySem.W.callWith_F (first := []) (fnAt_of I1 hf) (thn (ha.run pos pins s1 σ H _ I1 ht) fun us s2 ⟨vs, H2, I2, r, h1, q⟩ => ⟨fnAt_of I2 h1.f, ?_⟩) he hpl
  show wpAny _ _ (call (.ref f) us) _ _ _
  have al : AllC cl H2 := by
    have z := h1.all
    rw [hcl cl c'] at z
    exact z
  have hC := h1.cells I2.hok
  rw [hcl cl c'] at hC
  have hf2 : hidC cl H2 f = some (FnO f (mk cl c')) := hid_keep al h1.f fun _ z => by unfold FnO at z; cases z
  have hc2 : hidC cl H2 (mk cl c').c = some (CodeO (mk cl c').c (mk cl c').qual) := hid_keep al h1.c fun _ z => by unfold CodeO at z; cases z
  refine wpAny_call (codeAny_mono ((Fn f cl c').run X.A X.stack s2 (hidC cl H2) us vs (ws.map some) _ _ (hr.mono hk) (env0_hid al I2.env0) hf2 hc2 (by rw [hcl cl c']; exact hC) r ⟨ws, rfl, q⟩) fun r s' hq => ?_)
  cases r with
  | error e => exact False.elim hq
  | ok fl =>
    cases fl with
    | ret u => exact I2.after (ce_show al I2.env0 hq)
    | next => exact False.elim hq
    | brk => exact False.elim hq
    | cont => exact False.elim hq
end
/-- what is known behind: the cells too -/
def addC (cl : List (Str × Addr)) (h : Heap) (H : Hp) : Hp := fun b => if b ∈ cl.map Prod.snd then (h.get? b).map fun o => .frz o T0 else H b
section
variable {P : Program} {w : World} {K : W.Frag} {mg : Str → Option Value} {base : Heap} {x qual name : Str} {params : Arguments} {scope : Scope} {dvs : List V} {kws : List (Str × V)} {f : Addr} {fd : FuncData} {N ps fr : List Str} {k i : Nat} {js : List Nat} {sp : Sp} {st : Stmt} {p pos : Pos}
/-- THE RULE: a def that makes a def and returns it -/
theorem fn_clo {T : List NTab} {c Pt : Addr} {nm : Nat → Nat → Str} {dp : Pos} (F : FunD K x qual params [st, .Return (some (.Name name p)) pos] scope dvs kws f fd) (S : FnScope N ps scope) (len : ∀ vs H Q E, sp vs H Q E → vs.length = ps.length)
    (hst : st = .FunctionDef name (C8.fnArgs st) (C8.fnBody st) [] none [] (C8.fnScope st) none name dp) (TB : TabB base mg c Pt) (hcd0 : ∀ oc od dV kV doc pm an cdv ct osl, K.lookup f = some ⟨oc, od, .func (W.fnOf x qual params [st, .Return (some (.Name name p)) pos] scope dV kV doc pm an cdv ct), osl⟩ → cdv = .ref c)
    (hm : (Pt, nm) ∈ T) (hn : nm dp.line dp.col = qual ++ ".<locals>." ++ name) (hu : ∀ q ∈ T, q.1 = Pt → q.2 = nm) (hfree : ndefB scope (C8.fnScope st) fr = true) (hd0 : (C8.fnArgs st).defaults = []) (hk0 : (C8.fnArgs st).kw_defaults = [])
    (ha : ∀ env, annTrees (C8.fnArgs st) none env = []) (hi : N[i]? = some name) (hl : Loc scope name) (hdb : (name == ("__debug__" : Str)) = false) (hdc : (name == ("__classdict__" : Str)) = false) (hjs : js.map (fun j => N[j]?) = fr.map some) (hws : ∀ (vs : List V) f', vs.length = ps.length → js.map (NdefX.slotAt ((start N vs).set i (some (.ref f')))) = vs.map some)
    (hsp : ∀ vs H Q E, sp vs H Q E → TabsN T H ∧ ∀ f' cl c' H', Clo H' f' (NF.of st name (qual ++ ".<locals>." ++ name) cl c') fr vs → ExtN H H' → TabsN T H' → H f' = none → Q (.ref f') H') :
    FnOk P w K mg base (fun _ _ _ _ _ _ => False) (k + 1) f fd ps sp := by
  obtain ⟨oc, od, dV, kV, doc, pm, an, cdv, ct, osl, rfl, lk, hcd, _, _⟩ := F.ex
  refine ⟨len, fun A outer s H args us vs Q E hr e0 hb r hs0 => ?_⟩
  obtain ⟨hT, hq⟩ := hsp vs H Q E hs0
  have hl0 := len _ _ _ _ hs0
  have KX : K.In s.heap := e0.mod.kin.keeps fun b o e => (e0.bs b o e).1
  have lim : s.heap.NoLimit := e0.mod.nolimit.keeps fun b o e => (e0.bs b o e).1
  have hkind : ∀ y ∈ ps.zip us, scope.names.lookup y.1 = some .local ∨ (scope.names.lookup y.1 = some .cell ∧ ((cellsFrom (s.heap.objs.size + 1) scope.names []).lookup y.1).isSome = true) := fun ⟨n, v⟩ hy => by
    rcases S.par n (List.of_mem_zip hy).1 with q | q
    · exact .inl q
    · exact .inr ⟨q, PySem.W.cellsFrom_some _ _ _ (.inl q)⟩
  refine codeAny_call_function hr.depth (KX _ _ lk) rfl S.co S.gen rfl (PySem.W.codeRec_of KX hcd) (hb _ _ _ _ ?_)
  refine wpAny_newFunctionEnv_cells S.kind hkind fun env he s1 x1 => ?_
  subst he
  refine ⟨lim.keeps x1.toInCall.keep, codeAny_func ?_⟩
  have I : Inv (cxOf (fun _ _ _ _ _ _ => False) P w K mg base N qual scope f cdv A outer s H E) [] (start N vs) H s1 := inv_start S hr.hd e0 hl0 r x1
  generalize hX : cxOf (fun _ _ _ _ _ _ => False) P w K mg base N qual scope f cdv A outer s H E = X at I
  have eqv : X.env.qual = qual ++ ".<locals>." := by subst hX; rfl
  have hloc : Loc X.env.scope name := by subst hX; exact hl
  have hS := ps_ndefMS (X := X) (T := T) (nm := nm) (c := c) (P := Pt) (i := i) (pos := dp) hst (by subst hX; exact TB) (by subst hX; exact hcd0 _ _ _ _ _ _ _ _ _ _ lk) hm (by rw [eqv]; exact hn) hu (by subst hX; exact ndef_free hfree) hd0 hk0 (ha _) (by subst hX; exact S.nd) (by subst hX; exact hi) hloc (by subst hX; exact .inl rfl)
  have hcl : Caps X (cloFrom X.env.cells (C8.fnScope st).names []) fr js := Caps.made I.ok (by subst hX; exact ndef_free hfree) (ndef_fr hfree) (by subst hX; exact hjs)
  generalize hcl2 : cloFrom X.env.cells (C8.fnScope st).names [] = cl at hS hcl
  rw [show X.env.qual ++ name = qual ++ ".<locals>." ++ name from by rw [eqv]] at hS
  subst hX
  refine wpAny_mono (wpAny_execs_cons (thn (hS.run [] s1 _ H { nx := fun σ' H' => ∃ f' c', σ' = (start N vs).set i (some (.ref f')) ∧ ExtN H H' ∧ TabsN T H' ∧ H f' = none ∧ H' f' = some (FnO f' (NF.of st name (qual ++ ".<locals>." ++ name) cl c')) ∧ H' c' = some (CodeO c' (qual ++ ".<locals>." ++ name)), rt := fun _ _ => False } I ⟨hT, fun f' c' H1 e1 _ t1 n1 g1 g2 => ⟨f', c', rfl, e1, t1, n1, g1, g2⟩⟩) fun fl s2 q => ?_)) (fun fl s' hs => hs) fun e s' hs => hs
  cases fl with
  | ret v => obtain ⟨_, _, _, _, _, z⟩ := q; exact z.elim
  | brk => obtain ⟨_, _, _, z⟩ := q; exact z.elim
  | cont => obtain ⟨_, _, _, z⟩ := q; exact z.elim
  | next =>
    obtain ⟨σ', H1, J, f', c', rfl, e1, t1, n1, g1, g2⟩ := q
    have hσ : ((start N vs).set i (some (.ref f')))[i]? = some (some (.ref f')) := by
      rw [List.getElem?_set_self]
      have z := I.len
      have : i < N.length := (List.getElem?_eq_some_iff.mp hi).1
      rw [z]
      exact this
    refine wpAny_execs_cons (wpAny_Return_some (thn ((pe_var (pos := p) hi (hloc.elim .inl fun z => .inr (.inl z)) hdb hdc).run [] s2 _ H1 (fun v H2 => v = .ref f' ∧ H2 = H1) J ⟨.ref f', hσ, rfl, rfl⟩) fun u s3 ⟨v, H2, I2, r2, q2⟩ => ?_))
    obtain ⟨rfl, rfl⟩ := q2
    obtain rfl : u = Value.ref f' := r2
    have hC := cells_of I2 hcl
    rw [hws vs f' hl0] at hC
    have hlook : ∀ q ∈ cl, ∃ o, s3.heap.get? q.2 = some o ∧ ∃ v, o.data = .cell v := fun q hq => by
      rw [← hcl2] at hq
      rcases cloFrom_mem hq with z | ⟨z1, z2⟩
      · cases z
      · obtain ⟨c1, h1⟩ : ∃ c1, (cxOf (fun _ _ _ _ _ _ => False) P w K mg base N qual scope f cdv A outer s H E).env.cells.lookup q.1 = some c1 := (ndef_free hfree (q.1, .free) z1 rfl).elim (fun y => I2.ok.has _ (.inl y)) fun y => I2.ok.has _ (.inr y)
        obtain ⟨v, o, ho, hd⟩ := I2.cell _ _ h1
        rw [z2, h1]
        exact ⟨o, ho, v, hd⟩
    have hlk : ∀ b ∈ cl.map Prod.snd, ∃ y, (cxOf (fun _ _ _ _ _ _ => False) P w K mg base N qual scope f cdv A outer s H E).env.cells.lookup y = some b := fun b hb => by
      obtain ⟨q, hq, rfl⟩ := List.mem_map.mp hb
      rw [← hcl2] at hq
      rcases cloFrom_mem hq with z | ⟨z1, z2⟩
      · cases z
      · obtain ⟨c1, h1⟩ : ∃ c1, (cxOf (fun _ _ _ _ _ _ => False) P w K mg base N qual scope f cdv A outer s H E).env.cells.lookup q.1 = some c1 := (ndef_free hfree (q.1, .free) z1 rfl).elim (fun y => I2.ok.has _ (.inl y)) fun y => I2.ok.has _ (.inr y)
        exact ⟨q.1, by rw [z2, h1]; rfl⟩
    have inn : ∀ {b}, b ∈ cl.map Prod.snd → ∃ o, addC cl s3.heap H2 b = some (.frz o T0) ∧ s3.heap.get? b = some o ∧ ∃ v, o.data = .cell v := fun {b} m => by
      obtain ⟨q, hq, rfl⟩ := List.mem_map.mp m
      obtain ⟨o, h1, h2⟩ := hlook q hq
      refine ⟨o, ?_, h1, h2⟩
      unfold addC
      rw [if_pos m, h1]
      rfl
    have out : ∀ {b}, b ∉ cl.map Prod.snd → addC cl s3.heap H2 b = H2 b := fun {b} m => if_neg m
    have free2 : ∀ {b}, b ∈ cl.map Prod.snd → H2 b = none := fun {b} m => by
      obtain ⟨y, h1⟩ := hlk b m
      exact I2.freeC y b h1
    have kpt : ∀ {b u}, H2 b = some u → addC cl s3.heap H2 b = some u := fun {b u} g => by
      rw [out fun m => by rw [free2 m] at g; cases g]
      exact g
    have old : ∀ {b o}, s.heap.get? b = some o → b ∉ cl.map Prod.snd := fun {b o} g m => by
      obtain ⟨y, h1⟩ := hlk b m
      exact absurd (Heap.lt_size g) (Nat.not_lt.mpr (I2.ok.cab y b rfl h1))
    refine ⟨.ref f', addC cl s3.heap H2, I2.os, I2.bare, ⟨I2.base.keep, I2.base.slot, fun b o g n hx => ?_, I2.base.there, fun b xs g => kpt (I2.base.tups b xs g), fun b o u g => kpt (I2.base.frzs b o u g), fun b xs g => ?_⟩, fun b u g => ?_, rfl, hq f' cl c' _ ⟨kpt g1, kpt g2, ?_, fun q hq => ?_, hC.inj, fun i y e => ?_⟩ (fun b o g n => kpt (e1 b o g n)) (t1.ext fun b o g => kpt g) n1⟩
    · rw [out (old g)]
      exact I2.base.free b o g n hx
    · obtain ⟨more, z⟩ := I2.base.tbls b xs g
      exact ⟨more, kpt z⟩
    · by_cases m : b ∈ cl.map Prod.snd
      · obtain ⟨o, z, g2, _⟩ := inn m
        rw [g] at z
        cases z
        exact ⟨g2, trivial, ⟨_, g2⟩, fun _ _ _ _ => trivial⟩
      · rw [out m] at g
        exact (I2.hok b u g).stay (fun _ _ _ q => q) (fun d q => kpt q) fun d xs q => kpt q
    · have z := hC.len
      rw [List.length_map] at z
      exact z
    · obtain ⟨o, z, _, h2⟩ := inn (List.mem_map.mpr ⟨q, hq, rfl⟩)
      exact ⟨o, z, h2⟩
    · obtain ⟨a, h1, h2⟩ := hC.has i y e
      refine ⟨a, h1, fun v ev => ?_⟩
      obtain ⟨u, ru, o, ho, hd⟩ := h2 v (by rw [List.getElem?_map, ev]; rfl)
      obtain ⟨o2, z, g2, _⟩ := inn (List.mem_map.mpr ⟨(y, a), PySem.mem_of_lookup h1, rfl⟩)
      rw [ho] at g2
      cases g2
      exact ⟨o, u, z, hd, ru⟩
end
end L2.Mb
set_option maxRecDepth 100000
set_option maxHeartbeats 4000000
namespace L2.Mb
open PySem PySem.Spec PyProof.Rows L2 Evl Mv LamX NdefX
/-! ### nested defs that have cells of their own, too -/
theorem cellsFrom_app : ∀ (names : List (Str × NameKind)) (n : Nat) (acc : List (Str × Addr)), cellsFrom n names acc = cellsFrom n names [] ++ acc
  | [], n, acc => rfl
  | (name, kind) :: r, n, acc => by
    unfold cellsFrom
    split
    · rw [cellsFrom_app r (n + 1) ((name, n) :: acc), cellsFrom_app r (n + 1) [(name, n)], List.append_assoc]
      rfl
    · exact cellsFrom_app r n acc
theorem cellsFrom_kind : ∀ (names : List (Str × NameKind)) (n : Nat) {y : Str} {c : Addr}, (y, c) ∈ cellsFrom n names [] → (y, NameKind.cell) ∈ names
  | [], n, y, c, h => by cases h
  | (name, kind) :: r, n, y, c, h => by
    unfold cellsFrom at h
    split at h
    · rename_i hk
      rw [cellsFrom_app] at h
      rcases List.mem_append.mp h with z | z
      · exact List.mem_cons_of_mem _ (cellsFrom_kind r (n + 1) z)
      · have e := List.mem_singleton.mp z
        have hk' : kind = .cell := by simpa using hk
        rw [hk', (Prod.mk.inj e).1]
        exact List.mem_cons_self
    · exact List.mem_cons_of_mem _ (cellsFrom_kind r n h)
section
variable {M : Model} {A : Around} {E : Value → Shared → Prop} {s₀ s : Shared} {m cm : Str → Option Value} {env : Env} {own : List (Str × Addr)}
theorem stLD {n : Str} {v : Value} {Q : Unit → Shared → Prop} (x : InCallC s₀ env.locals m own cm s) (hk : env.scope.kind = .function) (hl : env.kindOf n = some .local)
    (h : ∀ s', InCallC s₀ env.locals (fun y => if y = n then some v else m y) own cm s' → Q () s') : wpAny M A (storeName env n v) Q E s := by
  refine wpAny_storeName_local hl x.toInCall.ns (fun h' hn' hs' => h _ ⟨⟨?_, hn', fun b o e => ?_, x.toInCall.fresh⟩, fun k c hc => ?_, x.apart, x.above⟩) (by rw [hk]; rfl)
  · obtain ⟨h₁, tk, rfl⟩ := x.toInCall.same
    exact ⟨h', _, rfl⟩
  · exact hs'.extBut b o (Nat.ne_of_lt (Nat.lt_of_lt_of_le (Heap.lt_size e) x.toInCall.fresh)) (x.toInCall.keep b o e)
  · exact (x.cell k c hc).sameBut hs' (Nat.ne_of_gt (x.above k c (mem_of_lookup hc)))
theorem stCD {n : Str} {c : Addr} {v : Value} {Q : Unit → Shared → Prop} (x : InCallC s₀ env.locals m own cm s) (hk : env.scope.kind = .function) (hl : env.kindOf n = some .cell)
    (hc : own.lookup n = some c) (ho : env.cells.lookup n = some c)
    (h : ∀ s', InCallC s₀ env.locals m own (fun y => if y = n then some v else cm y) s' → Q () s') : wpAny M A (storeName env n v) Q E s := by
  have hLc := x.above n c (mem_of_lookup hc)
  refine wpAny_storeName_cell hk hl ho (x.cell n c hc) fun h' hc' hs' => h _ ⟨⟨?_, x.toInCall.ns.sameBut hs' (Nat.ne_of_lt hLc), fun b o e => ?_, x.toInCall.fresh⟩, fun k c' hk' => ?_, x.apart, x.above⟩
  · obtain ⟨h₁, tk, rfl⟩ := x.toInCall.same
    exact ⟨h', _, rfl⟩
  · exact hs'.extBut b o (Nat.ne_of_lt (Nat.lt_trans (Nat.lt_of_lt_of_le (Heap.lt_size e) x.toInCall.fresh) hLc)) (x.toInCall.keep b o e)
  · by_cases hkn : k = n
    · subst hkn
      rw [hc] at hk'; cases hk'
      simpa using hc'
    · rw [if_neg hkn]
      exact (x.cell k c' hk').sameBut hs' fun e => hkn (name_of_addr x.apart (mem_of_lookup hk') (e ▸ mem_of_lookup hc))
theorem bindParamsD (f : Str × Value → PUnit → Sem (ForInStep PUnit)) (hf : ∀ n v u, f (n, v) u = (do storeName env n v; pure (.yield ⟨⟩))) (hk : env.scope.kind = .function) (ho : ∀ n c, own.lookup n = some c → env.cells.lookup n = some c) :
    ∀ (binds : List (Str × Value)) (m cm : Str → Option Value) (s : Shared) (Q : PUnit → Shared → Prop), InCallC s₀ env.locals m own cm s →
      (∀ x ∈ binds, env.kindOf x.1 = some .local ∨ (env.kindOf x.1 = some .cell ∧ (own.lookup x.1).isSome = true)) →
      (∀ s', InCallC s₀ env.locals (bindL env.kindOf binds m) own (bindC env.kindOf binds cm) s' → Q ⟨⟩ s') → wpAny M A (forIn binds ⟨⟩ f) Q E s
  | [], m, cm, s, Q, x, _, h => by rw [List.forIn_nil]; exact wpAny_pure (h s x)
  | (n, v) :: r, m, cm, s, Q, x, hkind, h => by
    rw [List.forIn_cons, hf]
    have hr : ∀ y ∈ r, env.kindOf y.1 = some .local ∨ (env.kindOf y.1 = some .cell ∧ (own.lookup y.1).isSome = true) := fun y hy => hkind y (List.mem_cons_of_mem _ hy)
    rcases hkind (n, v) List.mem_cons_self with hl | ⟨hl, hc⟩
    · refine wpAny_bind (wpAny_bind (stLD x hk hl fun s' x' => wpAny_pure (bindParamsD f hf hk ho r _ _ s' Q x' hr fun s'' x'' => h s'' ?_)))
      unfold bindL bindC; rw [if_pos hl, if_pos hl]; exact x''
    · obtain ⟨c, hc⟩ := Option.isSome_iff_exists.mp hc
      have hnl : ¬ env.kindOf n = some .local := by rw [hl]; decide
      refine wpAny_bind (wpAny_bind (stCD x hk hl hc (ho n c hc) fun s' x' => wpAny_pure (bindParamsD f hf hk ho r _ _ s' Q x' hr fun s'' x'' => h s'' ?_)))
      unfold bindL bindC; rw [if_neg hnl, if_neg hnl]; exact x''
end
section
variable {M : Model} {A : Around} {E : Value → Shared → Prop} {s : Shared}
theorem newFunctionEnvD {scope : Scope} {globals : Addr} {cl : List (Str × Addr)} {binds : List (Str × Value)} {qual : Str} {func : Option Addr} {code : Value} {builtins : Addr} {Q : Env → Shared → Prop}
    (hk : scope.kind = .function)
    (hkind : ∀ x ∈ binds, scope.names.lookup x.1 = some .local ∨ (scope.names.lookup x.1 = some .cell ∧ ((cellsFrom (s.heap.objs.size + 1) scope.names []).lookup x.1).isSome = true))
    (hQ : ∀ env, env = newEnv scope s.heap.objs.size globals (cellsFrom (s.heap.objs.size + 1) scope.names [] ++ cl) qual func code none builtins →
      ∀ s', InCallC s env.locals (bindL env.kindOf binds fun _ => none) (cellsFrom (s.heap.objs.size + 1) scope.names []) (bindC env.kindOf binds fun _ => none) s' → Q env s') :
    wpAny M A (newFunctionEnv scope globals cl binds qual func code none builtins) Q E s := by
  simp only [newFunctionEnv, Option.isSome_none, Bool.false_eq_true, if_false]
  refine wpAny_bind (wpAny_alloc ?_)
  refine wpAny_bind (wpAny_layCells _ (fun name kind cells => by cases hkc : kind == NameKind.cell <;> simp [hkc]) _ _ _ _ ?_)
  have ok := cellsFrom_ok scope.names (s.heap.push { cls := .type "frame", data := .dict #[] }) (s.heap.objs.size + 1) [] ⟨fun _ _ hm => (nomatch hm), List.Pairwise.nil⟩ (by rw [Heap.size_push]; exact Nat.le_refl _)
  rw [Heap.size_push] at ok
  rw [show ({ s with heap := s.heap.push { cls := .type "frame", data := .dict #[] } } : Shared).heap.objs.size = s.heap.objs.size + 1 from Heap.size_push ..]
  rw [cellsFrom_app scope.names (s.heap.objs.size + 1) cl]
  refine wpAny_bind (bindParamsD (s₀ := s) (own := cellsFrom (s.heap.objs.size + 1) scope.names []) (env := newEnv scope s.heap.objs.size globals (cellsFrom (s.heap.objs.size + 1) scope.names [] ++ cl) qual func code none builtins)
    _ (fun _ _ _ => rfl) hk (fun n c h => by show List.lookup n (_ ++ cl) = _; rw [List.lookup_append, h]; rfl) binds (fun _ => none) (fun _ => none) _ _
    ⟨⟨⟨_, _, rfl⟩, (Heap.Ns.new s.heap (.type "frame")).keeps (pushCells_keeps _ _), fun b o e => pushCells_keeps _ _ b o (Heap.get?_push_of_some _ e), Nat.le_refl _⟩,
      fun n c hc => (ok.empty n c (mem_of_lookup hc)).1, ok.apart, fun n c hm => (ok.empty n c hm).2⟩
    hkind fun s' x => wpAny_pure (hQ _ rfl s' x))
end
/-- its names: the parameters, then the captured ones, then its locals, some of all but the captured ones in cells -/
structure DScope (N ps fr : List Str) (sc : Scope) : Prop where
  kind : sc.kind = .function
  co : sc.isCoroutine = false
  gen : sc.isGenerator = false
  nd : N.Nodup
  pre : N.take (ps.length + fr.length) = ps ++ fr
  par : ∀ x ∈ ps, sc.names.lookup x = some .local ∨ sc.names.lookup x = some .cell
  free : ∀ y ∈ sc.names, y.2 = .free → y.1 ∈ fr
  frk : ∀ x ∈ fr, sc.names.lookup x = some .free
  frc : ∀ x ∈ fr, (x, NameKind.cell) ∉ sc.names
abbrev envD (F : NF) (f L : Addr) : Env := PySem.W.envX F.qual F.scope L f (.ref F.c) (cellsFrom (L + 1) F.scope.names [] ++ F.cl)
abbrev CXN : CXT := fun _ _ _ _ _ _ => False
/-- the context of its body, at its entry -/
def dcx (P : Program) (w : World) (K : PySem.W.Frag) (mg : Str → Option Value) (base : Heap) (N : List Str) (F : NF) (f : Addr) (A : Around) (outer : List Env) (s : Shared) (H : Hp) : Cx where
  prog := P
  w := w
  K := K
  mg := mg
  base := base
  A := A.deeper (envD F f s.heap.objs.size)
  N := N
  s_0 := s
  H_0 := H
  env := envD F f s.heap.objs.size
  outer := outer
  stack := envD F f s.heap.objs.size :: outer
  ex := []
  calm := true
  fn := fun y => decide (F.scope.names.lookup y = some .cell)
  pn := []
  xe := fun e s' => wpAny (model P w) (A.deeper (envD F f s.heap.objs.size)) (leaving (envD F f s.heap.objs.size) e) (fun _ s'' => False) (fun e' s'' => False) s'
section
variable {P : Program} {w : World} {K : PySem.W.Frag} {mg : Str → Option Value} {base : Heap} {N ps fr : List Str} {F : NF} {f : Addr} {A : Around} {outer : List Env} {s s1 : Shared} {H : Hp} {us : List Value} {vs : List V} {ws : List (Option V)}
theorem inv_startD (S : DScope N ps fr F.scope) (hd : A.handled = none) (e0 : Env0 P w K mg base A outer s H) (hl : vs.length = ps.length) (r : Vals vs us) (C : CellsAt F.cl fr ws s.heap H)
    (x : InCallC s s.heap.objs.size (bindL (envD F f s.heap.objs.size).kindOf (ps.zip us) fun _ => none) (cellsFrom (s.heap.objs.size + 1) F.scope.names []) (bindC (envD F f s.heap.objs.size).kindOf (ps.zip us) fun _ => none) s1) :
    Inv (dcx P w K mg base N F f A outer s H) [] (startF N vs ws) H s1 := by
  have hpl : ps.length + fr.length ≤ N.length := by
    have q := congrArg List.length S.pre
    rw [List.length_take, List.length_append] at q
    omega
  obtain ⟨h1, tk, rfl, hk⟩ := x.done
  have noA : ∀ b : Addr, b ∉ (dcx P w K mg base N F f A outer s H).ex := fun b z => absurd (show b ∈ ([] : List Addr) from z) (by simp)
  have cellK : ∀ {c : Addr} {v : Option Value}, s.heap.IsCell c v → h1.IsCell c v := fun {c v} ⟨o, ho, hd⟩ => ⟨o, hk _ _ ho, hd⟩
  have look : ∀ y c, (cellsFrom (s.heap.objs.size + 1) F.scope.names [] ++ F.cl).lookup y = some c → (cellsFrom (s.heap.objs.size + 1) F.scope.names []).lookup y = some c ∨ F.cl.lookup y = some c := fun y c e => by
    rw [List.lookup_append] at e
    cases z : (cellsFrom (s.heap.objs.size + 1) F.scope.names []).lookup y with
    | some c2 => rw [z] at e; exact .inl e
    | none => rw [z] at e; exact .inr e
  have low : ∀ y c, F.cl.lookup y = some c → c < s.heap.objs.size := fun y c e => by
    obtain ⟨_, v, z⟩ := C.all y c e
    exact z.lt
  have high : ∀ y c, (cellsFrom (s.heap.objs.size + 1) F.scope.names []).lookup y = some c → s.heap.objs.size < c := fun y c e => x.above y c (PySem.mem_of_lookup e)
  refine ⟨⟨e0.mod, S.kind, rfl, rfl, Nat.le_refl _, fun y z c h1 h2 => ?_, fun y hy => ?_, fun y c hfn h => ?_, fun _ => hd, Around.frames_deeper e0.frames, .inr ⟨rfl, rfl⟩, fun b z => absurd z (noA b), e0.bs, e0.bsz, fun b _ _ => noA b, fun b z => absurd z (noA b), e0.funs, e0.frf⟩,
    rfl, e0.bare, Un.kept hk, ⟨_, x.toInCall.ns, fun i y v e1 e2 e3 => ?_⟩, fun y c h => ?_, e0.hok.fresh (Nat.le_refl _), fun y c h => ?_, fun p hp => absurd (show p ∈ ([] : List (Addr × Obj)) from hp) (by simp), e0.hok.kept hk, ?_⟩
  · rcases look y c h1 with a | a <;> rcases look z c h2 with b | b
    · exact name_of_addr x.apart (PySem.mem_of_lookup a) (PySem.mem_of_lookup b)
    · exact absurd (high y c a) (Nat.not_lt.mpr (Nat.le_of_lt (low z c b)))
    · exact absurd (high z c b) (Nat.not_lt.mpr (Nat.le_of_lt (low y c a)))
    · exact C.inj y z c a b
  · have hy : F.scope.names.lookup y = some .cell ∨ F.scope.names.lookup y = some .free := hy
    rcases hy with hy | hy
    · obtain ⟨c, e⟩ := cell_has (n := s.heap.objs.size + 1) hy
      exact ⟨c, by show (cellsFrom (s.heap.objs.size + 1) F.scope.names [] ++ F.cl).lookup y = _; rw [List.lookup_append, e]; rfl⟩
    · obtain ⟨i, hi⟩ := List.mem_iff_getElem?.mp (S.free _ (PySem.mem_of_lookup hy) rfl)
      obtain ⟨c, hc, _⟩ := C.has i y hi
      show ∃ c, (cellsFrom (s.heap.objs.size + 1) F.scope.names [] ++ F.cl).lookup y = some c
      rw [List.lookup_append]
      cases z : (cellsFrom (s.heap.objs.size + 1) F.scope.names []).lookup y with
      | some c2 => exact ⟨c2, rfl⟩
      | none => exact ⟨c, hc⟩
  · obtain ⟨c2, e⟩ := cell_has (n := s.heap.objs.size + 1) (of_decide_eq_true hfn)
    replace h : (cellsFrom (s.heap.objs.size + 1) F.scope.names [] ++ F.cl).lookup y = some c := h
    rw [List.lookup_append, e] at h
    cases h
    exact Nat.le_of_lt (high y c e)
  · have e1 : N[i]? = some y := e1
    have clen := C.len
    unfold startF at e2
    by_cases h1 : i < ps.length
    · have hq : (ps ++ fr)[i]? = some y := by
        rw [← S.pre, List.getElem?_take_of_lt (by omega)]
        exact e1
      rw [List.getElem?_append_left h1] at hq
      rw [List.getElem?_append_left (by rw [List.length_map]; omega), List.getElem?_map] at e2
      have ha : vs[i]? = some v := by
        cases e : vs[i]? with
        | none => rw [e] at e2; cases e2
        | some a => rw [e] at e2; cases e2; rfl
      obtain ⟨u, hu, rv⟩ := r.get ha
      have ndP : ps.Nodup := by
        have q := S.nd.sublist (List.take_sublist (ps.length + fr.length) N)
        rw [S.pre] at q
        exact (List.nodup_append.mp q).1
      refine ⟨u, rv, ?_⟩
      rcases S.par y (List.mem_of_getElem? hq) with k | k
      · exact .inl ⟨k, bindL_get ndP hq hu k⟩
      · obtain ⟨c, e⟩ := cell_has (n := s.heap.objs.size + 1) k
        refine .inr ⟨.inl k, c, by show (cellsFrom (s.heap.objs.size + 1) F.scope.names [] ++ F.cl).lookup y = _; rw [List.lookup_append, e]; rfl, ?_⟩
        have q := x.cell y c e
        rw [bindC_get ndP hq hu (by show F.scope.names.lookup y ≠ _; rw [k]; decide)] at q
        exact q
    · rw [List.getElem?_append_right (by rw [List.length_map]; omega), List.length_map] at e2
      by_cases h2 : i < ps.length + fr.length
      · have hq : (ps ++ fr)[i]? = some y := by
          rw [← S.pre, List.getElem?_take_of_lt (by omega)]
          exact e1
        rw [List.getElem?_append_right (by omega)] at hq
        rw [List.getElem?_append_left (by omega), hl] at e2
        obtain ⟨c, hc, hv⟩ := C.has (i - ps.length) y hq
        obtain ⟨u, ru, hu⟩ := hv v e2
        refine ⟨u, ru, .inr ⟨.inr (S.frk y (List.mem_of_getElem? hq)), c, ?_, cellK hu⟩⟩
        show (cellsFrom (s.heap.objs.size + 1) F.scope.names [] ++ F.cl).lookup y = _
        rw [List.lookup_append]
        cases z : (cellsFrom (s.heap.objs.size + 1) F.scope.names []).lookup y with
        | some c2 => exact absurd (cellsFrom_kind _ _ (PySem.mem_of_lookup z)) (S.frc y (List.mem_of_getElem? hq))
        | none => exact hc
      · rw [List.getElem?_append_right (by omega), List.getElem?_replicate] at e2
        split at e2 <;> cases e2
  · rcases look y c h with a | a
    · exact ⟨_, x.cell y c a⟩
    · obtain ⟨v, z⟩ := (C.all y c a).2
      exact ⟨v, cellK z⟩
  · rcases look y c h with a | a
    · exact e0.hok.fresh (Nat.le_of_lt (high y c a))
    · exact (C.all y c a).1
  · have clen := C.len
    unfold startF
    show _ = N.length
    rw [List.length_append, List.length_append, List.length_map, List.length_replicate]
    omega
end
section
variable {P : Program} {w : World} {K : PySem.W.Frag} {mg : Str → Option Value} {base : Heap} {N ps fr : List Str} {F : NF} {f : Addr} {k : Nat} {sp : List (Option V) → Sp}
/-- THE RULE: such a def by its body -/
theorem nok_ofD (S : DScope N ps fr F.scope) (hb : ∀ (doc pm ctv : Value) (us : List Value), us.length = ps.length → bindArgs (F.fd doc pm ctv) ⟨us, []⟩ = pure (ps.zip us)) (len : ∀ ws vs H Q E, sp ws vs H Q E → vs.length = ps.length)
    (hbody : ∀ (A : Around) (outer : List Env) (s : Shared) (H : Hp) (vs : List V) (ws : List (Option V)) (Q : VK) (E : XK), Room k (A.deeper (envD F f s.heap.objs.size)) → ws.length = fr.length → sp ws vs H Q E →
      ∃ t, PSs (dcx P w K mg base N F f A outer s H) F.body t ∧ t { nx := fun _ H' => Q .non H', rt := Q } (startF N vs ws) H) :
    NOk P w K mg base CXN (k + 1) f F ps fr sp := by
  refine ⟨len, fun A outer s H us vs ws Q E hr e0 hf hc C r hsp => ?_⟩
  have hl := len _ _ _ _ _ hsp
  have lim : s.heap.NoLimit := e0.mod.nolimit.keeps fun b o e => (e0.bs b o e).1
  obtain ⟨od, sl, doc, pm, ctv, ho⟩ := fnO_at e0.hok hf
  have hkind : ∀ y ∈ ps.zip us, F.scope.names.lookup y.1 = some .local ∨ (F.scope.names.lookup y.1 = some .cell ∧ ((cellsFrom (s.heap.objs.size + 1) F.scope.names []).lookup y.1).isSome = true) := fun ⟨n, v⟩ hy => by
    rcases S.par n (List.of_mem_zip hy).1 with q | q
    · exact .inl q
    · exact .inr ⟨q, PySem.W.cellsFrom_some _ _ _ (.inl q)⟩
  refine codeAny_call_function hr.depth ho rfl S.co S.gen rfl (codeO_at e0.hok hc) ?_
  rw [hb doc pm ctv us (by rw [← r.length]; exact hl)]
  refine wpAny_pure (newFunctionEnvD S.kind hkind fun env he s1 x => ?_)
  subst he
  refine ⟨lim.keeps x.toInCall.keep, codeAny_func ?_⟩
  obtain ⟨t, ht, hq⟩ := hbody A outer s H vs ws Q E (hr.deeper _) C.len hsp
  have I : Inv (dcx P w K mg base N F f A outer s H) [] (startF N vs ws) H s1 := inv_startD S hr.hd e0 hl r C x
  refine wpAny_mono (ht.run [] s1 (startF N vs ws) H _ I hq) (fun fl s' hs => ?_) fun e s' hs => hs
  have fin : ∀ {σ' : L2.St} {H' : Hp} {v : V} {u : Value}, Inv (dcx P w K mg base N F f A outer s H) [] σ' H' s' → L2.RelV v u → Q v H' → CE outer P w H s Q u s' :=
    fun {σ' H' v u} J rv q => ⟨v, H', J.os, J.bare, J.base, J.hok, rv, q⟩
  cases fl with
  | ret u =>
    obtain ⟨v, σ', H', J, rv, q⟩ := hs
    exact fin J rv q
  | next =>
    obtain ⟨σ', H', J, q⟩ := hs
    exact fin (v := V.non) (u := Value.none) J rfl q
  | brk =>
    obtain ⟨_, _, _, q⟩ := hs
    exact False.elim q
  | cont =>
    obtain ⟨_, _, _, q⟩ := hs
    exact False.elim q
end
end L2.Mb
set_option maxRecDepth 100000
set_option maxHeartbeats 4000000
namespace L2.Sr
open PySem PySem.Spec PyProof.Rows L2 Srt SrtO
/-! ### sorted(x, key=f) -/
section
variable {prog : Program} {w : World} {A : Around} {E : Value → Shared → Prop} {s : Shared}
theorem zip_len {keys : Array Value} {vs : List Value} (h : keys.size = vs.length) : (keys.zip vs.toArray).size = vs.length := by
  rw [Array.size_zip, h, List.size_toArray, Nat.min_self]
/-- behind the keys: the pairs are put in order -/
theorem key_end {a kS : Addr} {vs : List Value} {keys : Array Value} {e e1 : Nat} {P : PySem.Fin → Shared → Prop} {ltv : Value → Value → Bool} (O : Swo ltv)
    (nk : s.heap.get? kS = some (seqObj "list" keys e)) (na : s.heap.get? a = some (seqObj "list" #[] e1)) (hka : kS ≠ a) (hlen : keys.size = vs.length) (hz : vs.length ≤ sizeLine)
    (hS : 2 ≤ vs.length → ∃ κ, (∀ (Q : SortKind → Shared → Prop) (E : Value → Shared → Prop), Q κ s → wpAny (model prog w) A (keyKind' keys) Q E s) ∧ Cmp prog w A s κ (fun p => p.1 ∈ keys.toList) (lt2 ltv))
    (h : ∀ (ps : List Keyed) (h' : Heap), Srtd (lt2 ltv) ps → ps.Perm (keys.toList.zip vs) → (∀ b o, b ≠ kS → b ≠ a → s.heap.get? b = some o → h'.get? b = some o) → (∃ c, h'.get? a = some (seqObj "list" (ps.map (·.2)).toArray c)) → (∃ o, h'.get? kS = some o) → P (.done (.ret .none)) { s with heap := h' }) :
    wpAny (model prog w) A (ksk_end a false vs.toArray e1 (.ref kS) keys) P E s := by
  have zl := zip_len hlen
  have last : ∀ st : SortSt, failedOf st = none → Srtd (lt2 ltv) (arrOf st).toList → (arrOf st).toList.Perm (keys.toList.zip vs) → wpAny (model prog w) A (ksk_tail a false e1 (.ref kS) st) P E s := fun st hf hs hp => by
    have sz : (arrOf st).size = vs.length := by
      have z := hp.length_eq
      rw [Array.length_toList, List.length_zip, Array.length_toList, hlen, Nat.min_self] at z
      exact z
    have so : ((arrOf st).map (·.2)).size = vs.length := by rw [Array.size_map, sz]
    have b1 := Heap.SameBut.update s.heap kS (Obj.mapSeq fun _ => (#[] : Array Value))
    have a1 : (s.heap.update kS (Obj.mapSeq fun _ => (#[] : Array Value))).get? a = some (seqObj "list" #[] e1) := (b1.2 a (Ne.symm hka)).trans na
    obtain ⟨c1, k1⟩ : ∃ c, (s.heap.update kS (Obj.mapSeq fun _ => (#[] : Array Value))).get? kS = some (seqObj "list" #[] c) := ⟨_, get?_update_seq nk fun _ => #[]⟩
    have b2 := Heap.SameBut.update (s.heap.update kS (Obj.mapSeq fun _ => (#[] : Array Value))) a (Obj.mapSeq fun _ => (arrOf st).map (·.2))
    obtain ⟨c2, a2⟩ : ∃ c, ((s.heap.update kS (Obj.mapSeq fun _ => (#[] : Array Value))).update a (Obj.mapSeq fun _ => (arrOf st).map (·.2))).get? a = some (seqObj "list" ((arrOf st).map (·.2)) c) := ⟨_, get?_update_seq a1 fun _ => (arrOf st).map (·.2)⟩
    unfold ksk_tail
    try dsimp only
    refine wpAny_bind (listUpdate_at nk rfl ?_ (by rw [hlen]; exact hz) (Nat.zero_le _))
    refine wpAny_bind (wpAny_letGo ?_)
    refine wpAny_bind (seqEpoch_at a1 rfl ?_)
    refine wpAny_bind (listUpdate_at a1 rfl ?_ (Nat.zero_le _) (Nat.le_trans (Nat.le_of_eq so) (Nat.le_succ_of_le hz)))
    rw [hf]
    simp only [bne_self_eq_false, Bool.false_eq_true, if_false]
    refine wpAny_pure (h (arrOf st).toList _ hs hp (fun b o n1 n2 q => (b2.2 b n2).trans ((b1.2 b n1).trans q)) ⟨c2, ?_⟩ ⟨_, (b2.2 kS hka).trans k1⟩)
    rw [show ((arrOf st).toList.map fun p : Keyed => p.2).toArray = (arrOf st).map (·.2) from by
      apply Array.ext'
      rw [Array.toList_map]]
    exact a2
  unfold ksk_end
  try dsimp only
  show wpAny (model prog w) A (do
    let kind ← if vs.toArray.size < 2 then pure general' else keyKind' keys
    let ((), st) ← (if vs.toArray.size < 2 then pure () else sortRuns').run (SortSt.mk' kind (keys.zip vs.toArray) #[] 7 none)
    ksk_tail a false e1 (.ref kS) st) P E s
  have pz : (keys.zip vs.toArray).toList = keys.toList.zip vs := ksk_zip keys vs
  by_cases h2 : vs.toArray.size < 2
  · rw [if_pos h2, if_pos h2]
    refine wpAny_bind (wpAny_pure ?_)
    try dsimp only
    rw [StateT.run_pure]
    refine wpAny_bind (wpAny_pure ?_)
    try dsimp only
    refine last (SortSt.mk' general' (keys.zip vs.toArray) #[] 7 none) rfl ?_ ?_
    · show Srtd (lt2 ltv) (keys.zip vs.toArray).toList
      rw [List.size_toArray] at h2
      have l2 : (keys.zip vs.toArray).toList.length < 2 := by
        rw [Array.length_toList, zl]
        exact h2
      match (keys.zip vs.toArray).toList, l2 with
      | [], _ => exact List.Pairwise.nil
      | [x], _ => exact List.pairwise_singleton _ _
    · show (keys.zip vs.toArray).toList.Perm _
      rw [pz]
  · rw [if_neg h2, if_neg h2]
    rw [List.size_toArray] at h2
    obtain ⟨κ, hkind, hT⟩ := hS (by omega)
    refine wpAny_bind (hkind _ _ ?_)
    try dsimp only
    have hall : AllL (fun p : Keyed => p.1 ∈ keys.toList) (keys.zip vs.toArray).toList := fun p hm => by
      rw [pz] at hm
      obtain ⟨x, y⟩ := p
      exact (List.of_mem_zip hm).1
    refine wpAny_bind (wpAny_mono (wpS_sortO (st0 := SortSt.mk' κ (keys.zip vs.toArray) #[] 7 none)
      (Q := fun _ st' => Srtd (lt2 ltv) (arrOf st').toList ∧ (arrOf st').toList.Perm (keys.toList.zip vs) ∧ failedOf st' = none) (swo2 O) hT rfl hall rfl rfl fun st' z1 z2 z3 => ⟨z1, by rw [← pz]; exact z2.perm, z3⟩) ?_ fun _ _ e => e)
    rintro ⟨⟨⟩, st'⟩ s' ⟨rfl, q1, q2, q3⟩
    try dsimp only
    exact last st' q3 q1 q2
end
/-- f called with one value from within a built-in that the code calls -/
def KeyC (X : Cx) (f : Value) (kp : V → Hp → VK → Prop) : Prop := ∀ (pins : List (Addr × Obj)) (s : Shared) (σ : L2.St) (H : Hp) (v : V) (u : Value) (Q : VK), Inv X pins σ H s → RelV v u → kp v H Q →
  wpAny (model X.prog X.w) X.A.in1.in1 (call f [u]) (EP X pins σ Q) (fun _ _ => False) s
/-- the keys of all items, one after another -/
def tKeys (kp : V → Hp → VK → Prop) : List V → Hp → (List V → Hp → Prop) → Prop
  | [], H, Q => Q [] H
  | v :: vs, H, Q => kp v H fun k H1 => tKeys kp vs H1 fun ks H2 => Q (k :: ks) H2
/-- sorted(x, key=f) -/
def rSortK (K : PySem.W.Frag) (kp : Addr → V → Hp → VK → Prop) : List V → List V → Hp → VK → Prop := fun vs zs H Q => ∃ (a fa : Addr) (xs : List V), vs = [.ref a] ∧ zs = [.ref fa] ∧ (SqL K H a xs ∨ SqT K H a xs) ∧
  tKeys (kp fa) xs H fun ks H1 => ∃ (k : V → KD) (sh : Shp), (∀ x ∈ ks, KDV K H1 x (k x) ∧ fitS sh (k x)) ∧
    ∀ (ps : List (V × V)) (p : Addr), Srtd (fun x y => ltKD (k x.1) (k y.1)) ps → ps.Perm (ks.zip xs) → H1 p = none → Q (.ref p) (upd H1 p (.lst (ps.map Prod.snd)))
section
variable {X : Cx} {pins : List (Addr × Obj)} {σ : L2.St} {H : Hp} {s : Shared}
theorem pins_drop {more : List (Addr × Obj)} (I : Inv X (pins ++ more) σ H s) : Inv X pins σ H s := I.pins_of fun p hp => I.pin p (List.mem_append_right _ (List.mem_append_left _ hp))
/-- an object of ours that nobody tracks is changed -/
theorem repin {kS a : Addr} {oa ok o' : Obj} {h' : Heap} {tk : Nat} (I : Inv X (pins ++ [(a, oa), (kS, ok)]) σ H s) (hka : kS ≠ a) (h0 : X.s_0.heap.objs.size ≤ kS) (hc : ∀ x c, X.env.cells.lookup x = some c → c ≠ kS) (hp : ∀ p ∈ X.pn ++ pins, p.1 ≠ kS)
    (sb : Heap.SameBut kS s.heap h') (hk : h'.get? kS = some o') (hd : ∀ v, o'.data ≠ .cell v) : Inv X (pins ++ [(a, oa), (kS, o')]) σ H { s with heap := h', toks := tk } := by
  have pa := I.pin (a, oa) (List.mem_append_right _ (List.mem_append_right _ List.mem_cons_self))
  have pk := I.pin (kS, ok) (List.mem_append_right _ (List.mem_append_right _ (List.mem_cons_of_mem _ List.mem_cons_self)))
  have J : Inv X (pins ++ [(a, oa)]) σ H s := I.pins_of fun p hp => I.pin p (List.mem_append_right _ (by
    rcases List.mem_append.mp hp with z | z
    · exact List.mem_append_left _ z
    · exact List.mem_append_right _ (by rw [List.mem_singleton.mp z]; exact List.mem_cons_self)))
  have J2 : Inv X (pins ++ [(a, oa)]) σ H { s with heap := h', toks := tk } := J.turned (fun b o hb e => (sb.2 b hb).trans e) pk.2.1 pk.2.2.1 (.inr h0) hc fun p hp' => by
    rcases List.mem_append.mp hp' with z | z
    · exact hp p (List.mem_append_left _ z)
    · rcases List.mem_append.mp z with z | z
      · exact hp p (List.mem_append_right _ z)
      · rw [List.mem_singleton.mp z]
        exact Ne.symm hka
  refine J2.pins_of fun p hp' => ?_
  rcases List.mem_append.mp hp' with z | z
  · exact J2.pin p (List.mem_append_right _ (List.mem_append_left _ z))
  · rcases List.mem_cons.mp z with z | z
    · rw [z]
      exact J2.pin (a, oa) (List.mem_append_right _ (List.mem_append_right _ List.mem_cons_self))
    · rw [List.mem_singleton.mp z]
      exact ⟨hk, pk.2.1, pk.2.2.1, pk.2.2.2.1, hd⟩
end
end L2.Sr
set_option maxRecDepth 100000
set_option maxHeartbeats 4000000
namespace L2.Sr
open PySem PySem.Spec PyProof.Rows L2 Srt SrtO
section
variable {X : Cx} {pins : List (Addr × Obj)} {σ : L2.St} {H : Hp} {s : Shared}
/-- two objects of ours, not tracked so far: one is a list that is told from now on -/
theorem laid_two {D kS : Addr} {xs : List V} {h' : Heap} (I : Inv X pins σ H s) (hD : H D = none) (hK : H kS = none) (hch : ∀ b, b = D ∨ b = kS → X.s_0.heap.objs.size ≤ b ∧ b ≠ X.env.locals ∧ (∀ x c, X.env.cells.lookup x = some c → c ≠ b) ∧ ∀ p ∈ X.pn ++ pins, p.1 ≠ b)
    (k : ∀ b o, b ≠ kS → b ≠ D → s.heap.get? b = some o → h'.get? b = some o) (there : ∀ b, b = D ∨ b = kS → ∃ o, h'.get? b = some o) (new : ObjOk X.prog X.w (upd H D (.lst xs)) h' D (.lst xs)) : Inv X pins σ (upd H D (.lst xs)) { s with heap := h' } := by
  have nD : ∀ {b u}, H b = some u → b ≠ D := fun {b u} e z => by rw [z, hD] at e; cases e
  have nK : ∀ {b u}, H b = some u → b ≠ kS := fun {b u} e z => by rw [z, hK] at e; cases e
  have out : ∀ {b : Addr}, b ∉ [D, kS] → b ≠ kS ∧ b ≠ D := fun {b} hb => ⟨fun z => hb (by rw [z]; simp), fun z => hb (by rw [z]; simp)⟩
  refine I.step (g' := s.gens) (d' := s.drawn) (t' := s.toks) (ch := [D, kS]) (fun b hb => ?_) (fun b o _ _ hc e _ => k b o (out hc).1 (out hc).2 e) (fun b o _ _ hc e _ => ⟨o.slots, k b o (out hc).1 (out hc).2 e⟩)
    (fun b o hc _ n => ?_) (fun b o hc e => ⟨o, k b o (out hc).1 (out hc).2 e⟩) (fun b xs e => ?_) (fun b o u e => ?_) (fun b ps e => ⟨#[], ?_⟩) (fun m hm => ?_) (fun b u e => ?_) I.bare
  · obtain ⟨h1, h2, h3, h4⟩ := hch b (by simpa using hb)
    exact ⟨.inr h1, h2, h3, h4⟩
  · exact (upd_ne (out hc).2).trans n
  · exact (upd_ne (nD e)).trans e
  · exact (upd_ne (nD e)).trans e
  · rw [upd_ne (nD e), e]
    simp
  · obtain ⟨o, es, ep, ho, r⟩ := hm
    have l1 := (hch D (.inl rfl)).2.1
    have l2 := (hch kS (.inr rfl)).2.1
    exact ⟨o, es, ep, k _ o (Ne.symm l2) (Ne.symm l1) ho, r⟩
  · by_cases hb : b = D
    · subst hb
      rw [upd_same] at e
      cases e
      exact new
    · rw [upd_ne hb] at e
      refine (I.hok b u e).stay (fun c v hc q => ?_) (fun c q => (upd_ne (nD q)).trans q) fun c ys q => (upd_ne (nD q)).trans q
      rcases hc with z | z
      · subst z
        exact k c v (nK e) hb q
      · exact k c v (nK z) (nD z) q
theorem drop_get {α : Type} {l : List α} {j : Nat} {x : α} (h : l[j]? = some x) : l.drop j = x :: l.drop (j + 1) := by
  obtain ⟨hj, e⟩ := List.getElem?_eq_some_iff.mp h
  rw [← e]
  exact List.drop_eq_getElem_cons hj
theorem vals_snoc : ∀ {vs : List V} {us : List Value} {v : V} {u : Value}, Vals vs us → RelV v u → Vals (vs ++ [v]) (us ++ [u])
  | _, _, _, _, .nil, r => .cons r .nil
  | _, _, _, _, .cons a t, r => .cons a (vals_snoc t r)
/-- sorted(x, key=f) -/
theorem cr_sortK {kp : Addr → V → Hp → VK → Prop} (hk : ∀ fa, KeyC X (.ref fa) (kp fa)) (hu : X.A.in1.in1.units < cLine) : CallRK X (.builtin "sorted") [Str.ofString "key"] (rSortK X.K kp) := by
  intro pins s σ H vs zs us ws Q I r rz h
  obtain ⟨a, fa, xs, rfl, rfl, hs, hq⟩ := h
  obtain ⟨its, rv, hl, hz⟩ := Inv.sq I hs
  rw [Vals.ref1 r, Vals.ref1 rz]
  have hz' : its.length ≤ sizeLine := by rw [← rv.length]; exact hz
  show wpAny (model X.prog X.w) X.A (call (.builtin "sorted") [.ref a] [(Str.ofString "key", .ref fa)]) (EP X pins σ Q) X.xe s
  refine call_function_entry_kw kind_sorted plain_sorted entry_sorted (ksk_s1 _ _) ?_
  unfold Builtin.«sorted»
  refine wpAny_bind (m := checkCount "sorted" 1 1 _) (wpAny_pure ?_)
  refine wpAny_bind (collect_sq hl ?_ hz')
  refine wpAny_bind (wpAny_newList ?_ hz')
  show wpAny _ _ _ _ _ { s with heap := cpy s.heap its }
  rw [chp_size]
  refine wpAny_bind (wpAny_holding (wpAny_call_entry_kw slot_list_sort ⟨_, cpy_at s.heap its, rfl⟩ entry_list_sort ?body (ksk_l1 _ _)))
  show wpAny (model X.prog X.w) X.A.in1.in1 (Builtin.«list.sort» ⟨[.ref (s.heap.objs.size + 1)], [(Str.ofString "key", .ref fa)]⟩) _ _ _
  rw [ksk_t1]
  have ho := cpy_at s.heap its
  obtain ⟨e1, ho1⟩ : ∃ e1, ((cpy s.heap its).update (s.heap.objs.size + 1) (Obj.mapSeq fun _ => (#[] : Array Value))).get? (s.heap.objs.size + 1) = some (seqObj "list" #[] e1) := ⟨_, get?_update_seq ho fun _ => #[]⟩
  have sz1 : ((cpy s.heap its).update (s.heap.objs.size + 1) (Obj.mapSeq fun _ => (#[] : Array Value))).objs.size = s.heap.objs.size + 2 := by
    rw [Heap.size_update, size_push', chp_size]
  have sz2 : (((cpy s.heap its).update (s.heap.objs.size + 1) (Obj.mapSeq fun _ => (#[] : Array Value))).push (seqObj "tuple" its.toArray 0)).objs.size = s.heap.objs.size + 3 := by
    rw [size_push', sz1]
  unfold ksk_tree
  refine wpAny_bind (listItems_at ho rfl ?_)
  refine wpAny_bind (listUpdate_at ho rfl ?_ (by rw [List.size_toArray]; exact hz') (Nat.zero_le _))
  refine wpAny_bind (seqEpoch_at ho1 rfl ?_)
  refine wpAny_bind (wpAny_newTuple ?_ (by show its.length ≤ _; exact hz'))
  refine wpAny_bind (wpAny_newList ?_ (Nat.zero_le _))
  refine wpAny_holding ?_
  generalize hh3 : (((cpy s.heap its).update (s.heap.objs.size + 1) (Obj.mapSeq fun _ => (#[] : Array Value))).push (seqObj "tuple" its.toArray 0)).push (seqObj "list" #[] 0) = h3
  have eK : (((cpy s.heap its).update (s.heap.objs.size + 1) (Obj.mapSeq fun _ => (#[] : Array Value))).push (seqObj "tuple" its.toArray 0)).objs.size = s.heap.objs.size + 3 := sz2
  have hD3 : h3.get? (s.heap.objs.size + 1) = some (seqObj "list" #[] e1) := by
    rw [← hh3]
    exact Heap.get?_push_of_some _ (Heap.get?_push_of_some _ ho1)
  have hK3 : h3.get? (s.heap.objs.size + 3) = some (seqObj "list" #[] 0) := by
    rw [← hh3, ← sz2]
    exact Heap.get?_push_size _ rfl
  have old3 : ∀ b o, s.heap.get? b = some o → h3.get? b = some o := fun b o q => by
    have z := cpy_old s.heap its b o q
    rw [← hh3]
    refine Heap.get?_push_of_some _ (Heap.get?_push_of_some _ ?_)
    rw [Heap.get?_update_ne _ _ _ _ z.1]
    exact z.2
  show wpAny (model X.prog X.w) X.A.in1.in1 (ksk_rest (s.heap.objs.size + 1) (.ref fa) false its.toArray e1 (.ref (((cpy s.heap its).update (s.heap.objs.size + 1) (Obj.mapSeq fun _ => (#[] : Array Value))).push (seqObj "tuple" its.toArray 0)).objs.size)) _ _ { s with heap := h3 }
  rw [sz2]
  generalize hDn : s.heap.objs.size + 1 = D at hD3 ⊢
  generalize hKn : s.heap.objs.size + 3 = kS at hK3 ⊢
  have hKD : kS ≠ D := by omega
  have geD : s.heap.objs.size ≤ D := by omega
  have geK : s.heap.objs.size ≤ kS := by omega
  -- both are ours
  have ours : ∀ b, b = D ∨ b = kS → X.s_0.heap.objs.size ≤ b ∧ b ≠ X.env.locals ∧ (∀ x c, X.env.cells.lookup x = some c → c ≠ b) ∧ ∀ p ∈ X.pn ++ pins, p.1 ≠ b := fun b hb => by
    have ge : s.heap.objs.size ≤ b := by rcases hb with z | z <;> omega
    have no : ∀ c : Addr, c < s.heap.objs.size → c ≠ b := fun c lt z => Nat.lt_irrefl _ (Nat.lt_of_lt_of_le (by rw [z] at lt; exact lt) ge)
    refine ⟨Nat.le_trans I.sz ge, fun z => no _ I.lt z.symm, fun x c e => ?_, fun p hp => no _ (Heap.lt_size (I.pin p hp).1)⟩
    obtain ⟨v, o, hc, _⟩ := I.cell x c e
    exact no _ (Heap.lt_size hc)
  have I0 : Inv X (pins ++ [(D, seqObj "list" #[] e1), (kS, seqObj "list" #[] 0)]) σ H { s with heap := h3 } := (I.kept (t' := s.toks) old3).pins_of fun p hp => by
    rcases List.mem_append.mp hp with z | z
    · exact (I.kept (t' := s.toks) old3).pin p (List.mem_append_right _ z)
    · rcases List.mem_cons.mp z with z | z
      · rw [z]
        exact ⟨hD3, I.hok.fresh geD, (ours D (.inl rfl)).2.1, I.nofs geD, fun v z => by cases z⟩
      · rw [List.mem_singleton.mp z]
        exact ⟨hK3, I.hok.fresh geK, (ours kS (.inr rfl)).2.1, I.nofs geK, fun v z => by cases z⟩
  unfold ksk_rest
  refine wpAny_bind (wpAny_rule ?_)
  first
    | rw [List.forIn_toArray]
    | (rw [← Array.forIn_toList]; simp only [List.toList_toArray])
    | rw [← Array.forIn_toList]
  refine wpAny_bind (ksk_fold (fun i s' => ∃ (H' : Hp) (kA : Array Value) (e : Nat) (ks0 : List V), Inv X (pins ++ [(D, seqObj "list" #[] e1), (kS, seqObj "list" kA e)]) σ H' s' ∧ Vals ks0 kA.toList ∧ ks0.length = i ∧
    tKeys (kp fa) (xs.drop i) H' fun ks H1 => ∃ (k : V → KD) (sh : Shp), (∀ x ∈ ks0 ++ ks, KDV X.K H1 x (k x) ∧ fitS sh (k x)) ∧ ∀ (ps : List (V × V)) (p : Addr), Srtd (fun x y => ltKD (k x.1) (k y.1)) ps → ps.Perm ((ks0 ++ ks).zip xs) → H1 p = none → Q (.ref p) (upd H1 p (.lst (ps.map Prod.snd)))) its 0 _
    ⟨H, #[], 0, [], I0, .nil, rfl, hq⟩ ?step ?done)
  case step =>
    rintro j x s' hx ⟨H', kA, e, ks0, J, vk, lk, tk⟩
    simp only [Nat.zero_add] at lk tk ⊢
    have hj : j < its.length := (List.getElem?_eq_some_iff.mp hx).1
    have lx : xs.length = its.length := rv.length
    obtain ⟨v, hv⟩ : ∃ v, xs[j]? = some v := ⟨_, List.getElem?_eq_getElem (by omega)⟩
    obtain ⟨u, hu', rvu⟩ := rv.get hv
    rw [hx] at hu'
    cases hu'
    rw [drop_get hv] at tk
    have kz : kA.size ≤ sizeLine := by
      have z : ks0.length = kA.size := vk.length.trans Array.length_toList
      omega
    refine wpAny_bind (wpAny_attempt (wpAny_mono (hk fa _ s' σ H' v x _ J rvu tk) (fun w s'' he => ?_) fun _ _ hF => hF.elim))
    obtain ⟨kv, H1, J1, rk, tk1⟩ := he
    try dsimp only
    have nk := (J1.pin (kS, seqObj "list" kA e) (List.mem_append_right _ (List.mem_append_right _ (List.mem_cons_of_mem _ List.mem_cons_self)))).1
    have sb := Heap.SameBut.update s''.heap kS (Obj.mapSeq (·.push w))
    obtain ⟨c2, hc2⟩ : ∃ c2, (s''.heap.update kS (Obj.mapSeq (·.push w))).get? kS = some (seqObj "list" (kA.push w) c2) := ⟨_, get?_update_seq nk (·.push w)⟩
    have kz2 : kA.size < its.length := by
      have z : ks0.length = kA.size := vk.length.trans Array.length_toList
      omega
    refine wpAny_bind (listUpdate_at nk rfl ?_ kz (Nat.le_trans (Nat.le_of_eq (Array.size_push ..)) (Nat.succ_le_succ kz)))
    refine wpAny_pure ⟨rfl, H1, kA.push w, c2, ks0 ++ [kv], ?_, ?_, ?_, ?_⟩
    · obtain ⟨g1, g2, g3, g4⟩ := ours kS (.inr rfl)
      exact repin (tk := s''.toks) J1 hKD g1 g3 g4 sb hc2 fun v z => by cases z
    · rw [Array.toList_push]
      exact vals_snoc vk rk
    · rw [List.length_append, lk]
      rfl
    · have e : ∀ ks : List V, ks0 ++ [kv] ++ ks = ks0 ++ kv :: ks := fun ks => by rw [List.append_assoc]; rfl
      simp only [e]
      exact tk1
  case done =>
    rintro s' ⟨H', kA, e, ks0, J, vk, lk, tk⟩
    simp only [Nat.zero_add] at lk tk
    have lx : xs.length = its.length := rv.length
    rw [List.drop_of_length_le (by omega)] at tk
    obtain ⟨k, sh, hk', q⟩ := tk
    rw [List.append_nil] at hk' q
    have nD := J.pin (D, seqObj "list" #[] e1) (List.mem_append_right _ (List.mem_append_right _ List.mem_cons_self))
    have nk := J.pin (kS, seqObj "list" kA e) (List.mem_append_right _ (List.mem_append_right _ (List.mem_cons_of_mem _ List.mem_cons_self)))
    try dsimp only
    refine wpAny_bind (listItems_at nk.1 rfl ?_)
    have ks : kA.size = its.length := by
      have z : ks0.length = kA.size := vk.length.trans Array.length_toList
      omega
    have all : ∀ v ∈ kA.toList, RV s'.heap v (k (bk v)) ∧ fitS sh (k (bk v)) := fun v hv => by
      obtain ⟨x, hx, rx⟩ := vals_mem vk v hv
      rw [bk_of rx]
      exact ⟨rv_of J (hk' x hx).1 rx, (hk' x hx).2⟩
    have O : Swo fun v u : Value => ltKD (k (bk v)) (k (bk u)) := ⟨fun x y => lin_KD.swo.asym _ _, fun x y z => lin_KD.swo.tr _ _ _⟩
    refine key_end (ltv := fun v u => ltKD (k (bk v)) (k (bk u))) O nk.1 nD.1 hKD ks hz' (fun h2 => ?_) fun ps h' p1 p2 p3 p4 p5 => ⟨_, rfl, ?_⟩
    · have z := sortable (A := X.A.in1.in1) (prog := X.prog) (w := X.w) (s := s') (vs := kA.toList) (k := fun v => k (bk v)) (sh := sh) hu (by rw [Array.length_toList, ks]; exact h2) all
      rw [Array.toArray_toList] at z
      exact z
    · have lsz : (ps.map fun p : Keyed => p.2).length ≤ sizeLine := by
        rw [List.length_map, p2.length_eq, List.length_zip, Array.length_toList]
        omega
      have hmem : ∀ p ∈ ps, (∃ v, RelV v p.1) ∧ ∃ v, RelV v p.2 := fun p hp => by
        obtain ⟨x, y⟩ := p
        have z := List.of_mem_zip (p2.subset hp)
        obtain ⟨v1, _, r1⟩ := vals_mem vk x z.1
        obtain ⟨v2, _, r2⟩ := vals_mem rv y z.2
        exact ⟨⟨v1, r1⟩, ⟨v2, r2⟩⟩
      have vo : Vals ((ps.map fun p : Keyed => p.2).map bk) (ps.map fun p : Keyed => p.2) := bk_vals fun u hu => by
        obtain ⟨p, hp, rfl⟩ := List.mem_map.mp hu
        exact (hmem p hp).2
      obtain ⟨c, hc⟩ := p4
      have em : (ps.map fun p : Keyed => (bk p.1, bk p.2)).map Prod.snd = (ps.map fun p : Keyed => p.2).map bk := by
        rw [List.map_map, List.map_map]
        rfl
      have pm : (ps.map fun p : Keyed => (bk p.1, bk p.2)).Perm (ks0.zip xs) := by
        have z := p2.map fun p : Keyed => (bk p.1, bk p.2)
        rw [show (kA.toList.zip its).map (fun p : Keyed => (bk p.1, bk p.2)) = ks0.zip xs from by
          rw [← bk_map vk, ← bk_map rv, List.zip_map]
          rfl] at z
        exact z
      refine wpAny_pure ⟨_, rfl, ?_⟩
      refine ⟨.ref D, upd H' D (.lst ((ps.map fun p : Keyed => (bk p.1, bk p.2)).map Prod.snd)), laid_two (kS := kS) (pins_drop J) nD.2.1 nk.2.1 ours p3 (fun b hb => ?_) ⟨?_, _, c, ?_, hc⟩, rfl, q _ D ?_ pm nD.2.1⟩
      · rcases hb with rfl | rfl
        · exact ⟨_, hc⟩
        · exact p5
      · rw [em, List.length_map]
        exact lsz
      · rw [em]
        exact vo
      · exact List.pairwise_map.mpr p1
end
end L2.Sr
set_option maxRecDepth 100000
set_option maxHeartbeats 4000000
namespace L2.Sr
open PySem PySem.Spec PyProof.Rows L2 LamX NdefX Srt SrtO
/-! ### lambdas of parameters of their own, as values -/
/-- the object at f is such a lambda, made with these cells -/
def LamO (f : Addr) (q : Str) (params : Arguments) (body : Expr) (scope : Scope) (cl : List (Str × Addr)) (c' : Addr) : HO := .ext fun h => ∃ pm ctv : Value, h.get? f = some (PySem.W.kla_obj "<lambda>" q params body scope cl pm c' ctv)
theorem lamO_at {P : Program} {w : World} {H : Hp} {h : Heap} {f : Addr} {q : Str} {params : Arguments} {body : Expr} {scope : Scope} {cl : List (Str × Addr)} {c' : Addr} (hok : HOk P w H h) (e : H f = some (LamO f q params body scope cl c')) : ∃ pm ctv : Value, h.get? f = some (PySem.W.kla_obj "<lambda>" q params body scope cl pm c' ctv) := by
  obtain ⟨z, _, _⟩ := hok f _ e
  exact z
section
variable {X : Cx} {pins : List (Addr × Obj)} {σ : L2.St} {H : Hp} {s : Shared}
theorem inv_lam {q : Str} {params : Arguments} {body : Expr} {scope : Scope} {cl : List (Str × Addr)} {c' : Addr} {pm ctv : Value} {t' : Nat} (I : Inv X pins σ H s) :
    Inv X pins σ (upd H s.heap.objs.size (LamO s.heap.objs.size q params body scope cl c')) { s with heap := s.heap.push (PySem.W.kla_obj "<lambda>" q params body scope cl pm c' ctv), toks := t' } := by
  refine I.laid (a := s.heap.objs.size) (fun b u e => Heap.get?_push_of_some _ e) (Nat.le_refl _) ?_
  have e : (s.heap.push (PySem.W.kla_obj "<lambda>" q params body scope cl pm c' ctv)).get? s.heap.objs.size = some (PySem.W.kla_obj "<lambda>" q params body scope cl pm c' ctv) := Heap.get?_push_size _ rfl
  exact ⟨⟨pm, ctv, e⟩, ⟨_, e⟩, fun h1 h2 ⟨p, t, z⟩ st => ⟨p, t, st _ z⟩⟩
/-- the lambda is made: its code object is new, or found in the table -/
theorem lam_makeT {T : List NTab} {nm : Nat → Nat → Str} {c P : Addr} {params : Arguments} {body : Expr} {scope : Scope} {pos : Pos} {E : Value → Shared → Prop} {Q : Value → Shared → Prop} (I : Inv X pins σ H s) (TB : TabB X.base X.mg c P) (hcode : X.env.code = .ref c)
    (hm : (P, nm) ∈ T) (hn : nm pos.line pos.col = X.env.qual ++ "<lambda>") (hu : ∀ p ∈ T, p.1 = P → p.2 = nm) (hT : TabsN T H) (hdef : defaultsOf params X.env = ([], [])) (hfree : ∀ y ∈ scope.names, y.2 = .free → ∃ c, X.env.cells.lookup y.1 = some c)
    (h : ∀ (f c' : Addr) (H1 : Hp) (s' : Shared), Inv X pins σ H1 s' → ExtN H H1 → (∀ b, H1 b = Option.none → H b = Option.none) → TabsN T H1 → H f = none → H1 f = some (LamO f (X.env.qual ++ "<lambda>") params body scope (cloFrom X.env.cells scope.names []) c') → H1 c' = some (CodeO c' (X.env.qual ++ "<lambda>")) → Q (.ref f) s') :
    wpAny (model X.prog X.w) X.A (eval (.Lambda params body scope pos) X.env) Q E s := by
  obtain ⟨ps, hP, ht, ha⟩ := (show TabN H P nm from hT _ hm)
  refine PySem.W.kla_eval hdef ?_
  have bP : s.heap.BuiltinsAt X.mg P := TB.bm.keeps I.bk
  have hP' : s.heap.get? P = some { cls := .none, data := .fields ps } := I.hok P _ hP
  cases hc : codeAmong pos ps.toList with
  | none =>
    refine PySem.W.kla_makeFunction (mg := X.mg) (c := c) (P := P) (ps := ps) (closure_ok hfree) I.ok.glob (I.mod.glob.keeps I.bk) hcode (TB.code.keeps I.bk) hP' ht hc TB.gP bP fun c' ctv h' tk hx hge hlt hrec htb => ?_
    obtain ⟨c2, oc, vs, t, e2, hoc, hd, hv⟩ := hrec
    cases e2
    have nC : H c' = none := I.hok.fresh hge
    have I1 := inv_table (t' := tk) (more := #[rawInt pos.line, rawInt pos.col, .ref c']) (h' := h') I hP (fun b o hb e => hx b o hb e) htb hge ⟨oc, vs, t, hoc, hd, hv⟩
    generalize hH1 : upd (upd H P (.tbl (ps ++ #[rawInt pos.line, rawInt pos.col, .ref c']))) c' (CodeO c' (X.env.qual ++ "<lambda>")) = H1 at I1
    have eC : H1 c' = some (CodeO c' (X.env.qual ++ "<lambda>")) := by rw [← hH1]; exact upd_same
    have eP : H1 P = some (.tbl (ps ++ #[rawInt pos.line, rawInt pos.col, .ref c'])) := by
      rw [← hH1, upd_ne (ne_of_none hP nC)]
      exact upd_same
    have eB : ∀ b, b ≠ P → H b ≠ none → H1 b = H b := fun b hb hn => by
      rw [← hH1, upd_ne fun z => hn (by rw [z]; exact nC), upd_ne hb]
    have hE : ExtN H H1 := fun b o e n => (eB b (fun z => n ps (Option.some.inj (e.symm.trans (by rw [z]; exact hP)))) (by rw [e]; exact fun z => by cases z)).trans e
    have eL : (ps ++ #[rawInt pos.line, rawInt pos.col, .ref c']).toList = ps.toList ++ [rawInt pos.line, rawInt pos.col, .ref c'] := by simp
    have T1 : TabsN T H1 := fun p hp => by
      by_cases hb : p.1 = P
      · rw [hu p hp hb, hb]
        refine ⟨_, eP, by rw [eL]; exact PySem.TriplesOk_snoc _ _ _ _ ht, fun p' cv hcv => ?_⟩
        rw [eL] at hcv
        rcases among_app2 _ ht hcv with z | ⟨z, z1, z2⟩
        · obtain ⟨c0, e1, e2⟩ := ha p' cv z
          exact ⟨c0, e1, hE _ _ e2 codeO_ne⟩
        · refine ⟨c', z, ?_⟩
          rw [← z1, ← z2, hn]
          exact eC
      · obtain ⟨ps', a1, a2, a3⟩ := hT p hp
        refine ⟨ps', (eB _ hb (by rw [a1]; exact fun z => by cases z)).trans a1, a2, fun p' cv hcv => ?_⟩
        obtain ⟨c0, e1, e2⟩ := a3 p' cv hcv
        exact ⟨c0, e1, hE _ _ e2 codeO_ne⟩
    have nF := I1.hok.fresh (Nat.le_refl _)
    have I2 := inv_lam (q := X.env.qual ++ "<lambda>") (params := params) (body := body) (scope := scope) (cl := cloFrom X.env.cells scope.names []) (c' := c') (pm := (X.mg "__name__").getD .none) (ctv := ctv) (t' := tk) I1
    refine h h'.objs.size c' _ _ I2 (fun b o e n => ?_) (fun b e => ?_) (T1.ext fun b o e => ?_) (I.hok.fresh (Nat.le_trans hge (Nat.le_of_lt hlt))) upd_same ?_
    · have e1 := hE b o e n
      exact (upd_ne (ne_of_none e1 nF)).trans e1
    · have z := upd_none e
      rw [← hH1] at z
      exact upd_none (upd_none z)
    · exact (upd_ne (ne_of_none e nF)).trans e
    · exact (upd_ne (ne_of_none eC nF)).trans eC
  | some cv =>
    obtain ⟨c', e, hco⟩ := ha pos cv hc
    subst e
    rw [hn] at hco
    refine PySem.W.kla_makeFunctionHit (mg := X.mg) (c := c) (P := P) (ps := ps) (closure_ok hfree) I.ok.glob (I.mod.glob.keeps I.bk) hcode (TB.code.keeps I.bk) hP' ht hc bP fun ctv h' tk hx hsz => ?_
    have I1 : Inv X pins σ H { s with heap := h', toks := tk } := I.kept hx
    have nF : H h'.objs.size = none := I1.hok.fresh (Nat.le_refl _)
    have I2 := inv_lam (q := X.env.qual ++ "<lambda>") (params := params) (body := body) (scope := scope) (cl := cloFrom X.env.cells scope.names []) (c' := c') (pm := (X.mg "__name__").getD .none) (ctv := ctv) (t' := tk) I1
    refine h h'.objs.size c' _ _ I2 (fun b o e n => ?_) (fun b e => upd_none e) (hT.ext fun b o e => ?_) nF upd_same ?_
    · exact (upd_ne (ne_of_none e nF)).trans e
    · exact (upd_ne (ne_of_none e nF)).trans e
    · exact (upd_ne (ne_of_none hco nF)).trans hco
end
/-- the reading of a lambda as a value -/
def tLamV (T : List NTab) (q : Str) (params : Arguments) (body : Expr) (scope : Scope) (cl : List (Str × Addr)) : TE := fun _ H Q => TabsN T H ∧ ∀ (f c' : Addr) (H1 : Hp), ExtN H H1 → (∀ b, H1 b = Option.none → H b = Option.none) → TabsN T H1 → H f = none →
  H1 f = some (LamO f q params body scope cl c') → H1 c' = some (CodeO c' q) → Q (.ref f) H1
theorem pe_lamV {X : Cx} {T : List NTab} {nm : Nat → Nat → Str} {c P : Addr} {params : Arguments} {body : Expr} {scope : Scope} {pos : Pos} (TB : TabB X.base X.mg c P) (hcode : X.env.code = .ref c) (hm : (P, nm) ∈ T) (hn : nm pos.line pos.col = X.env.qual ++ "<lambda>") (hu : ∀ p ∈ T, p.1 = P → p.2 = nm)
    (hdef : defaultsOf params X.env = ([], [])) (hfree : ∀ y ∈ scope.names, y.2 = .free → X.env.scope.names.lookup y.1 = some .cell ∨ X.env.scope.names.lookup y.1 = some .free) :
    PE X (.Lambda params body scope pos) (tLamV T (X.env.qual ++ "<lambda>") params body scope (cloFrom X.env.cells scope.names [])) := by
  refine ⟨fun pins s σ H Q I h => ?_⟩
  obtain ⟨hT, h⟩ := h
  have hf : ∀ y ∈ scope.names, y.2 = .free → ∃ c, X.env.cells.lookup y.1 = some c := fun y hy e => (hfree y hy e).elim (fun z => I.ok.has _ (.inl z)) fun z => I.ok.has _ (.inr z)
  exact lam_makeT I TB hcode hm hn hu hT hdef hf fun f c' H1 s' I1 eN nn T1 f0 f1 c1 => ⟨.ref f, H1, I1, rfl, h f c' H1 eN nn T1 f0 f1 c1⟩
theorem clo_nil {cells : List (Str × Addr)} {names : List (Str × NameKind)} (h : ∀ y ∈ names, y.2 ≠ .free) : cloFrom cells names [] = [] := by
  cases e : cloFrom cells names [] with
  | nil => rfl
  | cons p r =>
    have m : p ∈ cloFrom cells names [] := by rw [e]; exact List.mem_cons_self
    obtain ⟨x, c⟩ := p
    rcases cloFrom_mem m with z | ⟨z, _⟩
    · cases z
    · exact absurd rfl (h _ z)
/-! ### a lambda called from within a built-in -/
/-- its words as those of a nested def without a body -/
abbrev lamF (q : Str) (params : Arguments) (scope : Scope) (c' : Addr) : NF := ⟨"<lambda>", q, params, [], scope, [], c'⟩
theorem cells_nil {h : Heap} {H : Hp} : CellsAt [] [] [] h H := ⟨rfl, fun y c e => (by cases e), fun x y c e => (by cases e), fun i y e => (by simp at e)⟩
section
variable {X : Cx}
def kLam (q : Str) (params : Arguments) (body : Expr) (scope : Scope) (tb : TE) (N : List Str) (fa : Addr) : V → Hp → VK → Prop := fun v H Q => ∃ c', H fa = some (LamO fa q params body scope [] c') ∧ H c' = some (CodeO c' q) ∧ tb (startF N [v] []) H Q
theorem keyC_lam {k : Nat} {N ps : List Str} {q : Str} {params : Arguments} {body : Expr} {scope : Scope} {tb : TE} {x : Str} (S : NScope N [x] [] scope) (hr : Room (k + 1) X.A.in1.in1)
    (hbind : ∀ (cl : List (Str × Addr)) (pm cv ctv u : Value), bindArgs (PySem.W.kla_fn "<lambda>" q params body scope cl pm cv ctv) ⟨[u], []⟩ = pure [(x, u)])
    (hbody : ∀ (f c' : Addr) (A : Around) (outer : List Env) (s : Shared) (H : Hp), Room k (A.deeper (envF (lamF q params scope c') f s.heap.objs.size)) → PE (ncx L2.CX0 X.prog X.w X.K X.mg X.base N (lamF q params scope c') f A outer s H E0) body tb) (fa : Addr) :
    KeyC X (.ref fa) (kLam q params body scope tb N fa) := by
  intro pins s σ H v u Q I r h
  obtain ⟨c', hf, hc, ht⟩ := h
  obtain ⟨pm, ctv, ho⟩ := lamO_at I.hok hf
  have e0 : Env0 X.prog X.w X.K X.mg X.base X.A.in1.in1 X.stack s H := I.env0.in1.in1
  have lim : s.heap.NoLimit := I.nolimit
  have rc : codeAny (model X.prog X.w) X.A.in1.in1 (.call (.ref fa) ⟨[u], []⟩) (CR L2.CX0 X.stack X.prog X.w H s Q E0) s := by
    refine PySem.W.kla_callFunE hr.depth ho rfl S.co S.gen rfl (codeO_at I.hok hc) ?_
    rw [hbind]
    refine wpAny_pure (wpAny_newFunctionEnv S.nocell (fun y hy => S.par y.1 (by rw [List.mem_singleton.mp hy]; exact List.mem_singleton.mpr rfl)) (fun h₁ hns hsb => ⟨lim.fresh _ hsb, ?_⟩) S.kind)
    show codeAny _ _ (.expr body (envF (lamF q params scope c') fa s.heap.objs.size)) _ _
    have kp : ∀ b o, s.heap.get? b = some o → h₁.get? b = some o := fun b o e => hsb.extBut b o (Nat.ne_of_lt (Heap.lt_size e)) (Heap.get?_push_of_some _ e)
    have J : Inv (ncx L2.CX0 X.prog X.w X.K X.mg X.base N (lamF q params scope c') fa X.A.in1.in1 X.stack s H E0) [] (startF N [v] []) H { s with heap := h₁, toks := s.toks + ([(x, u)] : List (Str × Value)).length } :=
      inv_startN (ps := [x]) (fr := []) (us := [u]) S hr.hd e0 rfl (.cons r .nil) cells_nil hns kp
    refine PySem.W.kla_codeExpr (wpAny_mono ((hbody fa c' _ _ s H (hr.deeper _)).run [] _ _ H Q J ht) (fun v' s' hq => ?_) fun e s' hq => hq)
    obtain ⟨w', H', J', rv, q'⟩ := hq
    exact ⟨w', H', J'.os, J'.bare, J'.base, J'.hok, rv, q'⟩
  refine wpAny_call (codeAny_mono rc fun r' s' hq => ?_)
  cases r' with
  | error e => exact (show False from hq).elim
  | ok fl =>
    cases fl with
    | ret u' => exact I.after hq
    | next => exact False.elim hq
    | brk => exact False.elim hq
    | cont => exact False.elim hq
/-- an own def as the key -/
def kFn (sp : Sp) : V → Hp → VK → Prop := fun v H Q => sp [v] H Q E0
theorem keyC_fn {k : Nat} {f : Addr} {fd : FuncData} {x : Str} {sp : Sp} (F : FnOk X.prog X.w X.K X.mg X.base L2.CX0 k f fd [x] sp) (hr : Room k X.A.in1.in1) (hb : Binds X.K fd [x] []) : KeyC X (.ref f) (kFn sp) := by
  intro pins s σ H v u Q I r h
  have e0 : Env0 X.prog X.w X.K X.mg X.base X.A.in1.in1 X.stack s H := I.env0.in1.in1
  refine wpAny_call (codeAny_mono (F.run X.A.in1.in1 X.stack s H ⟨[u], []⟩ [u] [v] Q E0 hr e0 (by
    have z := hb s [u] I.kIn rfl
    simpa using z) (.cons r .nil) h) fun r' s' hq => ?_)
  cases r' with
  | error e => exact (show False from hq).elim
  | ok fl =>
    cases fl with
    | ret u' => exact I.after hq
    | next => exact False.elim hq
    | brk => exact False.elim hq
    | cont => exact False.elim hq
end
end L2.Sr
set_option maxRecDepth 100000
set_option maxHeartbeats 4000000
namespace L2.Sr
open PySem PySem.Spec PyProof.Rows L2
/-! ### enumerate(tuple) -/
theorem enumT_new (l : Addr) (items : Array Value) (n : Nat) (dct : Option Addr) (sl : Array (Option Value)) :
    Meets (Builtin.«enumerate.__new__» ⟨[.type "enumerate", .ref l], []⟩)
      (fun _ R s => s.heap.get? l = some { cls := .type "tuple", dict := dct, data := .seq items n, slots := sl } ∧ R (.ok (.ret (.ref (s.heap.push { cls := .type "tuple_iterator", data := .fields #[.ref l, .int 0 0] }).objs.size)))
        { s with heap := (s.heap.push { cls := .type "tuple_iterator", data := .fields #[.ref l, .int 0 0] }).push { cls := .type "enumerate", data := .fields #[.none, .bool false, .ref s.heap.objs.size, rawInt 0, .none, .none] } }) :=
  .of_wp fun prog w A R s h => by
    obtain ⟨hp, g, d, tk, os⟩ := s
    obtain ⟨hl, h⟩ := h
    have ht : Heap.IsTuple hp l items := ⟨_, hl, rfl, n, rfl⟩
    have hsub := sub_enumerate
    have q1 : ∀ {A : Around} {E : Value → Shared → Prop} {Q : Value → Shared → Prop}, Q (.ref hp.objs.size) ⟨hp.push { cls := .type "tuple_iterator", data := .fields #[.ref l, .int 0 0] }, g, d, tk, os⟩ → wpAny (model prog w) A (pyIter (.ref l)) Q E ⟨hp, g, d, tk, os⟩ := fun h => wpAny_pyIter_tuple (s := ⟨hp, g, d, tk, os⟩) ht h
    wp_walk
    refine wpAny_stack_any fun st => wpAny_pure ?_
    split
    · rename_i c _ _ _ _ _
      cases (c == Value.type "enumerate")
      · wp_walk using q1
        exact ⟨_, rfl, h⟩
      · wp_walk using q1
        exact ⟨_, rfl, h⟩
    · wp_walk using q1
      exact ⟨_, rfl, h⟩
section
variable {prog : Program} {w : World} {A : Around} {E : Value → Shared → Prop} {s : Shared}
theorem call_enumT {l : Addr} {items : Array Value} {Q : Value → Shared → Prop} (hL : s.heap.IsTuple l items)
    (h : ∀ h', IsEnum h' (s.heap.objs.size + 1) s.heap.objs.size 0 .none → h'.IsTupleIter s.heap.objs.size l 0 → (∀ b o, s.heap.get? b = some o → h'.get? b = some o) → Q (.ref (s.heap.objs.size + 1)) { s with heap := h' }) :
    wpAny (model prog w) A (call (.type "enumerate") [.ref l]) Q E s := by
  obtain ⟨⟨c, dct, dt, sl⟩, hl, hc, n, hd⟩ := hL
  replace hc : c = .type "tuple" := hc
  replace hd : dt = .seq items n := hd
  subst hc hd
  refine callType_new F.called_enumerate (by decide) (F.typeCall_enumerate_1 _) (F.newCall_enumerate_1 _) (fun obj => F.args_object_init_2 obj _) F.entry_enumerate_new (enumT_new l items n dct sl) ⟨hl, ?_⟩
  have hz : (s.heap.push { cls := .type "tuple_iterator", data := .fields #[.ref l, .int 0 0] }).objs.size = s.heap.objs.size + 1 := Heap.size_push ..
  have he : IsEnum ((s.heap.push { cls := .type "tuple_iterator", data := .fields #[.ref l, .int 0 0] }).push { cls := .type "enumerate", data := .fields #[.none, .bool false, .ref s.heap.objs.size, rawInt 0, .none, .none] }) (s.heap.objs.size + 1) s.heap.objs.size 0 .none := by
    rw [← hz]
    exact Heap.get?_push_size _ rfl
  show _ ∧ _
  rw [hz]
  exact ⟨⟨_, he, rfl⟩, h _ he ⟨_, Heap.get?_push_of_some _ (Heap.get?_push_size _ rfl), rfl, rfl⟩ fun b o x => Heap.get?_push_of_some _ (Heap.get?_push_of_some _ x)⟩
end
/-- the tuple at a, each item in a new pair -/
def ItE (K : PySem.W.Frag) (a : Addr) : It :=
  ⟨fun i H => ∃ (xs : List V) (x : V), SqT K H a xs ∧ xs[i]? = some x, fun i H v H' => ∃ T x, v = .ref T ∧ H T = none ∧ H' = upd H T (.tup [.int (i : Nat), x]) ∧ ∀ xs, SqT K H a xs → xs[i]? = some x, fun i H => ∃ xs : List V, SqT K H a xs ∧ xs.length ≤ i⟩
theorem turn_enumT {P : Program} {w : World} {K : PySem.W.Frag} {elts : List Expr} {kk : Nat} {tpos : Pos} (a e it : Addr) :
    Turn P w K (.Tuple elts kk tpos) (ItE K a) [e, it] e (fun i h => (∃ old, IsEnum h e it ((i : Nat) : Int) old) ∧ h.IsTupleIter it a i ∧ e ≠ it ∧ a ≠ it ∧ e ≠ a) where
  mem := by simp
  obj := fun i h st b hb => by
    obtain ⟨⟨old, he⟩, ⟨o, ho, hc, hd⟩, _⟩ := st
    rcases (show b = e ∨ b = it by simpa using hb) with z | z
    · rw [z]
      exact ⟨_, he, fun v q => nomatch q⟩
    · rw [z]
      exact ⟨o, ho, fun v q => by rw [hd] at q; cases q⟩
  keep := fun i h h' st k => by
    obtain ⟨⟨old, he⟩, hi, hne⟩ := st
    exact ⟨⟨old, k e (by simp) _ he⟩, hi.at fun o q => k it (by simp) o q, hne⟩
  item := by
    intro X hP hw hK hc i pins s σ H E I hf st hg
    subst hP hw hK
    obtain ⟨⟨old, he⟩, hit, hne, hai, hea⟩ := st
    obtain ⟨xs, x, hq, hx⟩ := hg
    obtain ⟨its, rv, p, hz⟩ := I.tuple hq
    obtain ⟨u, hu, ru⟩ := rv.get hx
    have hel : e < s.heap.objs.size := Heap.lt_size he
    have hil : it < s.heap.objs.size := by
      obtain ⟨_, q, _⟩ := hit
      exact Heap.lt_size q
    have hlt : i < its.toArray.size := by
      have z := (List.getElem?_eq_some_iff.mp hu).1
      simpa using z
    refine wpAny_pyNext_enum_itemD (Draws.tuple (A := X.A.in1) (I.ok.hd hc) it a hai its.toArray) he ⟨hit, p⟩ hlt hne (by simp [hne, hea]) fun y h' tk hy ho hst hT hsz hk => ?_
    have ey : y = u := by
      rw [List.getElem?_toArray] at hy
      exact Option.some.inj (hy.symm.trans hu)
    subst ey
    refine ⟨_, rfl, wpAny_letOwnedTupleGo_enum (s := { s with heap := h', toks := tk + 1 }) ho fun h'' he' sb => ?_⟩
    have hT2 : h''.get? s.heap.objs.size = some { cls := .type "tuple", data := .seq #[.int i tk, y] } := (sb.2 _ (Nat.ne_of_gt hel)).trans hT
    have new : ObjOk X.prog X.w (upd H s.heap.objs.size (.tup [.int (i : Nat), x])) h'' s.heap.objs.size (.tup [.int (i : Nat), x]) :=
      ⟨by show 2 ≤ sizeLine; decide, [.int i tk, y], .cons ⟨_, rfl⟩ (.cons ru .nil), ⟨_, hT2, rfl, _, rfl⟩⟩
    have I1 : Inv X pins σ (upd H s.heap.objs.size (.tup [.int (i : Nat), x])) { s with heap := h'', toks := tk + 1 } :=
      I.turnedNew (ch := [e, it]) (fun b ob hb q => (sb.2 b (fun z => hb (by simp [z]))).trans (hk b ob (fun z => hb (by simp [z])) (fun z => hb (by simp [z])) q)) hf (Nat.le_refl _) new
    refine ⟨.ref s.heap.objs.size, _, I1, rfl, ⟨_, x, rfl, I.hok.fresh (Nat.le_refl _), rfl, fun ys hy => by rw [I.tuple_inj hy hq]; exact hx⟩, ⟨⟨y, ?_⟩, hst.1.at fun o q => (sb.2 it (Ne.symm hne)).trans q, hne, hai, hea⟩, fun b hb => ?_⟩
    · have e1 : ((i + 1 : Nat) : Int) = (i : Int) + 1 := by omega
      rw [e1]
      exact he'
    · have hb' : b < s.heap.objs.size := by
        rcases (show b = e ∨ b = it by simpa using hb) with z | z
        · rw [z]; exact hel
        · rw [z]; exact hil
      rw [upd_ne (Nat.ne_of_lt hb')]
      exact (hf b hb).1
  done := by
    intro X hP hw hK hc i pins s σ H E I hf st hg
    subst hP hw hK
    obtain ⟨⟨old, he⟩, hit, hne, hai, hea⟩ := st
    obtain ⟨xs, hq, hx⟩ := hg
    obtain ⟨its, rv, p, hz⟩ := I.tuple hq
    obtain ⟨f0, f1, f2, f3, f4, f5⟩ := hf it (by simp)
    have hl : xs.length = its.length := rv.length
    unfold pyNext
    refine wpAny_bind (wpAny_attempt (wpAny_callSpecial?_slot (name := Str.ofString "__next__") ⟨_, he, rfl⟩ F.slot_enumerate_next
      (wpAny_call_entry F.slot_enumerate_next ⟨_, he, rfl⟩ F.entry_enumerate_next ?_ (F.args_enumerate_next_1 _))))
    show wpAny _ _ (field (.ref e) 2 >>= _) _ _ _
    refine wpAny_bind (wpAny_field he rfl (x := .ref it) rfl ?_)
    refine wpAny_bind (wpAny_nextOf_tuple_end (I.ok.hd hc) hit p (by simp; omega) fun h' x he' hx' => ?_)
    obtain ⟨o, ho, hcl⟩ := hx'
    refine wpAny_bind (wpAny_isInstance (T := "StopIteration") (b := true) ⟨o, ho, hcl⟩ isSubtype_stop ?_)
    exact wpAny_pure ⟨rfl, I.turned (t' := s.toks) (fun b o hb q => he' b o hb q) f0 f1 f3 f4 f5⟩
  self := fun A i s Q E st h => by
    obtain ⟨⟨_, he⟩, _⟩ := st
    exact wpAny_pyIter_enum he h
def iEnumT (K : PySem.W.Frag) (ta : TA) : TI := fun σ H R => ta σ H fun vs H1 => ∃ a xs, vs = [.ref a] ∧ SqT K H1 a xs ∧ R (ItE K a) H1
theorem pi_enumT {X : Cx} {e : Expr} {ta : TA} {p pos tpos : Pos} {elts : List Expr} {kk : Nat} (hg : Gl X "enumerate") (hm : X.mg "enumerate" = none) (ha : PA X [e] ta) (hs : starEach [e] X.env = [(false, eval e X.env)] := by rfl) :
    PI X (.Tuple elts kk tpos) (.Call (.Name "enumerate" p) [e] [] pos) (iEnumT X.K ta) := by
  refine ⟨fun pins s σ H R I h => ?_⟩
  refine Call_ (ld_blt I hg hm boot_enumerate (PyProof.Rows.callWith_type1 (thn (ha.run pos pins s σ H _ I h) fun us s1 ⟨vs, H1, I1, r1, q1⟩ => ?_) hs rfl))
  obtain ⟨a, xs, ex, hq, q⟩ := q1
  subst ex
  obtain rfl := Vals.ref1 r1
  obtain ⟨its, rv, p', hz⟩ := I1.tuple hq
  refine call_enumT p' fun h' he hit hk => wpAny_pyIter_enum he ?_
  have I2 : Inv X pins σ H1 { s1 with heap := h' } := I1.kept (t' := s1.toks) hk
  have al : a < s1.heap.objs.size := p'.lt
  refine ⟨s1.heap.objs.size + 1, [s1.heap.objs.size + 1, s1.heap.objs.size], _, _, H1, rfl, I2, turn_enumT a (s1.heap.objs.size + 1) s1.heap.objs.size, ⟨⟨.none, he⟩, hit, Nat.succ_ne_self _, Nat.ne_of_lt al, Nat.ne_of_gt (Nat.lt_succ_of_lt al)⟩, fun b hb => ?_, q⟩
  have hle : s1.heap.objs.size ≤ b := by
    rcases (show b = s1.heap.objs.size + 1 ∨ b = s1.heap.objs.size by simpa using hb) with z | z
    · rw [z]; exact Nat.le_add_right _ _
    · rw [z]; exact Nat.le_refl _
  exact I1.fpOk hle (I1.hok.fresh hle)
theorem walk_enumT {K : PySem.W.Frag} {a : Addr} {xs : List V} : Walk (ItE K a) xs.length (fun H => SqT K H a xs) (YPair (fun i => some (.int (i : Nat))) (fun i => xs[i]?)) := by
  refine ⟨fun i _ hi q => ⟨xs, xs[i], q, by simp [hi]⟩, fun _ q => ⟨xs, q, Nat.le_refl _⟩, fun i H v H' _ q y => ?_⟩
  obtain ⟨T, x, h1, h2, h3, h4⟩ := y
  exact ⟨T, .int (i : Nat), x, h1, h2, h3, rfl, h4 xs q⟩
end L2.Sr
set_option maxRecDepth 100000
set_option maxHeartbeats 8000000
namespace L2.M2
open PySem PySem.Spec PyProof.Rows L2 Mx L2.Mb Evl Mv L2.C Sr Srt SrtO LamX NdefX
/-! ### rows put in order -/
abbrev nT (Tt : List (Addr × Str)) : List NTab := Tt.map fun p => (p.1, fun _ _ => p.2)
theorem tabsN_of {Tt : List (Addr × Str)} {H : Hp} (h : Tabs Tt H) : TabsN (nT Tt) H := fun p hp => by
  obtain ⟨q, hq, rfl⟩ := List.mem_map.mp hp
  exact TabN.of (h q hq)
theorem tabs_of {Tt : List (Addr × Str)} {H : Hp} (h : TabsN (nT Tt) H) : Tabs Tt H := fun q hq => TabN.to (h _ (List.mem_map.mpr ⟨q, hq, rfl⟩))
abbrev tKey (K : W.Frag) : TE := tTup (tCons (tCB (rLenS K) (tCons (tVar 0) tNil)) (tCons (tVar 0) tNil))
abbrev rowV (r : List Str) : List V := r.map V.str
/-- the keys of rows -/
theorem keys_rows {K : W.Frag} {q : Str} {params : Arguments} {body : Expr} {scope : Scope} {fa c' : Addr} : ∀ (ps : List (Addr × List Str)) (H : Hp) (Q : List V → Hp → Prop), H fa = some (LamO fa q params body scope [] c') → H c' = some (CodeO c' q) → (∀ z ∈ ps, H z.1 = some (.tup (rowV z.2))) →
    (∀ (as : List Addr) H1, Ex H H1 → as.length = ps.length → (∀ z ∈ as.zip ps, H1 z.1 = some (.tup [.int (z.2.2.length : Nat), .ref z.2.1])) → Q (as.map V.ref) H1) → tKeys (kLam q params body scope (tKey K) ["part"] fa) (ps.map fun z => .ref z.1) H Q
  | [], H, Q, hf, hc, hp, k => k [] H (Ex.refl H) rfl fun z hz => by cases hz
  | y :: ps, H, Q, hf, hc, hp, k => by
    refine ⟨c', hf, hc, ?_⟩
    have hy := hp y List.mem_cons_self
    have w : EvU (tKey K) (startF ["part"] [.ref y.1] []) H [.int (y.2.length : Nat), .ref y.1] := eu_tup (ea_cons (ev_is (ev_lenT (ev_var rfl) (st_of hy)) (by rw [List.length_map])) (ea_cons (ev_var rfl) ea_nil)) (by show 2 ≤ 100000; decide)
    refine w H (Ex.refl H) _ fun a H1 na e1 ha => ?_
    refine keys_rows ps H1 _ (e1 _ _ hf) (e1 _ _ hc) (fun z hz => e1 _ _ (hp z (List.mem_cons_of_mem _ hz))) fun as H2 e2 l2 h2 => ?_
    refine k (a :: as) H2 (e1.trans e2) (by rw [List.length_cons, List.length_cons, l2]) fun z hz => ?_
    rcases List.mem_cons.mp (show z ∈ (a, y) :: as.zip ps from hz) with z1 | z1
    · rw [z1]
      exact e2 _ _ ha
    · exact h2 z z1
/-- the key's lambda -/
def lamI : Expr := match defBody s_in_order with
  | [.Return (some (.Call _ [.Call _ _ (⟨_, e, _⟩ :: _) _] _ _)) _] => e
  | _ => .Name "x" ⟨0, 0, 0, 0⟩
def lamPar : Expr → Arguments
  | .Lambda p _ _ _ => p
  | _ => defArgs s_in_order
def lamBody : Expr → Expr
  | .Lambda _ b _ _ => b
  | e => e
def lamSc : Expr → Scope
  | .Lambda _ _ s _ => s
  | _ => defScope s_in_order
theorem keyC_in {X : Cx} {mg : Str → Option Value} (B : Bt mg) (e : X.mg = mg) (hr : Room 2 X.A.in1.in1) (fa : Addr) : KeyC X (.ref fa) (kLam "_in_order.<locals>.<lambda>" (lamPar lamI) (lamBody lamI) (lamSc lamI) (tKey X.K) ["part"] fa) :=
  keyC_lam (k := 1) (ps := ["part"]) (N := ["part"]) (x := "part") (nscope_by (by decide +kernel)) hr (fun cl pm cv ctv u => by rfl) (fun f c' A outer s H hr => pe_tup (pa_cons (pe_callB call_len_seq (by rfl) (by show X.mg "len" = none; rw [e]; exact B.len) (by decide +kernel) (pa_cons (pe_var (i := 0) (x := "part") rfl (.inl rfl)) pa_nil)) (pa_cons (pe_var (i := 0) (x := "part") rfl (.inl rfl)) pa_nil))) fa
theorem noFree : ∀ y ∈ (lamSc lamI).names, y.2 ≠ .free := by decide +kernel
/-- a list of rows -/
def RowL (H : Hp) (p : Addr) (rs : List (List Str)) : Prop := ∃ ps : List (Addr × List Str), ps.map Prod.snd = rs ∧ H p = some (.lst (ps.map fun q => .ref q.1)) ∧ ∀ q ∈ ps, H q.1 = some (.tup (rowV q.2))
def spIo (Tt : List (Addr × Str)) : Sp := fun vs H Q _ => ∃ (p : Addr) (rs : List (List Str)), vs = [.ref p] ∧ RowL H p rs ∧ rs.length ≤ 40000 ∧ Tabs Tt H ∧ ∀ t H' rs', rs'.Perm rs → SrtR rs' → ExtN H H' → (∀ b, H' b = none → H b = none) → Tabs Tt H' → H t = none → RowT H' t rs' → Q (.ref t) H'
theorem ex_extN {H H' : Hp} (e : Ex H H') : ExtN H H' := fun b o h _ => e b o h
theorem tabs_ex {Tt : List (Addr × Str)} {H H' : Hp} (h : Tabs Tt H) (e : Ex H H') : Tabs Tt H' := tabs_of ((tabsN_of h).ext e)
section
variable {P : Program} {w : World} {K : W.Frag} {mg : Str → Option Value} {base : Heap} {f c Pt : Addr} {oc doc pm ct : Value} {an od : Option Addr} {osl : Array (Option Value)} {Tt : List (Addr × Str)}
theorem ok_in_order (B : Bt mg) (lk : K.lookup f = some ⟨oc, od, .func (W.fnOf "_in_order" "_in_order" (defArgs s_in_order) (defBody s_in_order) (defScope s_in_order) .none .none doc pm an (.ref c) ct), osl⟩) (hcd : W.codeIn K (.ref c) "_in_order" = true)
    (TB : TabB base mg c Pt) (hm : (Pt, Str.ofString "_in_order.<locals>.<lambda>") ∈ Tt) (hu : ∀ p ∈ Tt, p.1 = Pt → p.2 = Str.ofString "_in_order.<locals>.<lambda>") :
    FnOk P w K mg base CX0 5 f (W.fnOf "_in_order" "_in_order" (defArgs s_in_order) (defBody s_in_order) (defScope s_in_order) .none .none doc pm an (.ref c) ct) p_in_order (spIo Tt) := by
  refine fn_of lk hcd sc_in_order (fun vs H Q E h => ?_) (fun A outer s H vs Q E hr h => ?_)
  · obtain ⟨p, rs, rfl, _⟩ := h
    rfl
  · obtain ⟨p, rs, rfl, hp, hz, hT, k'⟩ := h
    have nd := sc_in_order.nd
    have hr2 : Room 2 (A.deeper (envOfC "_in_order" (defScope s_in_order) s.heap.objs.size f (.ref c))).in1.in1 := hr.in1.in1
    refine ⟨_, PSs.nox (pss_one (ps_ret (pe_callTy (r := rTupO K) call_tuple_of (by rfl) B.tuple (by decide +kernel) (pa_cons (pe_callBK (cr_sortK (kp := kLam "_in_order.<locals>.<lambda>" (lamPar lamI) (lamBody lamI) (lamSc lamI) (tKey K) ["part"]) (fun fa => keyC_in B rfl hr2 fa) hr2.units0) (by rfl) B.sorted (by decide +kernel) (pa_cons (pv 0) pa_nil)
      (pk_cons (pe_lamV (T := nT Tt) (nm := fun _ _ => "_in_order.<locals>.<lambda>") (c := c) (P := Pt) TB rfl (List.mem_map.mpr ⟨_, hm, rfl⟩) rfl (fun q hq e => by
          obtain ⟨y, hy, rfl⟩ := List.mem_map.mp hq
          rw [hu y hy e]) rfl (fun y hy e => absurd e (noFree y hy))) pk_nil)) pa_nil)))), ?_⟩
    obtain ⟨ps, rfl, hl, hps⟩ := hp
    rw [List.length_map] at hz
    refine ⟨.ref p, rfl, tabsN_of hT, fun fl c' H1 e1 nn T1 nf hf hc => ?_⟩
    replace hf : H1 fl = some (LamO fl "_in_order.<locals>.<lambda>" (lamPar lamI) (lamBody lamI) (lamSc lamI) [] c') := hf.trans (congrArg (fun l => some (LamO fl "_in_order.<locals>.<lambda>" (lamPar lamI) (lamBody lamI) (lamSc lamI) l c')) (clo_nil noFree))
    refine ⟨p, fl, _, rfl, rfl, .inl (sq_of (e1 _ _ hl fun _ z => by cases z)), keys_rows ps H1 _ hf hc (fun z hz => e1 _ _ (hps z hz) fun _ y => by cases y) fun as H2 e2 l2 h2 => ?_⟩
    have hrow : ∀ z ∈ ps, H2 z.1 = some (.tup (rowV z.2)) := fun z hz => e2 _ _ (e1 _ _ (hps z hz) fun _ y => by cases y)
    let k : V → KD := fun v => match v with
      | .ref b => (match H2 b with | some (.tup us) => keyOfD (ddH H2) us | _ => .l [])
      | _ => .l []
    have mem2 : ∀ z ∈ as.zip ps, z.2 ∈ ps := fun z hz => (List.of_mem_zip (a := z.1) (b := z.2) hz).2
    have kk : ∀ z ∈ as.zip ps, k (.ref z.1) = keyR z.2.2 := fun z hz => by
      show (match H2 z.1 with | some (.tup us) => keyOfD (ddH H2) us | _ => .l []) = _
      rw [h2 z hz]
      show KD.l [.k (.inl (z.2.2.length : Int)), ddH H2 (.ref z.2.1)] = _
      rw [ddH_row (hrow _ (mem2 z hz))]
      rfl
    have zipV : (as.map V.ref).zip (ps.map fun z => V.ref z.1) = (as.zip ps).map fun z => (V.ref z.1, V.ref z.2.1) := by rw [List.zip_map]; rfl
    refine ⟨k, .l fun i => if i = 0 then .i else .t fun _ => true, fun x hx => ?_, fun qs r hs hperm nr => ?_⟩
    · obtain ⟨a, ha, rfl⟩ := List.mem_map.mp hx
      obtain ⟨z, hz1, rfl⟩ : ∃ z ∈ as.zip ps, z.1 = a := by
        obtain ⟨i, hi, rfl⟩ := List.mem_iff_getElem.mp ha
        refine ⟨(as[i], ps[i]'(by omega)), ?_, rfl⟩
        rw [← List.getElem_zip (h := by rw [List.length_zip]; omega)]
        exact List.getElem_mem _
      rw [kk z hz1]
      refine ⟨⟨z.1, _, rfl, st_of (h2 z hz1), .cons rfl (.cons ⟨z.2.1, rfl, ?_⟩ .nil)⟩, by simp, ?_⟩
      · rw [List.map_map]
        exact st_of (hrow _ (mem2 z hz1))
      · intro i d hd
        match i, hd with
        | 0, hd => cases hd; rfl
        | 1, hd =>
          cases hd
          intro i x hx
          rw [List.getElem?_map] at hx
          cases ey : z.2.2[i]? with
          | none => rw [ey] at hx; cases hx
          | some y => rw [ey] at hx; cases hx; rfl
    · rw [zipV] at hperm
      obtain ⟨zs, hzp, rfl⟩ := L2.Mb.perm_lift hperm (as.zip ps) rfl
      replace hs := List.pairwise_map.mp hs
      have pm : (zs.map Prod.snd).Perm ps := by
        have z := hzp.map Prod.snd
        rwa [List.map_snd_zip (by omega)] at z
      refine ⟨r, _, rfl, .inl ⟨sq_of upd_same, fun t nt => ?_⟩⟩
      have x1 := Ex.new (o := .lst ((zs.map fun z : Addr × Addr × List Str => (V.ref z.1, V.ref z.2.1)).map Prod.snd)) nr
      have x2 := Ex.new (o := .tup ((zs.map fun z : Addr × Addr × List Str => (V.ref z.1, V.ref z.2.1)).map Prod.snd)) nt
      have e12 := (e2.trans x1).trans x2
      refine k' t _ ((zs.map Prod.snd).map Prod.snd) (pm.map _) ?_ (e1.trans (ex_extN e12)) (fun b hb => nn b (fresh_back e12 hb)) (tabs_of (T1.ext e12)) ?_ ⟨zs.map Prod.snd, rfl, ?_, fun q hq => ?_⟩
      · refine List.pairwise_map.mpr (List.pairwise_map.mpr (hs.imp_of_mem fun {x y} hx hy z => ?_))
        replace z : ltKD (k (.ref y.1)) (k (.ref x.1)) = false := z
        rw [kk x (hzp.subset hx), kk y (hzp.subset hy)] at z
        exact z
      · exact nn t (fresh_back (e2.trans x1) nt)
      · rw [upd_same, List.map_map, List.map_map]
        rfl
      · exact x2 _ _ (x1 _ _ (hrow q (pm.subset hq)))
end
end L2.M2
set_option maxRecDepth 100000
set_option maxHeartbeats 8000000
namespace L2.M2
open PySem PySem.Spec PyProof.Rows L2 Mx L2.Mb Evl Mv L2.C Sr Srt SrtO LamX NdefX
/-! ### the law's judge -/
/-- what was there is there -/
def Nn (H H' : Hp) : Prop := ∀ b, H' b = none → H b = none
theorem Nn.refl (H : Hp) : Nn H H := fun _ h => h
theorem Nn.trans {H H1 H2 : Hp} (a : Nn H H1) (b : Nn H1 H2) : Nn H H2 := fun x h => a x (b x h)
theorem nn_ex {H H' : Hp} (e : Ex H H') : Nn H H' := fun b h => fresh_back e h
theorem nn_upd {H : Hp} {a : Addr} {o : HO} : Nn H (upd H a o) := fun b h => by
  unfold upd at h
  split at h
  · cases h
  · exact h
theorem sq_fr {K : W.Frag} {H H' : Hp} {l a : Addr} {xs : List V} (f : Fr l H H') (n : a ≠ l) (h : SqL K H a xs) : SqL K H' a xs := by
  rcases h with (h | ⟨o, h⟩) | h
  · exact .inl (.inl (f _ _ n h))
  · exact .inl (.inr ⟨o, f _ _ n h⟩)
  · exact .inr h
theorem fr_ex {H H' : Hp} {l : Addr} (e : Ex H H') : Fr l H H' := fun c o _ h => e c o h
theorem fr_trans {H H1 H2 : Hp} {l : Addr} (a : Fr l H H1) (b : Fr l H1 H2) : Fr l H H2 := fun c o n h => b c o n (a c o n h)
theorem fr_upd {H : Hp} {l : Addr} {o : HO} : Fr l H (upd H l o) := fun c u n h => (upd_ne n).trans h
theorem RowL.mono {H H' : Hp} {p : Addr} {rs : List (List Str)} (h : RowL H p rs) (e : Ex H H') : RowL H' p rs := by
  obtain ⟨ps, h1, h2, h3⟩ := h
  exact ⟨ps, h1, e _ _ h2, fun q hq => e _ _ (h3 q hq)⟩
theorem RowL.snoc {H : Hp} {p t : Addr} {rs : List (List Str)} {r : List Str} (h : RowL H p rs) (ht : H t = some (.tup (rowV r))) : ∃ xs, H p = some (.lst xs) ∧ xs.length = rs.length ∧ RowL (upd H p (.lst (xs ++ [.ref t]))) p (rs ++ [r]) := by
  obtain ⟨ps, rfl, h2, h3⟩ := h
  refine ⟨_, h2, by simp, ps ++ [(t, r)], by simp, ?_, fun q hq => ?_⟩
  · rw [upd_same, List.map_append]
    rfl
  · have z : H q.1 = some (.tup (rowV q.2)) := by
      rcases List.mem_append.mp hq with y | y
      · exact h3 q y
      · rw [List.mem_singleton.mp y]
        exact ht
    rw [upd_ne fun e => by rw [e, h2] at z; cases z]
    exact z
def maskR (L r : List Str) : Nat := (((List.range L.length).filter fun k => decide (L.getD k "" ∈ r)).map fun k => 2 ^ k).sum
def holdsR (L : List Str) (seeds : List Nat) (r : List Str) : Bool := seeds.any fun s => decide (s &&& maskR L r = s)
def AnsAt (K : W.Frag) (H : Hp) (v : V) (b : Bool) : Prop := v = .bl b ∨ ∃ p xs, v = .ref p ∧ SqL K H p xs ∧ (!xs.isEmpty) = b
def spJ (K : W.Frag) : List V → Sp := fun ws vs H Q _ => ∃ (q sd nl t : Addr) (L : List Str) (seeds : List Nat) (rows : List (List Str)) (r : List Str), ws = [.ref q, .ref sd, .ref nl] ∧ vs = [.ref t] ∧ SqL K H q (rowV L) ∧ L.length ≤ 9 ∧ q ≠ nl ∧ SqL K H sd (seeds.map natV) ∧ seeds.length ≤ 256 ∧ sd ≠ nl ∧
  RowL H nl rows ∧ rows.length ≤ 30000 ∧ H t = some (.tup (rowV r)) ∧ ∀ v H', AnsAt K H' v (holdsR L seeds r) → RowL H' nl (rows ++ [r]) → Fr nl H H' → Nn H H' → Q v H'
abbrev s_judged : Stmt := (defBody s_law_judge).headD (.Pass ⟨0, 0, 0, 0⟩)
abbrev n_judged : List Str := ["_law_some", "_law_ladder", "_law_seeds_here", "_law_noted", "_law_mask", "_law_k", "_law_found", "_law_seed"]
abbrev frJ : List Str := ["_law_ladder", "_law_seeds_here", "_law_noted"]
abbrev qJ : Str := Str.ofString "_law_judge.<locals>._law_judged"
abbrev mkJ (cl : List (Str × Addr)) (c' : Addr) : NF := NF.of s_judged (Str.ofString "_law_judged") qJ cl c'
theorem ds_judged : DScope n_judged ["_law_some"] frJ (C8.fnScope s_judged) := ⟨rfl, rfl, rfl, by decide +kernel, rfl, by decide +kernel, by decide +kernel, by decide +kernel, by decide +kernel⟩
theorem inV_row {x : Str} {r : List Str} : inV (.str x) (rowV r) = decide (x ∈ r) := by
  unfold inV
  rw [List.any_map]
  rw [Bool.eq_iff_iff, List.any_eq_true, decide_eq_true_iff]
  constructor
  · rintro ⟨y, hy, h⟩
    replace h : (y == x) = true := h
    rw [← beq_iff_eq.mp h]
    exact hy
  · intro h
    exact ⟨x, h, by show (x == x) = true; exact beq_self_eq_true x⟩
theorem rowV_flat {r : List Str} : (rowV r).all flatV = true := by
  rw [List.all_map, List.all_eq_true]
  exact fun _ _ => rfl
section
variable {P : Program} {w : World} {K : W.Frag} {mg : Str → Option Value} {base : Heap} {f c' : Addr} {cl : List (Str × Addr)}
theorem ok_judged (B : Bt mg) : NOk P w K mg base CXN 4 f (mkJ cl c') ["_law_some"] frJ (spO (spJ K)) := by
  refine nok_ofD (k := 3) (N := n_judged) ds_judged (fun doc pm ctv us h => ?_) (fun ws vs H Q E h => ?_) fun A outer s H vs ws Q E hr hw h => ?_
  · match us, h with
    | [u], _ => rfl
  · obtain ⟨ws, rfl, q, sd, nl, t, L, seeds, rows, r, rfl, rfl, _⟩ := h
    rfl
  · obtain ⟨ws, rfl, q, sd, nl, t, L, seeds, rows, r, rfl, rfl, hq, hL, nq, hs, hz, ns, hn, hnz, ht, k⟩ := h
    have nd := ds_judged.nd
    have hu0 := hr.units0
    refine ⟨_, (pss_cons (ps_expr (pe_bm PySem.F.plainAttrs_list PySem.F.slot_list_append PySem.F.type_list_append mt_append (pv 3) (pa_cons (pv 0) pa_nil)))
      (pss_cons (ps_set (i := 4) nd rfl (Or.inr rfl) (pe_callB (cr_sum (by rfl)) (by rfl) B.sum (by decide +kernel) (pa_cons (pe_lc (own := [("_law_k", 5)]) (g := gName 5) (tt := tTest (tOp (rIn K false) (tOp (rIxL K) (tVar 1) (tVar 5)) (tVar 0))) (te := tOp rShl1 (tC (.int 1)) (tVar 5)) (by rfl) nd (pi_range1 (by rfl) B.range (pa_cons (pe_callB call_len_seq (by rfl) B.len (by decide +kernel) (pa_cons (pv 1) pa_nil)) pa_nil)) (blkOk_by (N := n_judged) (sc := C8.fnScope s_judged) (by decide +kernel)) (fun _ _ _ _ _ => pg_name (i := 5) nd rfl (Or.inl rfl))
          (fun _ _ _ _ _ => pts_one (pt_cmpR op_in_seq (pe_ix ix_list (pv 1) (pv 5) (fun _ _ => rfl)) (pv 0) rfl)) (fun _ _ _ _ _ => pe_op op_shl1 pe_int (pv 5))) pa_nil)))
      (pss_cons (ps_setLc (i := 6) (own := [("_law_seed", 7)]) (g := gName 7) (tt := tTest (tOp rEq (tAn (tVar 7) (tVar 4)) (tVar 7))) (te := tVar 7) (by rfl) nd rfl rfl (sw_true rfl rfl rfl (by decide +kernel)) (pi_list (pv 2)) (blkOk_by (N := n_judged) (sc := C8.fnScope s_judged) (by decide +kernel)) (fun _ _ _ _ _ => pg_name (i := 7) nd rfl (Or.inl rfl))
          (fun _ _ _ _ _ => pts_one (pt_cmpR op_eq (pe_op op_and (pv 7) (pv 4)) (pv 7) (nomark _))) (fun _ _ _ _ _ => pv 7))
      (pss_one (ps_ret (pe_ifExp (pt_cmpR op_eq (pe_op op_and (pe_callB call_len_seq (by rfl) B.len (by decide +kernel) (pa_cons (pv 1) pa_nil)) pe_int) pe_int (nomark _)) (pv 6) (pe_cmpR (op_neNil hu0) (pv 6) (pe_lst pa_nil) (nomark _)))))))), ?_⟩
    obtain ⟨xs, hxs, lxs, hr2⟩ := hn.snoc ht
    have tn : t ≠ nl := fun e => by
      rw [e] at ht
      rw [hxs] at ht
      cases ht
    refine q_app (l := nl) (xs := xs) (v := .ref t) hxs (ev_var rfl) (ev_var rfl) (by omega) fun H1 e1 => ?_
    generalize hG : upd H1 nl (.lst (xs ++ [.ref t])) = G
    have fG : Fr nl H G := by rw [← hG]; exact fr_trans (fr_ex e1) fr_upd
    have nG : Nn H G := by rw [← hG]; exact (nn_ex e1).trans nn_upd
    have gq := sq_fr fG nq hq
    have gs := sq_fr fG ns hs
    have gt := fG _ _ tn ht
    have rG : RowL G nl (rows ++ [r]) := by
      obtain ⟨ps, h1, h2, h3⟩ := hr2
      rw [upd_same] at h2
      refine ⟨ps, h1, by rw [← hG, upd_same]; exact h2, fun z hz => ?_⟩
      have y := h3 z hz
      by_cases e : z.1 = nl
      · rw [e, upd_same] at y
        cases y
      · rw [upd_ne e] at y
        exact fG _ _ e y
    have w1 := el_lcR1 (ta := tCons (tCB (rLenS K) (tCons (tVar 1) tNil)) tNil) (σ := [some (.ref t), some (.ref q), some (.ref sd), some (.ref nl), none, none, none, none]) (H := G) (t := tTest (tOp (rIn K false) (tOp (rIxL K) (tVar 1) (tVar 5)) (tVar 0))) (te := tOp rShl1 (tC (.int 1)) (tVar 5)) (j := 5) (vs := [5]) (n := (L.length : Int)) (fun i => decide (L.getD i "" ∈ r)) (fun i => natV (2 ^ i))
      (ea_cons (ev_is (ev_len (ev_var rfl) gq) (by rw [List.length_map])) ea_nil) (by omega) (fun _ => rfl)
      (fun i H2 e hi => et_test (ev_is (ev_op (ev_op (ev_var rfl) (ev_var rfl) (rv_ixL (v := .str (L.getD i "")) (ex_l e gq) (atI_nat (j := i) (by
        rw [List.getElem?_map]
        have hj' : i < L.length := by omega
        rw [List.getElem?_eq_getElem hj', List.getD_eq_getElem?_getD, List.getElem?_eq_getElem hj']
        rfl)))) (ev_var rfl) (rv_isT (st_of (e _ _ gt)) rfl rowV_flat)) (by rw [inV_row])))
      (fun i H2 e hi _ => ev_shl1 (ev_var rfl) (by omega))
    rw [Int.toNat_natCast] at w1
    have e0 : given L.length (fun i => decide (L.getD i "" ∈ r)) (fun i => natV (2 ^ i)) = (((List.range L.length).filter fun k => decide (L.getD k "" ∈ r)).map fun k => 2 ^ k).map natV := by
      unfold given
      rw [List.map_map]
      rfl
    rw [e0] at w1
    refine q_asg (v := natV (maskR L r)) (ev_sumN w1) fun H2 e2 => ?_
    have w2 := el_lcI (wi := iList K (tVar 2)) (σ := [some (.ref t), some (.ref q), some (.ref sd), some (.ref nl), some (natV (maskR L r)), none, none, none]) (H := H2) (t := tTest (tOp rEq (tAn (tVar 7) (tVar 4)) (tVar 7))) (te := tVar 7) (l := seeds) (c := natV) (j := 7) (vs := [7]) (fun b => decide (natV (b &&& maskR L r) = natV b)) natV (eo_list (ev_var rfl) (ex_l e2 gs)).ei (by omega) (fun _ => rfl)
      (fun x hx H4 e4 => et_test (ev_op (ev_an (ev_var rfl) (ev_var rfl)) (ev_var rfl) (rv_eq rfl))) (fun x hx H4 e4 _ => ev_var rfl)
    refine q_asgL w2 fun fp H3 n3 e3 h3 => ?_
    have e23 := e2.trans e3
    have hb : (!((seeds.filter fun b => decide (natV (b &&& maskR L r) = natV b)).map natV).isEmpty) = holdsR L seeds r := by
      unfold holdsR
      clear w2 hs gs h3 k
      induction seeds with
      | nil => rfl
      | cons b rr ih =>
        have eb : decide (natV (b &&& maskR L r) = natV b) = decide (b &&& maskR L r = b) := decide_eq_decide.mpr ⟨fun z => by
          have : ((b &&& maskR L r : Nat) : Int) = (b : Nat) := V.int.inj z
          omega, fun z => by rw [z]⟩
        rw [List.filter_cons, eb, List.any_cons]
        cases decide (b &&& maskR L r = b) with
        | true => rfl
        | false => exact ih (by simp at hz; omega)
    have hfin : ∀ {H9 : Hp} {v : V}, Ex H3 H9 → AnsAt K H9 v (holdsR L seeds r) → Q v H9 := fun {H9 v} e9 a => k v H9 a (rG.mono (e23.trans e9)) (fr_trans fG (fr_ex (e23.trans e9))) (nG.trans (nn_ex (e23.trans e9)))
    have c1 : EvT (tTest (tOp rEq (tAn (tCB (rLenS K) (tCons (tVar 1) tNil)) (tC (.int 1))) (tC (.int 0)))) [some (.ref t), some (.ref q), some (.ref sd), some (.ref nl), some (natV (maskR L r)), none, some (.ref fp), none] H3 (decide (natV (L.length &&& 1) = .int 0)) :=
      et_test (ev_op (ev_an (b := 1) (ev_is (ev_len (ev_var rfl) (ex_l e23 gq)) (by rw [List.length_map])) ev_c) ev_c (rv_eq rfl))
    refine c1 H3 (Ex.refl _) _ fun H4 e4 => ?_
    cases hc : decide (natV (L.length &&& 1) = V.int 0) with
    | true => exact ⟨_, rfl, hfin e4 (.inr ⟨fp, _, rfl, sq_of (e4 _ _ h3), hb⟩)⟩
    | false =>
      have w3 : Ev (tOp (rNil K true) (tVar 6) (tLst tNil)) [some (.ref t), some (.ref q), some (.ref sd), some (.ref nl), some (natV (maskR L r)), none, some (.ref fp), none] H4 (.bl (holdsR L seeds r)) := fun H5 e5 Q5 q5 =>
        ⟨_, rfl, Nat.zero_le _, fun r9 nr => ⟨fp, r9, _, rfl, rfl, sq_of (Ex.new nr _ _ (e5 _ _ (e4 _ _ h3))), sq_of upd_same, by rw [if_pos rfl, hb]; exact q5 _ (Ex.new nr)⟩⟩
      exact w3 H4 (Ex.refl _) _ fun H5 e5 => hfin (e4.trans e5) (.inl rfl)
end
end L2.M2
set_option maxRecDepth 100000
set_option maxHeartbeats 8000000
namespace L2.M2
open PySem PySem.Spec PyProof.Rows L2 Mx L2.Mb Evl Mv L2.C Sr Srt SrtO LamX NdefX
/-! ### a judge is made -/
def spJd (Tt : List (Addr × Str)) : Sp := fun vs H Q _ => ∃ q sd nl : V, vs = [q, sd, nl] ∧ Tabs Tt H ∧ ∀ f cl c' H', Clo H' f (mkJ cl c') frJ vs → ExtN H H' → Tabs Tt H' → H f = none → Q (.ref f) H'
section
variable {P : Program} {w : World} {K : W.Frag} {mg : Str → Option Value} {base : Heap} {f c Pt : Addr} {fd : FuncData} {oc dV kV doc pm ct : Value} {an od : Option Addr} {osl : Array (Option Value)} {Tt : List (Addr × Str)}
theorem ok_judge (F : FnP K "_law_judge" s_law_judge f fd) (lk : K.lookup f = some ⟨oc, od, .func (W.fnOf "_law_judge" "_law_judge" (defArgs s_law_judge) (defBody s_law_judge) (defScope s_law_judge) dV kV doc pm an (.ref c) ct), osl⟩)
    (TB : TabB base mg c Pt) (hm : (Pt, qJ) ∈ Tt) (hu : ∀ p ∈ Tt, p.1 = Pt → p.2 = qJ) : FnOk P w K mg base CXN 3 f fd p_law_judge (spJd Tt) := by
  refine fn_clo (st := s_judged) (name := "_law_judged") (p := ⟨136, 11, 136, 22⟩) (pos := ⟨136, 4, 136, 22⟩) (dp := ⟨131, 4, 135, 76⟩) (T := nT Tt) (nm := fun _ _ => qJ) (c := c) (Pt := Pt) (fr := frJ) (js := [0, 1, 2]) (i := 3) (N := ["_law_ladder", "_law_seeds_here", "_law_noted", "_law_judged"]) F ⟨rfl, rfl, rfl, by decide +kernel, rfl, by decide +kernel, by decide +kernel⟩ (fun vs H Q E h => ?_) rfl TB (fun oc od dV kV doc pm an cdv ct osl h => ?_) (List.mem_map.mpr ⟨_, hm, rfl⟩) rfl (fun q hq e => ?_) (by decide +kernel) rfl rfl (fun _ => rfl) rfl (.inl rfl) (by decide) (by decide) rfl (fun vs f' h => ?_) fun vs H Q E h => ?_
  · obtain ⟨q, sd, nl, rfl, _⟩ := h
    rfl
  · have z := congrArg (fun o : Option Obj => match o with | some ⟨_, _, .func fd, _⟩ => fd.code | _ => Value.none) (lk.symm.trans h)
    exact z.symm
  · obtain ⟨y, hy, rfl⟩ := List.mem_map.mp hq
    rw [hu y hy e]
  · match vs, h with
    | [a, b, c], _ => rfl
  · obtain ⟨q, sd, nl, rfl, hT, k⟩ := h
    exact ⟨tabsN_of hT, fun f' cl c' H' z e t n => k f' cl c' H' z e (tabs_of t) n⟩
end
end L2.M2
set_option maxRecDepth 100000
set_option maxHeartbeats 8000000
namespace L2.Mb
open PySem PySem.Spec PyProof.Rows L2 Evl Mv Sr Srt SrtO
section
variable {K : W.Frag} {σ : L2.St} {H : Hp} {tl te : TE} {t : TT}
/-- a comprehension over enumerate(list) -/
theorem el_lcEn {a : Addr} {xs : List V} {i j : Nat} {vs : List Nat} (f : Nat → Bool) (v : Nat → V) (h : Ev tl σ H (.ref a)) (hx : SqL K H a xs) (hz : xs.length ≤ 40000) (hw : ∀ x y, wipe (((wipe σ vs).set i (some x)).set j (some y)) vs = wipe σ vs)
    (ht : ∀ n x H1, Ex H H1 → xs[n]? = some x → EvT t (((wipe σ vs).set i (some (.int (n : Nat)))).set j (some x)) H1 (f n)) (he : ∀ n x H1, Ex H H1 → xs[n]? = some x → f n = true → Ev te (((wipe σ vs).set i (some (.int (n : Nat)))).set j (some x)) H1 (v n)) :
    EvL (tLc (iEnum K (tCons tl tNil)) (gTup K 2 (gCons (gName i) (gCons (gName j) gNil))) t te vs) σ H (given xs.length f v) := fun H0 e Q q => h H0 e _ fun H1 e1 => by
  refine ⟨a, xs, rfl, ex_l (e.trans e1) hx, fun D hD => ?_⟩
  refine lc_it (walk_enum (K := K) (a := a) (xs := xs)) (fun n H' => Ex H1 H' ∧ H' D = some (.lst (given n f v))) ⟨Ex.new hD, upd_same⟩ (fun n H' _ p => ex_l ((e.trans e1).trans p.1) hx) (fun n x H2 H' hn p y => ?_) (fun H' p => ?_)
  · obtain ⟨T, v1, v2, rfl, nT, rfl, z1, z2⟩ := y
    obtain rfl : V.int (n : Nat) = v1 := Option.some.inj z1
    have eT := Ex.new (o := .tup [.int (n : Nat), v2]) nT
    refine ⟨T, [.int (n : Nat), v2], rfl, st_of upd_same, rfl, _, [v2], rfl, v2, [], rfl, rfl, hw _ _, ?_⟩
    refine ht n v2 _ (((e.trans e1).trans p.1).trans eT) z2 _ (Ex.refl _) _ fun H3 e3 => ?_
    have e13 := (p.1.trans eT).trans e3
    cases hf : f n with
    | false => exact ⟨e13, by rw [given_no hf]; exact e3 _ _ (eT _ _ p.2)⟩
    | true =>
      refine he n v2 H3 ((e.trans e1).trans e13) z2 hf H3 (Ex.refl _) _ fun H4 e4 => ⟨_, e4 _ _ (e3 _ _ (eT _ _ p.2)), sz_lt (by have := given_len n f v; omega), Ex.mut (e13.trans e4) hD, ?_⟩
      rw [upd_same, given_yes hf]
  · exact q D H' (fresh_back e1 hD) (e1.trans p.1) p.2
end
section
variable {X : Cx}
def rBoolA (K : W.Frag) : List V → Hp → VK → Prop := fun xs H Q => (∃ k, xs = [.bl k] ∧ Q (.bl k) H) ∨ ∃ (a : Addr) (zs : List V), xs = [.ref a] ∧ SqL K H a zs ∧ Q (.bl (!zs.isEmpty)) H
theorem call_boolA : CallR X (.type "bool") (rBoolA X.K) := by
  intro pins s σ H xs us Q I r h
  rcases h with ⟨k, rfl, q⟩ | h
  · exact call_bool1 pins s σ H _ us Q I r (.inr ⟨k, rfl, q⟩)
  · exact call_boolL pins s σ H xs us Q I r h
end
end L2.Mb
namespace L2.M2
open PySem PySem.Spec PyProof.Rows L2 Mx L2.Mb Evl Mv L2.C Sr Srt SrtO LamX NdefX
/-! ### the search -/
structure Mt (P : Program) (w : World) (K : W.Frag) (mg : Str → Option Value) (base : Heap) (C : Addr) (m : Str) (k : Nat) (ps : List Str) (sp : Sp) (f : Addr) (fd : FuncData) : Prop where
  me : Meth K C m f
  ok : FnOk P w K mg base CX0 k f fd ps sp
  b : Binds K fd ps []
structure CF (K : W.Frag) (mg : Str → Option Value) (C : Addr) : Prop where
  m : mg "Search" = some (.ref C)
  cl : Cls K C
  nI : NoAttr K C "_items"
  nH : NoAttr K C "_holds"
  nA : NoAttr K C "_answers"
structure SD where
  it : Addr
  fh : Addr
  da : Addr
  nl : Addr
  q : Addr
  sd : Addr
  cl : List (Str × Addr)
  c' : Addr
  I : List Str
  L : List Str
  seeds : List Nat
abbrev SD.f (d : SD) (m : Nat) : Bool := holdsR d.L d.seeds (rowOf d.I m)
abbrev SD.fs (d : SD) : List (Str × V) := [("_items", .ref d.it), ("_holds", .ref d.fh), ("_answers", .ref d.da)]
abbrev ansL (d : SD) (am : List Nat) : List (Key × V) := am.map fun m : Nat => ((Sum.inl (m : Int) : Key), V.bl (d.f m))
structure SOk (d : SD) : Prop where
  i : d.I.length ≤ 8
  l : d.L.length ≤ 9
  s : d.seeds.length ≤ 256
  nq : d.q ≠ d.nl
  ni : d.it ≠ d.nl
  ns : d.sd ≠ d.nl
structure SAt (K : W.Frag) (C : Addr) (H : Hp) (a : Addr) (d : SD) (G : List Str → Prop) (B : Nat) (am : List Nat) : Prop where
  at_ : ∃ dx, H a = some (.ins C dx d.fs)
  hi : H d.it = some (.lst (rowV d.I))
  ha : H d.da = some (.dK (ansL d am))
  nd : am.Nodup
  lt : ∀ m ∈ am, m < 2 ^ 8
  clo : Clo H d.fh (mkJ d.cl d.c') frJ [.ref d.q, .ref d.sd, .ref d.nl]
  hq : SqL K H d.q (rowV d.L)
  hs : SqL K H d.sd (d.seeds.map natV)
  nl : ∃ rows, RowL H d.nl rows ∧ rows.length ≤ B + am.length ∧ ∀ r ∈ rows, G r
/-- all but what is noted and answered stays -/
def FrS (d : SD) (H H' : Hp) : Prop := ∀ c o, c ≠ d.nl → c ≠ d.da → H c = some o → H' c = some o
theorem FrS.refl (d : SD) (H : Hp) : FrS d H H := fun _ _ _ _ h => h
theorem FrS.trans {d : SD} {H H1 H2 : Hp} (a : FrS d H H1) (b : FrS d H1 H2) : FrS d H H2 := fun c o n1 n2 h => b c o n1 n2 (a c o n1 n2 h)
theorem FrS.ex {d : SD} {H H' : Hp} (e : Ex H H') : FrS d H H' := fun c o _ _ h => e c o h
theorem celAt_mono {H H' : Hp} {c : Addr} {v : V} (e : ∀ o, H c = some (.frz o T0) → H' c = some (.frz o T0)) (h : CelAt H c v) : CelAt H' c v := by
  obtain ⟨o, u, h1, h2, h3⟩ := h
  exact ⟨o, u, e o h1, h2, h3⟩
theorem clo_mono {H H' : Hp} {f : Addr} {F : NF} {fr : List Str} {ws : List V} (e : ∀ b o, H b = some o → (∀ xs, o ≠ .lst xs) → (∀ kvs, o ≠ .dK kvs) → H' b = some o) (h : Clo H f F fr ws) : Clo H' f F fr ws := by
  have ec : ∀ c o, H c = some (.frz o T0) → H' c = some (.frz o T0) := fun c o z => e _ _ z (fun _ y => by cases y) fun _ y => by cases y
  refine ⟨e _ _ h.f (fun _ y => by unfold FnO at y; cases y) (fun _ y => by unfold FnO at y; cases y), e _ _ h.c (fun _ y => by unfold CodeO at y; cases y) (fun _ y => by unfold CodeO at y; cases y), h.len, fun p hp => ?_, h.inj, fun i y hy => ?_⟩
  · obtain ⟨o, z, y⟩ := h.all p hp
    exact ⟨o, ec _ _ z, y⟩
  · obtain ⟨c, h1, h2⟩ := h.has i y hy
    exact ⟨c, h1, fun v hv => celAt_mono (ec c) (h2 v hv)⟩
theorem SAt.mono {K : W.Frag} {C : Addr} {H H' : Hp} {a : Addr} {d : SD} {G : List Str → Prop} {B : Nat} {am : List Nat} (h : SAt K C H a d G B am) (e : Ex H H') : SAt K C H' a d G B am := by
  refine ⟨h.at_.elim fun dx z => ⟨dx, e _ _ z⟩, e _ _ h.hi, e _ _ h.ha, h.nd, h.lt, clo_mono (fun b o z _ _ => e b o z) h.clo, ex_l e h.hq, ex_l e h.hs, ?_⟩
  obtain ⟨rows, h1, h2, h3⟩ := h.nl
  exact ⟨rows, h1.mono e, h2, h3⟩
section
variable {P : Program} {w : World} {K : W.Frag} {mg : Str → Option Value} {base : Heap} {f C : Addr} {fd : FuncData} {σ : L2.St} {H : Hp}
theorem ev_f {te : TE} {a : Addr} {fs : List (Str × V)} {x : Str} {v : V} (cl : Cls K C) (n : NoAttr K C x) (h : Ev te σ H (.ref a)) (ha : ∃ dx, H a = some (.ins C dx fs)) (hl : fs.lookup x = some v) : Ev (tFld K te x) σ H v := fun H1 e Q q => h H1 e _ fun H2 e2 => by
  obtain ⟨dx, hd⟩ := ha
  exact ⟨a, C, dx, fs, v, rfl, e2 _ _ (e _ _ hd), cl, n, hl, q H2 e2⟩
theorem ev_dnin {ty td : TE} {a : Addr} {kvs : List (Key × V)} {k : Key} (hy : Ev ty σ H (kV k)) (hd : Ev td σ H (.ref a)) (h : H a = some (.dK kvs)) : Ev (tDNotIn ty td) σ H (.bl (!(valV kvs k).isSome)) := fun H1 e Q q =>
  hy H1 e _ fun H2 e2 => hd H2 (e.trans e2) _ fun H3 e3 => ⟨a, _, rfl, DGet.k (e3 _ _ (e2 _ _ (e _ _ h))), q H3 (e2.trans e3)⟩
theorem ev_dget {ty td : TE} {a : Addr} {kvs : List (Key × V)} {k : Key} {v : V} (hd : Ev td σ H (.ref a)) (hy : Ev ty σ H (kV k)) (h : H a = some (.dK kvs)) (hv : valV kvs k = some v) : Ev (tDGet td ty) σ H v := fun H1 e Q q =>
  hd H1 e _ fun H2 e2 => hy H2 (e.trans e2) _ fun H3 e3 => ⟨a, v, rfl, by
    have z := DGet.k (k := k) (e3 _ _ (e2 _ _ (e _ _ h)))
    rw [hv] at z
    exact z, q H3 (e2.trans e3)⟩
def spMb (C : Addr) : Sp := fun vs H Q _ => ∃ (a it : Addr) (fs : List (Str × V)) (I : List Str) (m : Nat), vs = [.ref a, natV m] ∧ (∃ dx, H a = some (.ins C dx fs)) ∧ fs.lookup ("_items" : Str) = some (.ref it) ∧ H it = some (.lst (rowV I)) ∧ I.length ≤ 8 ∧ ∀ t H', H t = none → Ex H H' → H' t = some (.tup (rowV (rowOf I m))) → Q (.ref t) H'
theorem given_row {I : List Str} {m : Nat} : given (rowV I).length (fun i => m.testBit i) (fun i => V.str (I.getD i "")) = rowV (rowOf I m) := by
  unfold given rowOf
  rw [List.length_map]
  show _ = List.map V.str (List.map _ _)
  rw [List.map_map]
  rfl
theorem getD_of {I : List Str} {n : Nat} {x : V} (h : (rowV I)[n]? = some x) : x = V.str (I.getD n "") := by
  rw [List.getElem?_map] at h
  cases z : I[n]? with
  | none => rw [z] at h; cases h
  | some y =>
    rw [z] at h
    rw [List.getD_eq_getElem?_getD, z]
    exact (Option.some.inj h).symm
theorem ok_members (B : Bt mg) (T : CF K mg C) {q : Str} (F : FnC K "members" q s_Search_members [] f fd) : FnOk P w K mg base CX0 2 f fd p_Search_members (spMb C) := by
  refine F.ok sc_Search_members (fun vs H Q E h => ?_) (fun cdv A outer s H vs Q E hr h => ?_)
  · obtain ⟨a, it, fs, I, m, rfl, _⟩ := h
    rfl
  · obtain ⟨a, it, fs, I, m, rfl, ha, hf, hi, hl, k⟩ := h
    have nd := sc_Search_members.nd
    refine ⟨_, PSs.nox (pss_one (ps_ret (pe_callTy (r := rTupO K) call_tuple_of (by rfl) B.tuple (by decide +kernel) (pa_cons (pe_lc (own := [("at", 2), ("item", 3)]) (g := gTup K 2 (gCons (gName 2) (gCons (gName 3) gNil))) (tt := tTrI K (tAn (tOp rShr (tVar 1) (tVar 2)) (tC (.int 1)))) (te := tVar 3) (by rfl) nd (pi_enum (by rfl) B.enumerate (pa_cons (pe_fld (pv 0) rfl) pa_nil)) (blkOk_by (N := n_Search_members) (sc := defScope s_Search_members) (by decide +kernel)) (fun _ _ _ _ _ => pg_tup rfl (pgs_cons (pg_name (i := 2) nd rfl (Or.inl rfl)) (pgs_cons (pg_name (i := 3) nd rfl (Or.inl rfl)) pgs_nil)))
      (fun _ _ _ _ _ => pts_one (pt_tru (pe_op op_and (pe_op op_shr1 (pv 1) (pv 2)) pe_int) (fun _ => rfl))) (fun _ _ _ _ _ => pv 3)) pa_nil)))), ?_⟩
    have w1 := el_lcEn (K := K) (a := it) (tl := tFld K (tVar 0) "_items") (σ := [some (.ref a), some (natV m), none, none]) (H := H) (t := tTrI K (tAn (tOp rShr (tVar 1) (tVar 2)) (tC (.int 1)))) (te := tVar 3) (i := 2) (j := 3) (vs := [2, 3]) (fun i => m.testBit i) (fun i => V.str (I.getD i "")) (ev_f T.cl T.nI (ev_var rfl) ha hf) (sq_of hi) (by rw [List.length_map]; omega) (fun _ _ => rfl)
      (fun n x H1 e hx => et_at (ev_var rfl) (ev_var rfl)) (fun n x H1 e hx _ => by rw [← getD_of hx]; exact ev_var rfl)
    rw [given_row] at w1
    exact s_retU (eu_tupO w1) fun t H1 nt e1 ht => k t H1 nt e1 ht
end
end L2.M2
set_option maxRecDepth 100000
set_option maxHeartbeats 8000000
namespace L2.M2
open PySem PySem.Spec PyProof.Rows L2 Mx L2.Mb Evl Mv L2.C Sr Srt SrtO LamX NdefX
def spIh (K : W.Frag) (C : Addr) : Sp := fun vs H Q _ => ∃ (a : Addr) (d : SD) (G : List Str → Prop) (B : Nat) (am : List Nat) (m : Nat), vs = [.ref a, natV m] ∧ SOk d ∧ SAt K C H a d G B am ∧ B ≤ 20000 ∧ m < 2 ^ 8 ∧ (∀ m, G (rowOf d.I m)) ∧
  ∀ am' H', SAt K C H' a d G B am' → FrS d H H' → Nn H H' → Q (.bl (d.f m)) H'
theorem nodup_lt : ∀ (n : Nat) (l : List Nat), l.Nodup → (∀ x ∈ l, x < n) → l.length ≤ n
  | 0, l, _, h => by
    cases l with
    | nil => exact Nat.le_refl _
    | cons a r => exact absurd (h a List.mem_cons_self) (Nat.not_lt_zero _)
  | n + 1, l, nd, h => by
    have ih := nodup_lt n (l.erase n) (nd.erase n) fun x hx => by
      have z := (List.Nodup.mem_erase_iff nd).mp hx
      have := h x z.2
      have := z.1
      omega
    by_cases m : n ∈ l
    · rw [List.length_erase_of_mem m] at ih
      omega
    · rw [List.erase_of_not_mem m] at ih
      omega
theorem am_len {am : List Nat} (nd : am.Nodup) (lt : ∀ m ∈ am, m < 2 ^ 8) : am.length ≤ 256 := nodup_lt 256 am nd lt
theorem val_ans {d : SD} : ∀ {am : List Nat} {m : Nat}, valV (ansL d am) (Sum.inl (m : Int)) = if m ∈ am then some (.bl (d.f m)) else none
  | [], m => rfl
  | x :: am, m => by
    show valV (((Sum.inl (x : Int) : Key), V.bl (d.f x)) :: ansL d am) (Sum.inl (m : Int)) = _
    by_cases h : x = m
    · subst h
      rw [valV_pos rfl, if_pos List.mem_cons_self]
    · rw [valV_neg (fun z => h (by injection z with z; omega)), val_ans]
      by_cases h2 : m ∈ am
      · rw [if_pos h2, if_pos (List.mem_cons_of_mem _ h2)]
      · rw [if_neg h2, if_neg fun z => (List.mem_cons.mp z).elim (fun y => h y.symm) h2]
theorem hidL {cl : List (Str × Addr)} {H : Hp} (al : AllC cl H) {K : W.Frag} {a : Addr} {xs : List V} (h : SqL K H a xs) : SqL K (hidC cl H) a xs := by
  rcases h with (h | ⟨o, h⟩) | h
  · exact .inl (.inl (hid_keep al h fun _ z => by cases z))
  · exact .inl (.inr ⟨o, hid_keep al h fun _ z => by unfold T0 at z; cases z⟩)
  · exact .inr h
section
variable {P : Program} {w : World} {K : W.Frag} {mg : Str → Option Value} {base : Heap} {f fM C : Addr} {fd dM : FuncData} {σ : L2.St} {H : Hp}
theorem eu_members {a : Addr} {d : SD} {G : List Str → Prop} {Bd : Nat} {am : List Nat} {m : Nat} {E : XK} {te tm : TE} (he : Ev te σ H (.ref a)) (hm : Ev tm σ H (natV m)) (sa : SAt K C H a d G Bd am) (hI : d.I.length ≤ 8) :
    EvU (tMeth C "members" (spMb C) [] E te (tCons tm tNil)) σ H (rowV (rowOf d.I m)) := fun H1 e1 Q q => he H1 e1 _ fun H2 e2 => by
  obtain ⟨dx, hd⟩ := sa.at_
  refine ⟨a, dx, d.fs, rfl, e2 _ _ (e1 _ _ hd), rfl, (ea_cons hm ea_nil) H2 (e1.trans e2) _ fun H3 e3 => ?_⟩
  have e03 := (e1.trans e2).trans e3
  rw [List.append_nil]
  exact ⟨a, d.it, d.fs, d.I, m, rfl, (sa.mono e03).at_, rfl, (sa.mono e03).hi, hI, fun t H' nt e ht => q t H' (fresh_back (e2.trans e3) nt) ((e2.trans e3).trans e) ht⟩
theorem ok_is_held (B : Bt mg) (T : CF K mg C) (M : Mt P w K mg base C "members" 2 p_Search_members (spMb C) fM dM) {q : Str} (F : FnC K "_is_held" q s_Search_is_held [] f fd) : FnOk P w K mg base CX0 6 f fd p_Search_is_held (spIh K C) := by
  refine F.ok sc_Search_is_held (fun vs H Q E h => ?_) (fun cdv A outer s H vs Q E hr h => ?_)
  · obtain ⟨a, d, G, B, am, m, rfl, _⟩ := h
    rfl
  · obtain ⟨a, d, G, Bd, am, m, rfl, ok, sa, hB, hm, hG, k⟩ := h
    have nd := sc_Search_is_held.nd
    have hu := Nat.lt_of_le_of_lt (Nat.add_le_add_left (show 1 ≤ 64 by decide) _) hr.units
    refine ⟨_, PSs.nox (pss_cons (ps_if (pt_cmp ((pc_dnotin hu (pv 1) (pe_fld (pv 0) rfl)))) (pss_cons (ps_set (i := 2) nd rfl (Or.inl rfl) (pe_fld (pv 0) rfl))
        (pss_one (ps_dput hu (pe_fld (pv 0) rfl) (pv 1) (pe_callTy (r := rBoolA K) call_boolA (by rfl) B.bool (by decide +kernel) (pa_cons (pe_callC (mk := mkJ) (i := 2) (x := "holds") (sp := spJ K) (j := 5) (fun f cl c' => ok_judged B) (fun _ _ => rfl) (hr.mono (by decide)) (by decide) rfl (.inl rfl) (pa_cons (pe_meth (pv 0) T.cl M.me M.ok (hr.mono (by decide)) M.b .nil pass0 (pa_cons (pv 1) pa_nil)) pa_nil)) pa_nil)) (by rfl)))) pss_nil)
      (pss_one (ps_ret (pe_dget hu (pe_fld (pv 0) rfl) (pv 1) (fun _ _ => rfl))))), ?_⟩
    have hf : ∃ dx, H a = some (.ins C dx d.fs) := sa.at_
    have al8 := am_len sa.nd sa.lt
    -- the answer is there
    have fin : ∀ {H9 : Hp} {am9 : List Nat} {x : Option V}, SAt K C H9 a d G Bd am9 → m ∈ am9 → FrS d H H9 → Nn H H9 → tRet (tDGet (tFld K (tVar 0) "_answers") (tVar 1)) { nx := fun _ H' => Q .non H', rt := Q } [some (.ref a), some (natV m), x] H9 := fun {H9 am9 x} s9 hm9 f9 n9 => by
      refine s_ret (ev_dget (k := Sum.inl (m : Int)) (ev_f T.cl T.nA (ev_var rfl) s9.at_ rfl) (ev_var rfl) s9.ha (by rw [val_ans, if_pos hm9])) fun H10 e10 => k am9 H10 (s9.mono e10) (f9.trans (FrS.ex e10)) (n9.trans (nn_ex e10))
    refine q_when (b := !decide (m ∈ am)) (et_B (ev_is (ev_dnin (k := Sum.inl (m : Int)) (ev_var rfl) (ev_f T.cl T.nA (ev_var rfl) hf rfl) sa.ha) (by
      rw [val_ans]
      by_cases z : m ∈ am
      · rw [if_pos z, decide_eq_true z]; rfl
      · rw [if_neg z, decide_eq_false z]; rfl))) (fun z H1 e1 => ?_) (fun z H1 e1 => ?_)
    · have nm : m ∉ am := fun y => by rw [decide_eq_true y] at z; cases z
      have s1 := sa.mono e1
      refine q_asg (v := .ref d.fh) (ev_f T.cl T.nH (ev_var rfl) s1.at_ rfl) fun H2 e2 => ?_
      have s2 := s1.mono e2
      refine ⟨d.fh, d.cl, d.c', [.ref d.q, .ref d.sd, .ref d.nl], rfl, s2.clo.f, ?_⟩
      have w := eu_members (E := E0) (σ := [some (.ref a), some (natV m), some (.ref d.fh)]) (m := m) (te := tVar 0) (tm := tVar 1) (ev_var rfl) (ev_var rfl) s2 ok.i
      dsimp only [tCons, tNil]
      refine w H2 (Ex.refl _) _ fun t H5 nt e3 ht => ?_
      have s5 := s2.mono e3
      have al : AllC d.cl H5 := s5.clo.all
      obtain ⟨rows, hr1, hr2, hr3⟩ := s5.nl
      refine ⟨s5.clo, d.q, d.sd, d.nl, t, d.L, d.seeds, rows, rowOf d.I m, rfl, rfl, hidL al s5.hq, ok.l, ok.nq, hidL al s5.hs, ok.s, ok.ns, ?_, by omega, hid_keep al ht (fun _ y => by cases y), fun v H6 av rl fr6 nn6 gone => ?_⟩
      · obtain ⟨ps, h1, h2, h3⟩ := hr1
        exact ⟨ps, h1, hid_keep al h2 (fun _ y => by cases y), fun q hq => hid_keep al (h3 q hq) (fun _ y => by cases y)⟩
      · have e6 := shw_ex (H := H5) gone
        generalize hG6 : shwC d.cl H5 H6 = G6 at e6
        have f6 : Fr d.nl H5 G6 := fun c o n hc => by rw [← hG6]; exact shw_keep al (fun y => fr6 c o n y) hc
        have n6 : Nn H5 G6 := fun c hc => by rw [← hG6] at hc; exact shw_none (fun y => nn6 c y) hc
        have rl6 := rl.mono e6
        have e05 := (e1.trans e2).trans e3
        have dn : d.da ≠ d.nl := fun y => by
          obtain ⟨ps, h1, h2, h3⟩ := hr1
          have := s5.ha
          rw [y, h2] at this
          cases this
        have ck : ∀ b o, H5 b = some o → (∀ xs, o ≠ .lst xs) → (∀ kvs, o ≠ .dK kvs) → G6 b = some o := fun b o hb n1 _ => f6 b o (fun y => by
          obtain ⟨ps, h1, h2, h3⟩ := hr1
          rw [y, h2] at hb
          exact n1 _ (Option.some.inj hb).symm) hb
        have s6 : ∃ dx, G6 a = some (.ins C dx d.fs) := by
          obtain ⟨dx, z⟩ := s5.at_
          exact ⟨dx, ck _ _ z (fun _ y => by cases y) fun _ y => by cases y⟩
        have goalB : ∀ Q9 : St → Hp → Prop, (∀ H9, Ex G6 H9 → Q9 [some (.ref a), some (natV m), some (.ref d.fh)] (upd H9 d.da (.dK (ansL d am ++ [(Sum.inl (m : Int), .bl (d.f m))])))) →
            tFld K (tVar 0) "_answers" [some (.ref a), some (natV m), some (.ref d.fh)] G6 (fun y H8 => tVar 1 [some (.ref a), some (natV m), some (.ref d.fh)] H8 fun z H9 => ∃ a2 H10, y = .ref a2 ∧ DPut H9 a2 z (.bl (d.f m)) H10 ∧ Q9 [some (.ref a), some (natV m), some (.ref d.fh)] H10) := fun Q9 q9 => by
          refine ev_f (x := "_answers") (v := .ref d.da) T.cl T.nA (ev_var rfl) s6 rfl G6 (Ex.refl _) _ fun H8 e8 => ⟨_, rfl, d.da, _, rfl, DPut.k (k := Sum.inl (m : Int)) (e8 _ _ (f6 _ _ dn s5.ha)) (sz_lt (by rw [List.length_map]; omega)), ?_⟩
          rw [putK_new _ (by rw [val_ans, if_neg nm])]
          exact q9 H8 e8
        have last : ∀ H9, Ex G6 H9 → tRet (tDGet (tFld K (tVar 0) "_answers") (tVar 1)) { nx := fun _ H' => Q .non H', rt := Q } [some (.ref a), some (natV m), some (.ref d.fh)] (upd H9 d.da (.dK (ansL d am ++ [(Sum.inl (m : Int), .bl (d.f m))]))) := fun H9 e9 => by
          have nn9 : ∀ {c o}, G6 c = some o → c ≠ d.da → (upd H9 d.da (.dK (ansL d am ++ [(Sum.inl (m : Int), .bl (d.f m))]))) c = some o := fun {c o} hc n => (upd_ne n).trans (e9 _ _ hc)
          have ck9 : ∀ b o, H5 b = some o → (∀ xs, o ≠ .lst xs) → (∀ kvs, o ≠ .dK kvs) → (upd H9 d.da (.dK (ansL d am ++ [(Sum.inl (m : Int), .bl (d.f m))]))) b = some o := fun b o hb n1 n2 => nn9 (ck b o hb n1 n2) fun y => by
            rw [y, s5.ha] at hb
            exact n2 _ (Option.some.inj hb).symm
          have nq9 : ∀ {c xs}, c ≠ d.nl → SqL K H5 c xs → SqL K (upd H9 d.da (.dK (ansL d am ++ [(Sum.inl (m : Int), .bl (d.f m))]))) c xs := fun {c xs} n hc => by
            rcases hc with (hc | ⟨o, hc⟩) | hc
            · exact .inl (.inl (nn9 (f6 _ _ n hc) fun y => by rw [y, s5.ha] at hc; cases hc))
            · exact .inl (.inr ⟨o, nn9 (f6 _ _ n hc) fun y => by rw [y, s5.ha] at hc; cases hc⟩)
            · exact .inr hc
          have it9 := nn9 (f6 _ _ ok.ni s5.hi) fun y => by have := s5.hi; rw [y, s5.ha] at this; cases this
          refine fin (am9 := am ++ [m]) ⟨?_, it9, ?_, ?_, ?_, clo_mono ck9 s5.clo, nq9 ok.nq s5.hq, nq9 ok.ns s5.hs, rows ++ [rowOf d.I m], ?_, ?_, ?_⟩ (by simp) ?_ ?_
          · obtain ⟨dx, z⟩ := s5.at_
            exact ⟨dx, ck9 _ _ z (fun _ y => by cases y) fun _ y => by cases y⟩
          · rw [upd_same]
            show _ = some (HO.dK (List.map _ (am ++ [m])))
            rw [List.map_append]
            rfl
          · exact List.nodup_append.mpr ⟨sa.nd, by simp, fun x hx y hy e => nm (by rw [← List.mem_singleton.mp hy, ← e]; exact hx)⟩
          · intro x hx
            rcases List.mem_append.mp hx with y | y
            · exact sa.lt x y
            · rw [List.mem_singleton.mp y]; exact hm
          · obtain ⟨ps, h1, h2, h3⟩ := rl6
            exact ⟨ps, h1, nn9 h2 (Ne.symm dn), fun q hq => nn9 (h3 q hq) fun y => by have := h3 q hq; rw [y, f6 _ _ dn s5.ha] at this; cases this⟩
          · rw [List.length_append, List.length_append, List.length_singleton, List.length_singleton]
            omega
          · intro r hr
            rcases List.mem_append.mp hr with y | y
            · exact hr3 r y
            · rw [List.mem_singleton.mp y]; exact hG m
          · exact fun c o n1 n2 hc => nn9 (f6 _ _ n1 (e05 _ _ hc)) n2
          · exact (((nn_ex e05).trans n6).trans (nn_ex e9)).trans nn_upd
        rcases av with rfl | ⟨p, xs, rfl, hp, hb⟩
        · exact .inl ⟨_, rfl, goalB _ last⟩
        · exact .inr ⟨p, xs, rfl, ex_l e6 hp, by rw [hb]; exact goalB _ last⟩
    · have y : m ∈ am := of_decide_eq_true (by simpa using z)
      exact fin (sa.mono e1) y (FrS.ex e1) (nn_ex e1)
end
end L2.M2
set_option maxRecDepth 100000
set_option maxHeartbeats 8000000
namespace L2.C
open PySem PySem.Spec PyProof.Rows
/-! ### least within -/
def lessF (f : Nat → Bool) : Nat → Nat → Nat
  | 0, m => m
  | n + 1, m => if decide (less (lessF f n m) (2 ^ n) ≠ lessF f n m) && f (less (lessF f n m) (2 ^ n)) then less (lessF f n m) (2 ^ n) else lessF f n m
theorem less_sub (a b : Nat) : Sub (less a b) a := fun i h => by
  rw [bit_less] at h
  cases z : a.testBit i with
  | true => rfl
  | false => rw [z] at h; cases h
theorem less_mono {a b c : Nat} (h : Sub a b) : Sub (less a c) (less b c) := fun i z => by
  rw [bit_less] at z ⊢
  cases y : a.testBit i with
  | false => rw [y] at z; cases z
  | true =>
    rw [y, Bool.true_and] at z
    rw [h i y, z]
    rfl
theorem less_le (a b : Nat) : less a b ≤ a := (less_sub a b).le
theorem less_bit_eq {a i : Nat} : less a (2 ^ i) = a ↔ a.testBit i = false := by
  constructor
  · intro h
    have z := bit_less a (2 ^ i) i
    rw [h, Nat.testBit_two_pow_self, Bool.not_true, Bool.and_false] at z
    exact z
  · intro h
    refine Nat.eq_of_testBit_eq fun j => ?_
    rw [bit_less, Nat.testBit_two_pow]
    by_cases e : i = j
    · subst e
      rw [h]
      rfl
    · rw [decide_eq_false e, Bool.not_false, Bool.and_true]
theorem lessF_sub (f : Nat → Bool) : ∀ n m, Sub (lessF f n m) m
  | 0, m => Sub.refl m
  | n + 1, m => by
    unfold lessF
    split
    · exact (less_sub _ _).trans (lessF_sub f n m)
    · exact lessF_sub f n m
theorem lessF_f {f : Nat → Bool} {m : Nat} (h : f m = true) : ∀ n, f (lessF f n m) = true
  | 0 => h
  | n + 1 => by
    unfold lessF
    split
    · rename_i z
      exact (Bool.and_eq_true_iff.mp z).2
    · exact lessF_f h n
theorem lessF_min {f : Nat → Bool} (up : Up f) {m : Nat} (h : f m = true) : ∀ n, ∀ i, i < n → (lessF f n m).testBit i = true → f (less (lessF f n m) (2 ^ i)) = false
  | 0, i, hi, _ => absurd hi (Nat.not_lt_zero _)
  | n + 1, i, hi, hb => by
    have key : ∀ {c}, Sub c (lessF f n m) → i < n → c.testBit i = true → f (less c (2 ^ i)) = false := fun {c} hc hl hb => by
      have ih := lessF_min up h n i hl (hc i hb)
      cases z : f (less c (2 ^ i)) with
      | false => rfl
      | true => rw [up _ _ (less_mono hc) z] at ih; exact ih
    by_cases z : (decide (less (lessF f n m) (2 ^ n) ≠ lessF f n m) && f (less (lessF f n m) (2 ^ n))) = true
    · have e : lessF f (n + 1) m = less (lessF f n m) (2 ^ n) := by
        show (if _ then _ else _) = _
        rw [if_pos z]
      rw [e] at hb ⊢
      by_cases hl : i < n
      · exact key (less_sub _ _) hl hb
      · have ei : i = n := by omega
        subst ei
        rw [bit_less, Nat.testBit_two_pow_self] at hb
        simp at hb
    · have e : lessF f (n + 1) m = lessF f n m := by
        show (if _ then _ else _) = _
        rw [if_neg z]
      rw [e] at hb ⊢
      by_cases hl : i < n
      · exact key (Sub.refl _) hl hb
      · have ei : i = n := by omega
        subst ei
        cases y : f (less (lessF f i m) (2 ^ i)) with
        | false => rfl
        | true =>
          refine absurd ?_ z
          rw [y, Bool.and_true]
          refine decide_eq_true fun q => ?_
          rw [less_bit_eq] at q
          rw [q] at hb
          cases hb
theorem bit_lt {m n i : Nat} (h : m < 2 ^ n) (hb : m.testBit i = true) : i < n := by
  refine Nat.lt_of_not_le fun z => ?_
  rw [Nat.testBit_lt_two_pow (Nat.lt_of_lt_of_le h (Nat.pow_le_pow_right (by decide) z))] at hb
  cases hb
theorem lessF_minF {f : Nat → Bool} (up : Up f) {m n : Nat} (hm : m < 2 ^ n) (h : f m = true) : MinF f (lessF f n m) := by
  refine ⟨lessF_f h n, fun c hc ht => ?_⟩
  by_cases z : ∃ i, (lessF f n m).testBit i = true ∧ c.testBit i = false
  · obtain ⟨i, h1, h2⟩ := z
    have il := bit_lt hm (lessF_sub f n m i h1)
    have e := lessF_min up h n i il h1
    have s : Sub c (less (lessF f n m) (2 ^ i)) := fun j hj => by
      rw [bit_less, hc j hj, Nat.testBit_two_pow]
      by_cases q : i = j
      · subst q
        rw [h2] at hj
        cases hj
      · rw [decide_eq_false q]
        rfl
    rw [up _ _ s ht] at e
    cases e
  · refine Sub.anti hc fun i hi => ?_
    cases y : c.testBit i with
    | true => rfl
    | false => exact absurd ⟨i, hi, y⟩ z
end L2.C
namespace L2.M2
open PySem PySem.Spec PyProof.Rows L2 Mx L2.Mb Evl Mv L2.C Sr Srt SrtO LamX NdefX
def spLs (K : W.Frag) (C : Addr) : Sp := fun vs H Q _ => ∃ (a : Addr) (d : SD) (G : List Str → Prop) (B : Nat) (am : List Nat) (m : Nat), vs = [.ref a, natV m] ∧ SOk d ∧ SAt K C H a d G B am ∧ B ≤ 20000 ∧ m < 2 ^ 8 ∧ (∀ m, G (rowOf d.I m)) ∧
  ∀ am' H', SAt K C H' a d G B am' → FrS d H H' → Nn H H' → Q (natV (lessF d.f d.I.length m)) H'
def outF (f : Nat → Bool) (n : Nat) (B : List Nat) : Option Nat := (B.find? fun b => f (less (2 ^ n - 1) b)).map fun b => lessF f n (less (2 ^ n - 1) b)
def optN : Option Nat → V
  | none => .non
  | some m => natV m
def spLo (K : W.Frag) (C : Addr) : Sp := fun vs H Q _ => ∃ (a p : Addr) (d : SD) (G : List Str → Prop) (B : Nat) (am Bs : List Nat), vs = [.ref a, .ref p] ∧ SOk d ∧ SAt K C H a d G B am ∧ B ≤ 20000 ∧ (∀ m, G (rowOf d.I m)) ∧ H p = some (.lst (Bs.map natV)) ∧ Bs.length ≤ 2048 ∧ p ≠ d.nl ∧
  ∀ am' H', SAt K C H' a d G B am' → FrS d H H' → Nn H H' → Q (optN (outF d.f d.I.length Bs)) H'
section
variable {P : Program} {w : World} {K : W.Frag} {mg : Str → Option Value} {base : Heap} {f fM f2 C : Addr} {fd dM d2 : FuncData} {σ : L2.St} {H : Hp}
theorem rd_held {a : Addr} {d : SD} {G : List Str → Prop} {Bd : Nat} {am : List Nat} {m : Nat} {E : XK} {te tm : TE} {Q : VK} (he : Ev te σ H (.ref a)) (hm : Ev tm σ H (natV m)) (ok : SOk d) (sa : SAt K C H a d G Bd am) (hB : Bd ≤ 20000) (hl : m < 2 ^ 8) (hG : ∀ m, G (rowOf d.I m))
    (k : ∀ am' H', SAt K C H' a d G Bd am' → FrS d H H' → Nn H H' → Q (.bl (d.f m)) H') : tMeth C "_is_held" (spIh K C) [] E te (tCons tm tNil) σ H Q := he H (Ex.refl H) _ fun H2 e2 => by
  obtain ⟨dx, hd⟩ := sa.at_
  refine ⟨a, dx, d.fs, rfl, e2 _ _ hd, rfl, (ea_cons hm ea_nil) H2 e2 _ fun H3 e3 => ?_⟩
  have e03 := e2.trans e3
  rw [List.append_nil]
  exact ⟨a, d, G, Bd, am, m, rfl, ok, sa.mono e03, hB, hl, hG, fun am' H' s f n => k am' H' s ((FrS.ex e03).trans f) ((nn_ex e03).trans n)⟩
theorem ok_lessened (B : Bt mg) (T : CF K mg C) (M : Mt P w K mg base C "_is_held" 6 p_Search_is_held (spIh K C) fM dM) {q : Str} (F : FnC K "_lessened" q s_Search_lessened [] f fd) : FnOk P w K mg base CX0 7 f fd p_Search_lessened (spLs K C) := by
  refine F.ok sc_Search_lessened (fun vs H Q E h => ?_) (fun cdv A outer s H vs Q E hr h => ?_)
  · obtain ⟨a, d, G, B, am, m, rfl, _⟩ := h
    rfl
  · obtain ⟨a, d, G, Bd, am, m, rfl, ok, sa, hB, hm, hG, k⟩ := h
    have nd := sc_Search_lessened.nd
    refine ⟨_, PSs.nox (pss_cons (ps_for PassesOwn.never rfl (pi_range1 (by rfl) B.range (pa_cons (pe_callB call_len_seq (by rfl) B.len (by decide +kernel) (pa_cons (pe_fld (pv 0) rfl) pa_nil)) pa_nil)) (pg_name (i := 2) nd rfl (Or.inl rfl))
        (pss_cons (ps_set (i := 3) nd rfl (Or.inl rfl) (pe_op op_and (pv 1) (pe_un un_inv (pe_op op_shl1 pe_int (pv 2)))))
        (pss_one (ps_if (pw_and (pt_cmpR op_ne (pv 3) (pv 1) (nomark _)) (pw_and1 (pt_val (pe_meth (pv 0) T.cl M.me M.ok hr M.b .nil pass0 (pa_cons (pv 3) pa_nil))))).pt (pss_one (ps_set (i := 1) nd rfl (Or.inl rfl) (pv 3))) pss_nil))))
      (pss_one (ps_ret (pv 1)))), ?_⟩
    have hl := ok.i
    refine q_forR1 (n := (d.I.length : Int)) (ea_cons (ev_is (ev_len (ev_f (x := "_items") (v := .ref d.it) T.cl T.nI (ev_var rfl) sa.at_ rfl) (sq_of sa.hi)) (by rw [List.length_map])) ea_nil) (by omega)
      (fun i σ' H' => ∃ x2 x3 am', σ' = [some (.ref a), some (natV (lessF d.f i m)), x2, x3] ∧ SAt K C H' a d G Bd am' ∧ FrS d H H' ∧ Nn H H') (fun H1 e1 => ⟨none, none, am, rfl, sa.mono e1, FrS.ex e1, nn_ex e1⟩) (fun i σ' H' hi p => ?_) (fun σ' H' p => ?_)
    · obtain ⟨x2, x3, am', rfl, s1, f1, n1⟩ := p
      have lt := Nat.lt_of_le_of_lt (lessF_sub d.f i m).le hm
      refine q_asg (v := natV (less (lessF d.f i m) (2 ^ i))) (ev_anNo (ev_var rfl) (ev_shl1 (ev_var rfl) (by omega))) fun H1 e1 => ?_
      have s2 := s1.mono e1
      have lt2 := Nat.lt_of_le_of_lt (less_le (lessF d.f i m) (2 ^ i)) lt
      have c1 : EvT (tTest (tOp rNe (tVar 3) (tVar 1))) [some (.ref a), some (natV (lessF d.f i m)), some (.int (i : Nat)), some (natV (less (lessF d.f i m) (2 ^ i)))] H1 (decide (less (lessF d.f i m) (2 ^ i) ≠ lessF d.f i m)) :=
        et_test (ev_is (ev_op (ev_var rfl) (ev_var rfl) (rv_ne rfl)) (by
          congr 1
          rw [← decide_not]
          refine decide_eq_decide.mpr (not_congr ⟨fun z => ?_, fun z => by rw [z]⟩)
          have : ((less (lessF d.f i m) (2 ^ i) : Nat) : Int) = (lessF d.f i m : Nat) := V.int.inj z
          omega))
      refine c1 H1 (Ex.refl _) _ fun H2 e2 => ?_
      have e12 := e1.trans e2
      have eU : lessF d.f (i + 1) m = if decide (less (lessF d.f i m) (2 ^ i) ≠ lessF d.f i m) && d.f (less (lessF d.f i m) (2 ^ i)) then less (lessF d.f i m) (2 ^ i) else lessF d.f i m := rfl
      cases hc : decide (less (lessF d.f i m) (2 ^ i) ≠ lessF d.f i m) with
      | false =>
        rw [hc, Bool.false_and, if_neg (by decide)] at eU
        refine ⟨some (.int (i : Nat)), some (natV (less (lessF d.f i m) (2 ^ i))), am', ?_, s2.mono e2, f1.trans (FrS.ex e12), n1.trans (nn_ex e12)⟩
        rw [eU]
        rfl
      | true =>
        rw [hc, Bool.true_and] at eU
        refine rd_held (ev_var rfl) (ev_var rfl) ok (s2.mono e2) hB lt2 hG fun am2 H3 s3 f3 n3 => ⟨_, rfl, ?_⟩
        have f13 := (f1.trans (FrS.ex e12)).trans f3
        have n13 := (n1.trans (nn_ex e12)).trans n3
        cases hf : d.f (less (lessF d.f i m) (2 ^ i)) with
        | false =>
          rw [hf, if_neg (by decide)] at eU
          refine ⟨some (.int (i : Nat)), some (natV (less (lessF d.f i m) (2 ^ i))), am2, ?_, s3, f13, n13⟩
          rw [eU]
          rfl
        | true =>
          rw [hf, if_pos rfl] at eU
          refine s_asg (v := natV (less (lessF d.f i m) (2 ^ i))) (ev_var rfl) fun H4 e4 => ⟨some (.int (i : Nat)), some (natV (less (lessF d.f i m) (2 ^ i))), am2, ?_, s3.mono e4, f13.trans (FrS.ex e4), n13.trans (nn_ex e4)⟩
          rw [eU]
          rfl
    · obtain ⟨x2, x3, am', rfl, s1, f1, n1⟩ := p
      exact s_ret (ev_var rfl) fun H1 e1 => k am' H1 (s1.mono e1) (f1.trans (FrS.ex e1)) (n1.trans (nn_ex e1))
theorem rd_less {a : Addr} {d : SD} {G : List Str → Prop} {Bd : Nat} {am : List Nat} {m : Nat} {E : XK} {te tm : TE} {Q : VK} (he : Ev te σ H (.ref a)) (hm : Ev tm σ H (natV m)) (ok : SOk d) (sa : SAt K C H a d G Bd am) (hB : Bd ≤ 20000) (hl : m < 2 ^ 8) (hG : ∀ m, G (rowOf d.I m))
    (k : ∀ am' H', SAt K C H' a d G Bd am' → FrS d H H' → Nn H H' → Q (natV (lessF d.f d.I.length m)) H') : tMeth C "_lessened" (spLs K C) [] E te (tCons tm tNil) σ H Q := he H (Ex.refl H) _ fun H2 e2 => by
  obtain ⟨dx, hd⟩ := sa.at_
  refine ⟨a, dx, d.fs, rfl, e2 _ _ hd, rfl, (ea_cons hm ea_nil) H2 e2 _ fun H3 e3 => ?_⟩
  have e03 := e2.trans e3
  rw [List.append_nil]
  exact ⟨a, d, G, Bd, am, m, rfl, ok, sa.mono e03, hB, hl, hG, fun am' H' s f n => k am' H' s ((FrS.ex e03).trans f) ((nn_ex e03).trans n)⟩
theorem find_take {α : Type} {p : α → Bool} {l : List α} {i : Nat} {x : α} (h : l[i]? = some x) (no : ∀ y ∈ l.take i, p y = false) (yes : p x = true) : l.find? p = some x := by
  obtain ⟨hi, rfl⟩ := List.getElem?_eq_some_iff.mp h
  have e : l.find? p = (l.take i ++ l.drop i).find? p := by rw [List.take_append_drop]
  rw [e, List.find?_append, List.find?_eq_none.mpr (fun y hy => by rw [no y hy]; simp), List.drop_eq_getElem_cons hi, List.find?_cons, yes]
  rfl
theorem ok_least_outside (B : Bt mg) (T : CF K mg C) (M : Mt P w K mg base C "_is_held" 6 p_Search_is_held (spIh K C) fM dM) (M2 : Mt P w K mg base C "_lessened" 7 p_Search_lessened (spLs K C) f2 d2) {q : Str} (F : FnC K "least_outside" q s_Search_least_outside [] f fd) : FnOk P w K mg base CX0 8 f fd p_Search_least_outside (spLo K C) := by
  refine F.ok sc_Search_least_outside (fun vs H Q E h => ?_) (fun cdv A outer s H vs Q E hr h => ?_)
  · obtain ⟨a, p, d, G, B, am, Bs, rfl, _⟩ := h
    rfl
  · obtain ⟨a, p, d, G, Bd, am, Bs, rfl, ok, sa, hB, hG, hp, hz, np, k⟩ := h
    have nd := sc_Search_least_outside.nd
    refine ⟨_, PSs.nox (pss_cons (ps_set (i := 2) nd rfl (Or.inl rfl) (pe_op op_sub (pe_op op_shl1 pe_int (pe_callB call_len_seq (by rfl) B.len (by decide +kernel) (pa_cons (pe_fld (pv 0) rfl) pa_nil))) pe_int))
      (pss_cons (ps_for PassesOwn.never rfl (pi_list (pv 1)) (pg_name (i := 3) nd rfl (Or.inl rfl))
        (pss_one (ps_if (pt_val (pe_meth (pv 0) T.cl M.me M.ok (hr.mono (by decide)) M.b .nil pass0 (pa_cons (pe_op op_and (pv 2) (pe_un un_inv (pv 3))) pa_nil)))
          (pss_one (ps_ret (pe_meth (pv 0) T.cl M2.me M2.ok hr M2.b .nil pass0 (pa_cons (pe_op op_and (pv 2) (pe_un un_inv (pv 3))) pa_nil)))) pss_nil)))
      (pss_one (ps_ret pe_non)))), ?_⟩
    have hl := ok.i
    have h28 : 2 ^ d.I.length ≤ 256 := Nat.pow_le_pow_right (n := 2) (by decide) hl
    have h21 : 1 ≤ 2 ^ d.I.length := Nat.one_le_two_pow
    refine q_asg (v := natV (2 ^ d.I.length - 1)) (ev_is (ev_op (ev_shl1 (i := d.I.length) (ev_is (ev_len (ev_f (x := "_items") (v := .ref d.it) T.cl T.nI (ev_var rfl) sa.at_ rfl) (sq_of sa.hi)) (by rw [List.length_map])) (by omega)) ev_c rv_I0) (by
      congr 1
      omega)) fun H1 e1 => ?_
    have s1 := sa.mono e1
    refine q_forL (a := p) (xs := Bs.map natV) (ev_var rfl) (sq_of (e1 _ _ hp)) (fun i σ' H' => ∃ x3 am', σ' = [some (.ref a), some (.ref p), some (natV (2 ^ d.I.length - 1)), x3] ∧ SAt K C H' a d G Bd am' ∧ FrS d H H' ∧ Nn H H' ∧ ∀ b ∈ Bs.take i, d.f (less (2 ^ d.I.length - 1) b) = false)
      (fun H2 e2 => ⟨none, am, rfl, s1.mono e2, FrS.ex (e1.trans e2), nn_ex (e1.trans e2), fun _ z => by cases z⟩) (fun i σ' H' _ z => ?_) (fun i x σ' H' hx z => ?_) (fun σ' H' z => ?_)
    · obtain ⟨x3, am', _, s2, f2, n2, _⟩ := z
      exact sq_of (f2 _ _ np (fun y => by have := sa.ha; rw [← y, hp] at this; cases this) hp)
    · obtain ⟨x3, am', rfl, s2, f2, n2, no⟩ := z
      rw [List.getElem?_map] at hx
      cases em : Bs[i]? with
      | none => rw [em] at hx; cases hx
      | some b =>
        rw [em] at hx
        cases hx
        have lt : less (2 ^ d.I.length - 1) b < 2 ^ 8 := Nat.lt_of_le_of_lt (less_le _ _) (by omega)
        have wa : ∀ {H9 : Hp}, Ev (tAn (tVar 2) (tNo (tVar 3))) [some (.ref a), some (.ref p), some (natV (2 ^ d.I.length - 1)), some (natV b)] H9 (natV (less (2 ^ d.I.length - 1) b)) := fun {H9} => ev_anNo (ev_var rfl) (ev_var rfl)
        refine rd_held (ev_var rfl) wa ok s2 hB lt hG fun am2 H3 s3 f3 n3 => ⟨_, rfl, ?_⟩
        cases hf : d.f (less (2 ^ d.I.length - 1) b) with
        | true =>
          refine rd_less (ev_var rfl) wa ok s3 hB lt hG fun am4 H4 s4 f4 n4 => ?_
          have fo := k am4 H4 s4 ((f2.trans f3).trans f4) ((n2.trans n3).trans n4)
          unfold outF at fo
          rw [find_take em no hf] at fo
          exact fo
        | false =>
          refine ⟨some (natV b), am2, rfl, s3, f2.trans f3, n2.trans n3, fun y hy => ?_⟩
          rw [List.take_add_one, em] at hy
          rcases List.mem_append.mp hy with z | z
          · exact no y z
          · rw [List.mem_singleton.mp z]; exact hf
    · obtain ⟨x3, am', rfl, s2, f2, n2, no⟩ := z
      rw [List.length_map, List.take_of_length_le (Nat.le_refl _)] at no
      refine s_ret (v := .non) ev_c fun H3 e3 => ?_
      have fo := k am' H3 (s2.mono e3) (f2.trans (FrS.ex e3)) (n2.trans (nn_ex e3))
      unfold outF at fo
      rw [List.find?_eq_none.mpr fun y hy => by rw [no y hy]; simp] at fo
      exact fo
end
end L2.M2
set_option maxRecDepth 100000
set_option maxHeartbeats 4000000
namespace L2.Mb
open PySem PySem.Spec PyProof.Rows Mx
/-! ### own errors over any base, raised -/
section
variable {X : Cx} {e : Expr} {es : List Expr} {ta : TA} {p pos : Pos}
theorem pmk_X {CX : CXT} {x : Str} {C fI : Addr} {b : EB} {k : Nat} {fd : FuncData} {ps : List Str} {sp : Sp} {ds : List Value} {dvs : List V} (T : EC X.K C fI b) (ty : W.typeIn X.K (.ref C) = some (.type "type"))
    (F1 : FnOk X.prog X.w X.K X.mg X.base CX k fI fd ps sp) (hr : Room (k + 1) X.A) (hb : Binds X.K fd ps ds) (hd : Vals dvs ds) (hx : Passes CX X (fun _ _ _ => False)) (hg : Gl X x) (hm : X.mg x = some (.ref C)) (ha : PA X (e :: es) ta)
    (hdb : (x == ("__debug__" : Str)) = false := by decide) (he : starEach (e :: es) X.env = (false, eval e X.env) :: starEach es X.env := by rfl) (hpl : (backTo pos (starEach es X.env)).any (·.1) = false := by rfl) :
    PMk X (.Call (.Name x p) (e :: es) [] pos) (tMkO C sp dvs ta) := by
  intro pins s σ H Q I h
  obtain ⟨nm, q, N, bs, bm, sn, sub, ab, col, dd, k0, k1, k2, k3, k5, hC, hbm⟩ := T.cls
  refine wpAny_Call_Name_kw (ld_glob I hg hm ?_ hdb)
  refine PySem.W.callWith_K (h₀ := X.base) I.ok.mod.kin T.kp (thn (ha.run pos pins s σ H _ I h) fun us s1 ⟨vs, H1, I1, r1, hz, q1⟩ => ⟨I1.kIn, ?_⟩) he hpl
  show wpAny _ _ (call (.ref C) us) _ _ _
  obtain ⟨hp, g, dr, tk, os⟩ := s1
  have hsz : hp.objs.size ≤ hp.objs.size + 1 := Nat.le_succ _
  have hn : H1 (hp.objs.size + 1) = none := I1.hok.fresh hsz
  have hq := q1 (hp.objs.size + 1) hn
  have kk : ∀ c o, hp.get? c = some o → ((hp.push (tupO us)).push (rawX C hp.objs.size)).get? c = some o := fun c o e => Heap.get?_push_of_some _ (Heap.get?_push_of_some _ e)
  have hget : ((hp.push (tupO us)).push (rawX C hp.objs.size)).get? (hp.objs.size + 1) = some (rawX C hp.objs.size) := by heap_get
  have I2 : Inv X pins σ (upd H1 (hp.objs.size + 1) (exo (hp.objs.size + 1) C none)) ⟨(hp.push (tupO us)).push (rawX C hp.objs.size), g, dr, tk, os⟩ :=
    I1.laid (t' := tk) (a := hp.objs.size + 1) (o := exo (hp.objs.size + 1) C none) (h' := (hp.push (tupO us)).push (rawX C hp.objs.size)) kk hsz (exo_ok hget)
  have r2 : Vals (V.ref (hp.objs.size + 1) :: (vs ++ dvs)) (Value.ref (hp.objs.size + 1) :: (us ++ ds)) := .cons rfl (r1.append hd)
  have hl : (Value.ref (hp.objs.size + 1) :: us ++ ds).length = ps.length := by
    have e := r2.length
    rw [F1.len _ _ _ _ hq] at e
    exact e.symm
  have hus : us.length ≤ sizeLine := by
    rw [← Paired.length r1, sizeLine_eq]
    omega
  refine wpAny_call (run_class hbm hus (I1.kIn _ _ hC) (W.looks_findIn I1.kIn T.ini) (fun self => W.bind_fn I1.kIn self T.tfn) (W.looks_instIn I1.kIn T.ins)
    (codeAny_mono (F1.run _ X.stack _ _ ⟨Value.ref (hp.objs.size + 1) :: us, []⟩ (Value.ref (hp.objs.size + 1) :: (us ++ ds)) _ _ (fun _ _ _ => False) (hr.make C us []) (I2.env0.make C us []) (hb _ (Value.ref (hp.objs.size + 1) :: us) I2.kIn hl) r2 hq) fun r s' hq' => ?_))
  cases r with
  | error er => exact hx pins σ _ _ er s' I2 hq'
  | ok fl =>
    cases fl with
    | ret u =>
      obtain ⟨v, H2, os2, bare2, un2, hok2, rv, ev, d, fs, ea, ed, hd1, q2⟩ := hq'
      subst ev
      obtain ⟨h2, g2, d2, t2, os'⟩ := s'
      exact ⟨rv, mk_end (raises_own T.base ty) I1 hsz kk un2 hok2 os2 bare2 ea ed hd1 q2⟩
    | next => exact False.elim hq'
    | brk => exact False.elim hq'
    | cont => exact False.elim hq'
end
end L2.Mb
set_option maxRecDepth 100000
set_option maxHeartbeats 4000000
namespace L2.Mb
open PySem PySem.Spec PyProof.Rows Mx PySem.W
/-! ### except (A, B, .., Z), any number of them -/
section
variable {M : Model} {K : Frag}
theorem exmAny_all {cls : Value} : ∀ {cs : List Value} {b : Bool}, exmAny K cls cs = some b → ∀ c ∈ cs, ∃ d, exmOne K cls c = some d
  | c :: r, b, h, x, hx => by
    obtain ⟨b1, d1, e1, e2, _⟩ := exmAny_cons h
    rcases List.mem_cons.mp hx with rfl | z
    · exact ⟨b1, e1⟩
    · exact exmAny_all e2 x z
theorem exm_tupN {cs : List Value} {cls : Value} {tp e : Addr} {b : Bool} {h : Heap} (X : K.In h) (LT : Looks M h (typeOf (.ref e)) cls) (hp : h.get? tp = some { cls := .type "tuple", data := .seq cs.toArray }) (hx : exmAny K cls cs = some b) :
    Looks M h (excMatches (.ref e) (.ref tp)) b := by
  intro A Q E s k₀ q
  obtain ⟨hh, g, d, tk, os⟩ := s
  have k : ∀ b o, h.get? b = some o → hh.get? b = some o := k₀
  have LT0 : Looks M h (isInstance (.ref tp) (.type "tuple")) true := ((Looks.ld hp).andThen .now).andThen (Looks.of_pure isSubtype_tuple_tuple)
  have LT := LT.keeps k
  have LT0 := LT0.keeps k
  have hp' := k _ _ hp
  unfold excMatches
  refine wpAny_bind (LT0.at ?_)
  dsimp only
  rw [if_pos rfl]
  first
    | refine wpAny_bind (wpAny_seqItems hp' rfl ?_)
    | refine wpAny_bind (wpAny_bind (wpAny_seqItems hp' rfl (wpAny_pure ?_)))
  dsimp only [Option.getD_some, Option.getD]
  refine wpAny_bind (wpAny_pure ?_)
  refine wpAny_bind (wpAny_forIn_list _ (fun rest _ s' => s' = ⟨hh, g, d, tk, os⟩ ∧ ∀ c ∈ rest, ∃ d, exmOne K cls c = some d) _ (fun c rest _ s' hs => ?_) (fun _ s' hs => ?_) cs PUnit.unit ⟨rfl, exmAny_all hx⟩)
  · obtain ⟨rfl, hc⟩ := hs
    obtain ⟨d1, h1⟩ := hc c List.mem_cons_self
    obtain ⟨e1, S1⟩ := exm_cls (M := M) X h1
    have e1 := e1.keeps k
    refine wpAny_bind (e1.at ?_)
    simp only [Bool.not_true, Bool.false_eq_true, if_false]
    exact wpAny_pure ⟨rfl, fun c' h' => hc c' (List.mem_cons_of_mem _ h')⟩
  · obtain ⟨rfl, _⟩ := hs
    refine wpAny_bind (LT.at ?_)
    refine wpAny_bind (wpAny_mono (wpAny_forIn_list (Q := fun (r : Option Bool × Unit) s' => s' = ⟨hh, g, d, tk, os⟩ ∧ ((r.1 = some true ∧ b = true) ∨ (r.1 = none ∧ b = false))) _ (fun rest (r : Option Bool × Unit) s' => s' = ⟨hh, g, d, tk, os⟩ ∧ r.1 = none ∧ exmAny K cls rest = some b) (fun c rest r s' hs => ?_) (fun r s' hs => ?_) cs (none, ()) ⟨rfl, rfl, hx⟩) (fun r s' hs => ?_) fun _ _ z => z)
    · obtain ⟨rfl, hr, hb⟩ := hs
      obtain ⟨b1, d1, h1, h2, h3⟩ := exmAny_cons hb
      obtain ⟨e1, S1⟩ := exm_cls (M := M) X h1
      have S1 := S1.keeps k
      refine wpAny_bind (S1.at ?_)
      cases b1 with
      | true =>
        rw [if_pos rfl]
        exact wpAny_pure ⟨rfl, .inl ⟨rfl, by rw [h3]; rfl⟩⟩
      | false =>
        rw [if_neg (by simp)]
        refine wpAny_pure ⟨rfl, rfl, ?_⟩
        rw [h3, Bool.false_or]
        exact h2
    · obtain ⟨rfl, hr, hb⟩ := hs
      exact ⟨rfl, .inr ⟨hr, (Option.some.inj hb).symm⟩⟩
    · obtain ⟨rfl, hr | hr⟩ := hs
      · obtain ⟨r1, r2⟩ := r
        obtain ⟨h1, h2⟩ := hr
        simp only at h1
        subst h1
        rw [h2] at q
        exact wpAny_pure q
      · obtain ⟨r1, r2⟩ := r
        obtain ⟨h1, h2⟩ := hr
        simp only at h1
        subst h1
        rw [h2] at q
        exact wpAny_pure q
end
end L2.Mb
set_option maxRecDepth 100000
set_option maxHeartbeats 4000000
namespace L2.Mb
open PySem PySem.Spec PyProof.Rows Mx
section
variable {X : Cx} {x1 x2 x3 x4 x5 x6 x7 n : Str} {c1 c2 c3 c4 c5 c6 c7 : Value} {i j : Nat} {body suite : List Stmt} {b₀ : Stmt} {p1 p2 p3 p4 p5 p6 p7 pt pos pos' : Pos} {tb : WX → TS} {ts : Addr → Value → Option Addr → TS}
theorem ps_try_hold7 (hs : X.stack = X.env :: X.outer) (hf : X.env.frame = some X.env.locals) (hx : X.ex = []) (hN : X.N.Nodup) (hi : X.N[i]? = some n) (hln : X.env.kindOf n = some .local) (g1 : Gl X x1) (m1 : X.mg x1 = some c1) (g2 : Gl X x2) (m2 : X.mg x2 = some c2) (g3 : Gl X x3) (m3 : X.mg x3 = some c3) (g4 : Gl X x4) (m4 : X.mg x4 = some c4) (g5 : Gl X x5) (m5 : X.mg x5 = some c5) (g6 : Gl X x6) (m6 : X.mg x6 = some c6) (g7 : Gl X x7) (m7 : X.mg x7 = some c7)
    (d1 : (x1 == ("__debug__" : Str)) = false) (d2 : (x2 == ("__debug__" : Str)) = false) (d3 : (x3 == ("__debug__" : Str)) = false) (d4 : (x4 == ("__debug__" : Str)) = false) (d5 : (x5 == ("__debug__" : Str)) = false) (d6 : (x6 == ("__debug__" : Str)) = false) (d7 : (x7 == ("__debug__" : Str)) = false)
    (hb : ∀ (W : WX) (pn : List (Addr × Obj)) (xe : Value → Shared → Prop), Takes (X.tr pn xe) W → PassesOwn (model X.prog X.w) X.A X.env xe → PSs (X.tr pn xe) body (tb W))
    (hsu : ∀ (a : Addr) (oe : Obj) (cls : Value) (d : Option Addr) (pn : List (Addr × Obj)), Zc cls d oe → (∃ vs, oe.data = .fields vs) → PSs (X.suite a ((a, oe) :: pn)) (b₀ :: suite) (ts a cls d)) :
    PS X (.Try body [.ExceptHandler (some (.Tuple [.Name x1 p1, .Name x2 p2, .Name x3 p3, .Name x4 p4, .Name x5 p5, .Name x6 p6, .Name x7 p7] j pt)) (some n) (b₀ :: suite) pos'] [] [] pos) (fun D σ H => tb (wHold X.K X.N.length [c1, c2, c3, c4, c5, c6, c7] i ts D) D σ H) := by
  refine ⟨fun pins s σ H D I h => ?_⟩
  have ok := I.ok
  have fr : X.A.frames = some (X.env :: X.outer) := by
    rw [ok.frames, hs]
  have hloc : Loc X.env.scope n := .inl hln
  refine wpAny_Try_except ?_
  refine wpAny_mono ((hb (wHold X.K X.N.length [c1, c2, c3, c4, c5, c6, c7] i ts D) (X.pn ++ pins) (fun e sa => wpAny (model X.prog X.w) X.A (noteFrame e X.env) (fun _ sb => wpAny (model X.prog X.w) X.A (setFlight e none) (fun _ sc =>
    wpAny (model X.prog X.w) X.A (handleBy e X.env [.ExceptHandler (some (.Tuple [.Name x1 p1, .Name x2 p2, .Name x3 p3, .Name x4 p4, .Name x5 p5, .Name x6 p6, .Name x7 p7] j pt)) (some n) (b₀ :: suite) pos']) (SP X pins D) X.xe sc) X.xe sb) X.xe sa) (fun u s' xx => ?_) PassesOwn.looking).run [] s σ H D (I.toTry _) h) (fun f s1 hsp => ?_) (fun _ _ z => z)
  · obtain ⟨a, B, sI, pins', σ', H', cls, d, rfl, J', nb, up, sky, na, os, ag, C, dd, rfl, rfl, ha, hyes⟩ := xx
    have J : Inv X pins σ' H' sI := J'.ofTry ok
    have sky2 : Sky B (X.env :: X.outer) a (Zc (.ref C) (some dd)) X.env.locals s'.heap := by
      rw [← hs]
      exact sky
    show wpAny (model X.prog X.w) X.A (noteFrame (.ref a) X.env) _ _ _
    refine Sky.land Zc.steady fr hf sky2 fun hA flA upA => ?_
    have JA : Inv X pins σ' H' { s' with heap := hA } := J.landed nb flA.1 (up.trans upA) os ag
    obtain ⟨oA, vA, eA, zA, dA⟩ := flA.there
    have nfr : a ∉ frs (X.env :: X.outer) := fun hm => by
      obtain ⟨_, o2, e2, nf2⟩ := flA.2.2.1.mem hm
      rw [eA] at e2
      cases e2
      exact nf2 _ dA
    have nL : a ≠ X.env.locals := fun z => nfr (List.mem_filterMap.mpr ⟨X.env, List.mem_cons_self, by rw [hf, z]⟩)
    have nF : a ∉ X.fs := fun hm => by
      obtain ⟨e, he, q⟩ := List.mem_filterMap.mp hm
      exact nfr (List.mem_filterMap.mpr ⟨e, List.mem_cons_of_mem _ he, q⟩)
    have nI : ∀ o, sI.heap.get? a ≠ some o := fun o e => by
      have q := nb a o e (by rw [hs]; exact nfr)
      rw [flA.2.1] at q
      cases q
    have n0 : X.s_0.heap.get? a = none := by
      cases q : X.s_0.heap.get? a with
      | none => rfl
      | some o =>
        obtain ⟨o2, e2⟩ := J.base.there a o q (by rw [hx]; exact List.not_mem_nil)
        exact absurd e2 (nI o2)
    have nc : ∀ x c, X.env.cells.lookup x = some c → c ≠ a := fun x c e z => by
      obtain ⟨_, oc, hoc, _⟩ := J.cell x c e
      rw [z] at hoc
      exact nI _ hoc
    have np : ∀ p ∈ X.pn ++ pins, p.1 ≠ a := fun p hp z => by
      have q := (J.pin p hp).1
      rw [z] at q
      exact nI _ q
    have SA := JA.suite eA dA na nL nF
    refine wpAny_handleBy_cons (codeAny_handlers_test ?_) (by intro q; cases q)
    refine wpAny_Tuple ?_
    refine wpAny_items_cons (ld_glob (X := X.suite a ((a, oA) :: (X.pn ++ pins))) SA g1 m1 ?_ d1)
    refine wpAny_items_cons (ld_glob (X := X.suite a ((a, oA) :: (X.pn ++ pins))) SA g2 m2 ?_ d2)
    refine wpAny_items_cons (ld_glob (X := X.suite a ((a, oA) :: (X.pn ++ pins))) SA g3 m3 ?_ d3)
    refine wpAny_items_cons (ld_glob (X := X.suite a ((a, oA) :: (X.pn ++ pins))) SA g4 m4 ?_ d4)
    refine wpAny_items_cons (ld_glob (X := X.suite a ((a, oA) :: (X.pn ++ pins))) SA g5 m5 ?_ d5)
    refine wpAny_items_cons (ld_glob (X := X.suite a ((a, oA) :: (X.pn ++ pins))) SA g6 m6 ?_ d6)
    refine wpAny_items_cons (ld_glob (X := X.suite a ((a, oA) :: (X.pn ++ pins))) SA g7 m7 ?_ d7)
    refine wpAny_items_nil ⟨by size_fits, ?_⟩
    have kp : ∀ q o, hA.get? q = some o → (hA.push { cls := .type "tuple", data := .seq [c1, c2, c3, c4, c5, c6, c7].toArray }).get? q = some o := fun _ _ z => Heap.get?_push_of_some _ z
    have LT : W.Looks (model X.prog X.w) hA (typeOf (.ref a)) (.ref C) := fun A Q E s k q => wpAny_typeOf_ref (k _ _ eA) (by rw [zA.1]; exact q)
    refine (exm_tupN (M := model X.prog X.w) (JA.kIn.keeps kp) (LT.keeps kp) (Heap.get?_push_size hA rfl) ha).here ?_
    refine codeAny_handlers_suite_as ?_
    have flB := flying_kept flA kp
    have upB : hA.UpToSlots (hA.push { cls := .type "tuple", data := .seq [c1, c2, c3, c4, c5, c6, c7].toArray }) := Heap.UpToSlots.of_keeps kp
    refine HandSPX.lands_againZ flB fun h4 fl4 up4 => ?_
    have J4 : Inv X pins σ' H' { s' with heap := h4 } := J.landed nb fl4.1 (((up.trans upA).trans upB).trans up4) os ag
    obtain ⟨o4, v4, e4, z4, f4⟩ := fl4.there
    have S4 := J4.suite e4 f4 na nL nF
    refine store_ok (X := X.suite a ((a, o4) :: (X.pn ++ pins))) (v := .ref a) S4 hN hi hloc rfl (fun s5 S5 => ?_) (.inr hln)
    refine wpAny_mono ((hsu a o4 (.ref C) (some dd) (X.pn ++ pins) z4 ⟨_, f4⟩).run [] s5 _ H' _ S5 (hyes a J.len na)) (fun f s6 hsp => ?_) (fun _ _ z => False.elim z)
    cases f with
    | next =>
      obtain ⟨σ6, H6, S6, q6⟩ := hsp
      refine gone_ok (unsuiteK S6 ok) hN hi hln fun s7 J7 => ?_
      have e7 := (J7.pin (a, o4) (List.mem_append_right _ List.mem_cons_self)).1
      have u7 := (J7.pin (a, o4) (List.mem_append_right _ List.mem_cons_self)).2.1
      have K7 : Inv X pins (σ6.set i none) H6 s7 := J7.pins_of fun r hr => J7.pin r (List.mem_append_right _ (List.mem_cons_of_mem _ hr))
      exact ⟨_, _, inv_know K7 u7 n0 nL nc np (exh_ok e7 z4.1 z4.2 f4), q6 u7⟩
    | brk =>
      obtain ⟨σ6, H6, S6, q6⟩ := hsp
      exact q6.elim
    | cont =>
      obtain ⟨σ6, H6, S6, q6⟩ := hsp
      exact q6.elim
    | ret u =>
      obtain ⟨v6, σ6, H6, S6, r6, q6⟩ := hsp
      exact q6.elim
  · cases f with
    | next =>
      obtain ⟨σ', H', J', q⟩ := hsp
      exact wpAny_execs_nil ⟨σ', H', J'.ofTry ok, q⟩
    | brk =>
      obtain ⟨σ', H', J', q⟩ := hsp
      exact ⟨σ', H', J'.ofTry ok, q⟩
    | cont =>
      obtain ⟨σ', H', J', q⟩ := hsp
      exact ⟨σ', H', J'.ofTry ok, q⟩
    | ret u =>
      obtain ⟨v, σ', H', J', r, q⟩ := hsp
      exact ⟨v, σ', H', J'.ofTry ok, r, q⟩
end
end L2.Mb
set_option maxRecDepth 100000
set_option maxHeartbeats 8000000
namespace L2.C
open PySem PySem.Spec PyProof.Rows
/-! ### facts of the search for least sets -/
theorem allMin_congr {F F' B : List Nat} (h : ∀ x, x ∈ F ↔ x ∈ F') (a : AllMin F B) : AllMin F' B := fun b => by
  have t : ∀ c, Tr F c ↔ Tr F' c := fun c => ⟨fun z m hm => z m ((h m).mpr hm), fun z m hm => z m ((h m).mp hm)⟩
  rw [a b]
  exact ⟨fun z => ⟨(t b).mp z.1, fun c hc hm => z.2 c hc ((t c).mpr hm)⟩, fun z => ⟨(t b).mpr z.1, fun c hc hm => z.2 c hc ((t c).mp hm)⟩⟩
theorem less_full (n b : Nat) : (2 ^ n - 1) &&& ((2 ^ n - 1) ^^^ b) = less (2 ^ n - 1) b := Nat.eq_of_testBit_eq fun i => by
  rw [bit_less, Nat.testBit_and, Nat.testBit_xor]
  cases (2 ^ n - 1).testBit i <;> cases b.testBit i <;> rfl
theorem full_lt (n b : Nat) : less (2 ^ n - 1) b < 2 ^ n := Nat.lt_of_le_of_lt (less_le _ _) (by have := Nat.one_le_two_pow (n := n); omega)
theorem not_meet_less {a b c : Nat} (h : Sub c (less a b)) : ¬ Meet b c := fun ⟨i, h1, h2⟩ => by
  have z := h i h2
  rw [bit_less, h1] at z
  simp at z
theorem meeting_lt {B : List Nat} {m : Nat} (hB : ∀ b ∈ B, b < 2 ^ 8) : ∀ b ∈ meeting 8 B m, b < 2 ^ 8 := fun b hb => by
  rcases mem_meeting.mp hb with h | ⟨h, _⟩
  · exact hB b (mem_kept.mp h).1
  · obtain ⟨d, i, hd, _, hi, _, rfl⟩ := mem_longer.mp h
    exact Nat.or_lt_two_pow (hB d hd) (Nat.pow_lt_pow_right (by decide) hi)
end L2.C
namespace L2.M2
open PySem PySem.Spec PyProof.Rows L2 Mx L2.Mb Evl Mv L2.C Sr Srt SrtO LamX NdefX
def ltN (x y : Str) : Bool := ltKD (.a (.inr x)) (.a (.inr y))
structure Nms (ys xs : List Str) : Prop where
  p : ys.Perm xs
  s : Srtd ltN ys
/-- sorted(texts) -/
theorem sort_strsA {K : W.Frag} {H : Hp} {p : Addr} {xs : List Str} {Q : VK} (h : SqL K H p (rowV xs) ∨ SqT K H p (rowV xs)) (k : ∀ (ys : List Str) (q : Addr), Nms ys xs → H q = none → Q (.ref q) (upd H q (.lst (rowV ys)))) : rSortD K [.ref p] H Q := by
  refine ⟨p, _, (fun v => match v with | .str z => .a (.inr z) | _ => .a (.inl 0)), .a true, rfl, h, fun x hx => ?_, fun ys q s pm nq => ?_⟩
  · obtain ⟨z, _, rfl⟩ := List.mem_map.mp hx
    exact ⟨rfl, rfl⟩
  · obtain ⟨m, h1, rfl⟩ := L2.Mb.perm_lift pm xs rfl
    exact k m q ⟨h1, List.pairwise_map.mp s⟩ nq
/-- a comprehension of new rows -/
def EvRw (te : TE) (σ : L2.St) (H : Hp) (rs : List (List Str)) : Prop := ∀ H1, Ex H H1 → ∀ Q : VK, (∀ p H2, H1 p = none → Ex H1 H2 → RowL H2 p rs → Q (.ref p) H2) → te σ H1 Q
section
variable {K : W.Frag} {σ : L2.St} {H : Hp} {te : TE} {t : TT} {wi : TI}
theorem el_rows {α : Type} {l : List α} {c : α → V} {j : Nat} {vs : List Nat} (g : α → List Str) (h : EvI wi σ H (l.map c)) (hz : l.length ≤ 40000) (hw : ∀ x, wipe ((wipe σ vs).set j (some x)) vs = wipe σ vs)
    (he : ∀ x ∈ l, ∀ H1, Ex H H1 → EvU te ((wipe σ vs).set j (some (c x))) H1 (rowV (g x))) : EvRw (tLc wi (gName j) tYes te vs) σ H (l.map g) := fun H0 e Q q => h H0 e _ fun J H1 G e1 w hG D hD => by
  rw [List.length_map] at w
  refine lc_it w (fun i H' => Ex H1 H' ∧ ∃ ps : List (Addr × List Str), ps.map Prod.snd = (l.take i).map g ∧ H' D = some (.lst (ps.map fun q => .ref q.1)) ∧ ∀ q ∈ ps, H' q.1 = some (.tup (rowV q.2))) ⟨Ex.new hD, [], rfl, upd_same, fun _ z => by cases z⟩ (fun i H' _ p => hG H' p.1) (fun i x H2 H' hi p y => ?_) (fun H' p => ?_)
  · obtain ⟨rfl, hx⟩ := y
    rw [List.getElem?_map] at hx
    cases ex : l[i]? with
    | none => rw [ex] at hx; cases hx
    | some a =>
      rw [ex] at hx
      cases hx
      have ha := List.mem_of_getElem? ex
      obtain ⟨p1, ps, p2, p3, p4⟩ := p
      have plen : ps.length ≤ 40000 := by
        have z := congrArg List.length p2
        rw [List.length_map, List.length_map, List.length_take] at z
        omega
      refine ⟨hw _, ?_⟩
      show te _ H' _
      refine he a ha H' ((e.trans e1).trans p1) H' (Ex.refl _) _ fun w H3 nw e3 hw3 => ?_
      have hD3 := e3 _ _ p3
      have wD : w ≠ D := fun z => by rw [z, p3] at nw; cases nw
      refine ⟨_, hD3, sz_lt (by rw [List.length_map]; omega), Ex.mut (p1.trans e3) hD, ps ++ [(w, g a)], ?_, ?_, fun q hq => ?_⟩
      · rw [List.take_add_one, ex, List.map_append, List.map_append, p2]
        rfl
      · rw [upd_same, List.map_append]
        rfl
      · rcases List.mem_append.mp hq with hq | hq
        · have z := e3 _ _ (p4 q hq)
          rw [upd_ne (fun y => by rw [y, hD3] at z; cases z)]
          exact z
        · rw [List.mem_singleton.mp hq]
          show (upd _ D _) w = _
          rw [upd_ne wD]
          exact hw3
  · obtain ⟨p1, ps, p2, p3, p4⟩ := p
    rw [List.take_of_length_le (Nat.le_refl _)] at p2
    exact q D H' (fresh_back e1 hD) (e1.trans p1) ⟨ps, p2, p3, p4⟩
end
/-! ### a search is made -/
def spSi (K : W.Frag) (C : Addr) : Sp := fun vs H Q _ => ∃ (a g fh dx : Addr) (T : List Str), vs = [.ref a, .ref g, .ref fh] ∧ H a = some (.ins C dx []) ∧ (SqL K H g (rowV T) ∨ SqT K H g (rowV T)) ∧
  ∀ H' it da I, Nms I T → H it = none → H da = none → it ≠ da → H' a = some (.ins C dx [("_items", .ref it), ("_holds", .ref fh), ("_answers", .ref da)]) → H' it = some (.lst (rowV I)) → H' da = some (.dK []) → (∀ c o, c ≠ a → H c = some o → H' c = some o) → Q .non H'
section
variable {P : Program} {w : World} {K : W.Frag} {mg : Str → Option Value} {base : Heap} {f C : Addr} {fd : FuncData}
theorem ok_search (B : Bt mg) (T : CF K mg C) {q : Str} (F : FnC K "__init__" q s_Search_init [] f fd) : FnOk P w K mg base CX0 4 f fd p_Search_init (spSi K C) := by
  refine F.ok sc_Search_init (fun vs H Q E h => ?_) (fun cdv A outer s H vs Q E hr h => ?_)
  · obtain ⟨a, g, fh, dx, T, rfl, _⟩ := h
    rfl
  · obtain ⟨a, g, fh, dx, Ts, rfl, ha, hg, k⟩ := h
    have nd := sc_Search_init.nd
    have hu2 := (hr.mono (show 2 ≤ 3 by decide)).in1.in1.units0
    refine ⟨_, PSs.nox (pss_cons (ps_fld (pv 0) (pe_callB (cr_sortD hu2) (by rfl) B.sorted (by decide +kernel) (pa_cons (pv 1) pa_nil)) rfl) (pss_cons (ps_fld (pv 0) (pv 2) rfl) (pss_one (ps_fld (pv 0) pe_dnewK rfl)))), ?_⟩
    refine ⟨_, rfl, ?_⟩
    dsimp only [tNil]
    refine sort_strsA hg fun I it hI nit => ⟨_, rfl, a, C, dx, [], rfl, ?_, T.cl, T.nI, by decide, ?_⟩
    · exact Ex.new nit _ _ ha
    · have nia : it ≠ a := fun z => by rw [z, ha] at nit; cases nit
      refine ⟨_, rfl, _, rfl, a, C, dx, _, rfl, upd_same, T.cl, T.nH, (by show 1 < 1000; decide), fun da nda => ⟨_, rfl, a, C, dx, [("_items", .ref it), ("_holds", .ref fh)], rfl, ?_, T.cl, T.nA, (by show 2 < 1000; decide), ?_⟩⟩
      · exact Ex.new nda _ _ upd_same
      · have nda1 : da ≠ a := fun z => by rw [z, upd_same] at nda; cases nda
        rw [upd_ne nda1, upd_ne nda1] at nda
        have ndi : it ≠ da := fun z => by rw [z, upd_same] at nda; cases nda
        rw [upd_ne ndi.symm] at nda
        refine k _ it da I hI nit nda ndi upd_same ?_ ?_ fun c o n hc => ?_
        · rw [upd_ne nia, upd_ne ndi, upd_ne nia, upd_ne nia]
          exact upd_same
        · rw [upd_ne nda1]
          exact upd_same
        · have n1 : c ≠ da := fun z => by rw [z, nda] at hc; cases hc
          have n2 : c ≠ it := fun z => by rw [z, nit] at hc; cases hc
          rw [upd_ne n, upd_ne n1, upd_ne n, upd_ne n, upd_ne n2]
          exact hc
end
end L2.M2
set_option maxRecDepth 100000
set_option maxHeartbeats 8000000
namespace L2.M2
open PySem PySem.Spec PyProof.Rows L2 Mx L2.Mb Evl Mv L2.C Sr Srt SrtO LamX NdefX
/-! ### what holds of greater sets, too -/
theorem sum_bits (p : Nat → Bool) : ∀ n, (((List.range n).filter p).map fun k => 2 ^ k).sum < 2 ^ n ∧ ∀ i, (((List.range n).filter p).map fun k => 2 ^ k).sum.testBit i = (decide (i < n) && p i)
  | 0 => ⟨by simp, fun i => by simp⟩
  | n + 1 => by
    obtain ⟨h1, h2⟩ := sum_bits p n
    rw [List.range_succ, List.filter_append, List.map_append, List.sum_append]
    cases hp : p n with
    | false =>
      rw [show [n].filter p = [] by simp [hp]]
      refine ⟨?_, fun i => ?_⟩
      · have := Nat.pow_lt_pow_right (a := 2) (by decide) (Nat.lt_succ_self n)
        simp only [List.map_nil, List.sum_nil, Nat.add_zero]
        omega
      · simp only [List.map_nil, List.sum_nil, Nat.add_zero]
        rw [h2]
        by_cases e : i = n
        · subst e
          rw [hp, Bool.and_false, Bool.and_false]
        · rw [show decide (i < n + 1) = decide (i < n) from decide_eq_decide.mpr (by omega)]
    | true =>
      rw [show [n].filter p = [n] by simp [hp]]
      simp only [List.map_cons, List.map_nil, List.sum_cons, List.sum_nil, Nat.add_zero]
      rw [Nat.add_comm]
      refine ⟨?_, fun i => ?_⟩
      · rw [Nat.pow_succ]
        omega
      · rcases Nat.lt_trichotomy i n with e | e | e
        · rw [Nat.testBit_two_pow_add_gt e, h2, decide_eq_true e, decide_eq_true (Nat.lt_succ_of_lt e)]
        · subst e
          rw [Nat.testBit_two_pow_add_eq, Nat.testBit_lt_two_pow h1, hp, decide_eq_true (Nat.lt_succ_self i)]
          rfl
        · have e2 : 2 ^ n + (((List.range n).filter p).map fun k => 2 ^ k).sum < 2 ^ i := by
            have := Nat.pow_le_pow_right (n := 2) (by decide) (show n + 1 ≤ i by omega)
            rw [Nat.pow_succ] at this
            omega
          rw [Nat.testBit_lt_two_pow e2, decide_eq_false (by omega)]
          rfl
theorem maskR_bit {L r : List Str} {i : Nat} : (maskR L r).testBit i = (decide (i < L.length) && decide (L.getD i "" ∈ r)) := (sum_bits _ _).2 i
theorem maskR_lt {L r : List Str} : maskR L r < 2 ^ L.length := (sum_bits _ _).1
theorem maskR_mono {L r r' : List Str} (h : ∀ x ∈ r, x ∈ r') : L2.C.Sub (maskR L r) (maskR L r') := fun i z => by
  rw [maskR_bit, Bool.and_eq_true] at z ⊢
  exact ⟨z.1, decide_eq_true (h _ (of_decide_eq_true z.2))⟩
theorem rowOf_mono {L : List Str} {a b : Nat} (h : L2.C.Sub a b) : ∀ x ∈ rowOf L a, x ∈ rowOf L b := fun x hx => by
  obtain ⟨k, hk, rfl⟩ := List.mem_map.mp hx
  obtain ⟨h1, h2⟩ := List.mem_filter.mp hk
  exact List.mem_map.mpr ⟨k, List.mem_filter.mpr ⟨h1, h k h2⟩, rfl⟩
theorem up_holds (I L : List Str) (seeds : List Nat) : Up fun m => holdsR L seeds (rowOf I m) := fun a b h z => by
  obtain ⟨s, hs, e⟩ := List.any_eq_true.mp z
  refine List.any_eq_true.mpr ⟨s, hs, decide_eq_true ?_⟩
  exact sub_and.mp ((sub_and.mpr (of_decide_eq_true e)).trans (maskR_mono (rowOf_mono h)))
/-! ### least sets -/
/-- the maker of an error of one field -/
def spI1 (C : Addr) (f : Str) : Sp := fun vs H Q _ => ∃ (a : Addr) (v : V), vs = [.ref a, v] ∧ H a = some (exo a C none) ∧ ∀ dx, H dx = none → dx ≠ a → Q .non (upd (upd H dx (exd dx [(f, v)])) a (exo a C (some dx)))
theorem s_raise1 {C : Addr} {σ : L2.St} {H : Hp} {ta : TA} {f : Str} {v : V} {W : WX} (h : EvA ta σ H [v]) (k : ∀ d H1, Ex H H1 → H1 d = some (.xd [(f, v)]) → W (.ref C) (some d) σ H1) :
    tMkO C (spI1 C f) [] ta σ H (fun cls d H' => W cls d σ H') := h H (Ex.refl H) _ fun H2 e2 => ⟨by show 1 ≤ 1000; decide, fun a na => ⟨a, v, rfl, upd_same, fun dx hd ne => by
    have hd2 : H2 dx = none := by
      rw [upd_ne ne] at hd
      exact hd
    refine ⟨rfl, dx, _, upd_same, ?_, hd2, k dx _ ?_ upd_same⟩
    · rw [upd_ne ne, upd_same]
    · intro c o hc
      have h2 := e2 c o hc
      have c1 : c ≠ a := ne_of_none h2 na
      have c2 : c ≠ dx := ne_of_none h2 hd2
      rw [upd_ne c2, del_ne c1, upd_ne c1, upd_ne c2, upd_ne c1]
      exact h2⟩⟩
/-- an error class of one field -/
structure X1 (P : Program) (w : World) (K : W.Frag) (mg : Str → Option Value) (base : Heap) (x fld : Str) (bk : EB) (CE fE : Addr) (dE : FuncData) : Prop where
  ec : EC K CE fE bk
  ty : W.typeIn K (.ref CE) = some (.type "type")
  m : mg x = some (.ref CE)
  ok : FnOk P w K mg base CX0 1 fE dE ["self", fld] (spI1 CE fld)
  b : Binds K dE ["self", fld] []
  no : W.findIn K (.ref CE) fld = some none
/-- all but the list at l and the tables stays -/
def FrT (l : Addr) (H H' : Hp) : Prop := ∀ c o, c ≠ l → (∀ ps, o ≠ .tbl ps) → H c = some o → H' c = some o
/-- the masks of all least sets -/
structure AllF (I L : List Str) (seeds : List Nat) (Fs : List Nat) : Prop where
  mem : ∀ m, m ∈ Fs ↔ (MinF (fun m => holdsR L seeds (rowOf I m)) m ∧ m < 2 ^ I.length)
  nd : Fs.Nodup
structure JAt (K : W.Frag) (H : Hp) (fh q sd nl : Addr) (L : List Str) (seeds : List Nat) : Prop where
  clo : ∃ cl c', Clo H fh (mkJ cl c') frJ [.ref q, .ref sd, .ref nl]
  hq : SqL K H q (rowV L)
  hs : SqL K H sd (seeds.map natV)
  l : L.length ≤ 9
  z : seeds.length ≤ 256
  nq : q ≠ nl
  ns : sd ≠ nl
def RowG (H : Hp) (nl : Addr) (G : List Str → Prop) (B : Nat) : Prop := ∃ rows, RowL H nl rows ∧ rows.length ≤ B ∧ ∀ r ∈ rows, G r
def spLS (K : W.Frag) (Tt : List (Addr × Str)) (CM : Addr) : Sp := fun vs H Q E => ∃ (g fh q sd nl : Addr) (T L : List Str) (seeds : List Nat) (G : List Str → Prop) (B : Nat), vs = [.ref g, .ref fh] ∧ (SqL K H g (rowV T) ∨ SqT K H g (rowV T)) ∧ T.length ≤ 1000 ∧ JAt K H fh q sd nl L seeds ∧ Tabs Tt H ∧
  RowG H nl G B ∧ B ≤ 10000 ∧ (∀ I, Nms I T → ∀ m, G (rowOf I m)) ∧
  (T.length ≤ 8 → ∀ I Fs rs t H', Nms I T → AllF I L seeds Fs → rs.Perm (Fs.map (rowOf I)) → SrtR rs → FrT nl H H' → Nn H H' → RowG H' nl G (B + 256) → Tabs Tt H' → H t = none → RowT H' t rs → Q (.ref t) H') ∧
  (8 < T.length → ∀ d H', Ex H H' → H' d = some (.xd [("limit", .int 8)]) → E (.ref CM) (some d) H')
def KeepL (H H' : Hp) : Prop := ∀ c o, (∀ xs, o ≠ .lst xs) → H c = some o → H' c = some o
theorem tabs_keepL {Tt : List (Addr × Str)} {H H' : Hp} (e : KeepL H H') (h : Tabs Tt H) : Tabs Tt H' := fun p hp => by
  obtain ⟨ps, h1, h2, h3⟩ := h p hp
  refine ⟨ps, e _ _ (fun _ y => by cases y) h1, h2, fun pos cv hc => ?_⟩
  obtain ⟨c, e1, e2⟩ := h3 pos cv hc
  exact ⟨c, e1, e _ _ (fun _ y => by unfold CodeO at y; cases y) e2⟩
theorem sat_upd {K : W.Frag} {C : Addr} {H : Hp} {a l : Addr} {d : SD} {G : List Str → Prop} {B : Nat} {am : List Nat} {xs ys : List V} (h : SAt K C H a d G B am) (hl : H l = some (.lst ys)) (n1 : d.it ≠ l) (n4 : d.nl ≠ l) (n2 : SqL K (upd H l (.lst xs)) d.q (rowV d.L)) (n3 : SqL K (upd H l (.lst xs)) d.sd (d.seeds.map natV)) : SAt K C (upd H l (.lst xs)) a d G B am := by
  have k : ∀ {c o}, H c = some o → c ≠ l → (upd H l (.lst xs)) c = some o := fun hc n => (upd_ne n).trans hc
  have kd : ∀ {c o}, (∀ zs, o ≠ .lst zs) → H c = some o → (upd H l (.lst xs)) c = some o := fun n hc => k hc fun e => by
    rw [e, hl] at hc
    exact n _ (Option.some.inj hc).symm
  refine ⟨h.at_.elim fun dx z => ⟨dx, kd (fun _ y => by cases y) z⟩, k h.hi n1, kd (fun _ y => by cases y) h.ha, h.nd, h.lt, clo_mono (fun b o z n _ => kd n z) h.clo, n2, n3, ?_⟩
  obtain ⟨rows, ⟨ps, h1, h2, h3⟩, h4, h5⟩ := h.nl
  exact ⟨rows, ⟨ps, h1, k h2 n4, fun q hq => kd (fun _ y => by cases y) (h3 q hq)⟩, h4, h5⟩
theorem rd_out {K : W.Frag} {C : Addr} {σ : L2.St} {H : Hp} {a p : Addr} {d : SD} {G : List Str → Prop} {Bd : Nat} {am Bs : List Nat} {E : XK} {te tm : TE} {Q : VK} (he : Ev te σ H (.ref a)) (hm : Ev tm σ H (.ref p)) (ok : SOk d) (sa : SAt K C H a d G Bd am) (hB : Bd ≤ 20000) (hG : ∀ m, G (rowOf d.I m))
    (hp : H p = some (.lst (Bs.map natV))) (hz : Bs.length ≤ 2048) (np : p ≠ d.nl) (k : ∀ am' H', SAt K C H' a d G Bd am' → FrS d H H' → Nn H H' → Q (optN (outF d.f d.I.length Bs)) H') : tMeth C "least_outside" (spLo K C) [] E te (tCons tm tNil) σ H Q := he H (Ex.refl H) _ fun H2 e2 => by
  obtain ⟨dx, hd⟩ := sa.at_
  refine ⟨a, dx, d.fs, rfl, e2 _ _ hd, rfl, (ea_cons hm ea_nil) H2 e2 _ fun H3 e3 => ?_⟩
  have e03 := e2.trans e3
  rw [List.append_nil]
  exact ⟨a, p, d, G, Bd, am, Bs, rfl, ok, sa.mono e03, hB, hG, e03 _ _ hp, hz, np, fun am' H' s f n => k am' H' s ((FrS.ex e03).trans f) ((nn_ex e03).trans n)⟩
theorem q_asgR {σ : L2.St} {H : Hp} {D : Ends} {te : TE} {tz : TS} {i : Nat} (h : te σ H fun v H1 => tz D (σ.set i (some v)) H1) : tSeq (tAsg te (gName i)) tz D σ H := h
theorem s_asgR {σ : L2.St} {H : Hp} {D : Ends} {te : TE} {i : Nat} (h : te σ H fun v H1 => D.nx (σ.set i (some v)) H1) : tAsg te (gName i) D σ H := h
theorem s_retR {σ : L2.St} {H : Hp} {D : Ends} {te : TE} (h : te σ H fun v H1 => D.rt v H1) : tRet te D σ H := h
theorem rd_make {C : Addr} {sp : Sp} {dvs vs : List V} {E : XK} {ta : TA} {σ : L2.St} {H : Hp} {Q : VK} (h : EvA ta σ H vs) (k : ∀ H2 x dx, Ex H H2 → H2 x = none → H2 dx = none → dx ≠ x → sp (.ref x :: (vs ++ dvs)) (upd (upd H2 dx (.own x)) x (.ins C dx [])) (fun v H3 => v = .non ∧ Q (.ref x) H3) E) : tMake C sp dvs E ta σ H Q := h H (Ex.refl H) _ fun H2 e2 x dx a b c => k H2 x dx e2 a b c
theorem rd_call1 {sp : Sp} {E : XK} {te : TE} {σ : L2.St} {H : Hp} {Q : VK} (h : te σ H fun v H1 => sp [v] H1 Q E) : tCall sp [] E (tCons te tNil) σ H Q := h
theorem nms_len {ys xs : List Str} (h : Nms ys xs) : ys.length = xs.length := h.p.length_eq
theorem ev_lenA {K : W.Frag} {σ : L2.St} {H : Hp} {te : TE} {g : Addr} {T : List Str} (h : Ev te σ H (.ref g)) (hg : SqL K H g (rowV T) ∨ SqT K H g (rowV T)) : Ev (tCB (rLenS K) (tCons te tNil)) σ H (.int (T.length : Int)) := by
  rcases hg with hg | hg
  · exact ev_is (ev_len h hg) (by rw [List.length_map])
  · exact ev_is (ev_lenT h hg) (by rw [List.length_map])
section
variable {P : Program} {w : World} {K : W.Frag} {mg : Str → Option Value} {base : Heap} {f fS f1 f2 f3 f4 fM C CM : Addr} {fd dS d1 d2 d3 d4 dM : FuncData} {Tt : List (Addr × Str)} {t1 : Tok}
theorem ok_least_sets {bk : EB} (B : Bt mg) (T : CF K mg C) (XM : X1 P w K mg base "TooMany" "limit" bk CM fM dM) (c8 : mg "MOST_ITEMS" = some (.int 8 t1)) (MK : Mk K C fS) (DS : FnOk P w K mg base CX0 4 fS dS p_Search_init (spSi K C)) (bS : Binds K dS p_Search_init [])
    (ML : Mt P w K mg base C "least_outside" 8 p_Search_least_outside (spLo K C) f1 d1) (MM : Mt P w K mg base C "members" 2 p_Search_members (spMb C) f2 d2) (DM : Fn0 P w K mg base "_meeting_also" 1 f3 d3 p_meeting_also (spMt K)) (DO : Fn0 P w K mg base "_in_order" 5 f4 d4 p_in_order (spIo Tt))
    (F : FnP K "least_sets" s_least_sets f fd) : FnOk P w K mg base (L2.CX P w) 9 f fd p_least_sets (spLS K Tt CM) := by
  refine F.ok sc_least_sets (fun vs H Q E h => ?_) (fun cdv A outer s H vs Q E hr h => ?_)
  · obtain ⟨g, fh, q, sd, nl, T, L, seeds, G, B, rfl, _⟩ := h
    rfl
  · obtain ⟨g, fh, q, sd, nl, Ts, L, seeds, G, Bd, rfl, hg, hTz, ja, hT, hrg, hB, hG, kq, ke⟩ := h
    have nd := sc_least_sets.nd
    refine ⟨_, pss_cons (ps_if (pt_cmpR op_gt (pe_callB call_len_seq (by rfl) B.len (by decide +kernel) (pa_cons (pv 0) pa_nil)) (pe_glob (v := .int 8) (by rfl) c8 ⟨_, rfl⟩) (nomark _)) (pss_one (ps_raise rfl (takes_of rfl rfl rfl rfl) (pmk_X XM.ec XM.ty XM.ok (hr.mono (by decide)) XM.b .nil pass0 (by rfl) XM.m (pa_cons (pe_glob (v := .int 8) (by rfl) c8 ⟨_, rfl⟩) pa_nil)))) pss_nil)
      (pss_cons (ps_set (i := 2) nd rfl (Or.inr rfl) (pe_make MK DS (hr.mono (by decide)) (by rfl) T.m bS .nil pass0 (pa_cons (pv 0) (pa_cons (pv 1) pa_nil))))
      (pss_cons (ps_set (i := 3) nd rfl (Or.inl rfl) (pe_lst pa_nil))
      (pss_cons (ps_set (i := 4) nd rfl (Or.inl rfl) (pe_lst (pa_cons pe_int pa_nil)))
      (pss_cons (ps_set (i := 5) nd rfl (Or.inl rfl) (pe_meth (pv 2) T.cl ML.me ML.ok hr ML.b .nil pass0 (pa_cons (pv 4) pa_nil)))
      (pss_cons (ps_while (passes_of rfl) (pt_cmpR op_notN (pv 5) pe_non (nomark _))
        (pss_cons (ps_expr (pe_bm PySem.F.plainAttrs_list PySem.F.slot_list_append PySem.F.type_list_append mt_append (pv 3) (pa_cons (pv 5) pa_nil)))
        (pss_cons (ps_set (i := 4) nd rfl (Or.inl rfl) (pe_call DM.ok (hr.mono (by decide)) (by rfl) DM.m DM.k DM.b .nil pass0 (pa_cons (pv 4) (pa_cons (pv 5) pa_nil))))
        (pss_one (ps_set (i := 5) nd rfl (Or.inl rfl) (pe_meth (pv 2) T.cl ML.me ML.ok hr ML.b .nil pass0 (pa_cons (pv 4) pa_nil)))))))
      (pss_one (ps_ret (pe_call DO.ok (hr.mono (by decide)) (by rfl) DO.m DO.k DO.b .nil pass0 (pa_cons (pe_lc (own := [("mask", 6)]) (g := gName 6) (tt := tYes) (te := tMeth C "members" (spMb C) [] E0 (tVar 2) (tCons (tVar 6) tNil)) (by rfl) nd (pi_list (pv 3)) (blkOk_by (N := n_least_sets) (sc := defScope s_least_sets) (by decide +kernel)) (fun _ _ _ _ _ => pg_name (i := 6) nd rfl (Or.inl rfl)) (fun _ _ _ _ _ => pts_nil)
          (fun _ _ _ _ _ => pe_meth (pv 2) T.cl MM.me MM.ok (hr.mono (by decide)) MM.b .nil pass0 (pa_cons (pv 6) pa_nil))) pa_nil))))))))), ?_⟩
    refine q_when (b := decide (8 < Ts.length)) (et_test (ev_is (ev_op (ev_lenA (ev_var rfl) hg) ev_c rv_I0) (congrArg V.bl (decide_eq_decide.mpr (by omega))))) (fun z H1 e1 => ?_) (fun z H1 e1 => ?_)
    · exact s_raise1 (W := fun cls d _ H' => E cls d H') (ea_cons ev_c ea_nil) fun d H4 e4 hd => ke (of_decide_eq_true z) d H4 (e1.trans e4) hd
    · have h8 : Ts.length ≤ 8 := Nat.not_lt.mp (of_decide_eq_false z)
      have hg1 : SqL K H1 g (rowV Ts) ∨ SqT K H1 g (rowV Ts) := hg.elim (fun y => .inl (ex_l e1 y)) fun y => .inr (ex_t e1 y)
      obtain ⟨rows, ⟨rps, hr1, hr2, hr3⟩, hr4, hr5⟩ := hrg
      refine q_asgR (rd_make (vs := [.ref g, .ref fh]) (ea_cons (ev_var rfl) (ea_cons (ev_var rfl) ea_nil)) fun H2 x dx e2 nx ndx nex => ?_)
      have e12 := e1.trans e2
      have eG : Ex H2 (upd (upd H2 dx (.own x)) x (.ins C dx [])) := fun c o hc => by
        have c1 : c ≠ x := fun y => by rw [y, nx] at hc; cases hc
        have c2 : c ≠ dx := fun y => by rw [y, ndx] at hc; cases hc
        rw [upd_ne c1, upd_ne c2]
        exact hc
      rw [List.append_nil]
      refine ⟨x, g, fh, dx, Ts, rfl, upd_same, hg1.elim (fun y => .inl (ex_l (e2.trans eG) y)) fun y => .inr (ex_t (e2.trans eG) y), fun H3 it da I hI nit nda nid hx3 hi3 ha3 fr3 => ⟨rfl, ?_⟩⟩
      have e23 : Ex H2 H3 := fun c o hc => fr3 c o (fun y => by rw [y, nx] at hc; cases hc) (eG c o hc)
      have e03 := e12.trans e23
      obtain ⟨cl, c', hcl⟩ := ja.clo
      let d : SD := ⟨it, fh, da, nl, q, sd, cl, c', I, L, seeds⟩
      have itn : it ≠ nl := fun y => by rw [y, eG _ _ (e12 _ _ hr2)] at nit; cases nit
      have dan : H da = none := fresh_back (e12.trans eG) nda
      have itN : H it = none := fresh_back (e12.trans eG) nit
      have xN : H x = none := fresh_back e12 nx
      have ok : SOk d := ⟨by show I.length ≤ 8; rw [nms_len hI]; exact h8, ja.l, ja.z, ja.nq, itn, ja.ns⟩
      have sa : SAt K C H3 x d G Bd [] := ⟨⟨dx, hx3⟩, hi3, ha3, List.nodup_nil, (fun _ y => by cases y), clo_mono (fun b o y _ _ => e03 _ _ y) hcl, ex_l e03 ja.hq, ex_l e03 ja.hs, rows, ⟨rps, hr1, e03 _ _ hr2, fun q hq => e03 _ _ (hr3 q hq)⟩, by simpa using hr4, hr5⟩
      have hGI := hG I hI
      have up : Up d.f := up_holds I L seeds
      refine q_asgL (xs := []) (el_lst ea_nil (by decide)) fun fl H4 nfl e4 hfl => ?_
      have s4 := sa.mono e4
      refine q_asgL (xs := [natV 0]) (el_lst (ea_cons ev_c ea_nil) (by decide)) fun bl H5 nbl e5 hbl => ?_
      have s5 := s4.mono e5
      have flN : H fl = none := fresh_back e03 nfl
      have blN : H bl = none := fresh_back (e03.trans e4) nbl
      have ne_fl : ∀ {c o}, H c = some o → c ≠ fl := fun hc y => by rw [y, flN] at hc; cases hc
      have blfl : fl ≠ bl := fun y => by rw [← y, hfl] at nbl; cases nbl
      have e05 := (e03.trans e4).trans e5
      have blnl : bl ≠ nl := fun y => by rw [y, hr2] at blN; cases blN
      have flnl : fl ≠ nl := fun y => by rw [y, hr2] at flN; cases flN
      have h256 : 2 ^ I.length ≤ 2 ^ 8 := Nat.pow_le_pow_right (by decide) ok.i
      refine q_asgR (rd_out (ev_var rfl) (ev_var rfl) ok s5 (by omega) hGI (Bs := [0]) hbl (by show 1 ≤ 2048; decide) blnl fun am6 H6 s6 f6 n6 => ?_)
      -- the turns
      have hW : ∃ W : Nat → L2.St → Hp → Prop, W = fun m σ' H' => ∃ (F Bs : List Nat) (b2 : Addr) (am : List Nat), σ' = [some (.ref g), some (.ref fh), some (.ref x), some (.ref fl), some (.ref b2), some (optN (outF d.f I.length Bs)), none] ∧ SAt K C H' x d G Bd am ∧ H' fl = some (.lst (F.map natV)) ∧ H' b2 = some (.lst (Bs.map natV)) ∧ b2 ≠ nl ∧ b2 ≠ fl ∧
          AllMin F Bs ∧ (∀ m ∈ F, MinF d.f m ∧ m < 2 ^ I.length) ∧ F.Nodup ∧ Bs.Nodup ∧ (∀ b ∈ Bs, b < 2 ^ 8) ∧ (∀ c o, c ≠ nl → H c = some o → H' c = some o) ∧ Nn H H' ∧ m = 257 - F.length := ⟨_, rfl⟩
      obtain ⟨W, hW⟩ := hW
      have dafl : da ≠ fl := fun y => by
        have z := e4 _ _ ha3
        rw [y, hfl] at z
        cases z
      have dabl : da ≠ bl := fun y => by
        have z := e5 _ _ (e4 _ _ ha3)
        rw [y, hbl] at z
        cases z
      have fr6 : ∀ c o, c ≠ nl → H c = some o → H6 c = some o := fun c o n hc => f6 c o n (fun y => by rw [y, dan] at hc; cases hc) (e05 _ _ hc)
      refine q_while W 257 ?_ (fun m σ' H7 h7 => ?_)
      · rw [hW]
        exact ⟨[], [0], bl, am6, rfl, s6, f6 _ _ flnl dafl.symm (e5 _ _ hfl), f6 _ _ blnl dabl.symm hbl, blnl, blfl.symm, allMin_nil, (fun _ y => by cases y), List.nodup_nil, by simp, (fun b hb => by rw [List.mem_singleton.mp hb]; decide), fr6, (nn_ex e05).trans n6, rfl⟩
      · rw [hW] at h7
        obtain ⟨F, Bs, b2, am, rfl, s7, hf7, hb7, nb, nbf, am1, mf, ndF, ndB, ltB, fr7, nn7, rfl⟩ := h7
        refine ⟨!decide (optN (outF d.f I.length Bs) = .non), et_test (ev_op (ev_var rfl) ev_c fun H8 _ Q8 q8 => ⟨rfl, q8 H8 (Ex.refl _)⟩), fun hb H8 e8 => ?_, fun hb H8 e8 => ?_⟩
        · cases ho : outF d.f I.length Bs with
          | none => rw [ho] at hb; exact absurd hb (by decide)
          | some m0 =>
            obtain ⟨b0, hb0, hm0⟩ : ∃ b0, Bs.find? (fun b => d.f (less (2 ^ I.length - 1) b)) = some b0 ∧ m0 = lessF d.f I.length (less (2 ^ I.length - 1) b0) := by
              unfold outF at ho
              cases z : Bs.find? (fun b => d.f (less (2 ^ I.length - 1) b)) with
              | none => rw [z] at ho; cases ho
              | some b0 => rw [z] at ho; exact ⟨b0, rfl, (Option.some.inj ho).symm⟩
            have hbm := List.mem_of_find?_eq_some hb0
            have hbf := List.find?_some hb0
            have mm : MinF d.f m0 := by rw [hm0]; exact lessF_minF up (full_lt _ _) hbf
            have ml : m0 < 2 ^ I.length := by rw [hm0]; exact Nat.lt_of_le_of_lt (lessF_sub _ _ _).le (full_lt _ _)
            have ni : m0 ∉ F := fun hin => not_meet_less (a := 2 ^ I.length - 1) (b := b0) (c := m0) (by rw [hm0]; exact lessF_sub _ _ _) (((am1 b0).mp hbm).1 m0 hin)
            have ndF2 : (F ++ [m0]).Nodup := List.nodup_append.mpr ⟨ndF, by simp, fun x hx y hy e => ni (by rw [← List.mem_singleton.mp hy, ← e]; exact hx)⟩
            have mf2 : ∀ m ∈ F ++ [m0], MinF d.f m ∧ m < 2 ^ I.length := fun m hm => (List.mem_append.mp hm).elim (mf m) fun y => by rw [List.mem_singleton.mp y]; exact ⟨mm, ml⟩
            have lF2 : (F ++ [m0]).length ≤ 2 ^ I.length := nodup_lt _ _ ndF2 fun m hm => (mf2 m hm).2
            have lF : F.length < 256 := by rw [List.length_append, List.length_singleton] at lF2; omega
            have m8 : m0 < 2 ^ 8 := Nat.lt_of_lt_of_le ml h256
            refine ⟨fun σ2 H2 => ∃ m', m' < 257 - F.length ∧ W m' σ2 H2, fun σ2 H2 h => h, ?_⟩
            have s8 := s7.mono e8
            refine q_app (l := fl) (xs := F.map natV) (v := natV m0) (e8 _ _ hf7) (ev_var rfl) (ev_var rfl) (by rw [List.length_map]; omega) fun H9 e9 => ?_
            have fl9 := e9 _ _ (e8 _ _ hf7)
            have fr9 : Fr nl H (upd H9 fl (.lst (F.map natV ++ [natV m0]))) := fun c o n hc => (upd_ne (ne_fl hc)).trans (e9 _ _ (e8 _ _ (fr7 c o n hc)))
            have itfl : it ≠ fl := fun y => by rw [← y, hi3] at nfl; cases nfl
            have s9 := sat_upd (xs := F.map natV ++ [natV m0]) (s8.mono e9) fl9 itfl flnl.symm (sq_fr fr9 ja.nq ja.hq) (sq_fr fr9 ja.ns ja.hs)
            have b29 : (upd H9 fl (.lst (F.map natV ++ [natV m0]))) b2 = some (.lst (Bs.map natV)) := (upd_ne nbf).trans (e9 _ _ (e8 _ _ hb7))
            have nn9 : Nn H (upd H9 fl (.lst (F.map natV ++ [natV m0]))) := ((nn7.trans (nn_ex (e8.trans e9))).trans nn_upd)
            have f9 : (upd H9 fl (.lst (F.map natV ++ [natV m0]))) fl = some (.lst ((F ++ [m0]).map natV)) := by
              rw [upd_same, List.map_append]
              rfl
            generalize upd H9 fl (.lst (F.map natV ++ [natV m0])) = G9 at fr9 s9 b29 nn9 f9
            have ndM := nodup_meeting (n := 8) (m := m0) ndB
            have ltM := meeting_lt (m := m0) ltB
            refine q_asgL (xs := (meeting 8 Bs m0).map natV) (el_call (ea_cons (ev_var rfl) (ea_cons (ev_var rfl) ea_nil)) (fun H10 e10 Q10 q10 E10 => ⟨b2, Bs, m0, rfl, sq_of (e10 _ _ b29), am_len ndB ltB, m8, fun t H11 nt e11 ht => q10 t H11 nt e11 ht⟩)) fun b3 H10 nb3 e10 hb3 => ?_
            have b3nl : b3 ≠ nl := fun y => by
              obtain ⟨rows9, ⟨ps9, _, z, _⟩, _⟩ := s9.nl
              replace z : G9 nl = _ := z
              rw [← y, nb3] at z
              cases z
            have b3fl : b3 ≠ fl := fun y => by rw [y, f9] at nb3; cases nb3
            refine s_asgR (rd_out (ev_var rfl) (ev_var rfl) ok (s9.mono e10) (by omega) hGI hb3 (by have := am_len ndM ltM; omega) b3nl fun am11 H11 s11 f11 n11 => ?_)
            have ev10 := e10 _ _ f9
            refine ⟨257 - (F ++ [m0]).length, by rw [List.length_append, List.length_singleton]; omega, ?_⟩
            rw [hW]
            refine ⟨F ++ [m0], meeting 8 Bs m0, b3, am11, rfl, s11, f11 _ _ flnl dafl.symm ev10, f11 _ _ b3nl (fun y => ?_) hb3, b3nl, b3fl, allMin_congr (fun x => ?_) (allMin_step m8 am1), mf2, ndF2, ndM, ltM, fun c o n hc => f11 c o n (fun y => by rw [y, dan] at hc; cases hc) (e10 _ _ (fr9 c o n hc)), (nn9.trans (nn_ex e10)).trans n11, rfl⟩
            · have z := (s9.mono e10).ha
              exact absurd (hb3.symm.trans ((congrArg H10 y).trans z)) (by simp)
            · rw [List.mem_append, List.mem_singleton, List.mem_cons, or_comm]
        · cases ho : outF d.f I.length Bs with
          | some m0 => rw [ho] at hb; exact absurd hb (by simp [optN])
          | none =>
            have no : ∀ b ∈ Bs, d.f (less (2 ^ I.length - 1) b) = false := fun b hb2 => by
              unfold outF at ho
              have z := List.find?_eq_none.mp (Option.map_eq_none_iff.mp ho) b hb2
              simpa using z
            have af : AllF I L seeds F := ⟨fun m => ⟨mf m, fun z => all_found up mf am1 (fun b hb2 => by rw [less_full]; exact no b hb2) z.2 z.1⟩, ndF⟩
            have s8 := s7.mono e8
            have lF : F.length ≤ 256 := Nat.le_trans (nodup_lt _ _ ndF fun m hm => (mf m hm).2) h256
            have w9 := el_rows (wi := iList K (tVar 3)) (σ := [some (.ref g), some (.ref fh), some (.ref x), some (.ref fl), some (.ref b2), some (optN (none : Option Nat)), none]) (H := H8) (te := tMeth C "members" (spMb C) [] E0 (tVar 2) (tCons (tVar 6) tNil)) (l := F) (c := natV) (j := 6) (vs := [6]) (rowOf I) (eo_list (ev_var rfl) (sq_of (e8 _ _ hf7))).ei (by omega) (fun _ => rfl)
              (fun m hm H9 e9 => eu_members (d := d) (ev_var rfl) (ev_var rfl) (s8.mono e9) ok.i)
            refine s_retR (rd_call1 ?_)
            refine w9 H8 (Ex.refl _) _ fun p H9 np e9 hp => ?_
            have kl : KeepL H H9 := fun c o n hc => e9 _ _ (e8 _ _ (fr7 c o (fun y => by rw [y, hr2] at hc; exact n _ (Option.some.inj hc).symm) hc))
            have n9 : Nn H H9 := nn7.trans (nn_ex (e8.trans e9))
            refine ⟨p, F.map (rowOf I), rfl, hp, by rw [List.length_map]; omega, tabs_keepL kl hT, fun t H10 rs pm st eN nn10 tb nt rt => kq h8 I F rs t H10 hI af pm st (fun c o n1 n2 hc => eN _ _ (e9 _ _ (e8 _ _ (fr7 c o n1 hc))) n2) (fun b hb2 => n9 b (nn10 b hb2)) ?_ tb (n9 t nt) rt⟩
            obtain ⟨rows9, ⟨ps9, q1, q2, q3⟩, q4, q5⟩ := (s8.mono e9).nl
            exact ⟨rows9, ⟨ps9, q1, eN _ _ q2 (fun _ y => by cases y), fun q hq => eN _ _ (q3 q hq) (fun _ y => by cases y)⟩, Nat.le_trans q4 (Nat.add_le_add_left (am_len s8.nd s8.lt) _), q5⟩
end
end L2.M2
set_option maxRecDepth 100000
set_option maxHeartbeats 4000000
namespace L2.Sr
open PySem PySem.Spec PyProof.Rows L2
/-! ### set(xs) of a list of numbers, as a value -/
/-- a set that was just made -/
abbrev setOb (w : World) : Obj := { cls := .type "set", dict := none, data := .set #[] 0 (.fresh 0 0 (!w.params.followText "set-order")) }
section
variable {P : Program} {w : World} {A : Around} {E : Value → Shared → Prop} {s : Shared}
/-- how the numbers get in: a new set's loop over a list of numbers, from the list's object on -/
theorem fill_ints {l : Addr} {items : Array Value} {ns : List Int} {R : Result → Shared → Prop} (hh : A.in1.handled = none) (hl : s.heap.IsList l items) (hi : IntsAre items.toList ns) (hb : ns.length + 1 < scanBound)
    (hR : ∀ (h' : Heap) (tk c : Nat), SetR w h' s.heap.objs.size (fun j => decide (j ∈ ns)) c → c ≤ ns.length → (∀ b o, s.heap.get? b = some o → h'.get? b = some o) → R (.ok (.ret .none)) { s with heap := h', toks := tk }) :
    codeAny (model P w) A (.builtin "set.update.loop" ⟨[.ref s.heap.objs.size, .ref (s.heap.push (setOb w)).objs.size], []⟩) R
      { s with heap := (s.heap.push (setOb w)).push { cls := .type "list_iterator", data := .fields #[.ref l, .int 0 0] } } := by
  have hlt : l < s.heap.objs.size := by
    obtain ⟨o, ho, _⟩ := hl
    exact Heap.lt_size ho
  have sz : (s.heap.push (setOb w)).objs.size = s.heap.objs.size + 1 := Heap.size_push ..
  have n1 : items.size = ns.length := by
    have q := IntsAre.length hi
    rwa [Array.length_toList] at q
  have at0 : ((s.heap.push (setOb w)).push { cls := .type "list_iterator", data := .fields #[.ref l, .int 0 0] }).get? s.heap.objs.size = some (setOb w) := Heap.get?_push_of_some _ (Heap.get?_push_size _ rfl)
  have hne : l ≠ (s.heap.push (setOb w)).objs.size := by rw [sz]; exact Nat.ne_of_lt (Nat.lt_succ_of_lt hlt)
  have hSf : s.heap.objs.size ∉ [(s.heap.push (setOb w)).objs.size, l] := by
    rw [sz]
    intro z
    rcases List.mem_cons.mp z with z | z
    · exact Nat.ne_of_lt (Nat.lt_succ_self _) z
    · exact Nat.ne_of_gt hlt (List.mem_singleton.mp z)
  refine set_update_ints (Walks.list hh (s.heap.push (setOb w)).objs.size l hne items).toS s.heap.objs.size hSf ns n1 hb (fun i v hv => ?_) (items.size - 0) 0 _ (by omega) (Nat.zero_le _) ⟨⟨_, Heap.get?_push_size _ rfl, rfl, rfl⟩, (hl.push _).push _⟩ ⟨0, Nat.le_refl 0, setR_new_at at0⟩ fun s' c hm hc hS => ?_
  · have hlt2 : i < ns.length := by rw [← n1]; exact (Array.getElem?_eq_some_iff.mp hv).1
    obtain ⟨t, e⟩ := IntsAre.int_at hi i v (by rw [Array.getElem?_toList]; exact hv)
    exact ⟨ns[i], t, List.getElem?_eq_getElem hlt2, by rw [e, List.getD_eq_getElem?_getD, List.getElem?_eq_getElem hlt2]; rfl⟩
  · obtain ⟨h', g', d', tk', os'⟩ := s'
    obtain rfl : g' = s.gens := hm.gens
    obtain rfl : d' = s.drawn := hm.drawn
    obtain rfl : os' = s.os := hm.os
    refine hR h' tk' c hS (n1 ▸ hc) fun b o e => hm.heap b o ?_ (Heap.get?_push_of_some _ (Heap.get?_push_of_some _ e))
    have z1 := Heap.lt_size e
    rw [sz]
    intro z
    rcases List.mem_cons.mp z with z | z
    · exact Nat.ne_of_lt z1 z
    · exact Nat.ne_of_lt (Nat.lt_succ_of_lt z1) (List.mem_singleton.mp z)
theorem call_set_ints {l : Addr} {items : Array Value} {ns : List Int} {Q : Value → Shared → Prop} (hh : A.handled = none) (hl : s.heap.IsList l items) (hi : IntsAre items.toList ns) (hb : ns.length + 1 < scanBound)
    (h : ∀ (h' : Heap) (tk c : Nat), SetR w h' s.heap.objs.size (fun j => decide (j ∈ ns)) c → c ≤ ns.length → (∀ b o, s.heap.get? b = some o → h'.get? b = some o) → Q (.ref s.heap.objs.size) { s with heap := h', toks := tk }) :
    wpAny (model P w) A (call (.type "set") [.ref l]) Q E s := by
  have C := F.called_set
  obtain ⟨cn, tl, hmro⟩ := C.mro
  have c1 := C.made
  have c2 := C.sub
  have c3 := C.notType
  have c4 := C.canCreate
  have c5 := F.typeCall_set_1 (.ref l)
  refine wpAny_call (codeAny_of_tree (wpAny_pure ⟨Code.quiet_builtin _ (by decide +kernel), codeAny_builtin F.entry_type_call ?_⟩))
  rw [Around.under_plain (weight_type_call_type "set" [.ref l] []) rfl]
  repeat (any_goals (first | assumption | wp_step))
  refine codeAny_mono (code_set_led1 (.ref l) (E := E) (Q₁ := fun v s1 => v = .ref s.heap.objs.size ∧ s1 = { s with heap := s.heap.push (setOb w) }) ⟨rfl, rfl⟩) fun r s1 hr => ?_
  match r, hr with
  | .error e, hr => exact hr
  | .ok (.ret v), hr =>
    obtain ⟨rfl, rfl⟩ := hr
    have hT : Shared.TypeIs { s with heap := s.heap.push (setOb w) } (.ref s.heap.objs.size) "set" := ⟨_, Heap.get?_push_size _ rfl, rfl⟩
    have c6 := C.init.lookup
    have c7 := C.init.bind (.ref s.heap.objs.size)
    repeat (any_goals (first | assumption | wp_step))
    refine codeAny_mono (codeAny_call_builtin (R := wants (fun r s2 => r = .none ∧ ∃ h' tk c, s2 = { s with heap := h', toks := tk } ∧ SetR w h' s.heap.objs.size (fun j => decide (j ∈ ns)) c ∧ c ≤ ns.length ∧ ∀ b o, s.heap.get? b = some o → h'.get? b = some o) E)
      C.init.plain F.entry_set_init (check_set_init_1 hT ?_)) fun r2 s2 hr2 => ?_
    · have hl1 : (s.heap.push (setOb w)).IsList l items := hl.push _
      have hl0 := hl1
      obtain ⟨ol, hol, hcl, nl, hdl⟩ := hl1
      obtain ⟨ocls, odict, odata, oslots⟩ := ol
      simp only at hcl hdl
      subst hcl; subst hdl
      have d1 := F.sub_list_set
      have d2 := F.sub_list_frozenset
      have d3 : (Value.type "list" == Value.type "dict") = false := by decide
      unfold Builtin.«set.__init__» noKeywords Builtin.Frozenset.updateFrom
      generalize hPI : pyIter = PI
      wp_walk
      subst hPI
      refine wpAny_pyIter_list hl0 (wpAny_bind (wpAny_runValue ?_))
      refine fill_ints (s := s) (by simp [hh]) hl hi hb fun h' tk c hS hc hk => ?_
      show wpAny _ _ _ _ _ _
      refine wpAny_pure ?_
      show wpAny _ _ (ret Value.none) _ _ _
      exact wpAny_pure ⟨rfl, h', tk, c, rfl, hS, hc, hk⟩
    · match r2, hr2 with
      | .error e, hr2 => exact hr2
      | .ok (.ret v), hr2 =>
        obtain ⟨rfl, h', tk, c, rfl, hS, hc, hk⟩ := hr2
        repeat (any_goals (first | assumption | wp_step))
        exact h _ _ _ hS hc hk
      | .ok .next, hr2 => exact hr2.elim
      | .ok .brk, hr2 => exact hr2.elim
      | .ok .cont, hr2 => exact hr2.elim
  | .ok .next, hr => exact hr.elim
  | .ok .brk, hr => exact hr.elim
  | .ok .cont, hr => exact hr.elim
end
section
variable {X : Cx}
/-- set(xs), xs a list of numbers -/
def rSetL (K : PySem.W.Frag) (w : World) : List V → Hp → VK → Prop := fun vs H Q => ∃ (a : Addr) (ns : List Int), vs = [.ref a] ∧ SqL K H a (ns.map V.int) ∧ ns.length ≤ 1000 ∧ ∀ p n, n ≤ ns.length → H p = none → Q (.ref p) (upd H p (SetO w p (fun j => decide (j ∈ ns)) n))
theorem cr_setL (hc : X.calm = true) : CallR X (.type "set") (rSetL X.K X.w) := by
  intro pins s σ H vs us Q I r h
  obtain ⟨a, ns, rfl, ha, hn, q⟩ := h
  rw [Vals.ref1 r]
  obtain ⟨its, rv, pl, hz⟩ := I.list ha
  refine call_set_ints (I.ok.hd hc) pl.isList (by simpa using ints_of_vals rv) (by unfold scanBound; omega) fun h' tk c hS hcn hk => ?_
  have hf := I.hok.fresh (Nat.le_refl s.heap.objs.size)
  exact ⟨.ref _, upd H s.heap.objs.size (SetO X.w s.heap.objs.size (fun j => decide (j ∈ ns)) c), I.laid (t' := tk) hk (Nat.le_refl _) (setO_new hS), rfl, q _ c hcn hf⟩
end
end L2.Sr
set_option maxRecDepth 100000
set_option maxHeartbeats 4000000
namespace L2.Sr
open PySem PySem.Spec PyProof.Rows L2 Srt SrtO
/-! ### sets of texts: set(xs) as a value, and sorted over it -/
/-- the set at a holds the texts l, each once -/
def SetTx (P : Program) (w : World) (h : Heap) (a : Addr) (l : List Str) : Prop :=
  ∃ D : Froz.SD, h.get? a = some (Froz.sObj "set" D) ∧ Froz.TxOk P w D l ∧ l.Nodup ∧ Ris D.2.2.place.toList ∧ (w.params.followText "set-order" = true ∨ D.2.2.led = true)
section
variable {P : Program} {w : World} {A : Around} {E : Value → Shared → Prop} {s : Shared} {a : Addr} {l : List Str}
theorem SetTx.at {h h' : Heap} (x : SetTx P w h a l) (k : ∀ o, h.get? a = some o → h'.get? a = some o) : SetTx P w h' a l := by
  obtain ⟨D, e, r⟩ := x
  exact ⟨D, k _ e, r⟩
theorem setTx_new {h : Heap} (ho : h.get? a = some (setOb w)) : SetTx P w h a [] := by
  refine ⟨(#[], 0, .fresh 0 0 (!w.params.followText "set-order")), ho, Froz.TxOk.nil rfl, List.nodup_nil, List.Pairwise.nil, ?_⟩
  cases z : w.params.followText "set-order" with
  | true => exact .inl rfl
  | false => exact .inr rfl
theorem ris_tail {ep : Nat} {es1 : Array (Int × Value)} {t2 : SetTable} {b : Bool} (h1 : Ris t2.place.toList) : Ris (Froz.tailTx ep es1 t2 b).2.2.place.toList ∧ (Froz.tailTx ep es1 t2 b).2.2.led = t2.led := by
  unfold Froz.tailTx
  split
  · exact ⟨relayAll_ris _ _ _, relayAll_led _ _ _⟩
  · exact ⟨h1, rfl⟩
theorem ris_add {hh : Int} {v : Value} {D : Froz.SD} (h : Ris D.2.2.place.toList) : Ris (Froz.addTx hh v D).2.2.place.toList ∧ (Froz.addTx hh v D).2.2.led = D.2.2.led := by
  have h1 := layNew_ris D.2.2 D.1 hh v h
  have h2 := layNew_led D.2.2 D.1 hh v
  have key : ∀ t2 : SetTable, Ris t2.place.toList → t2.led = D.2.2.led → ∀ (es1 : Array (Int × Value)) (b : Bool), Ris (Froz.tailTx D.2.1 es1 t2 b).2.2.place.toList ∧ (Froz.tailTx D.2.1 es1 t2 b).2.2.led = D.2.2.led := fun t2 r e es1 b => by
    have z := ris_tail (ep := D.2.1) (es1 := es1) (b := b) r
    exact ⟨z.1, z.2.trans e⟩
  unfold Froz.addTx
  split
  · exact key { (layNew D.2.2 D.1 hh v).2.1 with plain := false } h1 h2 _ _
  · exact key _ h1 h2 _ _
/-- one text more, or one that is there -/
theorem tx_put {k : Str} {u : Tok} {Q : Bool → Shared → Prop} (x : SetTx P w s.heap a l) (hb : l.length + 1 < scanBound)
    (q : ∀ h' b, Heap.SameBut a s.heap h' → SetTx P w h' a (if k ∈ l then l else k :: l) → Q b { s with heap := h' }) : wpAny (model P w) A (setAddHashed a (.str k u) (hashStr w k)) Q E s := by
  obtain ⟨D, ho, tx, nd, ri, le⟩ := x
  by_cases hk : k ∈ l
  · rw [if_pos hk] at q
    have q0 := q s.heap false (Heap.SameBut.refl a s.heap) ⟨D, ho, tx, nd, ri, le⟩
    obtain ⟨es, ep, t⟩ := D
    have hd : (Froz.sObj "set" (es, ep, t)).data = .set es ep t := rfl
    have hsz : es.size = l.length := tx.sz
    have hel : ElemsOf (strKind P w) es.toList := tx.el
    have hf : t.fits es.size = true := tx.fit
    have hkey : (strKind P w).is k (.str k u) = true := Froz.is_str k u
    unfold setAddHashed setAddHashedIn
    refine wpAny_holding (wpAny_bind (wpAny_setState_of ho hd hf ?_))
    dsimp only
    rw [byScan_of rfl (by omega) hel]
    simp only [↓reduceIte]
    unfold setAddByScan
    refine wpAny_bind (wpAny_bind (wpAny_rule (wpAny_bind (wpAny_setScan_of (knd := strKind P w) (k := k) hkey ho hd hf hel ?_))))
    cases hfi : List.findIdx? (fun e => (strKind P w).is k e.2) es.toList with
    | some j => exact wpAny_pure (wpAny_pure q0)
    | none =>
      obtain ⟨e, he, y⟩ := (tx.mem k).mp hk
      have c := List.findIdx?_eq_none_iff.mp hfi e he
      rw [y] at c
      cases c
  · rw [if_neg hk] at q
    refine Froz.add_x ho tx hk hb ?_
    have r := ris_add (hh := hashStr w k) (v := .str k u) ri
    refine q _ true (Heap.SameBut.update s.heap a _) ⟨_, Froz.get_upd _ ho rfl, Froz.add_ok u tx, List.nodup_cons.mpr ⟨hk, nd⟩, r.1, le.imp id fun z => by rw [r.2]; exact z⟩
/-- what an iterator over texts gives -/
def PvS (ns : List Str) : Nat → Value → Prop := fun i v => ∃ k t, ns[i]? = some k ∧ v = .str k t
/-- how the texts of an iterator get in -/
theorem fill_txts {I : Addr} {fp wr : List Addr} {G : Array GenState → Array GenState → Prop} {n : Nat} {Pv : Nat → Value → Prop} {St : Nat → Shared → Prop} {R : Result → Shared → Prop}
    (W : WalksS P w A.in1 I fp wr G n Pv St) (S : Addr) (out : S ∉ fp) (ns : List Str) (hn : n = ns.length) (hb : ns.length + 1 < scanBound) (hval : ∀ i v, Pv i v → PvS ns i v)
    (fin : ∀ (s0 s' : Shared) l, Moved (S :: wr) G s0 s' → SetTx P w s'.heap S l → (∀ x, x ∈ l ↔ x ∈ ns) → s0 = s → R (.ok (.ret .none)) s') : ∀ (k i : Nat) (s1 : Shared), n - i = k → i ≤ n → St i s1 → (i = 0 ∧ s1 = s ∨ Moved (S :: wr) G s s1) →
      (∃ l, SetTx P w s1.heap S l ∧ (∀ x, x ∈ l ↔ x ∈ ns.take i) ∧ l.length ≤ i) → codeAny (model P w) A (.builtin "set.update.loop" ⟨[.ref S, .ref I], []⟩) R s1 := by
  have nw : S ∉ wr := fun h => out (W.sub _ h)
  have up : ∀ b ∈ wr, b ∈ S :: wr := fun b hb => List.mem_cons_of_mem _ hb
  intro k
  induction k with
  | zero =>
    rintro i s1 hk hi hst mv ⟨l, tx, mem, _⟩
    obtain rfl : i = n := by omega
    refine codeAny_builtin F.entry_set_update_loop ?_
    rw [Around.under_plainId F.plain_set_update_loop _]
    show wpAny _ A.in1 (pyNext (.ref I) >>= _) _ _ s1
    refine wpAny_bind (W.done s1 _ _ hst fun s' hm => ?_)
    show wpAny _ A.in1 (ret Value.none) _ _ s'
    rw [List.take_of_length_le (by omega)] at mem
    refine wpAny_pure (fin s s' l ?_ (tx.at fun o e => hm.heap S o nw e) mem rfl)
    rcases mv with ⟨_, rfl⟩ | mv
    · exact hm.mono up
    · exact Moved.trans W.gtrans mv (hm.mono up)
  | succ k ih =>
    rintro i s1 hk hi hst mv ⟨l, tx, mem, ll⟩
    refine codeAny_builtin F.entry_set_update_loop ?_
    rw [Around.under_plainId F.plain_set_update_loop _]
    show wpAny _ A.in1 (pyNext (.ref I) >>= _) _ _ s1
    refine wpAny_bind (W.item i s1 _ _ (by omega) hst fun v s' hP hst' hm => ?_)
    obtain ⟨z, t, hz, rfl⟩ := hval i v hP
    show wpAny _ A.in1 (holding [Value.str z t] (setAdd S (.str z t)) >>= _) _ _ s'
    refine wpAny_bind (wpAny_holding ?_)
    unfold setAdd
    refine wpAny_holding (wpAny_bind ((strKind P w).pyHash (k := z) (Froz.is_str z t) ?_))
    refine tx_put (s := { s' with toks := s'.toks + 1 }) (tx.at fun o e => hm.heap S o nw e) (by omega) fun h' b sb tx2 => ?_
    refine wpAny_pure ⟨plainId_quiet F.plain_set_update_loop _, ih (i + 1) _ (by omega) (by omega) (W.frame _ s' _ _ hst' (Nat.le_succ _) fun b hb o e => ?_) (.inr ?_) ⟨_, tx2, fun x => ?_, ?_⟩⟩
    · rw [sb.2 b fun y => out (by rw [← y]; exact hb)]
      exact e
    · have m1 : Moved (S :: wr) G s1 { s' with heap := h', toks := s'.toks + 1 } := (hm.mono up).then_heap (Nat.le_succ _) fun b o hb e => by
        rw [sb.2 b fun y => hb (by rw [y]; exact List.mem_cons_self)]
        exact e
      rcases mv with ⟨_, rfl⟩ | mv
      · exact m1
      · exact Moved.trans W.gtrans mv m1
    · rw [List.take_add_one, hz]
      by_cases y : z ∈ l
      · rw [if_pos y, mem, List.mem_append]
        refine ⟨.inl, fun q => q.elim id fun q => ?_⟩
        rw [List.mem_singleton.mp q]
        exact (mem z).mp y
      · rw [if_neg y, List.mem_cons, List.mem_append, mem]
        refine ⟨fun q => q.elim (fun e => .inr (by rw [e]; exact List.mem_singleton.mpr rfl)) .inl, fun q => q.elim .inr fun e => .inl (List.mem_singleton.mp e)⟩
    · split
      · omega
      · rw [List.length_cons]
        omega
/-- what set(x) gives -/
abbrev SetEnd (P : Program) (w : World) (s : Shared) (ns : List Str) (Q : Value → Shared → Prop) : Prop := ∀ (h' : Heap) (tk : Nat) (l : List Str), SetTx P w h' s.heap.objs.size l → (∀ x, x ∈ l ↔ x ∈ ns) → (∀ b o, s.heap.get? b = some o → h'.get? b = some o) → Q (.ref s.heap.objs.size) { s with heap := h', toks := tk }
/-- the loop of a new set over x, from the iterator's making on -/
theorem fill_from {x : Addr} {items : Array Value} {ns : List Str} {R : Result → Shared → Prop} {T : String} {Pv : Nat → Value → Prop} {St : Nat → Heap → Prop} (hlt : x < s.heap.objs.size) (hn : items.size = ns.length) (hb : ns.length + 1 < scanBound) (hval : ∀ i v, Pv i v → PvS ns i v)
    (W : Walks P w A.in1 (s.heap.push (setOb w)).objs.size [(s.heap.push (setOb w)).objs.size, x] [(s.heap.push (setOb w)).objs.size] items.size Pv St) (hst : St 0 ((s.heap.push (setOb w)).push { cls := .type T, data := .fields #[.ref x, .int 0 0] }))
    (hR : SetEnd P w s ns fun _ s' => R (.ok (.ret .none)) s') :
    codeAny (model P w) A (.builtin "set.update.loop" ⟨[.ref s.heap.objs.size, .ref (s.heap.push (setOb w)).objs.size], []⟩) R { s with heap := (s.heap.push (setOb w)).push { cls := .type T, data := .fields #[.ref x, .int 0 0] } } := by
  have sz : (s.heap.push (setOb w)).objs.size = s.heap.objs.size + 1 := Heap.size_push ..
  have at0 : ((s.heap.push (setOb w)).push { cls := .type T, data := .fields #[.ref x, .int 0 0] }).get? s.heap.objs.size = some (setOb w) := Heap.get?_push_of_some _ (Heap.get?_push_size _ rfl)
  have hSf : s.heap.objs.size ∉ [(s.heap.push (setOb w)).objs.size, x] := by
    rw [sz]
    intro z
    rcases List.mem_cons.mp z with z | z
    · exact Nat.ne_of_lt (Nat.lt_succ_self _) z
    · exact Nat.ne_of_gt hlt (List.mem_singleton.mp z)
  refine fill_txts (s := { s with heap := (s.heap.push (setOb w)).push { cls := .type T, data := .fields #[.ref x, .int 0 0] } }) W.toS s.heap.objs.size hSf ns hn hb hval (fun s0 s' l hm tx mem e => ?_) (items.size - 0) 0 _ (by omega) (Nat.zero_le _) hst (.inl ⟨rfl, rfl⟩) ⟨[], setTx_new at0, fun y => by simp, Nat.le_refl 0⟩
  subst e
  obtain ⟨h', g', d', tk', os'⟩ := s'
  obtain rfl : g' = s.gens := hm.gens
  obtain rfl : d' = s.drawn := hm.drawn
  obtain rfl : os' = s.os := hm.os
  refine hR h' tk' l tx mem fun b o e => hm.heap b o ?_ (Heap.get?_push_of_some _ (Heap.get?_push_of_some _ e))
  have z1 := Heap.lt_size e
  rw [sz]
  intro z
  rcases List.mem_cons.mp z with z | z
  · exact Nat.ne_of_lt z1 z
  · exact Nat.ne_of_lt (Nat.lt_succ_of_lt z1) (List.mem_singleton.mp z)
/-- set(x), by what its filling does -/
theorem set_by {x : Addr} {ns : List Str} {Q : Value → Shared → Prop} (q : SetEnd P w s ns Q)
    (fill : ∀ R : Result → Shared → Prop, (SetEnd P w s ns fun _ s' => R (.ok (.ret .none)) s') → wpAny (model P w) A.in1.in1 (Builtin.«set.__init__» ⟨[.ref s.heap.objs.size, .ref x], []⟩)
      (fun fin s' => match fin with | .done f => R (.ok f) s' | .again c' => c'.quiet = true ∧ codeAny (model P w) A.in1 c' R s') (fun e s' => R (.error e) s') { s with heap := s.heap.push (setOb w) }) :
    wpAny (model P w) A (call (.type "set") [.ref x]) Q E s := by
  have C := F.called_set
  obtain ⟨cn, tl, hmro⟩ := C.mro
  have c1 := C.made
  have c2 := C.sub
  have c3 := C.notType
  have c4 := C.canCreate
  have c5 := F.typeCall_set_1 (.ref x)
  refine wpAny_call (codeAny_of_tree (wpAny_pure ⟨Code.quiet_builtin _ (by decide +kernel), codeAny_builtin F.entry_type_call ?_⟩))
  rw [Around.under_plain (weight_type_call_type "set" [.ref x] []) rfl]
  repeat (any_goals (first | assumption | wp_step))
  refine codeAny_mono (code_set_led1 (.ref x) (E := E) (Q₁ := fun v s1 => v = .ref s.heap.objs.size ∧ s1 = { s with heap := s.heap.push (setOb w) }) ⟨rfl, rfl⟩) fun r s1 hr => ?_
  match r, hr with
  | .error e, hr => exact hr
  | .ok (.ret v), hr =>
    obtain ⟨rfl, rfl⟩ := hr
    have hT : Shared.TypeIs { s with heap := s.heap.push (setOb w) } (.ref s.heap.objs.size) "set" := ⟨_, Heap.get?_push_size _ rfl, rfl⟩
    have c6 := C.init.lookup
    have c7 := C.init.bind (.ref s.heap.objs.size)
    repeat (any_goals (first | assumption | wp_step))
    refine codeAny_mono (codeAny_call_builtin (R := wants (fun r s2 => r = .none ∧ ∃ h' tk l, s2 = { s with heap := h', toks := tk } ∧ SetTx P w h' s.heap.objs.size l ∧ (∀ x, x ∈ l ↔ x ∈ ns) ∧ ∀ b o, s.heap.get? b = some o → h'.get? b = some o) E)
      C.init.plain F.entry_set_init (check_set_init_1 hT ?_)) fun r2 s2 hr2 => ?_
    · exact fill _ fun h' tk l h1 h2 h3 => ⟨rfl, h', tk, l, rfl, h1, h2, h3⟩
    · match r2, hr2 with
      | .error e, hr2 => exact hr2
      | .ok (.ret v), hr2 =>
        obtain ⟨rfl, h', tk, l, rfl, h1, h2, h3⟩ := hr2
        repeat (any_goals (first | assumption | wp_step))
        exact q _ _ _ h1 h2 h3
      | .ok .next, hr2 => exact hr2.elim
      | .ok .brk, hr2 => exact hr2.elim
      | .ok .cont, hr2 => exact hr2.elim
  | .ok .next, hr => exact hr.elim
  | .ok .brk, hr => exact hr.elim
  | .ok .cont, hr => exact hr.elim
theorem vals_size {items : Array Value} {ns : List Str} (r : Vals (ns.map V.str) items.toList) : ns.length = items.size := by
  have z := r.length
  rw [List.length_map] at z
  rw [z]
  exact Array.length_toList
theorem pvs_of {items : Array Value} {ns : List Str} (r : Vals (ns.map V.str) items.toList) : ∀ i v, items[i]? = some v → PvS ns i v := fun i v hv => by
  have hl := vals_size r
  have hi : i < ns.length := by rw [hl]; exact (Array.getElem?_eq_some_iff.mp hv).1
  obtain ⟨u, hu, ru⟩ := r.get (i := i) (x := V.str ns[i]) (by rw [List.getElem?_map, List.getElem?_eq_getElem hi]; rfl)
  rw [Array.getElem?_toList, hv] at hu
  cases hu
  obtain ⟨t, e⟩ := ru
  exact ⟨ns[i], t, List.getElem?_eq_getElem hi, e⟩
theorem set_list {x : Addr} {items : Array Value} {ns : List Str} {Q : Value → Shared → Prop} (hh : A.in1.in1.handled = none) (hl : s.heap.IsList x items) (r : Vals (ns.map V.str) items.toList) (hb : ns.length + 1 < scanBound) (q : SetEnd P w s ns Q) :
    wpAny (model P w) A (call (.type "set") [.ref x]) Q E s := set_by q fun R hR => by
  have hn := vals_size r
  have hl1 : (s.heap.push (setOb w)).IsList x items := hl.push _
  have hl0 := hl1
  have hlt : x < s.heap.objs.size := by
    obtain ⟨o, ho, _⟩ := hl
    exact Heap.lt_size ho
  obtain ⟨ol, hol, hcl, nl, hdl⟩ := hl1
  obtain ⟨ocls, odict, odata, oslots⟩ := ol
  simp only at hcl hdl
  subst hcl; subst hdl
  have d1 := F.sub_list_set
  have d2 := F.sub_list_frozenset
  have d3 : (Value.type "list" == Value.type "dict") = false := by decide
  unfold Builtin.«set.__init__» noKeywords Builtin.Frozenset.updateFrom
  generalize hPI : pyIter = PI
  wp_walk
  subst hPI
  refine wpAny_pyIter_list hl0 (wpAny_bind (wpAny_runValue ?_))
  have hne : x ≠ (s.heap.push (setOb w)).objs.size := by rw [Heap.size_push]; exact Nat.ne_of_lt (Nat.lt_succ_of_lt hlt)
  refine fill_from (s := s) hlt hn.symm hb (pvs_of r) (Walks.list (by simpa using hh) (s.heap.push (setOb w)).objs.size x hne items) ⟨⟨_, Heap.get?_push_size _ rfl, rfl, rfl⟩, (hl.push _).push _⟩ fun h' tk l h1 h2 h3 => ?_
  show wpAny _ _ _ _ _ _
  refine wpAny_pure ?_
  show wpAny _ _ (ret Value.none) _ _ _
  exact wpAny_pure (hR h' tk l h1 h2 h3)
theorem set_tuple {x : Addr} {items : Array Value} {ns : List Str} {Q : Value → Shared → Prop} (hh : A.in1.in1.handled = none) (hl : s.heap.IsTuple x items) (r : Vals (ns.map V.str) items.toList) (hb : ns.length + 1 < scanBound) (q : SetEnd P w s ns Q) :
    wpAny (model P w) A (call (.type "set") [.ref x]) Q E s := set_by q fun R hR => by
  have hn := vals_size r
  obtain ⟨ol, hol, hcl, nl, hdl⟩ := hl
  have hlt : x < s.heap.objs.size := Heap.lt_size hol
  have hl1 : (s.heap.push (setOb w)).IsTuple x items := ⟨_, Heap.get?_push_of_some _ hol, hcl, nl, hdl⟩
  have hl2 : ∀ o : Obj, ((s.heap.push (setOb w)).push o).IsTuple x items := fun o => ⟨_, Heap.get?_push_of_some _ (Heap.get?_push_of_some _ hol), hcl, nl, hdl⟩
  obtain ⟨ocls, odict, odata, oslots⟩ := ol
  simp only at hcl hdl
  subst hcl; subst hdl
  have hol2 : (s.heap.push (setOb w)).get? x = some { cls := .type "tuple", dict := odict, data := .seq items nl, slots := oslots } := Heap.get?_push_of_some _ hol
  have d1 := F.sub_tuple_set
  have d2 := F.sub_tuple_frozenset
  have d3 : (Value.type "tuple" == Value.type "dict") = false := by decide
  unfold Builtin.«set.__init__» noKeywords Builtin.Frozenset.updateFrom
  generalize hPI : pyIter = PI
  wp_walk
  subst hPI
  refine wpAny_pyIter_tuple hl1 (wpAny_bind (wpAny_runValue ?_))
  have hne : x ≠ (s.heap.push (setOb w)).objs.size := by rw [Heap.size_push]; exact Nat.ne_of_lt (Nat.lt_succ_of_lt hlt)
  refine fill_from (s := s) hlt hn.symm hb (pvs_of r) (Walks.tuple (by simpa using hh) (s.heap.push (setOb w)).objs.size x hne items) ⟨⟨_, Heap.get?_push_size _ rfl, rfl, rfl⟩, hl2 _⟩ fun h' tk l h1 h2 h3 => ?_
  show wpAny _ _ _ _ _ _
  refine wpAny_pure ?_
  show wpAny _ _ (ret Value.none) _ _ _
  exact wpAny_pure (hR h' tk l h1 h2 h3)
/-- a text of a value -/
def txOf : Value → Str
  | .str k _ => k
  | _ => ""
theorem mem_len {T l : List Str} (nd : l.Nodup) (sub : ∀ x ∈ l, x ∈ T) (hl : T.length = l.length) : T.Perm l := by
  induction l generalizing T with
  | nil => rw [List.eq_nil_of_length_eq_zero hl]
  | cons x l ih =>
    obtain ⟨n1, n2⟩ := List.nodup_cons.mp nd
    have hx := sub x List.mem_cons_self
    refine (List.perm_cons_erase hx).trans ((ih n2 (fun y hy => ?_) ?_).cons x)
    · exact (List.mem_erase_of_ne fun e => n1 (by rw [← e]; exact hy)).mpr (sub y (List.mem_cons_of_mem _ hy))
    · rw [List.length_erase_of_mem hx, hl]
      rfl
theorem sorted_tx {Q : Value → Shared → Prop} (x : SetTx P w s.heap a l) (hh : A.in1.handled = none) (hu : A.in1.in1.units < cLine) (hl : l.length < scanBound)
    (q : ∀ s' p (out : List Value) (c : Nat) (ys : List Str), (∀ b o, s.heap.get? b = some o → s'.heap.get? b = some o) → s'.gens = s.gens → s'.os = s.os → s.heap.objs.size ≤ p → s'.heap.get? p = some (seqObj "list" out.toArray c) → Vals (ys.map V.str) out → ys.Perm l →
      Srtd (fun x y => ltKD (.a (.inr x)) (.a (.inr y))) ys → Q (.ref p) s') : wpAny (model P w) A (call (.builtin "sorted") [.ref a]) Q E s := by
  obtain ⟨D, ho, tx, nd, ri, le⟩ := x
  have hsz : D.1.size = l.length := tx.sz
  refine Calls.call_function_entry kind_sorted plain_sorted entry_sorted (args_sorted1 _) ?_
  unfold Builtin.«sorted»
  refine wpAny_bind (m := checkCount "sorted" 1 1 _) (wpAny_pure ?_)
  refine wpAny_bind (collect_set (A := A.in1) hh ⟨_, ho, rfl, rfl⟩ tx.fit (by omega) ri le fun s1 vs k1 hz g1 o1 pm => ?_)
  have isS : ∀ v ∈ vs, ∃ k u, v = Value.str k u := fun v hv => by
    obtain ⟨e, he, rfl⟩ := List.mem_map.mp (pm.mem_iff.mp hv)
    obtain ⟨⟨k, hk, _⟩, _⟩ := tx.el e he
    obtain ⟨t, z⟩ := Value.isStrOf_shape (x := k) (v := e.2) hk
    exact ⟨k, t, z⟩
  have hvl : vs.length = l.length := by rw [pm.length_eq, List.length_map, Array.length_toList]; exact hsz
  have pT : (vs.map txOf).Perm l := mem_len nd (fun k hk => by
    obtain ⟨e, he, hk⟩ := (tx.mem k).mp hk
    obtain ⟨t, z⟩ := Value.isStrOf_shape (x := k) (v := e.2) hk
    exact List.mem_map.mpr ⟨e.2, pm.mem_iff.mpr (List.mem_map.mpr ⟨e, he, rfl⟩), by rw [z]; rfl⟩) (by rw [List.length_map]; exact hvl)
  have hz' : vs.length ≤ sizeLine := by rw [hvl]; exact fits_of_scanBound hl
  refine wpAny_bind (wpAny_newList ?_ hz')
  have hoL : (s1.heap.push (seqObj "list" vs.toArray 0)).get? s1.heap.objs.size = some (seqObj "list" vs.toArray 0) := Heap.get?_push_size _ rfl
  have O : Swo fun v u : Value => ltKD (.a (.inr (txOf v))) (.a (.inr (txOf u))) := ⟨fun x y => lin_KD.swo.asym _ _, fun x y z => lin_KD.swo.tr _ _ _⟩
  refine wpAny_bind (wpAny_holding (wpAny_call_entry slot_list_sort ⟨_, hoL, rfl⟩ entry_list_sort (list_sort_ord (ltv := fun v u => ltKD (.a (.inr (txOf v))) (.a (.inr (txOf u)))) O hoL hz' (fun h2 h' keep => ?_) fun out hs hb => ⟨_, rfl, ?_⟩) (args_list_sort _)))
  · refine sortable (k := fun v => .a (.inr (txOf v))) (sh := .a true) hu h2 fun v hv => ?_
    obtain ⟨k, u, rfl⟩ := isS v hv
    exact ⟨keyIs_str k u, rfl⟩
  · obtain ⟨c, hc⟩ := sortedHeap_at (vs := vs) (out := out.toArray) hoL
    have po := hb.perm
    refine wpAny_pure ⟨_, rfl, q _ s1.heap.objs.size out c (out.map txOf) (fun b u e => ?_) g1 o1 hz hc ?_ ((po.map txOf).trans pT) (List.pairwise_map.mpr hs)⟩
    · have y := k1 b u e
      have hlt := Heap.lt_size y
      show (sortedHeap (s1.heap.push (seqObj "list" vs.toArray 0)) s1.heap.objs.size vs out.toArray).get? b = some u
      rw [sortedHeap_old (Nat.ne_of_lt hlt) (by rw [size_push']; exact Nat.lt_succ_of_lt hlt)]
      exact Heap.get?_push_of_some _ y
    · have key : ∀ o : List Value, (∀ v ∈ o, ∃ k u, v = Value.str k u) → Vals ((o.map txOf).map V.str) o := fun o => by
        induction o with
        | nil => exact fun _ => .nil
        | cons v o ih =>
          intro h
          obtain ⟨k, u, rfl⟩ := h v List.mem_cons_self
          exact .cons ⟨u, rfl⟩ (ih fun y hy => h y (List.mem_cons_of_mem _ hy))
      exact key out fun v hv => isS v (po.subset hv)
end
/-- such a set at its address -/
def TxO (P : Program) (w : World) (a : Addr) (l : List Str) : HO := .ext fun h => SetTx P w h a l
section
variable {X : Cx}
def rSetTx (K : PySem.W.Frag) (P : Program) (w : World) : List V → Hp → VK → Prop := fun vs H Q => ∃ (a : Addr) (ns : List Str), vs = [.ref a] ∧ (SqL K H a (ns.map V.str) ∨ SqT K H a (ns.map V.str)) ∧ ns.length ≤ 4000 ∧ ∀ p l, (∀ x, x ∈ l ↔ x ∈ ns) → l.Nodup → H p = none → Q (.ref p) (upd H p (TxO P w p l))
theorem cr_setTx (hc : X.calm = true) : CallR X (.type "set") (rSetTx X.K X.prog X.w) := by
  intro pins s σ H vs us Q I r h
  obtain ⟨a, ns, rfl, ha, hn, q⟩ := h
  rw [Vals.ref1 r]
  have hb : ns.length + 1 < scanBound := by unfold scanBound; omega
  have fin : SetEnd X.prog X.w s ns (EP X pins σ Q) := fun h' tk l tx mem hk => by
    have hf := I.hok.fresh (Nat.le_refl s.heap.objs.size)
    have nd : l.Nodup := by obtain ⟨_, _, _, nd, _⟩ := tx; exact nd
    have ex : ∃ o, h'.get? s.heap.objs.size = some o := by obtain ⟨D, e, _⟩ := tx; exact ⟨_, e⟩
    exact ⟨.ref _, upd H s.heap.objs.size (TxO X.prog X.w s.heap.objs.size l), I.laid (t' := tk) hk (Nat.le_refl _) ⟨tx, ex, fun h1 h2 p k => p.at k⟩, rfl, q _ l mem nd hf⟩
  have hh : X.A.in1.in1.handled = none := by have z := I.ok.hd hc; simpa using z
  rcases ha with ha | ha
  · obtain ⟨its, rv, pl, hz⟩ := I.list ha
    exact set_list hh pl.isList rv hb fin
  · obtain ⟨its, rv, pl, hz⟩ := I.tuple ha
    exact set_tuple hh pl rv hb fin
def rSortTx (P : Program) (w : World) : List V → Hp → VK → Prop := fun vs H Q => ∃ (a : Addr) (l : List Str), vs = [.ref a] ∧ H a = some (TxO P w a l) ∧ l.length ≤ 4000 ∧ ∀ (ys : List Str) (p : Addr), ys.Perm l → Srtd (fun x y => ltKD (.a (.inr x)) (.a (.inr y))) ys → H p = none → Q (.ref p) (upd H p (.lst (ys.map V.str)))
theorem cr_sortTx (hc : X.calm = true) (hu : X.A.in1.in1.units < cLine) : CallR X (.builtin "sorted") (rSortTx X.prog X.w) := by
  intro pins s σ H vs us Q I r h
  obtain ⟨a, l, rfl, ha, hl, q⟩ := h
  rw [Vals.ref1 r]
  have tx : SetTx X.prog X.w s.heap a l := (I.hok a _ ha).1
  have hh : X.A.in1.handled = none := by have z := I.ok.hd hc; simpa using z
  refine sorted_tx tx hh hu (by unfold scanBound; omega) fun s' p out c ys k g o hp hg rv pm so => ?_
  have hn : H p = none := I.hok.fresh hp
  have hlen : (ys.map V.str).length ≤ sizeLine := by rw [List.length_map, pm.length_eq]; exact Nat.le_trans hl (by rw [sizeLine_eq]; omega)
  have J : Inv X pins σ (upd H p (.lst (ys.map V.str))) { s with heap := s'.heap, gens := s'.gens, drawn := s'.drawn, toks := s'.toks } :=
    I.call (ch := []) (Un.laid k hp hn) (I.hok.laid k hp ⟨hlen, out, c, rv, hg⟩) (by rw [g]; exact I.bare) (fun _ z => nomatch z)
  have e : s' = { s with heap := s'.heap, gens := s'.gens, drawn := s'.drawn, toks := s'.toks } := by
    cases s'
    cases s
    cases o
    rfl
  rw [e]
  exact ⟨.ref p, _, J, rfl, q ys p pm so hn⟩
end
end L2.Sr
set_option maxRecDepth 100000
set_option maxHeartbeats 8000000
namespace L2.M2
open PySem PySem.Spec PyProof.Rows L2 Mx L2.Mb Evl Mv L2.C Sr Srt SrtO LamX NdefX
/-! ### what blockers reads -/
def iOr (w1 w2 : TI) : TI := fun σ H R => w1 σ H R ∨ w2 σ H R
theorem pi_or {X : Cx} {tg iter : Expr} {w1 w2 : TI} (h1 : PI X tg iter w1) (h2 : PI X tg iter w2) : PI X tg iter (iOr w1 w2) := ⟨fun pins s σ H R I h => h.elim (h1.run pins s σ H R I) (h2.run pins s σ H R I)⟩
theorem EvI.l {σ : L2.St} {H : Hp} {w1 w2 : TI} {xs : List V} (h : EvI w1 σ H xs) : EvI (iOr w1 w2) σ H xs := fun H0 e R k => .inl (h H0 e R k)
theorem EvI.r {σ : L2.St} {H : Hp} {w1 w2 : TI} {xs : List V} (h : EvI w2 σ H xs) : EvI (iOr w1 w2) σ H xs := fun H0 e R k => .inr (h H0 e R k)
/-- sorted without doubles -/
def IsI (I ns : List Str) : Prop := Srtd ltN I ∧ I.Nodup ∧ ∀ x, x ∈ I ↔ x ∈ ns
abbrev tSS (K : W.Frag) (P : Program) (w : World) (te : TE) : TE := tCB (rSortTx P w) (tCons (tCB (rSetTx K P w) (tCons te tNil)) tNil)
section
variable {P : Program} {w : World} {K : W.Frag} {σ : L2.St} {H : Hp} {te tk tv tl : TE} {t : TT} {wi : TI}
theorem ss_core {a : Addr} {ns : List Str} {H2 : Hp} {Q : VK} (ha : SqL K H2 a (rowV ns) ∨ SqT K H2 a (rowV ns)) (hn : ns.length ≤ 4000) (q : ∀ xs p H3, (∃ I, IsI I ns ∧ xs = rowV I) → H2 p = none → Ex H2 H3 → H3 p = some (.lst xs) → Q (.ref p) H3) :
    rSetTx K P w [.ref a] H2 fun x H3 => rSortTx P w [x] H3 Q := by
  refine ⟨a, ns, rfl, ha, hn, fun p l mem nd np => ⟨p, l, rfl, upd_same, ?_, fun ys r pm so nr => ?_⟩⟩
  · have sub : l.length ≤ ns.length := by
      have h : ∀ (l ns : List Str), l.Nodup → (∀ x ∈ l, x ∈ ns) → l.length ≤ ns.length := fun l => by
        induction l with
        | nil => exact fun _ _ _ => Nat.zero_le _
        | cons x l ih =>
          intro ns nd sub
          obtain ⟨n1, n2⟩ := List.nodup_cons.mp nd
          have hx := sub x List.mem_cons_self
          have z := ih (ns.erase x) n2 fun y hy => (List.mem_erase_of_ne fun e => n1 (by rw [← e]; exact hy)).mpr (sub y (List.mem_cons_of_mem _ hy))
          rw [List.length_erase_of_mem hx] at z
          have : 0 < ns.length := List.length_pos_of_mem hx
          rw [List.length_cons]
          omega
      exact h l ns nd fun x hx => (mem x).mp hx
    omega
  · have eN := (Ex.new (o := TxO P w p l) np).trans (Ex.new (o := .lst (rowV ys)) nr)
    exact q _ r _ ⟨ys, ⟨so, pm.nodup_iff.mpr nd, fun x => (pm.mem_iff).trans (mem x)⟩, rfl⟩ (fresh_back (Ex.new np) nr) eN upd_same
theorem ely_ss {ns : List Str} (h : EvL te σ H (rowV ns)) (hn : ns.length ≤ 4000) : EvLy (tSS K P w te) σ H (fun xs => ∃ I, IsI I ns ∧ xs = rowV I) := fun H1 e Q q => h H1 e _ fun a H2 na e2 ha => ss_core (.inl (sq_of ha)) hn fun xs p H3 px np e3 hp => q xs p H3 px (fresh_back e2 np) (e2.trans e3) hp
theorem ely_ssO {a : Addr} {ns : List Str} (h : Ev te σ H (.ref a)) (ha : SqL K H a (rowV ns) ∨ SqT K H a (rowV ns)) (hn : ns.length ≤ 4000) : EvLy (tSS K P w te) σ H (fun xs => ∃ I, IsI I ns ∧ xs = rowV I) := fun H1 e Q q => h H1 e _ fun H2 e2 =>
  ss_core (ha.elim (fun z => .inl (ex_l (e.trans e2) z)) fun z => .inr (ex_t (e.trans e2) z)) hn fun xs p H3 px np e3 hp => q xs p H3 px (fresh_back e2 np) (e2.trans e3) hp
/-- a comprehension over such a list -/
theorem ely_lc {α : Type} {c : α → V} {j : Nat} {vs : List Nat} {Pr : List V → Prop} {R : List α → Prop} (v : α → V) (h : EvLy tl σ H Pr) (hP : ∀ xs, Pr xs → ∃ l, R l ∧ xs = l.map c ∧ l.length ≤ 40000) (hw : ∀ x, wipe ((wipe σ vs).set j (some x)) vs = wipe σ vs)
    (he : ∀ l, R l → ∀ x ∈ l, ∀ H1, Ex H H1 → Ev te ((wipe σ vs).set j (some (c x))) H1 (v x)) : EvLy (tLc (iList K tl) (gName j) tYes te vs) σ H (fun ys => ∃ l, R l ∧ ys = l.map v) := fun H0 e Q q => h H0 e _ fun xs p H1 px np e1 hp => by
  obtain ⟨l, hR, rfl, hz⟩ := hP xs px
  have w1 := el_lcI (wi := iList K fun _ H' Q' => Q' (.ref p) H') (σ := σ) (H := H1) (t := tYes) (te := te) (l := l) (c := c) (j := j) (vs := vs) (fun _ => true) v (eo_list (fun _ _ _ q => q _ (Ex.refl _)) (sq_of hp)).ei hz hw (fun x hx H2 e2 => et_yes) (fun x hx H2 e2 _ => he l hR x hx H2 ((e.trans e1).trans e2))
  rw [List.filter_eq_self.mpr fun _ _ => rfl] at w1
  exact w1 H1 (Ex.refl _) Q fun r H2 nr e2 hr => q _ r H2 ⟨l, hR, rfl⟩ (fresh_back e1 nr) (e1.trans e2) hr
/-- the sum of such a list -/
theorem ev_sumY {Pr : List V → Prop} {n : Nat} (h : EvLy te σ H Pr) (hP : ∀ xs, Pr xs → ∃ ns : List Nat, xs = ns.map natV ∧ ns.sum = n) : Ev (tCB (rSum K) (tCons te tNil)) σ H (natV n) := fun H1 e Q q => h H1 e _ fun xs p H2 px np e2 hp => by
  obtain ⟨ns, rfl, rfl⟩ := hP xs px
  have e1 : ns.map natV = (ns.map fun n : Nat => (n : Int)).map V.int := by
    rw [List.map_map]
    rfl
  have e3 := sum_cast ns
  refine ⟨p, _, rfl, sq_of (by rw [hp, e1]), ?_⟩
  rw [e3]
  exact q H2 e2
/-- a new dict -/
def EvDk (te : TE) (σ : L2.St) (H : Hp) (kvs : List (Key × V)) : Prop := ∀ H1, Ex H H1 → ∀ Q : VK, (∀ p H2, H1 p = none → Ex H1 H2 → H2 p = some (.dK kvs) → Q (.ref p) H2) → te σ H1 Q
def bitsD (I : List Str) (n : Nat) : List (Key × V) := (List.range n).map fun k => ((Sum.inr (I.getD k "") : Key), natV (2 ^ k))
theorem getD_inj {I : List Str} (nd : I.Nodup) {i j : Nat} (hi : i < I.length) (hj : j < I.length) (e : I.getD i "" = I.getD j "") : i = j := by
  rw [List.getD_eq_getElem?_getD, List.getD_eq_getElem?_getD, List.getElem?_eq_getElem hi, List.getElem?_eq_getElem hj] at e
  exact (List.getElem_inj nd).mp e
theorem bits_none {I : List Str} (nd : I.Nodup) {k : Nat} (hk : k < I.length) : ∀ n, n ≤ k → valV (bitsD I n) (Sum.inr (I.getD k "")) = none := fun n hn => by
  unfold valV bitsD
  rw [List.find?_map, List.find?_eq_none.mpr]
  · rfl
  · intro i hi
    have il := List.mem_range.mp hi
    simp only [Function.comp, decide_eq_true_eq]
    intro z
    injection z with z
    have := getD_inj nd (by omega) hk z
    omega
theorem bits_succ (I : List Str) (n : Nat) : bitsD I (n + 1) = bitsD I n ++ [(Sum.inr (I.getD n ""), natV (2 ^ n))] := by
  unfold bitsD
  rw [List.range_succ, List.map_append]
  rfl
theorem bits_some {I : List Str} (nd : I.Nodup) {k : Nat} (hk : k < I.length) : ∀ n, k < n → n ≤ I.length → valV (bitsD I n) (Sum.inr (I.getD k "")) = some (natV (2 ^ k))
  | n + 1, h, hn => by
    rw [bits_succ]
    unfold valV
    rw [List.find?_append]
    by_cases e : k = n
    · subst e
      have z := bits_none nd hk k (Nat.le_refl _)
      unfold valV at z
      rw [Option.map_eq_none_iff.mp z]
      simp
    · have z := bits_some nd hk n (by omega) (by omega)
      unfold valV at z
      cases y : (bitsD I n).find? fun kv => decide (kv.1 = Sum.inr (I.getD k "")) with
      | none => rw [y] at z; cases z
      | some p => rw [y] at z; exact z
theorem ed_bits {a : Addr} {I : List Str} {i j : Nat} {vs : List Nat} (h : Ev tl σ H (.ref a)) (hx : SqL K H a (rowV I)) (nd : I.Nodup) (hz : I.length ≤ 1000) (hw : ∀ x y, wipe (((wipe σ vs).set i (some x)).set j (some y)) vs = wipe σ vs)
    (hk : ∀ n H1, Ex H H1 → n < I.length → Ev tk (((wipe σ vs).set i (some (.int (n : Nat)))).set j (some (.str (I.getD n "")))) H1 (.str (I.getD n ""))) (hv : ∀ n H1, Ex H H1 → n < I.length → Ev tv (((wipe σ vs).set i (some (.int (n : Nat)))).set j (some (.str (I.getD n "")))) H1 (natV (2 ^ n))) :
    EvDk (tDc (iEnum K (tCons tl tNil)) (gTup K 2 (gCons (gName i) (gCons (gName j) gNil))) tYes tk tv vs) σ H (bitsD I I.length) := fun H0 e Q q => h H0 e _ fun H1 e1 => by
  refine ⟨a, rowV I, rfl, ex_l (e.trans e1) hx, fun D hD => ?_⟩
  have W := walk_enum (K := K) (a := a) (xs := rowV I)
  have ln : (rowV I).length = I.length := List.length_map ..
  let Pv : Nat → Hp → Prop := fun n H' => Ex H1 H' ∧ H' D = some (.dK (bitsD I n))
  refine ⟨fun n m H' => m = I.length - n ∧ n ≤ I.length ∧ Pv n H', ⟨I.length, by simp, Nat.zero_le _, Ex.new hD, upd_same⟩, ?_⟩
  rintro n m H2 ⟨rfl, hn, p⟩
  have hq := ex_l ((e.trans e1).trans p.1) hx
  by_cases hlt : n < I.length
  · refine .inr ⟨W.goes n H2 (by omega) hq, Pv (n + 1), fun H' p' => ⟨I.length - (n + 1), by omega, rfl, hlt, p'⟩, fun x H' y => ?_⟩
    obtain ⟨T, v1, v2, rfl, nT, rfl, z1, z2⟩ := W.yields n H2 x H' (by omega) hq y
    obtain rfl : V.int (n : Nat) = v1 := Option.some.inj z1
    obtain rfl := getD_of z2
    have eT := Ex.new (o := .tup [.int (n : Nat), .str (I.getD n "")]) nT
    have e3 := ((e.trans e1).trans p.1).trans eT
    refine ⟨T, [.int (n : Nat), .str (I.getD n "")], rfl, st_of upd_same, rfl, _, [.str (I.getD n "")], rfl, _, [], rfl, rfl, hw _ _, ?_⟩
    show tk _ _ _
    refine hk n _ e3 hlt _ (Ex.refl _) _ fun H4 e4 => hv n H4 (e3.trans e4) hlt H4 (Ex.refl _) _ fun H5 e5 => ⟨bitsD I n, Sum.inr (I.getD n ""), rfl, e5 _ _ (e4 _ _ (eT _ _ p.2)), sz_lt (by unfold bitsD; rw [List.length_map, List.length_range]; omega), ?_, ?_⟩
    · exact Ex.mut (((p.1.trans eT).trans e4).trans e5) hD
    · rw [upd_same, putK_new _ (bits_none nd hlt n (Nat.le_refl _)), bits_succ]
  · have en : n = I.length := by omega
    subst en
    refine .inl ⟨?_, q D H2 (fresh_back e1 hD) (e1.trans p.1) p.2⟩
    have z := W.stops H2 hq
    rw [ln] at z
    exact z
end
theorem sum_perm {l m : List Nat} (h : l.Perm m) : l.sum = m.sum := h.sum_nat
/-- the bits of a part's items -/
theorem part_sum {I r J : List Str} (nd : I.Nodup) (hJ : IsI J r) (sub : ∀ x ∈ r, x ∈ I) (b : Str → Nat) (hb : ∀ k, k < I.length → b (I.getD k "") = 2 ^ k) : (J.map b).sum = maskR I r := by
  have e : J.Perm (((List.range I.length).filter fun k => decide (I.getD k "" ∈ r)).map fun k => I.getD k "") := by
    refine (mem_len (T := J) (l := _) ?_ (fun x hx => ?_) ?_)
    · refine List.pairwise_map.mpr (List.Pairwise.imp_of_mem (R := fun a b => a ≠ b) ?_ (List.Pairwise.filter _ List.nodup_range))
      intro i j hi hj ne q
      exact ne (getD_inj nd (List.mem_range.mp (List.mem_filter.mp hi).1) (List.mem_range.mp (List.mem_filter.mp hj).1) q)
    · obtain ⟨k, hk, rfl⟩ := List.mem_map.mp hx
      exact (hJ.2.2 _).mpr (of_decide_eq_true (List.mem_filter.mp hk).2)
    · have nd2 : (((List.range I.length).filter fun k => decide (I.getD k "" ∈ r)).map fun k => I.getD k "").Nodup := by
        refine List.pairwise_map.mpr (List.Pairwise.imp_of_mem (R := fun a b => a ≠ b) ?_ (List.Pairwise.filter _ List.nodup_range))
        intro i j hi hj ne q
        exact ne (getD_inj nd (List.mem_range.mp (List.mem_filter.mp hi).1) (List.mem_range.mp (List.mem_filter.mp hj).1) q)
      have mem : ∀ x, x ∈ J ↔ x ∈ ((List.range I.length).filter fun k => decide (I.getD k "" ∈ r)).map fun k => I.getD k "" := fun x => by
        rw [hJ.2.2 x, List.mem_map]
        constructor
        · intro hx
          obtain ⟨k, hk, rfl⟩ := List.mem_iff_getElem.mp (sub x hx)
          have ek : I.getD k "" = I[k] := by rw [List.getD_eq_getElem?_getD, List.getElem?_eq_getElem hk]; rfl
          exact ⟨k, List.mem_filter.mpr ⟨List.mem_range.mpr hk, decide_eq_true (by rw [ek]; exact hx)⟩, ek⟩
        · rintro ⟨k, hk, rfl⟩
          exact of_decide_eq_true (List.mem_filter.mp hk).2
      exact ((List.perm_ext_iff_of_nodup hJ.2.1 nd2).mpr mem).length_eq
  have e2 := sum_perm (e.map b)
  rw [e2, List.map_map]
  unfold maskR
  refine congrArg List.sum (List.map_congr_left fun k hk => ?_)
  exact hb k (List.mem_range.mp (List.mem_filter.mp hk).1)
end L2.M2
set_option maxRecDepth 100000
set_option maxHeartbeats 8000000
namespace L2.M2
open PySem PySem.Spec PyProof.Rows L2 Mx L2.Mb Evl Mv L2.C Sr Srt SrtO LamX NdefX
/-! ### blockers -/
theorem bit_of (k m : Nat) : decide (2 ^ k &&& m ≠ 0) = m.testBit k := by
  cases h : m.testBit k with
  | true => exact decide_eq_true (meet_and.mp ⟨k, Nat.testBit_two_pow_self, h⟩)
  | false =>
    refine decide_eq_false fun z => ?_
    obtain ⟨i, h1, h2⟩ := meet_and.mpr z
    rw [Nat.testBit_two_pow] at h1
    rw [← of_decide_eq_true h1, h] at h2
    cases h2
theorem am_sub {l m : List Str} (nd : l.Nodup) (sub : ∀ x ∈ l, x ∈ m) : l.length ≤ m.length := by
  induction l generalizing m with
  | nil => exact Nat.zero_le _
  | cons x l ih =>
    obtain ⟨n1, n2⟩ := List.nodup_cons.mp nd
    have hx := sub x List.mem_cons_self
    have z := ih (m := m.erase x) n2 fun y hy => (List.mem_erase_of_ne fun e => n1 (by rw [← e]; exact hy)).mpr (sub y (List.mem_cons_of_mem _ hy))
    rw [List.length_erase_of_mem hx] at z
    have : 0 < m.length := List.length_pos_of_mem hx
    rw [List.length_cons]
    omega
theorem mask_one {I : List Str} (nd : I.Nodup) {n : Nat} (hn : n < I.length) : maskR I [I.getD n ""] = 2 ^ n := Nat.eq_of_testBit_eq fun i => by
  rw [maskR_bit, Nat.testBit_two_pow]
  by_cases e : i < I.length
  · rw [decide_eq_true e, Bool.true_and]
    refine decide_eq_decide.mpr ⟨fun z => (getD_inj nd e hn (List.mem_singleton.mp z)).symm, fun z => by rw [z]; exact List.mem_singleton.mpr rfl⟩
  · rw [decide_eq_false e, Bool.false_and]
    exact (decide_eq_false fun z => e (by omega)).symm
theorem rowV_range (I : List Str) : rowV I = (List.range I.length).map fun k => V.str (I.getD k "") := by
  have e : (List.range I.length).map (fun i => I.getD i "") = I := by
    refine List.ext_getElem (by simp) fun i h1 h2 => ?_
    simp [List.getD_eq_getElem?_getD, h2]
  rw [show (List.range I.length).map (fun k => V.str (I.getD k "")) = ((List.range I.length).map (fun i => I.getD i "")).map V.str from by rw [List.map_map]; rfl, e]
def spBk (K : W.Frag) (Tt : List (Addr × Str)) : Sp := fun vs H Q _ => ∃ (g : Addr) (ps : List (Addr × List Str)) (L8 : List Str), vs = [.ref g] ∧ (SqL K H g (ps.map fun q => .ref q.1) ∨ SqT K H g (ps.map fun q => .ref q.1)) ∧ (∀ q ∈ ps, H q.1 = some (.tup (rowV q.2))) ∧ ps.length ≤ 300 ∧ (∀ q ∈ ps, q.2.length ≤ 9) ∧
  L8.length ≤ 8 ∧ (∀ q ∈ ps, ∀ x ∈ q.2, x ∈ L8) ∧ Tabs Tt H ∧ ∀ I Bs rs t H', Srtd ltN I → I.Nodup → (∀ x, x ∈ I ↔ ∃ q ∈ ps, x ∈ q.2) → AllMin (ps.map fun q => maskR I q.2) Bs → Bs.Nodup → (∀ b ∈ Bs, b < 2 ^ 8) → rs.Perm (Bs.map (rowOf I)) → SrtR rs → ExtN H H' → Nn H H' → Tabs Tt H' → H t = none → RowT H' t rs → Q (.ref t) H'
section
variable {P : Program} {w : World} {K : W.Frag} {mg : Str → Option Value} {base : Heap} {f f3 f4 : Addr} {fd d3 d4 : FuncData} {Tt : List (Addr × Str)}
abbrev tBit (K : W.Frag) : TE := tCB (rTupO K) (tCons (tLc (iList K (tVar 1)) (gName 3) (tTrI K (tAn (tDGet (tVar 4) (tVar 3)) (tVar 7))) (tVar 3) [3]) tNil)
theorem ok_blockers (B : Bt mg) (DM : Fn0 P w K mg base "_meeting_also" 1 f3 d3 p_meeting_also (spMt K)) (DO : Fn0 P w K mg base "_in_order" 5 f4 d4 p_in_order (spIo Tt)) (F : FnP K "blockers" s_blockers f fd) : FnOk P w K mg base CX0 6 f fd p_blockers (spBk K Tt) := by
  refine F.ok sc_blockers (fun vs H Q E h => ?_) (fun cdv A outer s H vs Q E hr h => ?_)
  · obtain ⟨g, ps, L8, rfl, _⟩ := h
    rfl
  · obtain ⟨g, ps, L8, rfl, hg, hps, hz, hrow, h8, hL8, hT, k⟩ := h
    have nd := sc_blockers.nd
    have hu := Nat.lt_of_le_of_lt (Nat.add_le_add_left (show 1 ≤ 64 by decide) _) hr.units
    have hu2 := (hr.mono (show 2 ≤ 5 by decide)).in1.in1.units0
    refine ⟨_, PSs.nox (pss_cons (ps_set (i := 1) nd rfl (Or.inr rfl) (pe_callB (r := rSortTx P w) (cr_sortTx (by rfl) hu2) (by rfl) B.sorted (by decide +kernel) (pa_cons (pe_callTy (r := rSetTx K P w) (cr_setTx (by rfl)) (by rfl) B.set (by decide +kernel) (pa_cons (pe_lc2 (own := [("part", 2), ("item", 3)]) (vs1 := [3]) (g := gName 2) (g1 := gName 3) (tt := tYes) (wi1 := iTup K (tVar 2)) (tt1 := tYes) (te := tVar 3) (by rfl) nd (pi_or (pi_list (pv 0)) (pi_tup (pv 0))) (blkOk_by (N := n_blockers) (sc := defScope s_blockers) (by decide +kernel)) (by decide) (fun _ _ _ _ _ => pg_name (i := 2) nd rfl (Or.inl rfl)) (fun _ _ _ _ _ => pts_nil) (fun _ _ _ _ _ => pi_tup (pv 2)) (fun _ _ _ _ _ => pg_name (i := 3) nd rfl (Or.inl rfl)) (fun _ _ _ _ _ => pts_nil) (fun _ _ _ _ _ => pv 3)) pa_nil)) pa_nil)))
      (pss_cons (ps_set (i := 4) nd rfl (Or.inr rfl) (pe_dc (own := [("at", 5), ("item", 3)]) (g := gTup K 2 (gCons (gName 5) (gCons (gName 3) gNil))) (tt := tYes) (tk := tVar 3) (tv := tOp rShl1 (tC (.int 1)) (tVar 5)) (by rfl) nd (pi_enum (by rfl) B.enumerate (pa_cons (pv 1) pa_nil)) (blkOk_by (N := n_blockers) (sc := defScope s_blockers) (by decide +kernel)) (fun _ _ _ _ _ => pg_tup rfl (pgs_cons (pg_name (i := 5) nd rfl (Or.inl rfl)) (pgs_cons (pg_name (i := 3) nd rfl (Or.inl rfl)) pgs_nil))) (fun _ _ _ _ _ => pts_nil) (fun _ _ _ _ _ => pv 3) (fun _ _ _ _ _ => pe_op op_shl1 pe_int (pv 5))))
      (pss_cons (ps_set (i := 6) nd rfl (Or.inl rfl) (pe_lst (pa_cons pe_int pa_nil)))
      (pss_cons (ps_for PassesOwn.never rfl (pi_or (pi_list (pv 0)) (pi_tup (pv 0))) (pg_name (i := 2) nd rfl (Or.inl rfl)) (pss_one (ps_set (i := 6) nd rfl (Or.inl rfl) (pe_call DM.ok (hr.mono (by decide)) (by rfl) DM.m DM.k DM.b .nil pass0 (pa_cons (pv 6) (pa_cons (pe_callB (cr_sum (by rfl)) (by rfl) B.sum (by decide +kernel) (pa_cons (pe_lc (own := [("item", 3)]) (g := gName 3) (tt := tYes) (te := tDGet (tVar 4) (tVar 3)) (by rfl) nd
          (pi_list (pe_callB (r := rSortTx P w) (cr_sortTx (by rfl) hu2) (by rfl) B.sorted (by decide +kernel) (pa_cons (pe_callTy (r := rSetTx K P w) (cr_setTx (by rfl)) (by rfl) B.set (by decide +kernel) (pa_cons (pv 2) pa_nil)) pa_nil))) (blkOk_by (N := n_blockers) (sc := defScope s_blockers) (by decide +kernel)) (fun _ _ _ _ _ => pg_name (i := 3) nd rfl (Or.inl rfl)) (fun _ _ _ _ _ => pts_nil) (fun _ _ _ _ _ => pe_dget hu (pv 4) (pv 3) (fun _ _ => rfl))) pa_nil)) pa_nil))))))
      (pss_one (ps_ret (pe_call DO.ok hr (by rfl) DO.m DO.k DO.b .nil pass0 (pa_cons (pe_lc (own := [("mask", 7)]) (g := gName 7) (tt := tYes) (te := tBit K) (by rfl) nd (pi_list (pv 6)) (blkOk_by (N := n_blockers) (sc := defScope s_blockers) (by decide +kernel)) (fun _ _ _ _ _ => pg_name (i := 7) nd rfl (Or.inr rfl)) (fun _ _ _ _ _ => pts_nil)
          (fun _ _ _ _ _ => pe_callTy (r := rTupO K) call_tuple_of (by rfl) B.tuple (by decide +kernel) (pa_cons (pe_lc (own := [("item", 3)]) (g := gName 3) (tt := tTrI K (tAn (tDGet (tVar 4) (tVar 3)) (tVar 7))) (te := tVar 3) (by rfl) nd (pi_list (pv 1)) (blkOk_by (N := n_blockers) (by rfl)) (fun _ _ _ _ _ => pg_name (i := 3) nd rfl (Or.inl rfl)) (fun _ _ _ _ _ => pts_one (pt_tru (pe_op op_and (pe_dget hu (pv 4) (pv 3) (fun _ _ => rfl)) (pv 7)) (fun _ => rfl))) (fun _ _ _ _ _ => pv 3)) pa_nil))) pa_nil)))))))), ?_⟩
    -- the items
    have src : ∀ {σ : L2.St} {H1 : Hp}, σ[0]? = some (some (.ref g)) → Ex H H1 → EvI (iOr (iList K (tVar 0)) (iTup K (tVar 0))) σ H1 (ps.map fun q => .ref q.1) := fun {σ H1} hs e => by
      rcases hg with y | y
      · exact EvI.l (eo_list (ev_var hs) (ex_l e y)).ei
      · exact EvI.r (eo_tup (ev_var hs) (ex_t e y)).ei
    have w1 := el_lc2 (σ := L2.start n_blockers [.ref g]) (H := H) (t := tYes) (t1 := tYes) (te := tVar 3) (wi := iOr (iList K (tVar 0)) (iTup K (tVar 0))) (wi1 := iTup K (tVar 2)) (l := ps) (c := fun q => .ref q.1) (ys := fun q => q.2) (d := V.str) (j := 2) (j1 := 3) (vs := [2, 3]) (vs1 := [3]) (fun _ => true) (fun _ _ => true) (fun _ x => V.str x)
      (src rfl (Ex.refl _)) hz (fun q hq => by have := hrow q hq; omega) (fun _ => rfl) (fun _ _ => rfl) (fun x hx H1 e => et_yes) (fun x hx _ => eo_tup (ev_var rfl) (st_of (hps x hx))) (fun x _ y _ _ H1 e => et_yes) (fun x _ y _ _ _ H1 e => ev_var rfl)
    have ef : ∀ l : List Str, l.filter (fun _ => true) = l := fun l => List.filter_eq_self.mpr fun _ _ => rfl
    have ef2 : ps.filter (fun _ => true) = ps := List.filter_eq_self.mpr fun _ _ => rfl
    have e1 : ((ps.filter fun _ => true).flatMap fun q => ((q.2.filter fun _ => true).map fun x => V.str x)) = rowV (ps.flatMap fun q => q.2) := by
      rw [ef2]
      show _ = List.map V.str (ps.flatMap fun q => q.2)
      rw [List.map_flatMap]
      refine congrArg (fun f => ps.flatMap f) (funext fun q => ?_)
      rw [ef]
    rw [e1] at w1
    have lall : (ps.flatMap fun q => q.2).length ≤ 4000 := by
      have h : ∀ l : List (Addr × List Str), (∀ q ∈ l, q.2.length ≤ 9) → (l.flatMap fun q => q.2).length ≤ 9 * l.length := fun l => by
        induction l with
        | nil => exact fun _ => Nat.le_refl _
        | cons a l ih =>
          intro h
          rw [List.flatMap_cons, List.length_append, List.length_cons]
          have h1 := h a List.mem_cons_self
          have h2 := ih fun q hq => h q (List.mem_cons_of_mem _ hq)
          omega
      have := h ps hrow
      omega
    refine q_asgR (ely_ss w1 lall H (Ex.refl _) _ fun xs ip H1 px nip e01 hip => ?_)
    obtain ⟨I, ⟨sI, ndI, mI⟩, rfl⟩ := px
    have memI : ∀ x, x ∈ I ↔ ∃ q ∈ ps, x ∈ q.2 := fun x => (mI x).trans List.mem_flatMap
    have lI : I.length ≤ 8 := by
      refine Nat.le_trans ?_ h8
      exact am_sub ndI fun x hx => by
        obtain ⟨q, hq, y⟩ := (memI x).mp hx
        exact hL8 q hq x y
    -- their bits
    have wb := ed_bits (K := K) (a := ip) (I := I) (tl := tVar 1) (tk := tVar 3) (tv := tOp rShl1 (tC (.int 1)) (tVar 5)) (σ := [some (.ref g), some (.ref ip), none, none, none, none, none, none]) (H := H1) (i := 5) (j := 3) (vs := [5, 3]) (ev_var rfl) (sq_of hip) ndI (by omega) (fun _ _ => rfl) (fun n H2 e hn => ev_var rfl) (fun n H2 e hn => ev_shl1 (ev_var rfl) (by omega))
    refine q_asgR (wb H1 (Ex.refl _) _ fun bp H2 nbp e12 hbp => ?_)
    refine q_asgL (xs := [natV 0]) (el_lst (ea_cons ev_c ea_nil) (by decide)) fun b0 H3 nb0 e23 hb0 => ?_
    have e03 := (e01.trans e12).trans e23
    have bval : ∀ n, n < I.length → valV (bitsD I I.length) (Sum.inr (I.getD n "")) = some (natV (2 ^ n)) := fun n hn => bits_some ndI hn I.length hn (Nat.le_refl _)
    have lt8 : ∀ q : Addr × List Str, maskR I q.2 < 2 ^ 8 := fun q => Nat.lt_of_lt_of_le maskR_lt (Nat.pow_le_pow_right (by decide) lI)
    have hWx : ∃ Pv : Nat → L2.St → Hp → Prop, Pv = fun i σ' H' => ∃ x2 b2 Bs, σ' = [some (.ref g), some (.ref ip), x2, none, some (.ref bp), none, some (.ref b2), none] ∧ Ex H3 H' ∧ H' b2 = some (.lst (Bs.map natV)) ∧ AllMin ((ps.take i).map fun q => maskR I q.2) Bs ∧ Bs.Nodup ∧ ∀ b ∈ Bs, b < 2 ^ 8 := ⟨_, rfl⟩
    obtain ⟨Pv, hPv⟩ := hWx
    have p0 : ∀ H4, Ex H3 H4 → Pv 0 [some (.ref g), some (.ref ip), none, none, some (.ref bp), none, some (.ref b0), none] H4 := fun H4 e => by
      rw [hPv]
      exact ⟨none, b0, [0], rfl, e, e _ _ hb0, allMin_nil, by simp, fun b hb => by rw [List.mem_singleton.mp hb]; decide⟩
    have turn : ∀ (i : Nat) (x : V) (σ' : L2.St) (H' : Hp) (D : Ends), (ps.map fun q => V.ref q.1)[i]? = some x → Pv i σ' H' → (∀ σ2 H2, Pv (i + 1) σ2 H2 → D.nx σ2 H2) →
        tAsg (tCall (spMt K) [] E0 (tCons (tVar 6) (tCons (tCB (rSum K) (tCons (tLc (iList K (tSS K P w (tVar 2))) (gName 3) tYes (tDGet (tVar 4) (tVar 3)) [3]) tNil)) tNil))) (gName 6) D (σ'.set 2 (some x)) H' := fun i x σ' H' D hx pv hD => by
      rw [hPv] at pv
      obtain ⟨x2, b2, Bs, rfl, e, hb2, am, ndB, ltB⟩ := pv
      rw [List.getElem?_map] at hx
      cases em : ps[i]? with
      | none => rw [em] at hx; cases hx
      | some q =>
        rw [em] at hx
        cases hx
        have hq := List.mem_of_getElem? em
        have htup := e _ _ (e03 _ _ (hps q hq))
        have bK := e _ _ (e23 _ _ hbp)
        have wy := ely_lc (K := K) (tl := tSS K P w (tVar 2)) (te := tDGet (tVar 4) (tVar 3)) (σ := [some (.ref g), some (.ref ip), some (.ref q.1), none, some (.ref bp), none, some (.ref b2), none]) (H := H') (c := V.str) (j := 3) (vs := [3]) (R := fun J => IsI J q.2) (fun x => natV (maskR I [x])) (ely_ssO (ev_var rfl) (.inr (st_of htup)) (by have := hrow q hq; omega)) (fun xs px => by
            obtain ⟨J, hJ, rfl⟩ := px
            refine ⟨J, hJ, rfl, ?_⟩
            have : J.length ≤ I.length := by
              refine am_sub hJ.2.1 fun x hx => (memI x).mpr ⟨q, hq, (hJ.2.2 x).mp hx⟩
            omega) (fun _ => rfl) (fun J hJ x hx H9 e9 => by
            have hxI : x ∈ I := (memI x).mpr ⟨q, hq, (hJ.2.2 x).mp hx⟩
            obtain ⟨n, hn, ex⟩ : ∃ n, n < I.length ∧ I.getD n "" = x := by
              obtain ⟨n, hn, rfl⟩ := List.mem_iff_getElem.mp hxI
              exact ⟨n, hn, by rw [List.getD_eq_getElem?_getD, List.getElem?_eq_getElem hn]; rfl⟩
            refine ev_dget (k := Sum.inr x) (ev_var rfl) (ev_var rfl) (e9 _ _ bK) ?_
            rw [← ex, bval n hn, mask_one ndI hn])
        have wsum := ev_sumY (K := K) (n := maskR I q.2) wy (fun xs px => by
          obtain ⟨J, hJ, rfl⟩ := px
          refine ⟨J.map fun x => maskR I [x], by rw [List.map_map]; rfl, part_sum ndI hJ (fun x hx => (memI x).mpr ⟨q, hq, hx⟩) (fun x => maskR I [x]) fun k hk => mask_one ndI hk⟩)
        refine s_asgL (xs := (meeting 8 Bs (maskR I q.2)).map natV) (el_call (ea_cons (ev_var rfl) (ea_cons wsum ea_nil)) (fun H10 e10 Q10 q10 E10 => ⟨b2, Bs, maskR I q.2, rfl, sq_of (e10 _ _ hb2), am_len ndB ltB, lt8 q, fun t H11 nt e11 ht => q10 t H11 nt e11 ht⟩)) fun b3 H10 nb3 e10 hb3 => hD _ _ ?_
        rw [hPv]
        refine ⟨_, b3, _, rfl, e.trans e10, hb3, allMin_congr (fun y => ?_) (allMin_step (lt8 q) am), nodup_meeting ndB, meeting_lt ltB⟩
        rw [List.take_add_one, em, List.map_append, List.mem_append, List.mem_cons, or_comm]
        exact or_congr Iff.rfl List.mem_singleton.symm
    have last : ∀ σ' H', Pv ps.length σ' H' → tRet (tCall (spIo Tt) [] E0 (tCons (tLc (iList K (tVar 6)) (gName 7) tYes (tBit K) [7]) tNil)) { nx := fun _ H' => Q .non H', rt := Q } σ' H' := fun σ' H' pv => by
      rw [hPv] at pv
      obtain ⟨x2, b2, Bs, rfl, e, hb2, am, ndB, ltB⟩ := pv
      rw [List.take_of_length_le (Nat.le_refl _)] at am
      have bK := e _ _ (e23 _ _ hbp)
      have iL := e _ _ (e23 _ _ (e12 _ _ hip))
      have w9 := el_rows (wi := iList K (tVar 6)) (σ := [some (.ref g), some (.ref ip), x2, none, some (.ref bp), none, some (.ref b2), none]) (H := H') (te := tBit K) (l := Bs) (c := natV) (j := 7) (vs := [7]) (rowOf I) (eo_list (ev_var rfl) (sq_of hb2)).ei (by have := am_len ndB ltB; omega) (fun _ => rfl) (fun m hm H9 e9 => by
        have rI : rowV I = (List.range I.length).map fun k => V.str (I.getD k "") := by
          have z := rowV_range I
          exact z
        have w5 := el_lcI (wi := iList K (tVar 1)) (σ := [some (.ref g), some (.ref ip), x2, none, some (.ref bp), none, some (.ref b2), some (natV m)]) (H := H9) (t := tTrI K (tAn (tDGet (tVar 4) (tVar 3)) (tVar 7))) (te := tVar 3) (l := List.range I.length) (c := fun k => V.str (I.getD k "")) (j := 3) (vs := [3]) (fun k => m.testBit k) (fun k => V.str (I.getD k ""))
          (by rw [← rI]; exact (eo_list (ev_var rfl) (sq_of (e9 _ _ iL))).ei) (by rw [List.length_range]; omega) (fun _ => rfl)
          (fun n hn H5 e5 => et_is (et_nat (ev_an (a := 2 ^ n) (ev_dget (k := Sum.inr (I.getD n "")) (ev_var rfl) (ev_var rfl) (e5 _ _ (e9 _ _ bK)) (bval n (List.mem_range.mp hn))) (ev_var rfl))) (bit_of n m)) (fun n hn H5 e5 _ => ev_var rfl)
        have e7 : (((List.range I.length).filter fun k => m.testBit k).map fun k => V.str (I.getD k "")) = rowV (rowOf I m) := by
          show _ = List.map V.str (List.map _ _)
          rw [List.map_map]
          rfl
        rw [e7] at w5
        exact eu_tupO w5)
      refine s_retR (rd_call1 ?_)
      refine w9 H' (Ex.refl _) _ fun p H9 np e9 hp => ?_
      have e09 := (e03.trans e).trans e9
      exact ⟨p, Bs.map (rowOf I), rfl, hp, by rw [List.length_map]; have := am_len ndB ltB; omega, tabs_ex hT e09, fun t H10 rs pm st eN nn10 tb nt rt => k I Bs rs t H10 sI ndI memI am ndB ltB pm st ((ex_extN e09).trans eN) (fun b hb => fresh_back e09 (nn10 b hb)) tb (fresh_back e09 nt) rt⟩
    rcases hg with y | y
    · exact Or.inl (s_forL (D := { nx := _, rt := _ }) (g := gName 2) (ev_var rfl) (ex_l e03 y) Pv p0 (fun i σ' H' _ pv => by
        rw [hPv] at pv
        obtain ⟨_, _, _, _, e, _⟩ := pv
        exact ex_l (e03.trans e) y) (fun i x σ' H' hx pv => turn i x σ' H' _ hx pv fun σ2 H2 z => z) (fun σ' H' pv => last σ' H' (by rw [List.length_map] at pv; exact pv)))
    · exact Or.inr (s_forT (D := { nx := _, rt := _ }) (g := gName 2) (ev_var rfl) (ex_t e03 y) Pv p0 (fun i σ' H' _ pv => by
        rw [hPv] at pv
        obtain ⟨_, _, _, _, e, _⟩ := pv
        exact ex_t (e03.trans e) y) (fun i x σ' H' hx pv => turn i x σ' H' _ hx pv fun σ2 H2 z => z) (fun σ' H' pv => last σ' H' (by rw [List.length_map] at pv; exact pv)))
end
end L2.M2
set_option maxRecDepth 100000
set_option maxHeartbeats 4000000
namespace L2.M2
open PySem PySem.Spec PyProof.Rows L2 Mx L2.Mb Evl Mv
/-- the cells and where they stand -/
structure Cells where
  l : Addr
  xs : List Int
abbrev Cells.length (c : Cells) : Nat := c.xs.length
/-- the pen at p: its list of cells, the next cell's index, the rest of a great cell -/
def PenAt (H : Hp) (p : Addr) (ns : Cells) (t : Int) : Prop := ∃ g : Int, H p = some (.lst [.ref ns.l, .int t, .int g]) ∧ H ns.l = some (.lst (ns.xs.map V.int))
/-- all but p stands as it stood -/
def But (p : Addr) (H H' : Hp) : Prop := ∀ c o, c ≠ p → H c = some o → H' c = some o
def spTake : Sp := fun vs H Q _ => ∃ (p : Addr) (m : Int) (ns : Cells) (t : Int), vs = [.ref p, .int m] ∧ PenAt H p ns t ∧ ns.length ≤ 63 ∧ 0 ≤ t ∧ t ≤ 1000000 ∧ 1 ≤ m ∧ m ≤ 1000000 ∧
  ∀ (d t' : Int) (H' : Hp), 0 ≤ d → d < m → t ≤ t' → t' ≤ t + 1 → PenAt H' p ns t' → But p H H' → Q (.int d) H'
variable {K : W.Frag}
theorem dp_is {H : Hp} : ∀ ns : List Int, DpAll K H (ns.map V.int) (ns.map PyData.int)
  | [] => .nil
  | n :: r => .cons (.int n) (dp_is r)
theorem is_lay : ∀ ns : List Int, PyData.canLayAll0 (ns.map PyData.int) = true ∧ PyData.depthAll (ns.map PyData.int) = 0
  | [] => ⟨by simp [PyData.canLayAll0], by simp [PyData.depthAll]⟩
  | n :: r => by
    obtain ⟨h1, h2⟩ := is_lay r
    exact ⟨by simp only [List.map_cons, PyData.canLayAll0, PyData.canLay0, h1, Bool.and_self], by simp only [List.map_cons, PyData.depthAll, PyData.depth, h2, Nat.max_self]⟩
theorem is_shaped (ns : List Int) : SeqAt.shaped (.list (ns.map PyData.int)) = true := by
  obtain ⟨h1, h2⟩ := is_lay ns
  show (PyData.canLay0 (.list (ns.map PyData.int)) && decide (PyData.depth (.list (ns.map PyData.int)) ≤ 64)) = true
  simp only [PyData.canLay0, PyData.depth, h1, h2]
  decide
theorem pow_bd {x : Int} {n : Nat} (k : Nat) (h : x.natAbs ≤ n) : (x ^ k).natAbs ≤ n ^ k := by
  rw [Int.natAbs_pow]
  exact Nat.pow_le_pow_left h k
theorem ifB {c : Bool} {X Y : Prop} (h1 : c = true → X) (h2 : c = false → Y) : if c = true then X else Y := by
  cases c with
  | true => exact (h1 rfl)
  | false => exact (h2 rfl)
section
variable {P : Program} {w : World} {K : W.Frag} {mg : Str → Option Value} {base : Heap} {f : Addr} {fd : FuncData}
theorem ok_draw (B : Bt mg) (F : FnP K "_law_draw" s_law_draw f fd) : FnOk P w K mg base CX0 1 f fd p_law_draw spTake := by
  refine F.ok sc_law_draw (fun vs H Q E h => ?_) (fun cdv A outer s H vs Q E hr h => ?_)
  · obtain ⟨p, m, ns, t, rfl, _⟩ := h
    rfl
  · obtain ⟨p, m, ⟨l, ns⟩, t, rfl, ⟨g, hp, hl⟩, hn, t0, t1, m0, m1, k⟩ := h
    replace hp : H p = some (.lst [.ref l, .int t, .int g]) := hp
    replace hl : H l = some (.lst (ns.map V.int)) := hl
    replace hn : ns.length ≤ 63 := hn
    have hu := hr.units
    refine ⟨_, PSs.nox (pss_cons (ps_if (pt_cmpR op_gt (pe_ix ix_list (pv 0) pe_int (fun _ _ => rfl)) pe_int (nomark _)) (pss_cons (ps_set (i := 2) sc_law_draw.nd rfl (Or.inl rfl) (pe_op op_mod (pe_callTy call_int1 (by rfl) B.int (by decide +kernel) (pa_cons (pe_ix ix_list (pv 0) pe_int (fun _ _ => rfl)) pa_nil)) (pv 1)))
      (pss_cons (ps_asg (pe_op op_fdiv (pe_callTy call_int1 (by rfl) B.int (by decide +kernel) (pa_cons (pe_ix ix_list (pv 0) pe_int (fun _ _ => rfl)) pa_nil)) (pv 1)) (pg_sub (pv 0) pe_int set_list))
      (pss_one (ps_ret (pv 2))))) pss_nil)
    (pss_cons (ps_set (i := 3) sc_law_draw.nd rfl (Or.inl rfl) (pe_ix ix_list (pv 0) pe_int (fun _ _ => rfl)))
    (pss_cons (ps_asg (pe_op op_add (pv 3) pe_int) (pg_sub (pv 0) pe_int set_list))
    (pss_cons (ps_set (i := 4) sc_law_draw.nd rfl (Or.inl rfl) (pe_op op_add (pe_op op_mul pe_int (pv 3)) pe_int))
    (Evl.pss_cut (ps_if (pt_cmpR (op_neD hu) (pe_ix ix_list (pv 0) pe_int (fun _ _ => rfl)) (pe_lst pa_nil) (nomark _)) (pss_one (ps_set (i := 4) sc_law_draw.nd rfl (Or.inl rfl) (pe_ix ix_list (pe_ix ix_list (pv 0) pe_int (fun _ _ => rfl)) (pe_op op_mod (pe_callTy call_int1 (by rfl) B.int (by decide +kernel) (pa_cons (pv 3) pa_nil)) (pe_callB call_len_seq (by rfl) B.len (by decide +kernel) (pa_cons (pe_ix ix_list (pv 0) pe_int (fun _ _ => rfl)) pa_nil))) (fun _ _ => rfl)))) pss_nil)
    (Evl.pss_cut (ps_if ((pw_and (pt_cmpR op_lt (pv 3) (pe_callB call_len_seq (by rfl) B.len (by decide +kernel) (pa_cons (pe_ix ix_list (pv 0) pe_int (fun _ _ => rfl)) pa_nil)) (nomark _)) (pw_and1 (pt_cmpR op_ge (pe_callB call_abs (by rfl) B.abs (by decide +kernel) (pa_cons (pv 4) pa_nil)) (pe_op op_pow pe_int pe_int) (nomark _))))).pt (pss_cons (ps_set (i := 5) sc_law_draw.nd rfl (Or.inl rfl) (pe_op op_add (pe_op op_mul pe_int (pe_callB call_abs (by rfl) B.abs (by decide +kernel) (pa_cons (pv 4) pa_nil))) (pe_callTy call_int1 (by rfl) B.int (by decide +kernel) (pa_cons (pe_cmpR op_lt (pv 4) pe_int (nomark _)) pa_nil))))
      (pss_cons (ps_asg (pe_op op_fdiv (pv 5) (pv 1)) (pg_sub (pv 0) pe_int set_list))
      (pss_one (ps_ret (pe_op op_mod (pe_callTy call_int1 (by rfl) B.int (by decide +kernel) (pa_cons (pv 5) pa_nil)) (pv 1)))))) pss_nil)
    (pss_cons (ps_set (i := 6) sc_law_draw.nd rfl (Or.inl rfl) (pe_op op_pow (pe_callTy call_int1 (by rfl) B.int (by decide +kernel) (pa_cons (pe_op op_add (pe_op op_add (pe_op op_mod (pe_callTy call_int1 (by rfl) B.int (by decide +kernel) (pa_cons (pv 4) pa_nil)) pe_int) (pe_op op_mul pe_int (pv 3))) pe_int) pa_nil)) pe_int))
    (pss_cons (ps_set (i := 6) sc_law_draw.nd rfl (Or.inl rfl) (pe_op op_pow (pe_callTy call_int1 (by rfl) B.int (by decide +kernel) (pa_cons (pe_op op_add (pe_op op_add (pe_op op_mul (pe_op op_mod (pe_callTy call_int1 (by rfl) B.int (by decide +kernel) (pa_cons (pv 6) pa_nil)) pe_int) (pe_op op_add (pv 3) pe_int)) (pe_op op_mul (pe_op op_mul pe_int (pv 3)) (pv 3))) pe_int) pa_nil)) pe_int))
    (pss_one (ps_ret (pe_op op_mod (pe_callTy call_int1 (by rfl) B.int (by decide +kernel) (pa_cons (pe_op op_fdiv (pe_op op_mod (pe_callTy call_int1 (by rfl) B.int (by decide +kernel) (pa_cons (pv 6) pa_nil)) pe_int) pe_int) pa_nil)) (pv 1)))))))))))), ?_⟩
    have npl : p ≠ l := by
      intro e
      rw [e, hl] at hp
      cases ns with
      | nil => simp at hp
      | cons a r => simp at hp
    -- if pen[2] > 0
    refine ⟨_, rfl, p, _, _, _, rfl, rfl, SqL.of hp, atI_nat (j := 2) rfl, _, _, rfl, rfl, _, rfl, ?_⟩
    refine ite2 (fun _ => ?_) (fun _ => ?_)
    · refine ⟨_, rfl, p, _, _, _, rfl, rfl, SqL.of hp, atI_nat (j := 2) rfl, .inl ⟨g, rfl, _, rfl, _, _, rfl, rfl, by omega, ?_⟩⟩
      refine ⟨_, rfl, p, _, _, _, rfl, rfl, SqL.of hp, atI_nat (j := 2) rfl, .inl ⟨g, rfl, _, rfl, _, _, rfl, rfl, ⟨by omega, by omega⟩, ?_⟩⟩
      refine ⟨_, rfl, p, _, _, 2, rfl, rfl, hp, rfl, ?_⟩
      refine ⟨_, rfl, ?_⟩
      refine k _ t _ (Int.emod_nonneg _ (by omega)) (Int.emod_lt_of_pos _ (by omega)) (Int.le_refl _) (by omega) ⟨_, upd_same, ?_⟩ (fun c o hc e => by rw [upd_ne hc]; exact e)
      rw [upd_ne npl.symm]
      exact hl
    · refine ⟨_, rfl, p, _, _, _, rfl, rfl, SqL.of hp, atI_nat (j := 1) rfl, ?_⟩
      refine ⟨_, rfl, _, _, rfl, rfl, _, rfl, p, _, _, 1, rfl, rfl, hp, rfl, ?_⟩
      refine ⟨_, rfl, _, _, rfl, rfl, .inl ⟨by decide, by decide⟩, _, _, rfl, rfl, ?_⟩
      have hp1 : (upd H p (.lst [.ref l, .int (t + 1), .int g])) p = some (.lst [.ref l, .int (t + 1), .int g]) := upd_same
      have hl1 : (upd H p (.lst [.ref l, .int (t + 1), .int g])) l = some (.lst (ns.map V.int)) := by
        rw [upd_ne npl.symm]
        exact hl
      refine ⟨fun σ' H' => ∃ c : Int, σ' = [some (.ref p), some (.int m), none, some (.int t), some (.int c), none, none] ∧ H' p = some (.lst [.ref l, .int (t + 1), .int g]) ∧ H' l = some (.lst (ns.map V.int)) ∧ But p H H', ?_, ?_⟩
      · -- if pen[0] != []
        refine ⟨_, rfl, p, _, _, _, rfl, rfl, SqL.of hp1, atI_nat (j := 0) rfl, Nat.zero_le _, fun q hq => ?_⟩
        have nq : ∀ {c : Addr} {o : HO}, (upd H p (.lst [.ref l, .int (t + 1), .int g])) c = some o → c ≠ q := fun e => ne_of_none e hq
        have hp2 : (upd (upd H p (.lst [.ref l, .int (t + 1), .int g])) q (.lst [])) p = some (.lst [.ref l, .int (t + 1), .int g]) := by
          rw [upd_ne (nq hp1)]
          exact hp1
        have hl2 : (upd (upd H p (.lst [.ref l, .int (t + 1), .int g])) q (.lst [])) l = some (.lst (ns.map V.int)) := by
          rw [upd_ne (nq hl1)]
          exact hl1
        have bt2 : But p H (upd (upd H p (.lst [.ref l, .int (t + 1), .int g])) q (.lst [])) := fun c o hc e => by
          have e1 : (upd H p (.lst [.ref l, .int (t + 1), .int g])) c = some o := by
            rw [upd_ne hc]
            exact e
          rw [upd_ne (nq e1)]
          exact e1
        refine ⟨_, _, .lst (SqL.of hl2) (dp_is ns), .lst (SqL.of upd_same) .nil, is_shaped ns, rfl, _, rfl, ?_⟩
        cases hns : ns with
        | nil =>
          refine ifB (fun z => ?_) (fun _ => ?_)
          · simp [PyData.eqv, PyData.eqvAll] at z
          · rw [hns] at hl2
            exact ⟨_, rfl, hp2, hl2, bt2⟩
        | cons a r =>
          refine ifB (fun _ => ?_) (fun z => ?_)
          · have lp : (0 : Int) < ((ns.map V.int).length : Int) := by
              rw [hns]
              simp
              try omega
            have ix0 := Int.emod_nonneg t (show ((ns.map V.int).length : Int) ≠ 0 by omega)
            have ix1 := Int.emod_lt_of_pos t lp
            obtain ⟨j, hj⟩ := Int.eq_ofNat_of_zero_le ix0
            have hjl : j < ns.length := by
              rw [List.length_map] at hj ix1
              omega
            obtain ⟨c, hc⟩ : ∃ c, ns[j]? = some c := ⟨ns[j], List.getElem?_eq_getElem hjl⟩
            refine ⟨_, rfl, p, _, _, _, rfl, rfl, SqL.of hp2, atI_nat (j := 0) rfl, _, rfl, .inl ⟨_, rfl, _, rfl, p, _, _, _, rfl, rfl, SqL.of hp2, atI_nat (j := 0) rfl, l, _, rfl, .inl (SqL.of hl2), _, _, rfl, rfl, lp, ?_⟩⟩
            refine ⟨l, _, _, .int c, rfl, rfl, SqL.of hl2, ?_, ?_⟩
            · rw [hj]
              exact atI_nat (by rw [List.getElem?_map, hc]; rfl)
            · rw [hns] at hl2
              exact ⟨_, rfl, hp2, hl2, bt2⟩
          · simp [PyData.eqv, PyData.eqvAll] at z
      · rintro σ' H' ⟨c, rfl, hp3, hl3, bt3⟩
        -- if turn < len(pen[0]) and abs(cell) >= 10 ** 18
        refine ⟨fun σ'' H'' => σ'' = [some (.ref p), some (.int m), none, some (.int t), some (.int c), none, none] ∧ H'' p = some (.lst [.ref l, .int (t + 1), .int g]) ∧ H'' l = some (.lst (ns.map V.int)) ∧ But p H H'', ?_, ?_⟩
        · refine ⟨_, rfl, _, rfl, p, _, _, _, rfl, rfl, SqL.of hp3, atI_nat (j := 0) rfl, l, _, rfl, .inl (SqL.of hl3), _, _, rfl, rfl, _, rfl, ?_⟩
          refine ite2 (fun _ => ?_) (fun _ => ?_)
          · refine ⟨_, rfl, c, rfl, _, _, rfl, rfl, ⟨by decide, by decide, by decide⟩, _, _, rfl, rfl, _, rfl, ?_⟩
            refine ite2 (fun _ => ?_) (fun _ => ?_)
            · refine ⟨_, rfl, c, rfl, _, _, rfl, rfl, .inl ⟨by decide, by decide⟩, ?_⟩
              refine ⟨_, rfl, _, _, rfl, rfl, .inr ⟨_, rfl, _, _, rfl, rfl, ?_⟩⟩
              refine ⟨_, rfl, _, rfl, _, _, rfl, rfl, ⟨by omega, by omega⟩, _, rfl, p, _, _, 2, rfl, rfl, hp3, rfl, ?_⟩
              refine ⟨_, rfl, .inl ⟨_, rfl, _, rfl, _, _, rfl, rfl, by omega, ?_⟩⟩
              refine k _ (t + 1) _ (Int.emod_nonneg _ (by omega)) (Int.emod_lt_of_pos _ (by omega)) (by omega) (Int.le_refl _) ⟨_, upd_same, ?_⟩ (fun c o hc e => by rw [upd_ne hc]; exact bt3 c o hc e)
              rw [upd_ne npl.symm]
              exact hl3
            · exact ⟨rfl, hp3, hl3, bt3⟩
          · exact ⟨rfl, hp3, hl3, bt3⟩
        · rintro σ'' H'' ⟨rfl, hp4, hl4, bt4⟩
          have q0 := Int.emod_nonneg c (show (2147483477 : Int) ≠ 0 by decide)
          have q1 := Int.emod_lt_of_pos c (show (0 : Int) < 2147483477 by decide)
          have tt0 : 0 ≤ t * t := Int.mul_nonneg t0 t0
          have tt1 : t * t ≤ 1000000 * 1000000 := Int.mul_le_mul t1 t1 t0 (by decide)
          have te : 50021 * t * t = 50021 * (t * t) := Int.mul_assoc _ _ _
          have ri : ∀ {i : Int} {H9 : Hp}, RC (fun (xs : List V) (H : Hp) (Q : VK) => (∃ i, xs = [.int i] ∧ Q (.int i) H) ∨ ∃ b, xs = [.bl b] ∧ Q (.int (if b then 1 else 0)) H) [.int i] H9 (.int i) := fun {i H9} H1 _ Q q => .inl ⟨i, rfl, q H1 (Ex.refl H1)⟩
          refine q_asg (v := .int ((c % 2147483477 + 9176 * t + 613) ^ Int.toNat 5)) (ev_op (ev_cb (ea_cons (ev_op (ev_op (ev_op (ev_cb (ea_cons (ev_var rfl) ea_nil) ri) ev_c (rv_I (by show (0 : Int) < 2147483477; decide))) (ev_op ev_c (ev_var rfl) (rv_I (.inl ⟨by decide, by decide⟩))) rv_int) ev_c rv_int) ea_nil) ri) ev_c (rv_I ⟨by decide, by decide, by omega⟩)) fun H5 e5 => ?_
          generalize (c % 2147483477 + 9176 * t + 613) ^ Int.toNat 5 = Z
          have z0 := Int.emod_nonneg Z (show (2147483549 : Int) ≠ 0 by decide)
          have z1 := Int.emod_lt_of_pos Z (show (0 : Int) < 2147483549 by decide)
          have y0 : 0 ≤ Z % 2147483549 * (t + 30011) := Int.mul_nonneg z0 (by omega)
          have y1 : Z % 2147483549 * (t + 30011) ≤ 2147483549 * 1030011 := Int.mul_le_mul (by omega) (by omega) (by omega) (by decide)
          refine q_asg (v := .int ((Z % 2147483549 * (t + 30011) + 50021 * t * t + 11) ^ Int.toNat 3)) (ev_op (ev_cb (ea_cons (ev_op (ev_op (ev_op (ev_op (ev_cb (ea_cons (ev_var rfl) ea_nil) ri) ev_c (rv_I (by show (0 : Int) < 2147483549; decide))) (ev_op (ev_var rfl) ev_c rv_int) (rv_I (.inl ⟨by omega, by omega⟩))) (ev_op (ev_op ev_c (ev_var rfl) (rv_I (.inl ⟨by decide, by decide⟩))) (ev_var rfl) (rv_I (.inr ⟨by omega, by omega⟩))) rv_int) ev_c rv_int) ea_nil) ri) ev_c (rv_I ⟨by decide, by decide, by rw [te]; omega⟩)) fun H6 e6 => ?_
          generalize (Z % 2147483549 * (t + 30011) + 50021 * t * t + 11) ^ Int.toNat 3 = Y
          have e56 := e5.trans e6
          refine s_ret (v := .int (Y % 2147483587 / 32 % m)) (ev_op (ev_cb (ea_cons (ev_op (ev_op (ev_cb (ea_cons (ev_var rfl) ea_nil) ri) ev_c (rv_I (by show (0 : Int) < 2147483587; decide))) ev_c (rv_I ⟨by decide, by decide⟩)) ea_nil) ri) (ev_var rfl) (rv_I (by show 0 < m; omega))) fun H7 e7 => ?_
          have e := e56.trans e7
          exact k _ (t + 1) H7 (Int.emod_nonneg _ (by omega)) (Int.emod_lt_of_pos _ (by omega)) (by omega) (Int.le_refl _) ⟨_, e _ _ hp4, e _ _ hl4⟩ (fun c o hc h => e _ _ (bt4 c o hc h))
end
end L2.M2
set_option maxRecDepth 100000
set_option maxHeartbeats 8000000
namespace L2.M2
open PySem PySem.Spec PyProof.Rows L2 Mx L2.Mb Evl Mv LamX Sr Srt SrtO NdefX
/-! ### the pen -/
theorem lst_n {H H' : Hp} {a : Addr} {xs : List V} (e : ExtN H H') (h : H a = some (.lst xs)) : H' a = some (.lst xs) := e _ _ h fun _ y => by cases y
theorem pen_mono {H H' : Hp} {p : Addr} {ns : Cells} {t : Int} (e : Ex H H') (h : PenAt H p ns t) : PenAt H' p ns t := by
  obtain ⟨g, h1, h2⟩ := h
  exact ⟨g, e _ _ h1, e _ _ h2⟩
theorem pen_extn {H H' : Hp} {p : Addr} {ns : Cells} {t : Int} (e : ExtN H H') (h : PenAt H p ns t) : PenAt H' p ns t := by
  obtain ⟨g, h1, h2⟩ := h
  exact ⟨g, lst_n e h1, lst_n e h2⟩
theorem but_ex {H H' : Hp} {p : Addr} (e : Ex H H') : But p H H' := fun c o _ h => e c o h
theorem But.trans {H H1 H2 : Hp} {p : Addr} (a : But p H H1) (b : But p H1 H2) : But p H H2 := fun c o hc h => b c o hc (a c o hc h)
theorem pen_fresh {H : Hp} {p q : Addr} {ns : Cells} {t : Int} (pen : PenAt H p ns t) (n : H q = none) : q ≠ p := fun z => by
  obtain ⟨_, hp, _⟩ := pen
  rw [z, hp] at n
  cases n
theorem new_but {H H' : Hp} {p l : Addr} {ns : Cells} {t : Int} (pen : PenAt H' p ns t) (b : But p H H') (n : H' l = none) : H l = none := by
  cases h : H l with
  | none => rfl
  | some o =>
    by_cases e : l = p
    · obtain ⟨_, hp, _⟩ := pen
      rw [e, hp] at n
      cases n
    · rw [b l o e h] at n
      cases n
/-- all but the pen and the tables stays; nothing is new where something was -/
def ButP (p : Addr) (H H' : Hp) : Prop := ∀ c o, c ≠ p → H c = some o → (∀ ps, o ≠ .tbl ps) → H' c = some o
theorem ButP.of {p : Addr} {H H' : Hp} (b : But p H H') : ButP p H H' := fun c o n h _ => b c o n h
theorem ButP.n {p : Addr} {H H' : Hp} (e : ExtN H H') : ButP p H H' := fun c o _ h t => e c o h t
theorem ButP.trans {p : Addr} {H H1 H2 : Hp} (a : ButP p H H1) (b : ButP p H1 H2) : ButP p H H2 := fun c o n h t => b c o n (a c o n h t) t
theorem tabs_but {H H' : Hp} {p : Addr} {ns : Cells} {t : Int} {Tt : List (Addr × Str)} (pen : PenAt H p ns t) (b : But p H H') (T : Tabs Tt H) : Tabs Tt H' := fun q hq => by
  obtain ⟨g, hp, _⟩ := pen
  obtain ⟨ps, h1, h2, h3⟩ := T q hq
  refine ⟨ps, b _ _ (fun z => ?_) h1, h2, fun pos cv hc => ?_⟩
  · rw [z, hp] at h1
    cases h1
  · obtain ⟨c, e1, e2⟩ := h3 pos cv hc
    refine ⟨c, e1, b _ _ (fun z => ?_) e2⟩
    rw [z, hp] at e2
    cases e2
section
variable {P : Program} {w : World} {K : W.Frag} {mg : Str → Option Value} {base : Heap} {f : Addr} {fd : FuncData}
/-- what is drawn from: a new pen over the script -/
def spPen (K : W.Frag) : Sp := fun vs H Q _ => ∃ (a : Addr) (ns : List Int), vs = [.ref a] ∧ SqL K H a (ns.map V.int) ∧ ns.length ≤ 63 ∧ ∀ (p : Addr) (n2 : Cells) H1, n2.length ≤ 63 → PenAt H1 p n2 0 → Ex H H1 → Q (.ref p) H1
theorem ok_pen (B : Bt mg) (F : FnP K "_law_pen" s_law_pen f fd) : FnOk P w K mg base CX0 1 f fd p_law_pen (spPen K) := by
  refine F.ok sc_law_pen (fun vs H Q E h => ?_) (fun cdv A outer s H vs Q E hr h => ?_)
  · obtain ⟨a, ns, rfl, _⟩ := h
    rfl
  · obtain ⟨a, ns, rfl, hS, hn, k⟩ := h
    refine ⟨_, PSs.nox (pss_one (ps_ret (pe_lst (pa_cons (pe_callTy call_list_of (by rfl) B.list (by decide +kernel) (pa_cons (pe_slice sl_list (pv 0) po_none (po_some pe_int)) pa_nil)) (pa_cons pe_int (pa_cons pe_int pa_nil)))))), ?_⟩
    obtain ⟨n2, e2⟩ : ∃ n2 : List Int, cutV (ns.map V.int) none (some 63) = n2.map V.int ∧ n2.length ≤ 63 := by
      refine ⟨(ns.drop (HT.sIx (ns.map V.int).length 0 none)).take (HT.sIx (ns.map V.int).length (ns.map V.int).length (some 63) - HT.sIx (ns.map V.int).length 0 none), ?_, ?_⟩
      · unfold cutV
        rw [← List.map_drop, ← List.map_take]
      · rw [List.length_take, List.length_drop]
        omega
    refine ⟨_, rfl, 63, rfl, a, _, rfl, hS, fun p1 h1 => ⟨p1, _, rfl, .inl (SqL.of upd_same), fun p2 h2 => ⟨(by show 3 ≤ sizeLine; decide), fun p3 h3 => ?_⟩⟩⟩
    have n32 : p2 ≠ p3 := fun z => by
      rw [← z, upd_same] at h3
      cases h3
    refine k p3 ⟨p2, n2⟩ _ e2.2 ⟨0, upd_same, ?_⟩ (((Ex.new h1).trans (Ex.new h2)).trans (Ex.new h3))
    show (upd _ p3 _) p2 = _
    rw [upd_ne n32, upd_same, e2.1]
end
section
variable {σ : L2.St} {H : Hp} {D : Ends} {te : TE} {tz : TS} {p : Addr} {ns : Cells} {t m : Int} {j : Nat}
/-- _law_draw(pen, bound) -/
theorem c_draw {E : XK} {Q : VK} (hp : σ[j]? = some (some (.ref p))) (hb : Ev te σ H (.int m)) (pen : PenAt H p ns t) (hn : ns.length ≤ 63) (t0 : 0 ≤ t) (t1 : t ≤ 1000000) (m0 : 1 ≤ m) (m1 : m ≤ 1000000)
    (kk : ∀ d u H', 0 ≤ d → d < m → t ≤ u → u ≤ t + 1 → PenAt H' p ns u → But p H H' → Q (.int d) H') : tCall spTake [] E (tCons (tVar j) (tCons te tNil)) σ H Q :=
  ⟨_, hp, hb H (Ex.refl _) _ fun H1 e1 => ⟨p, m, ns, t, rfl, pen_mono e1 pen, hn, t0, t1, m0, m1, fun d u H' d0 d1 u0 u1 pen' b' => kk d u H' d0 d1 u0 u1 pen' ((but_ex e1).trans b')⟩⟩
theorem q_draw {i : Nat} {E : XK} (hp : σ[j]? = some (some (.ref p))) (hb : Ev te σ H (.int m)) (pen : PenAt H p ns t) (hn : ns.length ≤ 63) (t0 : 0 ≤ t) (t1 : t ≤ 1000000) (m0 : 1 ≤ m) (m1 : m ≤ 1000000)
    (kk : ∀ d u H', 0 ≤ d → d < m → t ≤ u → u ≤ t + 1 → PenAt H' p ns u → But p H H' → tz D (σ.set i (some (.int d))) H') : tSeq (tAsg (tCall spTake [] E (tCons (tVar j) (tCons te tNil))) (gName i)) tz D σ H := c_draw hp hb pen hn t0 t1 m0 m1 kk
end
end L2.M2
set_option maxRecDepth 100000
set_option maxHeartbeats 8000000
namespace L2.M2
open PySem PySem.Spec PyProof.Rows L2 Mx L2.Mb Evl Mv L2.C LamX Sr Srt SrtO NdefX
/-! ### things, mixed -/
def let8 : Str := "mfzaqchx"
def words8 : List Str := ["", "10", "9", " ", "a", "aa", "Z", "~"]
abbrev lett8 (k : Nat) : Str := ⟨#[let8.cps.toList.getD k 0]⟩
theorem let8_at (k : Nat) (h : k < 8) : let8.cps.toList[k]? = some (let8.cps.toList.getD k 0) := by
  have hl : k < let8.cps.toList.length := h
  rw [List.getD_eq_getElem?_getD, List.getElem?_eq_getElem hl]
  rfl
def thingAt (y k : Nat) : Str := if y = 0 then lett8 k else if y = 1 then "aaaaaaa" ++ lett8 k else words8.getD k ""
def thingsL (y n : Nat) : List Str := (List.range n).map (thingAt y)
theorem things_nd {y n : Nat} (hy : y < 3) (hn : n ≤ 8) : (thingsL y n).Nodup := by
  have h8 : ∀ y, y < 3 → (thingsL y 8).Nodup := by decide +kernel
  have e : thingsL y 8 = thingsL y n ++ ((List.range (8 - n)).map fun i => thingAt y (n + i)) := by
    unfold thingsL
    rw [show (8 : Nat) = n + (8 - n) by omega, List.range_add, List.map_append, List.map_map]
    rw [show n + (8 - n) - n = 8 - n by omega]
    rfl
  have z := h8 y hy
  rw [e] at z
  exact (List.nodup_append.mp z).1
theorem things_len {y n : Nat} : (thingsL y n).length = n := by unfold thingsL; rw [List.length_map, List.length_range]
theorem pen_upd0 {H : Hp} {p q : Addr} {ns : Cells} {u : Int} {o : HO} (pen : PenAt H p ns u) (n : H q = none) : PenAt (upd H q o) p ns u := by
  obtain ⟨g, h1, h2⟩ := pen
  exact ⟨g, (upd_ne (ne_of_none h1 n)).trans h1, (upd_ne (ne_of_none h2 n)).trans h2⟩
theorem pen_updL {H : Hp} {p q : Addr} {ns : Cells} {u : Int} {xs ys : List V} (pen : PenAt H p ns u) (hq : H q = some (.lst xs)) (n : q ≠ p) (n2 : q ≠ ns.l) : PenAt (upd H q (.lst ys)) p ns u := by
  obtain ⟨g, h1, h2⟩ := pen
  exact ⟨g, (upd_ne n.symm).trans h1, (upd_ne n2.symm).trans h2⟩
def spTh : Sp := fun vs H Q _ => ∃ (p : Addr) (ns : Cells) (t : Int) (n : Nat), vs = [.ref p, natV n] ∧ n ≤ 8 ∧ PenAt H p ns t ∧ ns.length ≤ 63 ∧ 0 ≤ t ∧ t ≤ 900000 ∧
  ∀ (y : Nat) (u : Int) (q : Addr) (H' : Hp), y < 3 → t ≤ u → u ≤ t + 1 → PenAt H' p ns u → But p H H' → H q = none → H' q = some (.lst (rowV (thingsL y n))) → Q (.ref q) H'
/-- in any order -/
def spMx (K : W.Frag) : Sp := fun vs H Q _ => ∃ (p g : Addr) (ns : Cells) (t : Int) (xs : List V), vs = [.ref p, .ref g] ∧ (SqL K H g xs ∨ SqT K H g xs) ∧ xs.length ≤ 1000 ∧ PenAt H p ns t ∧ ns.length ≤ 63 ∧ 0 ≤ t ∧ t ≤ 900000 ∧
  ∀ (ys : List V) (u : Int) (q : Addr) (H' : Hp), ys.Perm xs → t ≤ u → u ≤ t + xs.length → PenAt H' p ns u → But p H H' → H q = none → H' q = some (.lst ys) → Q (.ref q) H'
def rListO (K : W.Frag) : List V → Hp → VK → Prop := fun xs H Q => ∃ p ys, xs = [.ref p] ∧ (SqL K H p ys ∨ SqT K H p ys) ∧ ∀ q, H q = none → Q (.ref q) (upd H q (.lst ys))
section
variable {P : Program} {w : World} {K : W.Frag} {mg : Str → Option Value} {base : Heap} {f f1 : Addr} {fd d1 : FuncData}
theorem ok_things (B : Bt mg) (D : Fn0 P w K mg base "_law_draw" 1 f1 d1 p_law_draw spTake) (F : FnP K "_law_things" s_law_things f fd) : FnOk P w K mg base CX0 2 f fd p_law_things spTh := by
  refine F.ok sc_law_things (fun vs H Q E h => ?_) (fun cdv A outer s H vs Q E hr h => ?_)
  · obtain ⟨p, ns, t, n, rfl, _⟩ := h
    rfl
  · obtain ⟨p, ns, t, n, rfl, hn8, pen, hn, t0, t1, k⟩ := h
    have nd := sc_law_things.nd
    refine ⟨_, PSs.nox (pss_cons (ps_set (i := 2) nd rfl (Or.inr rfl) pe_str) (pss_cons (ps_set (i := 3) nd rfl (Or.inr rfl) (pe_lst (pa_cons pe_str (pa_cons pe_str (pa_cons pe_str (pa_cons pe_str (pa_cons pe_str (pa_cons pe_str (pa_cons pe_str (pa_cons pe_str pa_nil))))))))))
      (pss_cons (ps_set (i := 4) nd rfl (Or.inr rfl) (pe_call D.ok hr (by rfl) D.m D.k D.b .nil pass0 (pa_cons (pv 0) (pa_cons pe_int pa_nil))))
      (pss_one (ps_ret (pe_lc (own := [("_law_k", 5)]) (g := gName 5) (tt := tYes) (te := tOp (rIxL K) (tLst (tCons (tOp rIxS (tVar 2) (tVar 5)) (tCons (tOp rCatS (tC (.str "aaaaaaa")) (tOp rIxS (tVar 2) (tVar 5))) (tCons (tOp (rIxL K) (tVar 3) (tVar 5)) tNil)))) (tVar 4)) (by rfl) nd (pi_range1 (by rfl) B.range (pa_cons (pv 1) pa_nil)) (blkOk_by (N := n_law_things) (sc := defScope s_law_things) (by decide +kernel)) (fun _ _ _ _ _ => pg_name (i := 5) nd rfl (Or.inl rfl)) (fun _ _ _ _ _ => pts_nil)
        (fun _ _ _ _ _ => pe_ix ix_list (pe_lst (pa_cons (pe_ix ix_str (pv 2) (pv 5) (fun _ _ => rfl)) (pa_cons (pe_op op_add_str pe_str (pe_ix ix_str (pv 2) (pv 5) (fun _ _ => rfl))) (pa_cons (pe_ix ix_list (pv 3) (pv 5) (fun _ _ => rfl)) pa_nil)))) (pv 4) (fun _ _ => rfl)))))))), ?_⟩
    refine q_asg (v := .str let8) ev_c fun H1 e1 => ?_
    refine q_asgL (xs := rowV words8) (el_lst (ea_cons ev_c (ea_cons ev_c (ea_cons ev_c (ea_cons ev_c (ea_cons ev_c (ea_cons ev_c (ea_cons ev_c (ea_cons ev_c ea_nil)))))))) (by decide)) fun lw H2 nlw e2 hlw => ?_
    have nwp : lw ≠ p := pen_fresh (pen_mono e1 pen) nlw
    refine q_draw rfl ev_c (pen_mono (e1.trans e2) pen) hn t0 (by omega) (by decide) (by decide) fun d1 u1 H3 d10 d11 u10 u11 pen3 but3 => ?_
    obtain ⟨y, rfl⟩ := Int.eq_ofNat_of_zero_le d10
    have hy : y < 3 := by omega
    have w3 := but3 _ _ nwp hlw
    have w1 := el_lcR1 (ta := tCons (tVar 1) tNil) (σ := [some (.ref p), some (natV n), some (.str let8), some (.ref lw), some (natV y), none]) (H := H3) (t := tYes) (te := tOp (rIxL K) (tLst (tCons (tOp rIxS (tVar 2) (tVar 5)) (tCons (tOp rCatS (tC (.str "aaaaaaa")) (tOp rIxS (tVar 2) (tVar 5))) (tCons (tOp (rIxL K) (tVar 3) (tVar 5)) tNil)))) (tVar 4)) (j := 5) (vs := [5]) (n := (n : Int)) (fun _ => true) (fun i => V.str (thingAt y i))
      (ea_cons (ev_var rfl) ea_nil) (by omega) (fun _ => rfl) (fun i H5 e hi => et_yes)
      (fun i H5 e hi _ => ev_opL1 (xs := rowV [lett8 i, "aaaaaaa" ++ lett8 i, words8.getD i ""]) (y := natV y) (el_lst (ea_cons (ev_op (ev_var rfl) (ev_var rfl) (rv_ixS (by decide) (atI_nat (let8_at i (by omega))))) (ea_cons (ev_op ev_c (ev_op (ev_var rfl) (ev_var rfl) (rv_ixS (by decide) (atI_nat (let8_at i (by omega))))) (rv_catS (Nat.le_of_ble_eq_true rfl)))
        (ea_cons (ev_op (ev_var rfl) (ev_var rfl) (rv_ixL (sq_of (e _ _ w3)) (atI_nat (by
          rw [List.getElem?_map, List.getD_eq_getElem?_getD]
          have hm : i < words8.length := by show i < 8; omega
          rw [List.getElem?_eq_getElem hm]
          rfl)))) ea_nil))) (Nat.le_of_ble_eq_true rfl)) (fun H9 e9 => ev_var rfl) (fun q H9 hq e9 => rv_ixL (sq_of hq) (atI_nat (by
          unfold thingAt
          rcases (show y = 0 ∨ y = 1 ∨ y = 2 by omega) with rfl | rfl | rfl <;> rfl))))
    rw [Int.toNat_natCast] at w1
    have e0 : given n (fun _ => true) (fun i => V.str (thingAt y i)) = rowV (thingsL y n) := by
      unfold given thingsL
      rw [List.filter_eq_self.mpr fun _ _ => rfl]
      show _ = List.map V.str (List.map _ _)
      rw [List.map_map]
      rfl
    rw [e0] at w1
    have b3 := (but_ex (e1.trans e2)).trans but3
    exact s_retL w1 fun q H5 nq e5 hq => k y u1 q H5 hy (by omega) (by omega) (pen_mono e5 pen3) (b3.trans (but_ex e5)) (new_but pen3 b3 nq) hq
/-- a comprehension over a range, by hand -/
theorem rd_lcR {σ : L2.St} {H : Hp} {ta : TA} {te : TE} {j n : Nat} {vs : List Nat} {Q : VK} (h : EvA ta σ H [.int (n : Nat)]) (hn : n ≤ 40000) (hw : ∀ x, wipe ((wipe σ vs).set j (some x)) vs = wipe σ vs)
    (k : ∀ H1 D, Ex H H1 → H1 D = none → ∃ Pv : Nat → Hp → Prop, Pv 0 (upd H1 D (.lst [])) ∧ (∀ i H', i < n → Pv i H' → te ((wipe σ vs).set j (some (.int (i : Nat)))) H' fun y H4 => ∃ acc, H4 D = some (.lst acc) ∧ acc.length < sizeLine ∧ Pv (i + 1) (upd H4 D (.lst (acc ++ [y])))) ∧ ∀ H', Pv n H' → Q (.ref D) H') : tLc (iRng1 ta) (gName j) tYes te vs σ H Q :=
  h H (Ex.refl H) _ fun H1 e => ⟨(n : Int), rfl, by omega, by omega, fun D hD => by
    obtain ⟨Pv, h0, hs, hd⟩ := k H1 D e hD
    rw [Int.toNat_natCast]
    refine lc_range (lo := 0) (n := n) Pv h0 (fun i H' hi pp => ?_) hd
    have e0 : (0 : Int) + (i : Int) = (i : Int) := Int.zero_add _
    rw [e0]
    exact ⟨hw _, hs i H' hi pp⟩⟩
theorem seq_ix {d n : Nat} (h : d < n) : seqIndex? (d : Int) n = some d := by
  unfold seqIndex?
  simp
  omega
theorem erase_perm {y : V} : ∀ {l : List V} {d : Nat}, l[d]? = some y → (y :: l.eraseIdx d).Perm l
  | [], d, h => by simp at h
  | a :: r, 0, h => by
    simp at h
    rw [h]
    exact .refl _
  | a :: r, d + 1, h => by
    rw [List.getElem?_cons_succ] at h
    exact (List.Perm.swap a y _).trans ((erase_perm h).cons a)
theorem el_listA {σ : L2.St} {H : Hp} {te : TE} {g : Addr} {xs : List V} (h : Ev te σ H (.ref g)) (hg : SqL K H g xs ∨ SqT K H g xs) : EvL (tCB (rListO K) (tCons te tNil)) σ H xs := fun H1 e Q q => h H1 e _ fun H2 e2 => ⟨g, xs, rfl, hg.elim (fun y => .inl (ex_l (e.trans e2) y)) fun y => .inr (ex_t (e.trans e2) y), fun r nr => q r _ (fresh_back e2 nr) (e2.trans (Ex.new nr)) upd_same⟩
theorem perm_pop {xs ys rest : List V} {d : Nat} {y : V} (h : (ys ++ rest).Perm xs) (hd : rest[d]? = some y) : ((ys ++ [y]) ++ rest.eraseIdx d).Perm xs := by
  refine List.Perm.trans ?_ h
  rw [List.append_assoc]
  refine List.Perm.append_left ys ?_
  exact erase_perm hd
theorem ok_mixed (B : Bt mg) (D : Fn0 P w K mg base "_law_draw" 1 f1 d1 p_law_draw spTake) (F : FnP K "_law_mixed" s_law_mixed f fd) : FnOk P w K mg base CX0 2 f fd p_law_mixed (spMx K) := by
  refine F.ok sc_law_mixed (fun vs H Q E h => ?_) (fun cdv A outer s H vs Q E hr h => ?_)
  · obtain ⟨p, g, ns, t, xs, rfl, _⟩ := h
    rfl
  · obtain ⟨p, g, ns, t, xs, rfl, hg, hz, pen, hn, t0, t1, k⟩ := h
    have nd := sc_law_mixed.nd
    refine ⟨_, PSs.nox (pss_cons (ps_set (i := 2) nd rfl (Or.inr rfl) (pe_callTy (r := rListO K) call_list_of (by rfl) B.list (by decide +kernel) (pa_cons (pv 1) pa_nil)))
      (pss_one (ps_ret (pe_lc (own := [("_law_k", 3)]) (g := gName 3) (tt := tYes) (te := tBM K "list" rPopAt (tVar 2) (tCons (tCall spTake [] E0 (tCons (tVar 0) (tCons (tCB (rLenS K) (tCons (tVar 2) tNil)) tNil))) tNil)) (by rfl) nd (pi_range1 (by rfl) B.range (pa_cons (pe_callB call_len_seq (by rfl) B.len (by decide +kernel) (pa_cons (pv 2) pa_nil)) pa_nil)) (blkOk_by (N := n_law_mixed) (sc := defScope s_law_mixed) (by decide +kernel)) (fun _ _ _ _ _ => pg_name (i := 3) nd rfl (Or.inl rfl)) (fun _ _ _ _ _ => pts_nil)
        (fun _ _ _ _ _ => pe_bm PySem.F.plainAttrs_list PySem.F.slot_list_pop PySem.F.type_list_pop mt_popAt (pv 2) (pa_cons (pe_call D.ok hr (by rfl) D.m D.k D.b .nil pass0 (pa_cons (pv 0) (pa_cons (pe_callB call_len_seq (by rfl) B.len (by decide +kernel) (pa_cons (pv 2) pa_nil)) pa_nil))) pa_nil)))))), ?_⟩
    refine q_asgL (xs := xs) (el_listA (ev_var rfl) hg) fun rl H1 nrl e1 h1 => ?_
    refine s_retR ?_
    have rp : rl ≠ p := pen_fresh pen nrl
    have rn : rl ≠ ns.l := fun e => by
      obtain ⟨_, _, z⟩ := pen
      rw [← e, nrl] at z
      cases z
    have wn : Ev (tCB (rLenS K) (tCons (tVar 2) tNil)) [some (.ref p), some (.ref g), some (.ref rl), none] H1 (.int (xs.length : Int)) := ev_len (ev_var rfl) (sq_of h1)
    refine rd_lcR (j := 3) (vs := [3]) (n := xs.length) (ea_cons wn ea_nil) (by omega) (fun _ => rfl) fun H2 Dl e2 hD => ?_
    have h2 := e2 _ _ h1
    have pen2 := pen_mono (e1.trans e2) pen
    have dp : Dl ≠ p := pen_fresh pen2 hD
    have dn : Dl ≠ ns.l := fun e => by
      obtain ⟨_, _, z⟩ := pen2
      rw [← e, hD] at z
      cases z
    have dr : Dl ≠ rl := fun e => by rw [e, h2] at hD; cases hD
    have nD0 : H Dl = none := fresh_back (e1.trans e2) hD
    refine ⟨fun i H' => ∃ (acc rest : List V) (u : Int), (acc ++ rest).Perm xs ∧ rest.length = xs.length - i ∧ acc.length = i ∧ H' rl = some (.lst rest) ∧ H' Dl = some (.lst acc) ∧ t ≤ u ∧ u ≤ t + i ∧ PenAt H' p ns u ∧ But p H H',
      ⟨[], xs, t, .refl _, by omega, rfl, (upd_ne dr.symm).trans h2, upd_same, Int.le_refl _, by omega, pen_upd0 pen2 hD, fun c o n hc => (upd_ne fun e => by rw [e, nD0] at hc; cases hc).trans ((e1.trans e2) _ _ hc)⟩, fun i H' hi pp => ?_, fun H' pp => ?_⟩
    · obtain ⟨acc, rest, u, pm, lr, la, hr', hD', u0, u1, pen', but'⟩ := pp
      refine ⟨_, rfl, .inl ⟨rfl, rest, sq_of hr'⟩, ?_⟩
      have wl : Ev (tCB (rLenS K) (tCons (tVar 2) tNil)) [some (.ref p), some (.ref g), some (.ref rl), some (.int (i : Nat))] H' (.int (rest.length : Int)) := ev_len (ev_var rfl) (sq_of hr')
      refine c_draw (j := 0) rfl wl pen' hn (by omega) (by omega) (by omega) (by omega) fun dd u2 H3 d0 d1 u20 u21 pen3 but3 => ?_
      obtain ⟨d, rfl⟩ := Int.eq_ofNat_of_zero_le d0
      have dl : d < rest.length := by omega
      have hr3 := but3 _ _ rp hr'
      have hD3 := but3 _ _ dp hD'
      refine ⟨rl, rest, (d : Int), d, rest[d], rfl, rfl, hr3, by omega, by omega, seq_ix dl, List.getElem?_eq_getElem dl, acc, (upd_ne dr).trans hD3, sz_lt (by omega), acc ++ [rest[d]], rest.eraseIdx d, u2, perm_pop pm (List.getElem?_eq_getElem dl), ?_, ?_, (upd_ne dr.symm).trans upd_same, upd_same, by omega, by omega, ?_, ?_⟩
      · rw [List.length_eraseIdx, if_pos dl]
        omega
      · rw [List.length_append, la]
        rfl
      · exact pen_updL (pen_updL pen3 hr3 rp rn) ((upd_ne dr).trans hD3) dp dn
      · intro c o n hc
        have c1 : c ≠ rl := fun e => by rw [e, nrl] at hc; cases hc
        have c2 : c ≠ Dl := fun e => by rw [e, nD0] at hc; cases hc
        rw [upd_ne c2, upd_ne c1]
        exact but3 _ _ n (but' c o n hc)
    · obtain ⟨acc, rest, u, pm, lr, la, hr', hD', u0, u1, pen', but'⟩ := pp
      have er : rest = [] := List.eq_nil_of_length_eq_zero (by omega)
      rw [er, List.append_nil] at pm
      exact k acc u Dl H' pm u0 (by omega) pen' but' nD0 hD'
end
end L2.M2
set_option maxRecDepth 100000
set_option maxHeartbeats 8000000
namespace L2.M2
open PySem PySem.Spec PyProof.Rows L2 Mx L2.Mb Evl Mv L2.C LamX Sr Srt SrtO NdefX
/-! ### drawn families -/
abbrev nSd : List Str := ["_law_pen_here", "_law_many", "_law_style", "_law_size_here", "_law_mask", "_law_pairs", "_law_k", "_law_lone", "_law_every", "_law_pair"]
theorem sc_Sd : FnScope nSd p_law_seeds (defScope s_law_seeds) := ⟨rfl, rfl, rfl, by decide +kernel, rfl, by decide +kernel, by decide +kernel⟩
def spSd : Sp := fun vs H Q _ => ∃ (p : Addr) (ns : Cells) (t : Int) (n : Nat), vs = [.ref p, natV n] ∧ 1 ≤ n ∧ n ≤ 8 ∧ PenAt H p ns t ∧ ns.length ≤ 63 ∧ 0 ≤ t ∧ t ≤ 900000 ∧
  ∀ (B : List Nat) (u : Int) (q : Addr) (H' : Hp), (∀ b ∈ B, b < 2 ^ n) → B.length ≤ 256 → t ≤ u → u ≤ t + 20 → PenAt H' p ns u → But p H H' → H q = none → H' q = some (.lst (B.map natV)) → Q (.ref q) H'
theorem rd_lst3 {K : W.Frag} {σ : L2.St} {H : Hp} {t1 t2 t3 tb : TE} {x1 x2 x3 : List V} {Q : VK} (h1 : EvL t1 σ H x1) (h2 : EvL t2 σ H x2) (h3 : EvL t3 σ H x3)
    (k : ∀ a1 a2 a3 q H', Ex H H' → H a1 = none → H a2 = none → H a3 = none → H' a1 = some (.lst x1) → H' a2 = some (.lst x2) → H' a3 = some (.lst x3) → H' q = some (.lst [.ref a1, .ref a2, .ref a3]) → tb σ H' fun y H4 => rIxL K (.ref q) y H4 Q) : tOp (rIxL K) (tLst (tCons t1 (tCons t2 (tCons t3 tNil)))) tb σ H Q :=
  h1 H (Ex.refl H) _ fun a1 H1 n1 e1 g1 => h2 H1 e1 _ fun a2 H2 n2 e2 g2 => h3 H2 (e1.trans e2) _ fun a3 H3 n3 e3 g3 => ⟨(by show 3 ≤ sizeLine; decide), fun q nq => by
    have x := Ex.new (o := .lst [.ref a1, .ref a2, .ref a3]) nq
    exact k a1 a2 a3 q _ (((e1.trans e2).trans e3).trans x) n1 (fresh_back e1 n2) (fresh_back (e1.trans e2) n3) (x _ _ (e3 _ _ (e2 _ _ g1))) (x _ _ (e3 _ _ g2)) (x _ _ g3) upd_same⟩
theorem rd_lcDr {σ : L2.St} {H : Hp} {te : TE} {j : Nat} {vs : List Nat} {Q : VK} {p : Addr} {ns : Cells} {t : Int} (pen : PenAt H p ns t) (hn : ns.length ≤ 63) (t0 : 0 ≤ t) (t1 : t ≤ 1000000) (hp : σ[0]? = some (some (.ref p))) (hw : ∀ x, wipe ((wipe σ vs).set j (some x)) vs = wipe σ vs)
    (k : ∀ (n : Nat) (u : Int) H1, 1 ≤ n → n ≤ 6 → t ≤ u → u ≤ t + 1 → PenAt H1 p ns u → But p H H1 → ∀ D, H1 D = none → ∃ Pv : Nat → Hp → Prop, Pv 0 (upd H1 D (.lst [])) ∧ (∀ i H', i < n → Pv i H' → te ((wipe σ vs).set j (some (.int (i : Nat)))) H' fun y H4 => ∃ acc, H4 D = some (.lst acc) ∧ acc.length < sizeLine ∧ Pv (i + 1) (upd H4 D (.lst (acc ++ [y])))) ∧ ∀ H', Pv n H' → Q (.ref D) H') :
    tLc (iRng1 (tCons (tOp (rI0 fun i j => .int (i + j)) (tC (.int 1)) (tCall spTake [] E0 (tCons (tVar 0) (tCons (tC (.int 6)) tNil)))) tNil)) (gName j) tYes te vs σ H Q :=
  c_draw (j := 0) (te := tC (.int 6)) (E := E0) hp ev_c pen hn t0 t1 (by decide) (by decide) fun d u H1 d0 d1 u0 u1 pen1 b1 => by
    obtain ⟨d, rfl⟩ := Int.eq_ofNat_of_zero_le d0
    refine ⟨1, (d : Int), rfl, rfl, ((1 + d : Nat) : Int), congrArg (fun x => [V.int x]) (by omega), by omega, by omega, fun D hD => ?_⟩
    obtain ⟨Pv, h0, hs, hd⟩ := k (1 + d) u H1 (by omega) (by omega) u0 u1 pen1 b1 D hD
    rw [Int.toNat_natCast]
    refine lc_range (lo := 0) (n := 1 + d) Pv h0 (fun i H' hi pp => ?_) hd
    have e0 : (0 : Int) + (i : Int) = (i : Int) := Int.zero_add _
    rw [e0]
    exact ⟨hw _, hs i H' hi pp⟩
theorem pow8 {n : Nat} (h : n ≤ 8) : 2 ^ n ≤ 256 := Nat.pow_le_pow_right (n := 2) (by decide) h
theorem rgV_nat (m : Nat) : rgV 0 ((m : Nat) : Int) = (List.range m).map natV := by
  unfold rgV
  rw [show ((m : Int) - 0).toNat = m by omega]
  refine List.map_congr_left fun i _ => ?_
  show V.int (0 + (i : Int)) = V.int (i : Int)
  rw [Int.zero_add]
section
variable {P : Program} {w : World} {K : W.Frag} {mg : Str → Option Value} {base : Heap} {f f1 f2 : Addr} {fd d1 d2 : FuncData}
abbrev tDr (te : TE) : TE := tCall spTake [] E0 (tCons (tVar 0) (tCons te tNil))
abbrev tShl (te : TE) : TE := tOp rShl1 (tC (.int 1)) te
theorem ok_seeds (B : Bt mg) (D : Fn0 P w K mg base "_law_draw" 1 f1 d1 p_law_draw spTake) (Z : Fn0 P w K mg base "_law_size" 1 f2 d2 p_law_size spSz) (F : FnP K "_law_seeds" s_law_seeds f fd) : FnOk P w K mg base CX0 2 f fd p_law_seeds spSd := by
  refine F.ok sc_Sd (fun vs H Q E h => ?_) (fun cdv A outer s H vs Q E hr h => ?_)
  · obtain ⟨p, ns, t, n, rfl, _⟩ := h
    rfl
  · obtain ⟨p, ns, t, n, rfl, n1, n8, pen, hn, t0, t1, k⟩ := h
    have nd := sc_Sd.nd
    have hu0 := hr.units0
    refine ⟨_, PSs.nox (pss_cons (ps_set (i := 2) nd rfl (Or.inl rfl) (pe_call D.ok hr (by rfl) D.m D.k D.b .nil pass0 (pa_cons (pv 0) (pa_cons pe_int pa_nil))))
      (pss_cons (ps_if (pt_cmpR op_eq (pv 2) pe_int (nomark _)) (pss_cons (ps_set (i := 3) nd rfl (Or.inr rfl) (pe_ix ix_list (pe_lst (pa_cons pe_int (pa_cons pe_int (pa_cons pe_int (pa_cons (pe_op op_sub (pv 1) pe_int) (pa_cons (pv 1) pa_nil)))))) (pe_call D.ok hr (by rfl) D.m D.k D.b .nil pass0 (pa_cons (pv 0) (pa_cons pe_int pa_nil))) (fun _ _ => rfl)))
          (pss_cons (ps_set (i := 3) nd rfl (Or.inr rfl) (pe_ifExp (pt_cmpR op_lt (pv 1) pe_int (nomark _)) (pe_call D.ok hr (by rfl) D.m D.k D.b .nil pass0 (pa_cons (pv 0) (pa_cons (pe_op op_add (pv 1) pe_int) pa_nil))) (pv 3)))
          (pss_one (ps_ret (pe_lc (own := [("_law_mask", 4)]) (g := gName 4) (tt := tTest (tOp rEq (tCall spSz [] E0 (tCons (tVar 4) tNil)) (tVar 3))) (te := tVar 4) (by rfl) nd (pi_range1 (by rfl) B.range (pa_cons (pe_op op_shl1 pe_int (pv 1)) pa_nil)) (blkOk_by (N := nSd) (sc := defScope s_law_seeds) (by decide +kernel)) (fun _ _ _ _ _ => pg_name (i := 4) nd rfl (Or.inl rfl))
            (fun _ _ _ _ _ => pts_one (pt_cmpR op_eq (pe_call Z.ok hr (by rfl) Z.m Z.k Z.b .nil pass0 (pa_cons (pv 4) pa_nil)) (pv 3) (nomark _))) (fun _ _ _ _ _ => pv 4)))))) pss_nil)
      (pss_cons (ps_if (pt_cmpR op_eq (pv 2) pe_int (nomark _)) (pss_cons (ps_set (i := 5) nd rfl (Or.inr rfl) (pe_lc (own := [("_law_k", 6)]) (g := gName 6) (tt := tYes) (te := tOp (rI CPow fun i j => .int (i * 2 ^ j.toNat)) (tC (.int 3)) (tOp (rI CMul fun i j => .int (i * j)) (tC (.int 2)) (tVar 6))) (by rfl) nd (pi_range1 (by rfl) B.range (pa_cons (pe_op op_fdiv (pv 1) pe_int) pa_nil)) (blkOk_by (N := nSd) (sc := defScope s_law_seeds) (by decide +kernel)) (fun _ _ _ _ _ => pg_name (i := 6) nd rfl (Or.inl rfl)) (fun _ _ _ _ _ => pts_nil)
            (fun _ _ _ _ _ => pe_op op_shl pe_int (pe_op op_mul pe_int (pv 6)))))
          (pss_cons (ps_set (i := 7) nd rfl (Or.inr rfl) (pe_call D.ok hr (by rfl) D.m D.k D.b .nil pass0 (pa_cons (pv 0) (pa_cons pe_int pa_nil))))
          (pss_cons (ps_set (i := 8) nd rfl (Or.inl rfl) (pe_listRg (te := tRg1 (tShl (tVar 1))) (by rfl) (by rfl) B.list (prg_1 (by rfl) B.range (pe_op op_shl1 pe_int (pv 1)))))
          (pss_one (ps_ret (pe_lc (own := [("_law_mask", 4)]) (g := gName 4) (tt := tTest (tOp (rNil K false) (tLc (iList K (tVar 5)) (gName 9) (tTest (tOp (rI0 fun i j => .bl (decide (i ≤ j))) (tCall spSz [] E0 (tCons (tAn (tVar 4) (tVar 9)) tNil)) (tVar 7))) (tVar 9) [9]) (tLst tNil))) (te := tVar 4) (by rfl) nd (pi_list (pv 8)) (blkOk_by (N := nSd) (sc := defScope s_law_seeds) (by decide +kernel)) (fun _ _ _ _ _ => pg_name (i := 4) nd rfl (Or.inr rfl))
            (fun _ _ _ _ _ => pts_one (pt_cmpR (op_eqNil hu0) (pe_lc (own := [("_law_pair", 9)]) (g := gName 9) (tt := tTest (tOp (rI0 fun i j => .bl (decide (i ≤ j))) (tCall spSz [] E0 (tCons (tAn (tVar 4) (tVar 9)) tNil)) (tVar 7))) (te := tVar 9) (by rfl) nd (pi_list (pv 5)) (blkOk_by (N := nSd) (by rfl)) (fun _ _ _ _ _ => pg_name (i := 9) nd rfl (Or.inl rfl))
              (fun _ _ _ _ _ => pts_one (pt_cmpR op_le (pe_call Z.ok hr (by rfl) Z.m Z.k Z.b .nil pass0 (pa_cons (pe_op op_and (pv 4) (pv 9)) pa_nil)) (pv 7) (nomark _))) (fun _ _ _ _ _ => pv 9)) (pe_lst pa_nil) (nomark _))) (fun _ _ _ _ _ => pv 4))))))) pss_nil)
      (pss_cons (ps_if (pt_cmpR op_eq (pv 2) pe_int (nomark _)) (pss_one (ps_ret (pe_ix ix_list (pe_lst (pa_cons (pe_lst pa_nil) (pa_cons (pe_lst (pa_cons pe_int pa_nil)) (pa_cons (pe_lst (pa_cons (pe_op op_sub (pe_op op_shl1 pe_int (pv 1)) pe_int) pa_nil)) pa_nil)))) (pe_call D.ok hr (by rfl) D.m D.k D.b .nil pass0 (pa_cons (pv 0) (pa_cons pe_int pa_nil))) (fun _ _ => rfl)))) pss_nil)
      (pss_one (ps_ret (pe_lc (own := [("_law_k", 6)]) (g := gName 6) (tt := tYes) (te := tDr (tShl (tVar 1))) (by rfl) nd (pi_range1 (by rfl) B.range (pa_cons (pe_op op_add pe_int (pe_call D.ok hr (by rfl) D.m D.k D.b .nil pass0 (pa_cons (pv 0) (pa_cons pe_int pa_nil)))) pa_nil)) (blkOk_by (N := nSd) (sc := defScope s_law_seeds) (by decide +kernel)) (fun _ _ _ _ _ => pg_name (i := 6) nd rfl (Or.inl rfl)) (fun _ _ _ _ _ => pts_nil)
          (fun _ _ _ _ _ => pe_call D.ok hr (by rfl) D.m D.k D.b .nil pass0 (pa_cons (pv 0) (pa_cons (pe_op op_shl1 pe_int (pv 1)) pa_nil)))))))))), ?_⟩
    have h2n := pow8 n8
    have h1n : 1 ≤ 2 ^ n := Nat.one_le_two_pow
    refine q_draw rfl ev_c pen hn t0 (by omega) (by decide) (by decide) fun d1 u1 H1 d10 d11 u10 u11 pen1 b1 => ?_
    refine q_if (b := decide (V.int d1 = .int 0)) (et_test (ev_op (ev_var rfl) ev_c (rv_eq rfl))) (fun hd H2 e2 => ?_) (fun hd H2 e2 => ?_)
    · -- all of one size
      have pen2 := pen_mono e2 pen1
      have b2 := b1.trans (but_ex e2)
      have wl : EvL (tLst (tCons (tC (.int 0)) (tCons (tC (.int 1)) (tCons (tC (.int 2)) (tCons (tOp (rI0 fun i j => .int (i - j)) (tVar 1) (tC (.int 1))) (tCons (tVar 1) tNil)))))) [some (.ref p), some (natV n), some (.int d1), none, none, none, none, none, none, none] H2 [.int 0, .int 1, .int 2, .int ((n : Int) - 1), natV n] :=
        el_lst (ea_cons ev_c (ea_cons ev_c (ea_cons ev_c (ea_cons (ev_op (ev_var rfl) ev_c rv_I0) (ea_cons (ev_var rfl) ea_nil))))) (Nat.le_of_ble_eq_true rfl)
      dsimp only
      refine q_asgR (wl H2 (Ex.refl _) _ fun l3 H3 nl3 e3 h3 => ?_)
      have n3p : l3 ≠ p := pen_fresh pen2 nl3
      refine c_draw (j := 0) rfl ev_c (pen_mono e3 pen2) hn (by omega) (by omega) (by decide) (by decide) fun d2 u2 H4 d20 d21 u20 u21 pen4 b4 => ?_
      obtain ⟨d, rfl⟩ := Int.eq_ofNat_of_zero_le d20
      have hd5 : d < 5 := by omega
      have ⟨z, hz⟩ : ∃ z : Int, atI [V.int 0, .int 1, .int 2, .int ((n : Int) - 1), natV n] (d : Int) = some (.int z) := by
        rcases (show d = 0 ∨ d = 1 ∨ d = 2 ∨ d = 3 ∨ d = 4 by omega) with rfl | rfl | rfl | rfl | rfl
        · exact ⟨0, rfl⟩
        · exact ⟨1, rfl⟩
        · exact ⟨2, rfl⟩
        · exact ⟨_, rfl⟩
        · exact ⟨_, rfl⟩
      refine ⟨l3, _, _, .int z, rfl, rfl, sq_of (b4 _ _ n3p h3), hz, ?_⟩
      have b24 := (b2.trans (but_ex e3)).trans b4
      -- the size
      have last : ∀ (z : Int) (u : Int) (H5 : Hp), t ≤ u → u ≤ t + 3 → PenAt H5 p ns u → But p H H5 → tRet (tLc (iRng1 (tCons (tShl (tVar 1)) tNil)) (gName 4) (tTest (tOp rEq (tCall spSz [] E0 (tCons (tVar 4) tNil)) (tVar 3))) (tVar 4) [4]) { nx := fun _ H' => Q .non H', rt := Q } [some (.ref p), some (natV n), some (.int d1), some (.int z), none, none, none, none, none, none] H5 := fun z u H5 u0 u1 pen5 b5 => by
        have w1 := el_lcR1 (ta := tCons (tShl (tVar 1)) tNil) (σ := [some (.ref p), some (natV n), some (.int d1), some (.int z), none, none, none, none, none, none]) (H := H5) (t := tTest (tOp rEq (tCall spSz [] E0 (tCons (tVar 4) tNil)) (tVar 3))) (te := tVar 4) (j := 4) (vs := [4]) (n := ((2 ^ n : Nat) : Int)) (fun i => decide (natV (sizeN i) = .int z)) natV
          (ea_cons (ev_shl1 (ev_var rfl) (by omega)) ea_nil) (by omega) (fun _ => rfl) (fun i H9 e hi => et_test (ev_op (ev_call (z := natV (sizeN i)) (ea_cons (ev_var rfl) ea_nil) (fun H8 e8 Q8 q8 E8 => ⟨i, rfl, q8⟩)) (ev_var rfl) (rv_eq rfl))) (fun i H9 e hi _ => ev_var rfl)
        rw [Int.toNat_natCast] at w1
        refine s_retL w1 fun q H6 nq e6 hq => k ((List.range (2 ^ n)).filter fun i => decide (natV (sizeN i) = .int z)) u q H6 (fun b hb => List.mem_range.mp (List.mem_filter.mp hb).1) ?_ u0 (by omega) (pen_mono e6 pen5) (b5.trans (but_ex e6)) (new_but pen5 b5 nq) hq
        refine Nat.le_trans (List.length_filter_le _ _) ?_
        rw [List.length_range]
        exact h2n
      refine q_asgR ?_
      refine (et_test (ev_op (ev_var rfl) ev_c rv_I0) : EvT (tTest (tOp (rI0 fun i j => .bl (decide (i < j))) (tVar 1) (tC (.int 7)))) [some (.ref p), some (natV n), some (.int d1), some (.int z), none, none, none, none, none, none] H4 (decide ((n : Int) < 7))) H4 (Ex.refl _) _ fun H5 e5 => ?_
      have pen5 := pen_mono e5 pen4
      have b5 := b24.trans (but_ex e5)
      cases decide ((n : Int) < 7) with
      | true =>
        refine c_draw (j := 0) (m := (n : Int) + 1) rfl (ev_op (ev_var rfl) ev_c rv_I0) pen5 hn (by omega) (by omega) (by omega) (by omega) fun d3 u3 H6 d30 d31 u30 u31 pen6 b6 => ?_
        exact last d3 u3 H6 (by omega) (by omega) pen6 (b5.trans b6)
      | false => exact ⟨_, rfl, last z u2 H5 (by omega) (by omega) pen5 b5⟩
    · have pen2 := pen_mono e2 pen1
      have b2 := b1.trans (but_ex e2)
      dsimp only [tNext]
      refine q_if (b := decide (V.int d1 = .int 1)) (et_test (ev_op (ev_var rfl) ev_c (rv_eq rfl))) (fun hd H3 e3 => ?_) (fun hd H3 e3 => ?_)
      · -- out of each pair
        have pen3 := pen_mono e3 pen2
        have b3 := b2.trans (but_ex e3)
        have w1 := el_lcR1 (ta := tCons (tOp (rI CDiv fun i j => .int (i / j)) (tVar 1) (tC (.int 2))) tNil) (σ := [some (.ref p), some (natV n), some (.int d1), none, none, none, none, none, none, none]) (H := H3) (t := tYes) (te := tOp (rI CPow fun i j => .int (i * 2 ^ j.toNat)) (tC (.int 3)) (tOp (rI CMul fun i j => .int (i * j)) (tC (.int 2)) (tVar 6))) (j := 6) (vs := [6]) (n := (n : Int) / 2) (fun _ => true) (fun i => natV (3 * 2 ^ (2 * i)))
          (ea_cons (ev_op (ev_var rfl) ev_c (rv_I ⟨by decide, by decide⟩)) ea_nil) (by omega) (fun _ => rfl) (fun i H9 e hi => et_yes) (fun i H9 e hi _ => ev_is (ev_op ev_c (ev_op ev_c (ev_var rfl) (rv_I (.inl ⟨by decide, by decide⟩))) (rv_I ⟨by omega, by omega, by decide⟩)) (by
            rw [show ((2 : Int) * (i : Int)).toNat = 2 * i by omega]
            show V.int (3 * 2 ^ (2 * i)) = V.int ((3 * 2 ^ (2 * i) : Nat) : Int)
            rw [Int.natCast_mul, Int.natCast_pow]
            rfl))
        dsimp only
        refine q_asgL w1 fun l5 H4 nl5 e4 h5 => ?_
        have pl : ∃ Ps : List Nat, given ((n : Int) / 2).toNat (fun _ => true) (fun i => natV (3 * 2 ^ (2 * i))) = Ps.map natV ∧ Ps.length ≤ 8 := by
          refine ⟨(List.range ((n : Int) / 2).toNat).map fun i => 3 * 2 ^ (2 * i), ?_, ?_⟩
          · unfold given
            rw [List.filter_eq_self.mpr fun _ _ => rfl, List.map_map]
            rfl
          · rw [List.length_map, List.length_range]
            omega
        obtain ⟨Ps, ep, lp⟩ := pl
        rw [ep] at h5
        have n5p : l5 ≠ p := pen_fresh pen3 nl5
        refine q_draw rfl ev_c (pen_mono e4 pen3) hn (by omega) (by omega) (by decide) (by decide) fun d2 u2 H5 d20 d21 u20 u21 pen5 b5 => ?_
        have h55 := b5 _ _ n5p h5
        have b35 := (b3.trans (but_ex e4)).trans b5
        -- every set
        have wr : EvL (tLstRg (tRg1 (tShl (tVar 1)))) [some (.ref p), some (natV n), some (.int d1), none, none, some (.ref l5), none, some (.int d2), none, none] H5 ((List.range (2 ^ n)).map natV) := fun H9 e9 Q9 q9 => (ev_shl1 (i := n) (ev_var rfl) (by omega) : Ev (tShl (tVar 1)) _ H9 _) H9 (Ex.refl _) _ fun H8 e8 => ⟨_, rfl, RgOk.of_le (by decide) (by omega) (by decide) (by omega), fun q nq => by
          rw [rgV_nat]
          exact q9 q _ (fresh_back e8 nq) (e8.trans (Ex.new nq)) upd_same⟩
        refine q_asgL wr fun l8 H6 nl8 e6 h8 => ?_
        have pen6 := pen_mono e6 pen5
        have b6 := b35.trans (but_ex e6)
        have w9 := el_lcI (wi := iList K (tVar 8)) (σ := [some (.ref p), some (natV n), some (.int d1), none, none, some (.ref l5), none, some (.int d2), some (.ref l8), none]) (H := H6) (t := tTest (tOp (rNil K false) (tLc (iList K (tVar 5)) (gName 9) (tTest (tOp (rI0 fun i j => .bl (decide (i ≤ j))) (tCall spSz [] E0 (tCons (tAn (tVar 4) (tVar 9)) tNil)) (tVar 7))) (tVar 9) [9]) (tLst tNil))) (te := tVar 4) (l := List.range (2 ^ n)) (c := natV) (j := 4) (vs := [4])
          (fun m => ((Ps.filter fun q => decide ((sizeN (m &&& q) : Int) ≤ d2)).map natV).isEmpty) natV (eo_list (ev_var rfl) (sq_of h8)).ei (by rw [List.length_range]; omega) (fun _ => rfl)
          (fun m hm H7 e7 => by
            have w5 := el_lcI (wi := iList K (tVar 5)) (σ := [some (.ref p), some (natV n), some (.int d1), none, some (natV m), some (.ref l5), none, some (.int d2), some (.ref l8), none]) (H := H7) (t := tTest (tOp (rI0 fun i j => .bl (decide (i ≤ j))) (tCall spSz [] E0 (tCons (tAn (tVar 4) (tVar 9)) tNil)) (tVar 7))) (te := tVar 9) (l := Ps) (c := natV) (j := 9) (vs := [9]) (fun q => decide ((sizeN (m &&& q) : Int) ≤ d2)) natV (eo_list (ev_var rfl) (sq_of (e7 _ _ (e6 _ _ h55)))).ei (by omega) (fun _ => rfl)
              (fun q hq H8 e8 => et_test (ev_op (ev_call (z := natV (sizeN (m &&& q))) (ea_cons (ev_an (ev_var rfl) (ev_var rfl)) ea_nil) (fun H9 e9 Q9 q9 E9 => ⟨m &&& q, rfl, q9⟩)) (ev_var rfl) rv_I0)) (fun q hq H8 e8 _ => ev_var rfl)
            exact et_test (ev_eqNilN (neg := false) w5)) (fun m hm H7 e7 _ => ev_var rfl)
        refine s_retL w9 fun q H7 nq e7 hq => k _ u2 q H7 (fun b hb => List.mem_range.mp (List.mem_filter.mp hb).1) ?_ (by omega) (by omega) (pen_mono e7 pen6) (b6.trans (but_ex e7)) (new_but pen6 b6 nq) hq
        refine Nat.le_trans (List.length_filter_le _ _) ?_
        rw [List.length_range]
        exact h2n
      · have pen3 := pen_mono e3 pen2
        have b3 := b2.trans (but_ex e3)
        dsimp only [tNext]
        refine q_if (b := decide (V.int d1 = .int 2)) (et_test (ev_op (ev_var rfl) ev_c (rv_eq rfl))) (fun hd H4 e4 => ?_) (fun hd H4 e4 => ?_)
        · have pen4 := pen_mono e4 pen3
          have b4 := b3.trans (but_ex e4)
          refine s_retR (rd_lst3 (x1 := []) (x2 := [natV 0]) (x3 := [natV (2 ^ n - 1)]) (el_lst ea_nil (by decide)) (el_lst (ea_cons ev_c ea_nil) (by decide)) (el_lst (ea_cons (ev_is (ev_op (ev_shl1 (i := n) (ev_var rfl) (by omega)) ev_c rv_I0) (congrArg V.int (by omega))) ea_nil) (Nat.le_of_ble_eq_true rfl)) fun a1 a2 a3 q H5 e5 na1 na2 na3 h1 h2 h3 hq => ?_)
          have ap : ∀ {a : Addr}, H4 a = none → a ≠ p := fun h => pen_fresh pen4 h
          have qp : q ≠ p := by
            obtain ⟨g, hp, _⟩ := pen_mono e5 pen4
            intro e
            rw [e, hp] at hq
            cases hq
          refine c_draw (j := 0) rfl ev_c (pen_mono e5 pen4) hn (by omega) (by omega) (by decide) (by decide) fun d2 u2 H6 d20 d21 u20 u21 pen6 b6 => ?_
          obtain ⟨d, rfl⟩ := Int.eq_ofNat_of_zero_le d20
          have b46 := (b4.trans (but_ex e5)).trans b6
          rcases (show d = 0 ∨ d = 1 ∨ d = 2 by omega) with rfl | rfl | rfl
          · exact ⟨q, _, _, .ref a1, rfl, rfl, sq_of (b6 _ _ qp hq), rfl, k [] u2 a1 H6 (fun _ y => by cases y) (by decide) (by omega) (by omega) pen6 b46 (new_but pen4 b4 na1) (b6 _ _ (ap na1) h1)⟩
          · exact ⟨q, _, _, .ref a2, rfl, rfl, sq_of (b6 _ _ qp hq), rfl, k [0] u2 a2 H6 (fun b y => by rw [List.mem_singleton.mp y]; omega) (by decide) (by omega) (by omega) pen6 b46 (new_but pen4 b4 na2) (b6 _ _ (ap na2) h2)⟩
          · exact ⟨q, _, _, .ref a3, rfl, rfl, sq_of (b6 _ _ qp hq), rfl, k [2 ^ n - 1] u2 a3 H6 (fun b y => by rw [List.mem_singleton.mp y]; omega) (Nat.le_of_ble_eq_true rfl) (by omega) (by omega) pen6 b46 (new_but pen4 b4 na3) (b6 _ _ (ap na3) h3)⟩
        · have pen4 := pen_mono e4 pen3
          have b4 := b3.trans (but_ex e4)
          dsimp only [tNext]
          refine s_retR ?_
          refine rd_lcDr (j := 6) (vs := [6]) pen4 hn (by omega) (by omega) rfl (fun _ => rfl) fun m u2 H5 m1 m6 u20 u21 pen5 b5 Dl hD => ?_
          have dp : Dl ≠ p := pen_fresh pen5 hD
          have nD0 : H Dl = none := new_but pen5 (b4.trans b5) hD
          have dn : Dl ≠ ns.l := fun e => by
            obtain ⟨_, _, z⟩ := pen5
            rw [← e, hD] at z
            cases z
          refine ⟨fun i H' => ∃ (Bs : List Nat) (u : Int), H' Dl = some (.lst (Bs.map natV)) ∧ Bs.length = i ∧ (∀ b ∈ Bs, b < 2 ^ n) ∧ t ≤ u ∧ u ≤ u2 + i ∧ PenAt H' p ns u ∧ But p H H', ⟨[], u2, upd_same, rfl, (fun _ y => by cases y), by omega, by omega, pen_upd0 pen5 hD, fun c o nc hc => (upd_ne fun e => by rw [e, nD0] at hc; cases hc).trans ((b4.trans b5) c o nc hc)⟩, fun i H' hi pp => ?_, fun H' pp => ?_⟩
          · obtain ⟨Bs, u, hD', lB, ltB, u0, u1, pen', but'⟩ := pp
            refine c_draw (j := 0) (m := ((2 ^ n : Nat) : Int)) rfl (ev_shl1 (ev_var rfl) (by omega)) pen' hn (by omega) (by omega) (by omega) (by omega) fun d2 u3 H6 d20 d21 u30 u31 pen6 b6 => ?_
            obtain ⟨d, rfl⟩ := Int.eq_ofNat_of_zero_le d20
            have hD6 := b6 _ _ dp hD'
            refine ⟨_, hD6, sz_lt (by rw [List.length_map]; omega), Bs ++ [d], u3, ?_, by rw [List.length_append, lB]; rfl, fun b hb => ?_, by omega, by omega, pen_updL pen6 hD6 dp dn, fun c o nc hc => ?_⟩
            · rw [upd_same, List.map_append]
              rfl
            · rcases List.mem_append.mp hb with y | y
              · exact ltB b y
              · rw [List.mem_singleton.mp y]; omega
            · exact (upd_ne fun e => by rw [e, nD0] at hc; cases hc).trans (b6 _ _ nc (but' c o nc hc))
          · obtain ⟨Bs, u, hD', lB, ltB, u0, u1, pen', but'⟩ := pp
            exact k Bs u Dl H' ltB (by omega) u0 (by omega) pen' but' nD0 hD'
end
end L2.M2
set_option maxRecDepth 100000
set_option maxHeartbeats 4000000
namespace L2.M2
open PySem PySem.Spec PyProof.Rows L2 Mx L2.Mb Evl Mv L2.C LamX Sr Srt SrtO NdefX
/-! ### the law's least sets are the least ones -/
theorem size_mono {a b : Nat} (h : L2.C.Sub a b) : ∀ l : List Nat, (l.map fun i => if a.testBit i then 1 else 0).sum ≤ (l.map fun i => if b.testBit i then 1 else 0).sum
  | [] => Nat.le_refl _
  | i :: l => by
    rw [List.map_cons, List.map_cons, List.sum_cons, List.sum_cons]
    refine Nat.add_le_add ?_ (size_mono h l)
    cases z : a.testBit i with
    | false => exact Nat.zero_le _
    | true => rw [h i z]; exact Nat.le_refl _
theorem size_lt {a b : Nat} (h : L2.C.Sub a b) {k : Nat} (hk : a.testBit k = false) (hb : b.testBit k = true) : ∀ l : List Nat, k ∈ l → (l.map fun i => if a.testBit i then 1 else 0).sum < (l.map fun i => if b.testBit i then 1 else 0).sum
  | i :: l, hm => by
    rw [List.map_cons, List.map_cons, List.sum_cons, List.sum_cons]
    rcases List.mem_cons.mp hm with e | e
    · subst e
      rw [hk, hb]
      have := size_mono h l
      simp only [Bool.false_eq_true, if_false, if_true]
      omega
    · have := size_lt h hk hb l e
      have : (if a.testBit i then 1 else 0) ≤ (if b.testBit i then 1 else 0) := by
        cases z : a.testBit i with
        | false => exact Nat.zero_le _
        | true => rw [h i z]; exact Nat.le_refl _
      omega
theorem size_eq {a b : Nat} (h : L2.C.Sub a b) (hb : b < 2 ^ 8) (hs : sizeN b ≤ sizeN a) : a = b := by
  refine L2.C.Sub.anti h fun i hi => ?_
  cases z : a.testBit i with
  | true => rfl
  | false =>
    have := size_lt h z hi (List.range 8) (List.mem_range.mpr (bit_lt hb hi))
    unfold sizeN at hs
    omega
structure LeastOf (ms acc : List Nat) : Prop where
  sub : ∀ o ∈ acc, o ∈ ms
  cov : ∀ m ∈ ms, ∃ o ∈ acc, L2.C.Sub o m
  anti : acc.Pairwise fun a b => ¬ L2.C.Sub a b
  up : acc.Pairwise fun a b => ¬ L2.C.Sub b a
theorem least_of : ∀ (ms : List Nat), BySize ms → (∀ m ∈ ms, m < 2 ^ 8) → LeastOf ms (leastF ms) := by
  suffices key : ∀ (n : Nat) (ms : List Nat), ms.length = n → BySize ms → (∀ m ∈ ms, m < 2 ^ 8) → LeastOf ms (leastF ms) from fun ms => key ms.length ms rfl
  intro n
  induction n with
  | zero =>
    intro ms h _ _
    rw [List.eq_nil_of_length_eq_zero h]
    exact ⟨(fun _ h => by cases h), (fun _ h => by cases h), List.Pairwise.nil, List.Pairwise.nil⟩
  | succ n ih0 =>
    intro ms hlen hs hl
    have hne : ms ≠ [] := fun e => by rw [e] at hlen; cases hlen
    obtain ⟨l, m, rfl⟩ : ∃ l m, ms = l ++ [m] := ⟨ms.dropLast, ms.getLast hne, (List.dropLast_concat_getLast hne).symm⟩
    have ih := ih0 l (by simpa using hlen)
    obtain ⟨h1, _, h3⟩ := List.pairwise_append.mp hs
    have z := ih h1 fun x hx => hl x (List.mem_append_left _ hx)
    rw [leastF_snoc]
    have hm := hl m (List.mem_append_right _ (List.mem_singleton.mpr rfl))
    by_cases y : (leastF l).any (fun o => decide (o &&& m = o)) = true
    · rw [if_pos y]
      refine ⟨fun o ho => List.mem_append_left _ (z.sub o ho), fun x hx => ?_, z.anti, z.up⟩
      rcases List.mem_append.mp hx with q | q
      · exact z.cov x q
      · rw [List.mem_singleton.mp q]
        obtain ⟨o, ho, e⟩ := List.any_eq_true.mp y
        exact ⟨o, ho, sub_and.mpr (of_decide_eq_true e)⟩
    · rw [if_neg y]
      have no : ∀ o ∈ leastF l, ¬ L2.C.Sub o m := fun o ho s => y (List.any_eq_true.mpr ⟨o, ho, decide_eq_true (sub_and.mp s)⟩)
      refine ⟨fun o ho => ?_, fun x hx => ?_, List.pairwise_append.mpr ⟨z.anti, List.pairwise_singleton _ _, fun a ha b hb => ?_⟩, List.pairwise_append.mpr ⟨z.up, List.pairwise_singleton _ _, fun a ha b hb => ?_⟩⟩
      · rcases List.mem_append.mp ho with q | q
        · exact List.mem_append_left _ (z.sub o q)
        · exact List.mem_append_right _ q
      · rcases List.mem_append.mp hx with q | q
        · obtain ⟨o, ho, e⟩ := z.cov x q
          exact ⟨o, List.mem_append_left _ ho, e⟩
        · exact ⟨m, List.mem_append_right _ (List.mem_singleton.mpr rfl), by rw [List.mem_singleton.mp q]; exact L2.C.Sub.refl m⟩
      · rw [List.mem_singleton.mp hb]
        exact no a ha
      · rw [List.mem_singleton.mp hb]
        intro s
        have al := z.sub a ha
        have e := size_eq s (hl a (List.mem_append_left _ al)) (h3 a al m (List.mem_singleton.mpr rfl))
        exact no a ha (by rw [e]; exact L2.C.Sub.refl a)
theorem least_nd {ms acc : List Nat} (h : LeastOf ms acc) : acc.Nodup := h.anti.imp fun {a b} z e => z (by rw [e]; exact L2.C.Sub.refl b)
theorem least_anti {ms acc : List Nat} (h : LeastOf ms acc) {a b : Nat} (ha : a ∈ acc) (hb : b ∈ acc) (s : L2.C.Sub a b) : a = b := by
  obtain ⟨i, hi, rfl⟩ := List.mem_iff_getElem.mp ha
  obtain ⟨j, hj, rfl⟩ := List.mem_iff_getElem.mp hb
  rcases Nat.lt_trichotomy i j with e | e | e
  · exact absurd s (List.pairwise_iff_getElem.mp h.anti i j hi hj e)
  · subst e; rfl
  · exact absurd s (List.pairwise_iff_getElem.mp h.up j i hj hi e)
/-- the least ones of a list -/
theorem mem_least {ms : List Nat} (hs : BySize ms) (hl : ∀ m ∈ ms, m < 2 ^ 8) (m : Nat) : m ∈ leastF ms ↔ m ∈ ms ∧ ∀ c ∈ ms, L2.C.Sub c m → c = m := by
  have z := least_of ms hs hl
  constructor
  · intro h
    refine ⟨z.sub m h, fun c hc s => ?_⟩
    obtain ⟨o, ho, e⟩ := z.cov c hc
    have q := least_anti z ho h (e.trans s)
    rw [q] at e
    exact L2.C.Sub.anti s e
  · rintro ⟨h1, h2⟩
    obtain ⟨o, ho, e⟩ := z.cov m h1
    rw [← h2 o (z.sub o ho) e]
    exact ho
/-- two lists without doubles that have the same members -/
theorem perm_of {α : Type} [DecidableEq α] {l m : List α} (h1 : l.Nodup) (h2 : m.Nodup) (h : ∀ x, x ∈ l ↔ x ∈ m) : l.Perm m := (List.perm_ext_iff_of_nodup h1 h2).mpr h
/-! ### rows in order are told by what they hold -/
theorem eq_of_srt {α : Type} {lt : α → α → Bool} (an : ∀ a b, lt a b = false → lt b a = false → a = b) : ∀ {l m : List α}, l.Perm m → Srtd lt l → Srtd lt m → l = m
  | [], m, p, _, _ => (List.nil_perm.mp p).symm
  | a :: l, [], p, _, _ => by cases List.perm_nil.mp p
  | a :: l, b :: m, p, h1, h2 => by
    obtain ⟨q1, q2⟩ := List.pairwise_cons.mp h1
    obtain ⟨r1, r2⟩ := List.pairwise_cons.mp h2
    have e : a = b := by
      rcases List.mem_cons.mp (p.mem_iff.mp List.mem_cons_self) with y | y
      · exact y
      · rcases List.mem_cons.mp (p.mem_iff.mpr List.mem_cons_self) with x | x
        · exact x.symm
        · exact an a b (r1 a y) (q1 b x)
    subst e
    rw [eq_of_srt an (List.Perm.cons_inv p) q2 r2]
theorem ltKD_tri {x y : KD} (h1 : ltKD x y = false) (h2 : ltKD y x = false) : x = y := by
  by_cases e : x = y
  · exact e
  · rcases lin_KD.tot x y e with z | z
    · rw [z] at h1; cases h1
    · rw [z] at h2; cases h2
theorem keyR_inj {r s : List Str} (h : keyR r = keyR s) : r = s := by
  unfold keyR at h
  injection h with h
  injection h with h1 h2
  injection h2 with h2 h3
  injection h2 with h2
  have key : ∀ r s : List Str, r.map (Sum.inr : Str → Key) = s.map Sum.inr → r = s := fun r => by
    induction r with
    | nil => intro s h; cases s with | nil => rfl | cons b t => cases h
    | cons a r ih =>
      intro s h
      cases s with
      | nil => cases h
      | cons b t =>
        rw [List.map_cons, List.map_cons] at h
        injection h with h1 h2
        rw [Sum.inr.inj h1, ih t h2]
  exact key r s h2
theorem rows_eq {rs ss : List (List Str)} (p : rs.Perm ss) (h1 : SrtR rs) (h2 : SrtR ss) : rs = ss := eq_of_srt (fun a b x y => keyR_inj (ltKD_tri x y)) p h1 h2
theorem nms_eq {I J T : List Str} (h1 : Nms I T) (h2 : Nms J T) : I = J := eq_of_srt (fun a b x y => by
  have z := ltKD_tri (x := .a (.inr a)) (y := .a (.inr b)) x y
  injection z with z
  exact Sum.inr.inj z) (h1.p.trans h2.p.symm) h1.s h2.s
end L2.M2
set_option maxRecDepth 100000
set_option maxHeartbeats 4000000
namespace L2.M2
open PySem PySem.Spec PyProof.Rows L2 Mx L2.Mb Evl Mv L2.C LamX Sr Srt SrtO NdefX
/-! ### rows and masks -/
/-- in order, without doubles -/
structure Ord (J : List Str) : Prop where
  s : Srtd ltN J
  nd : J.Nodup
theorem mem_rowOf {J : List Str} {m : Nat} {x : Str} : x ∈ rowOf J m ↔ ∃ i, i < J.length ∧ m.testBit i = true ∧ J.getD i "" = x := by
  unfold rowOf
  constructor
  · intro h
    obtain ⟨i, hi, e⟩ := List.mem_map.mp h
    obtain ⟨h1, h2⟩ := List.mem_filter.mp hi
    exact ⟨i, List.mem_range.mp h1, h2, e⟩
  · rintro ⟨i, h1, h2, e⟩
    exact List.mem_map.mpr ⟨i, List.mem_filter.mpr ⟨List.mem_range.mpr h1, h2⟩, e⟩
theorem getD_mem {J : List Str} {i : Nat} (h : i < J.length) : J.getD i "" ∈ J := by
  rw [List.getD_eq_getElem?_getD, List.getElem?_eq_getElem h]
  exact List.getElem_mem h
theorem mem_getD {J : List Str} {x : Str} (h : x ∈ J) : ∃ i, i < J.length ∧ J.getD i "" = x := by
  obtain ⟨i, hi, e⟩ := List.mem_iff_getElem.mp h
  refine ⟨i, hi, ?_⟩
  rw [List.getD_eq_getElem?_getD, List.getElem?_eq_getElem hi]
  exact e
theorem rowOf_sub {J : List Str} {m : Nat} : ∀ x ∈ rowOf J m, x ∈ J := fun x hx => by
  obtain ⟨i, h1, _, rfl⟩ := mem_rowOf.mp hx
  exact getD_mem h1
theorem range_getD : ∀ J : List Str, ((List.range J.length).map fun k => J.getD k "") = J := fun J => by
  refine List.ext_getElem (by rw [List.length_map, List.length_range]) fun i h1 h2 => ?_
  rw [List.getElem_map, List.getElem_range, List.getD_eq_getElem?_getD, List.getElem?_eq_getElem h2]
  rfl
theorem rowOf_sl (J : List Str) (m : Nat) : (rowOf J m).Sublist J := by
  have z := (List.filter_sublist (l := List.range J.length) (p := fun k => m.testBit k)).map fun k => J.getD k ""
  rw [range_getD J] at z
  exact z
theorem ord_row {J : List Str} (h : Ord J) (m : Nat) : Ord (rowOf J m) := ⟨h.s.sublist (rowOf_sl J m), h.nd.sublist (rowOf_sl J m)⟩
theorem ltN_an (a b : Str) (x : ltN a b = false) (y : ltN b a = false) : a = b := by
  have z := ltKD_tri (x := .a (.inr a)) (y := .a (.inr b)) x y
  injection z with z
  exact Sum.inr.inj z
theorem ord_eq {r s : List Str} (h1 : Ord r) (h2 : Ord s) (h : ∀ x, x ∈ r ↔ x ∈ s) : r = s := eq_of_srt ltN_an (perm_of h1.nd h2.nd h) h1.s h2.s
theorem mask_row {J : List Str} (nd : J.Nodup) {m : Nat} (hm : m < 2 ^ J.length) : maskR J (rowOf J m) = m := Nat.eq_of_testBit_eq fun i => by
  rw [maskR_bit]
  by_cases e : i < J.length
  · rw [decide_eq_true e, Bool.true_and]
    cases z : m.testBit i with
    | true => exact decide_eq_true (mem_rowOf.mpr ⟨i, e, z, rfl⟩)
    | false =>
      refine decide_eq_false fun h => ?_
      obtain ⟨j, h1, h2, h3⟩ := mem_rowOf.mp h
      rw [getD_inj nd h1 e h3, z] at h2
      cases h2
  · rw [decide_eq_false e, Bool.false_and]
    exact (Nat.testBit_lt_two_pow (Nat.lt_of_lt_of_le hm (Nat.pow_le_pow_right (by decide) (Nat.not_lt.mp e)))).symm
theorem mem_mask {J r : List Str} {x : Str} : x ∈ rowOf J (maskR J r) ↔ x ∈ J ∧ x ∈ r := by
  rw [mem_rowOf]
  constructor
  · rintro ⟨i, h1, h2, rfl⟩
    rw [maskR_bit, Bool.and_eq_true] at h2
    exact ⟨getD_mem h1, of_decide_eq_true h2.2⟩
  · rintro ⟨h1, h2⟩
    obtain ⟨i, hi, rfl⟩ := mem_getD h1
    exact ⟨i, hi, by rw [maskR_bit, decide_eq_true hi, decide_eq_true h2]; rfl, rfl⟩
theorem row_self {J r : List Str} (hJ : Ord J) (hr : Ord r) (h : ∀ x ∈ r, x ∈ J) : rowOf J (maskR J r) = r := ord_eq (ord_row hJ _) hr fun x => mem_mask.trans ⟨fun z => z.2, fun z => ⟨h x z, z⟩⟩
theorem row_inj {J : List Str} (nd : J.Nodup) {a b : Nat} (ha : a < 2 ^ J.length) (hb : b < 2 ^ J.length) (h : rowOf J a = rowOf J b) : a = b := by
  rw [← mask_row nd ha, ← mask_row nd hb, h]
theorem mask_perm {J r s : List Str} (h : ∀ x, x ∈ r ↔ x ∈ s) : maskR J r = maskR J s := Nat.eq_of_testBit_eq fun i => by
  rw [maskR_bit, maskR_bit]
  exact congrArg _ (decide_eq_decide.mpr (h _))
theorem nd_map {α β : Type} {f : α → β} : ∀ {l : List α}, l.Nodup → (∀ a ∈ l, ∀ b ∈ l, f a = f b → a = b) → (l.map f).Nodup
  | [], _, _ => List.nodup_nil
  | a :: l, h, k => by
    obtain ⟨h1, h2⟩ := List.nodup_cons.mp h
    rw [List.map_cons]
    refine List.nodup_cons.mpr ⟨fun z => ?_, nd_map h2 fun x hx y hy => k x (List.mem_cons_of_mem _ hx) y (List.mem_cons_of_mem _ hy)⟩
    obtain ⟨b, hb, e⟩ := List.mem_map.mp z
    rw [k b (List.mem_cons_of_mem _ hb) a List.mem_cons_self e] at hb
    exact h1 hb
/-! ### the least sets of a family -/
theorem holds_iff {L : List Str} (nd : L.Nodup) {seeds : List Nat} {m : Nat} (hm : m < 2 ^ L.length) : holdsR L seeds (rowOf L m) = true ↔ ∃ s ∈ seeds, L2.C.Sub s m := by
  unfold holdsR
  rw [mask_row nd hm, List.any_eq_true]
  exact ⟨fun ⟨s, h1, h2⟩ => ⟨s, h1, sub_and.mpr (of_decide_eq_true h2)⟩, fun ⟨s, h1, h2⟩ => ⟨s, h1, decide_eq_true (sub_and.mp h2)⟩⟩
theorem sub_lt {a b n : Nat} (h : L2.C.Sub a b) (hb : b < 2 ^ n) : a < 2 ^ n := Nat.lt_of_le_of_lt h.le hb
theorem two8 {n : Nat} (h : n ≤ 8) {m : Nat} (hm : m < 2 ^ n) : m < 2 ^ 8 := Nat.lt_of_lt_of_le hm (Nat.pow_le_pow_right (by decide) h)
theorem due_perm {L : List Str} (nd : L.Nodup) (h8 : L.length ≤ 8) {seeds ms Fs : List Nat} (hs : ∀ b ∈ seeds, b < 2 ^ L.length) (hp : ms.Perm seeds) (bs : BySize ms) (af : AllF L L seeds Fs) : Fs.Perm (leastF ms) := by
  have hl : ∀ m ∈ ms, m < 2 ^ L.length := fun m hm => hs m (hp.mem_iff.mp hm)
  have h8' : ∀ m ∈ ms, m < 2 ^ 8 := fun m hm => two8 h8 (hl m hm)
  refine perm_of af.nd (least_nd (least_of ms bs h8')) fun m => (af.mem m).trans (Iff.trans ?_ (mem_least bs h8' m).symm)
  constructor
  · rintro ⟨⟨h1, h2⟩, h3⟩
    obtain ⟨s, hs1, hs2⟩ := (holds_iff nd h3).mp h1
    have e := h2 s hs2 ((holds_iff nd (hs s hs1)).mpr ⟨s, hs1, L2.C.Sub.refl s⟩)
    subst e
    refine ⟨hp.mem_iff.mpr hs1, fun c hc sb => h2 c sb ((holds_iff nd (hl c hc)).mpr ⟨c, hp.mem_iff.mp hc, L2.C.Sub.refl c⟩)⟩
  · rintro ⟨h1, h2⟩
    have hm := hl m h1
    refine ⟨⟨(holds_iff nd hm).mpr ⟨m, hp.mem_iff.mp h1, L2.C.Sub.refl m⟩, fun c sb z => ?_⟩, hm⟩
    obtain ⟨s, hs1, hs2⟩ := (holds_iff nd (sub_lt sb hm)).mp z
    have e := h2 s (hp.mem_iff.mpr hs1) (hs2.trans sb)
    rw [e] at hs2
    exact L2.C.Sub.anti sb hs2
/-! ### what meets every one -/
theorem minTr_lt {F : List Nat} {n : Nat} (hF : ∀ m ∈ F, m < 2 ^ n) {b : Nat} (h : MinTr F b) : b < 2 ^ n := by
  have s : L2.C.Sub (b % 2 ^ n) b := fun i z => by
    rw [Nat.testBit_mod_two_pow, Bool.and_eq_true] at z
    exact z.2
  have e := h.2 (b % 2 ^ n) s fun m hm => by
    obtain ⟨i, h1, h2⟩ := h.1 m hm
    refine ⟨i, ?_, h2⟩
    rw [Nat.testBit_mod_two_pow, h1, Bool.and_true]
    exact decide_eq_true (bit_lt (hF m hm) h2)
  rw [← e]
  exact Nat.mod_lt _ (Nat.two_pow_pos n)
theorem mem_trN {n : Nat} {B : List Nat} {b : Nat} : b ∈ trN n B ↔ b < 2 ^ n ∧ Tr B b := by
  unfold trN
  rw [List.mem_filter, List.mem_range, List.all_eq_true]
  exact ⟨fun ⟨h1, h2⟩ => ⟨h1, fun m hm => (meet_and.mpr (of_decide_eq_true (h2 m hm))).comm⟩, fun ⟨h1, h2⟩ => ⟨h1, fun m hm => decide_eq_true (meet_and.mp (h2 m hm).comm)⟩⟩
theorem mem_hit {n : Nat} (h8 : n ≤ 8) {B ms : List Nat} (hB : ∀ b ∈ B, b < 2 ^ n) (hp : ms.Perm (trN n B)) (bs : BySize ms) (b : Nat) : b ∈ leastF ms ↔ MinTr B b := by
  have hl : ∀ m ∈ ms, m < 2 ^ n := fun m hm => (mem_trN.mp (hp.mem_iff.mp hm)).1
  rw [mem_least bs fun m hm => two8 h8 (hl m hm)]
  constructor
  · rintro ⟨h1, h2⟩
    refine ⟨(mem_trN.mp (hp.mem_iff.mp h1)).2, fun c sb z => h2 c (hp.mem_iff.mpr (mem_trN.mpr ⟨sub_lt sb (hl b h1), z⟩)) sb⟩
  · intro h
    refine ⟨hp.mem_iff.mpr (mem_trN.mpr ⟨minTr_lt hB h, h.1⟩), fun c hc sb => h.2 c sb (mem_trN.mp (hp.mem_iff.mp hc)).2⟩
theorem minTr_congr {F G : List Nat} (h : ∀ b, Tr F b ↔ Tr G b) (b : Nat) : MinTr F b ↔ MinTr G b := ⟨fun z => ⟨(h b).mp z.1, fun c s t => z.2 c s ((h c).mpr t)⟩, fun z => ⟨(h b).mpr z.1, fun c s t => z.2 c s ((h c).mp t)⟩⟩
theorem tr_due {ms F : List Nat} (bs : BySize ms) (h8 : ∀ m ∈ ms, m < 2 ^ 8) (hF : ∀ m ∈ F, m ∈ ms) (h2 : ∀ m ∈ leastF ms, m ∈ F) (b : Nat) : Tr F b ↔ Tr (leastF ms) b := ⟨fun z m hm => z m (h2 m hm), fun z m hm => by
  obtain ⟨o, ho, e⟩ := (least_of ms bs h8).cov m (hF m hm)
  exact ((z o ho).comm.mono e).comm⟩
/-- what meets all that meets -/
theorem dual {due ag : List Nat} {n : Nat} (hd : ∀ m ∈ due, m < 2 ^ n) (anti : ∀ a ∈ due, ∀ b ∈ due, L2.C.Sub a b → a = b) (h : ∀ b, b ∈ ag ↔ MinTr due b) (d : Nat) : MinTr ag d ↔ d ∈ due := by
  have key : ∀ d, Tr ag d → ∃ e ∈ due, L2.C.Sub e d := fun d hT => by
    refine Classical.byContradiction fun no => ?_
    have hc : Tr due (less (2 ^ n - 1) d) := fun e he => by
      have ns : ¬ L2.C.Sub e d := fun s => no ⟨e, he, s⟩
      obtain ⟨i, hi⟩ := Classical.not_forall.mp ns
      obtain ⟨h1, h2⟩ := Classical.not_imp.mp hi
      refine ⟨i, ?_, h1⟩
      rw [bit_less, Nat.testBit_two_pow_sub_one, decide_eq_true (bit_lt (hd e he) h1), Bool.eq_false_iff.mpr h2]
      rfl
    obtain ⟨t, ht, hm⟩ := minTr_below hc
    obtain ⟨i, h1, h2⟩ := hT t ((h t).mpr hm)
    have z := ht i h2
    rw [bit_less, h1] at z
    simp at z
  have mem : ∀ e ∈ due, Tr ag e := fun e he t ht => (((h t).mp ht).1 e he).comm
  constructor
  · rintro ⟨h1, h2⟩
    obtain ⟨e, he, s⟩ := key d h1
    rw [← h2 e s (mem e he)]
    exact he
  · intro hd2
    refine ⟨mem d hd2, fun c s t => ?_⟩
    obtain ⟨e, he, s2⟩ := key c t
    have q := anti e he d hd2 (s2.trans s)
    rw [q] at s2
    exact L2.C.Sub.anti s s2
/-! ### blockers over their own items -/
abbrev Parts := List (Addr × List Str)
def TrS (ps : Parts) (S : List Str) : Prop := ∀ q ∈ ps, ∃ x ∈ q.2, x ∈ S
def MinS (ps : Parts) (S : List Str) : Prop := TrS ps S ∧ ∀ r : List Str, (∀ x ∈ r, x ∈ S) → TrS ps r → ∀ x ∈ S, x ∈ r
abbrev masksP (J : List Str) (ps : Parts) : List Nat := ps.map fun q => maskR J q.2
theorem trS_iff {J : List Str} {ps : Parts} {b : Nat} : (Tr (masksP J ps) b → TrS ps (rowOf J b)) ∧ ((∀ q ∈ ps, ∀ x ∈ q.2, x ∈ J) → J.Nodup → TrS ps (rowOf J b) → Tr (masksP J ps) b) := by
  constructor
  · intro h q hq
    obtain ⟨i, h1, h2⟩ := h _ (List.mem_map_of_mem hq)
    rw [maskR_bit, Bool.and_eq_true] at h2
    exact ⟨J.getD i "", of_decide_eq_true h2.2, mem_rowOf.mpr ⟨i, of_decide_eq_true h2.1, h1, rfl⟩⟩
  · intro hJ nd h m hm
    obtain ⟨q, hq, rfl⟩ := List.mem_map.mp hm
    obtain ⟨x, hx, hr⟩ := h q hq
    obtain ⟨i, h1, h2, rfl⟩ := mem_rowOf.mp hr
    exact ⟨i, h2, by rw [maskR_bit, decide_eq_true h1, decide_eq_true hx]; rfl⟩
theorem minS_iff {J : List Str} {ps : Parts} (nd : J.Nodup) (hJ : ∀ q ∈ ps, ∀ x ∈ q.2, x ∈ J) {b : Nat} (hb : b < 2 ^ J.length) : MinTr (masksP J ps) b ↔ MinS ps (rowOf J b) := by
  constructor
  · rintro ⟨h1, h2⟩
    refine ⟨trS_iff.1 h1, fun r hr ht x hx => ?_⟩
    have hs : L2.C.Sub (maskR J r) b := fun i z => by
      rw [maskR_bit, Bool.and_eq_true] at z
      obtain ⟨j, j1, j2, j3⟩ := mem_rowOf.mp (hr _ (of_decide_eq_true z.2))
      rw [← getD_inj nd j1 (of_decide_eq_true z.1) j3]
      exact j2
    have e := h2 (maskR J r) hs (trS_iff.2 hJ nd fun q hq => by
      obtain ⟨y, hy, hyr⟩ := ht q hq
      exact ⟨y, hy, mem_mask.mpr ⟨hJ q hq y hy, hyr⟩⟩)
    rw [← e] at hx
    exact (mem_mask.mp hx).2
  · rintro ⟨h1, h2⟩
    refine ⟨trS_iff.2 hJ nd h1, fun c s t => ?_⟩
    have hc := sub_lt s hb
    have z := h2 (rowOf J c) (rowOf_mono s) (trS_iff.1 t)
    refine row_inj nd hc hb ?_
    refine (?_ : rowOf J c = rowOf J b)
    have s2 : L2.C.Sub b c := fun i hi => by
      obtain ⟨j, j1, j2, j3⟩ := mem_rowOf.mp (z _ (mem_rowOf.mpr ⟨i, bit_lt hb hi, hi, rfl⟩))
      rw [← getD_inj nd j1 (bit_lt hb hi) j3]
      exact j2
    rw [L2.C.Sub.anti s s2]
/-- the rows are the same over the items that occur and over a ladder of more -/
theorem blk_rows {I L : List Str} {ps : Parts} {Bs ag : List Nat} (hL : Ord L) (hI1 : Srtd ltN I) (hI2 : I.Nodup) (hI : ∀ x, x ∈ I ↔ ∃ q ∈ ps, x ∈ q.2) (hps : ∀ q ∈ ps, ∀ x ∈ q.2, x ∈ L) (hB : AllMin (masksP I ps) Bs) (nB : Bs.Nodup) (hA : ∀ b, b ∈ ag ↔ MinTr (masksP L ps) b) (nA : ag.Nodup) : (Bs.map (rowOf I)).Perm (ag.map (rowOf L)) := by
  have oI : Ord I := ⟨hI1, hI2⟩
  have hpI : ∀ q ∈ ps, ∀ x ∈ q.2, x ∈ I := fun q hq x hx => (hI x).mpr ⟨q, hq, hx⟩
  have hIL : ∀ x ∈ I, x ∈ L := fun x hx => by
    obtain ⟨q, hq, z⟩ := (hI x).mp hx
    exact hps q hq x z
  have lI : ∀ m ∈ masksP I ps, m < 2 ^ I.length := fun m hm => by
    obtain ⟨q, _, rfl⟩ := List.mem_map.mp hm
    exact maskR_lt
  have lL : ∀ m ∈ masksP L ps, m < 2 ^ L.length := fun m hm => by
    obtain ⟨q, _, rfl⟩ := List.mem_map.mp hm
    exact maskR_lt
  have bI : ∀ b ∈ Bs, b < 2 ^ I.length := fun b hb => minTr_lt lI ((hB b).mp hb)
  have bL : ∀ b ∈ ag, b < 2 ^ L.length := fun b hb => minTr_lt lL ((hA b).mp hb)
  refine perm_of (nd_map (f := rowOf I) nB fun a ha b hb e => row_inj hI2 (bI a ha) (bI b hb) e) (nd_map (f := rowOf L) nA fun a ha b hb e => row_inj hL.nd (bL a ha) (bL b hb) e) fun r => ?_
  constructor
  · intro h
    obtain ⟨b, hb, rfl⟩ := List.mem_map.mp h
    have ms := (minS_iff hI2 hpI (bI b hb)).mp ((hB b).mp hb)
    have e : rowOf L (maskR L (rowOf I b)) = rowOf I b := row_self hL (ord_row oI b) fun x hx => hIL x (rowOf_sub x hx)
    refine List.mem_map.mpr ⟨maskR L (rowOf I b), (hA _).mpr ((minS_iff hL.nd hps maskR_lt).mpr (by rw [e]; exact ms)), e⟩
  · intro h
    obtain ⟨b, hb, rfl⟩ := List.mem_map.mp h
    have ms := (minS_iff hL.nd hps (bL b hb)).mp ((hA b).mp hb)
    have sub : ∀ x ∈ rowOf L b, x ∈ I := fun x hx => by
      have z := ms.2 ((rowOf L b).filter fun y => decide (y ∈ I)) (fun y hy => (List.mem_filter.mp hy).1) (fun q hq => by
        obtain ⟨y, h1, h2⟩ := ms.1 q hq
        exact ⟨y, h1, List.mem_filter.mpr ⟨h2, decide_eq_true (hpI q hq y h1)⟩⟩) x hx
      exact of_decide_eq_true (List.mem_filter.mp z).2
    have e : rowOf I (maskR I (rowOf L b)) = rowOf L b := row_self oI (ord_row hL b) sub
    refine List.mem_map.mpr ⟨maskR I (rowOf L b), (hB _).mpr ((minS_iff hI2 hpI maskR_lt).mpr (by rw [e]; exact ms)), e⟩
end L2.M2
set_option maxRecDepth 100000
set_option maxHeartbeats 8000000
namespace L2.M2
open PySem PySem.Spec PyProof.Rows L2 Mx L2.Mb Evl Mv L2.C LamX Sr Srt SrtO NdefX
/-! ### what was asked -/
section
variable {P : Program} {w : World} {K : W.Frag} {σ : L2.St} {H : Hp} {ta tb : TE}
theorem rc_tup {H : Hp} {a : Addr} {xs : List V} (h : H a = some (.tup xs)) : RC (rIsi K) [.ref a, .ty "tuple"] H (.bl true) :=
  rc_isi (t := .type "tuple") (.ty "tuple") (fun H1 e => .base (.tup (e _ _ h))) (kit_ty (a := "tuple") (b := "tuple") (r := true) (by decide +kernel))
theorem rv_neStrs {r q : Addr} {l m : List Str} (hr : SqL K H r (rowV l)) (hq : SqL K H q (rowV m)) (ol : okS l) (om : okS m) : RV (rNeD K) (.ref r) (.ref q) H (.bl (!decide (l = m))) := fun H1 e Q k => by
  refine ⟨_, _, .lst (ex_l e hr) (dp_strs l), .lst (ex_l e hq) (dp_strs m), strs_shaped l ol, strs_shaped m om, ?_⟩
  have z : PyData.eqv (.list (l.map PyData.str)) (.list (m.map PyData.str)) = decide (l = m) := by simp only [PyData.eqv, eqv_strs]
  rw [z]
  exact k H1 (Ex.refl H1)
theorem ev_neSS {r : List Str} {Pr : List V → Prop} (ha : EvL ta σ H (rowV r)) (hb : EvLy tb σ H Pr) (h : ∀ xs, Pr xs → xs = rowV r) (ok : okS r) : Ev (tOp (rNeD K) ta tb) σ H (.bl false) := fun H1 e Q q =>
  ha H1 e _ fun p H2 np e2 hp => hb H2 (e.trans e2) _ fun xs p2 H3 px np3 e3 hp3 => by
    have z := rv_neStrs (K := K) (sq_of (e3 _ _ hp)) (sq_of (by rw [h xs px] at hp3; exact hp3)) ok ok
    rw [decide_eq_true rfl] at z
    exact z H3 (Ex.refl _) _ fun H4 e4 => q H4 ((e2.trans e3).trans e4)
end
/-- no row but of the ladder -/
def spAr (K : W.Frag) : Sp := fun vs H Q _ => ∃ (q nl : Addr) (L : List Str) (rows : List (List Str)), vs = [.ref q, .ref nl] ∧ SqL K H q (rowV L) ∧ Ord L ∧ okS L ∧ L.length ≤ 8 ∧ RowL H nl rows ∧ rows.length ≤ 30000 ∧ (∀ r ∈ rows, ∃ m, r = rowOf L m) ∧ ∀ H', Ex H H' → Q (.bl true) H'
section
variable {P : Program} {w : World} {K : W.Frag} {mg : Str → Option Value} {base : Heap} {f : Addr} {fd : FuncData}
theorem ok_asked (B : Bt mg) (F : FnP K "_law_asked_right" s_law_asked_right f fd) : FnOk P w K mg base CX0 3 f fd p_law_asked_right (spAr K) := by
  refine F.ok sc_law_asked_right (fun vs H Q E h => ?_) (fun cdv A outer s H vs Q E hr h => ?_)
  · obtain ⟨q, nl, L, rows, rfl, _⟩ := h
    rfl
  · obtain ⟨q, nl, L, rows, rfl, hq, oL, okL, hL, hn, hz, hrow, k⟩ := h
    have nd := sc_law_asked_right.nd
    have hu := hr.units
    have hu0 := Nat.lt_of_le_of_lt (Nat.le_add_right _ _) hu
    have hu2 := (hr.mono (show 2 ≤ 2 by decide)).in1.in1.units0
    obtain ⟨ps, rfl, hl, hps⟩ := hn
    rw [List.length_map] at hz
    refine ⟨_, PSs.nox (pss_cons (ps_for PassesOwn.never rfl (pi_list (pv 1)) (pg_name (i := 2) nd rfl (Or.inl rfl))
        (pss_cons (ps_if (pw_or (pt_not (pt_val (pe_callB call_isi (by rfl) B.isinstance (by decide +kernel) (pa_cons (pv 2) (pa_cons (pe_bltn (v := .ty "tuple") (by rfl) B.tuple (by decide +kernel) rfl) pa_nil)))))
            (pw_or1 (pt_cmpR (op_neD hu) (pe_callTy (r := rListO K) call_list_of (by rfl) B.list (by decide +kernel) (pa_cons (pv 2) pa_nil)) (pe_callB (r := rSortTx P w) (cr_sortTx (by rfl) hu2) (by rfl) B.sorted (by decide +kernel) (pa_cons (pe_callTy (r := rSetTx K P w) (cr_setTx (by rfl)) (by rfl) B.set (by decide +kernel) (pa_cons (pv 2) pa_nil)) pa_nil)) (nomark _)))).pt (pss_one ps_never) pss_nil)
        (pss_one (ps_if (pt_cmpR (op_neNil hu0) (pe_lc (own := [("_law_one", 3)]) (g := gName 3) (tt := tTest (tOp (rIn K true) (tVar 3) (tVar 0))) (te := tVar 3) (by rfl) nd (pi_tup (pv 2)) (blkOk_by (N := n_law_asked_right) (sc := defScope s_law_asked_right) (by decide +kernel)) (fun _ _ _ _ _ => pg_name (i := 3) nd rfl (Or.inl rfl)) (fun _ _ _ _ _ => pts_one (pt_cmpR op_notIn_seq (pv 3) (pv 0) rfl)) (fun _ _ _ _ _ => pv 3)) (pe_lst pa_nil) (nomark _)) (pss_one ps_never) pss_nil))))
      (pss_one (ps_ret pe_bl))), ?_⟩
    refine q_forL (a := nl) (xs := ps.map fun q => .ref q.1) (ev_var rfl) (sq_of hl) (fun i σ' H' => ∃ x2 x3, σ' = [some (.ref q), some (.ref nl), x2, x3] ∧ Ex H H') (fun H2 e2 => ⟨none, none, rfl, e2⟩) (fun i σ' H' _ z => ?_) (fun i x σ' H' hx z => ?_) (fun σ' H' z => ?_)
    · obtain ⟨x2, x3, rfl, e⟩ := z
      exact sq_of (e _ _ hl)
    · obtain ⟨x2, x3, rfl, e⟩ := z
      rw [List.getElem?_map] at hx
      cases em : ps[i]? with
      | none => rw [em] at hx; cases hx
      | some pr =>
        rw [em] at hx
        cases hx
        have hm := List.mem_of_getElem? em
        obtain ⟨m, hrm⟩ := hrow _ (List.mem_map_of_mem hm)
        have hp := e _ _ (hps pr hm)
        have oR : Ord pr.2 := by rw [hrm]; exact ord_row oL m
        have subR : ∀ x ∈ pr.2, x ∈ L := by rw [hrm]; exact rowOf_sub
        have lR : pr.2.length ≤ 8 := by rw [hrm]; exact Nat.le_trans rowOf_len hL
        have okR : okS pr.2 := List.all_eq_true.mpr fun x hx => List.all_eq_true.mp okL x (subR x hx)
        refine q_when (b := false) (et_is (et_or (a := false) (b := false) (et_not (a := true) (et_B (ev_cb (ea_cons (ev_var rfl) (ea_cons ev_c ea_nil)) (rc_tup hp)))) (fun _ => et_test (ev_neSS (r := pr.2) (el_listA (ev_var rfl) (.inr (st_of hp))) (ely_ssO (ev_var rfl) (.inr (st_of hp)) (by omega)) (fun xs px => by
          obtain ⟨I, hI, rfl⟩ := px
          rw [ord_eq ⟨hI.1, hI.2.1⟩ oR hI.2.2]) okR))) rfl) (fun z => by cases z) (fun _ H2 e2 => ?_)
        refine s_if (b := false) (et_test (ev_is (ev_eqNilN (neg := true) (el_lcI (wi := iTup K (tVar 2)) (t := tTest (tOp (rIn K true) (tVar 3) (tVar 0))) (te := tVar 3) (l := pr.2) (c := V.str) (j := 3) (vs := [3]) (fun x => !decide (x ∈ L)) V.str (eo_tup (ev_var rfl) (st_of (e2 _ _ hp))).ei (by omega) (fun _ => rfl)
          (fun x hx H4 e4 => et_test (ev_is (ev_op (ev_var rfl) (ev_var rfl) (rv_niL (ex_l ((e.trans e2).trans e4) hq) rfl rowV_flat)) (by rw [inV_row]))) (fun x hx H4 e4 _ => ev_var rfl))) (by
            rw [show (pr.2.filter fun x => !decide (x ∈ L)) = [] from List.filter_eq_nil_iff.mpr fun x hx => by rw [decide_eq_true (subR x hx)]; decide]
            rfl))) (fun z => by cases z) (fun _ H3 e3 => ?_)
        exact ⟨_, _, rfl, (e.trans e2).trans e3⟩
    · obtain ⟨x2, x3, rfl, e⟩ := z
      exact s_ret ev_c fun H5 e5 => k H5 (e.trans e5)
end
end L2.M2
set_option maxRecDepth 100000
set_option maxHeartbeats 8000000
namespace L2.M2
open PySem PySem.Spec PyProof.Rows L2 Mx L2.Mb Evl Mv L2.C LamX Sr Srt SrtO NdefX
/-! ### refused: the limit of a call's error -/
abbrev n_ref : List Str := ["_law_ask", "_law_caught", "error"]
theorem sc_ref : FnScope n_ref ["_law_ask"] (defScope s_law_refused) := ⟨rfl, rfl, rfl, by decide +kernel, rfl, by decide +kernel, by decide +kernel⟩
/-- the error classes as refused looks at them -/
structure RFc (K : W.Frag) (mg : Str → Option Value) (cM cS cO cI : Addr) : Prop where
  m1 : mg "MeetError" = some (.ref cM)
  m2 : mg "NoStation" = some (.ref cS)
  m4 : mg "InvalidQuestion" = some (.ref cI)
  ex : W.exmAny K (.ref cO) [.ref cM, .ref cS, .ref cO] = some true
  k1 : W.kitOne K (.ref cO) (.ref cO) = some true
  k3 : W.kitAny K (.ref cO) [.ref cI, .type "LookupError", .type "ValueError"] = some false
  kV : W.kitOne K (.ref cO) (.type "OverflowError") = some true
/-- the call ends with too many -/
def TTR (cO : Addr) : (XK → Hp → VK → Prop) → Hp → VK → Prop := fun tl H Q => ∀ (E' : XK) (Q' : VK),
  (∀ d n H1, H1 d = some (.xd [("limit", .int n)]) → (∀ H2, Ex H1 H2 → Q (.int n) H2) → E' (.ref cO) (some d) H1) → tl E' H Q'
section
variable {P : Program} {w : World} {K : W.Frag} {mg : Str → Option Value} {base : Heap}
theorem hat_mono {H H' : Hp} {a C : Addr} {fs : List (Str × V)} (h : HAt H a C fs) (e : Ex H H') : HAt H' a C fs := h.elim fun d z => ⟨d, e _ _ z.1, e _ _ z.2⟩
theorem ev_getH {σ : L2.St} {H : Hp} {te : TE} {a C fI : Addr} {b : EB} {fs : List (Str × V)} {x : Str} {v : V} (h : Ev te σ H (.ref a)) (hx : HAt H a C fs) (T : EC K C fI b) (no : W.findIn K (.ref C) x = some none) (lk : fs.lookup x = some v) : Ev (tGetH K x te) σ H v := fun H1 e Q q =>
  h H1 e _ fun H2 e2 => ⟨a, C, fI, b, fs, v, rfl, hat_mono hx (e.trans e2), T, no, lk, q H2 e2⟩
theorem ev_isH1 {σ : L2.St} {H : Hp} {te tc : TE} {a C fI : Addr} {b : EB} {fs : List (Str × V)} {v : V} {u : Value} {r : Bool} (h : Ev te σ H (.ref a)) (hx : HAt H a C fs) (T : EC K C fI b) (hc : Ev tc σ H v) (cu : ClsV v u) (hk : W.kitOne K (.ref C) u = some r) :
    Ev (tCB (rIsH K) (tCons te (tCons tc tNil))) σ H (.bl r) := ev_cb (ea_cons h (ea_cons hc ea_nil)) (fun H9 e9 Q q => ⟨a, C, fI, b, _, _, r, rfl, hat_mono hx e9, T, q H9 (Ex.refl H9), .inl ⟨_, cu, hk⟩⟩)
theorem ev_isHN {σ : L2.St} {H : Hp} {te : TE} {ts : TA} {a C fI : Addr} {b : EB} {fs : List (Str × V)} {vs : List V} {us : List Value} {r : Bool} (h : Ev te σ H (.ref a)) (hx : HAt H a C fs) (T : EC K C fI b) (hc : EvA ts σ H vs) (hn : vs.length ≤ 100000) (cu : Paired ClsV vs us) (hk : W.kitAny K (.ref C) us = some r) :
    Ev (tCB (rIsH K) (tCons te (tCons (tTup ts) tNil))) σ H (.bl r) := fun H1 e1 Q q =>
  h H1 e1 _ fun H2 e2 => (eu_tup hc hn) H2 (e1.trans e2) _ fun p H3 np e3 hp => ⟨a, C, fI, b, _, .ref p, r, rfl, hat_mono hx ((e1.trans e2).trans e3), T, q H3 (e2.trans e3), .inr ⟨p, _, _, rfl, hp, cu, hk⟩⟩
theorem ref_ps {g fO cM cS cO cI : Addr} {cdg : Value} {dO : FuncData} {bO : EB} {q : Str} {A : Around} {outer : List Env} (B : Bt mg) (Z : RFc K mg cM cS cO cI) (XO : X1 P w K mg base "TooMany" "limit" bO cO fO dO)
    {f c' : Addr} {s : Shared} {H : Hp} {Q : VK} {tl : XK → Hp → VK → Prop}
    (act : ∀ (W : _root_.L2.WX) (pn : List (Addr × Obj)) (xe : Value → Shared → Prop) (E : XK) (p1 p2 : Pos), Takes ((cxOf C8.CX0 P w K mg base n_ref "_law_refused" (defScope s_law_refused) g cdg A outer s H C8.E0).tr pn xe) W → (∀ cls d σ' H', E cls d H' → W cls d σ' H') →
      PE ((cxOf C8.CX0 P w K mg base n_ref "_law_refused" (defScope s_law_refused) g cdg A outer s H C8.E0).tr pn xe) (.Call (.Name "_law_ask" p1) [] [] p2) (fun σZ HZ Q => σZ[0]? = some (some (.ref f)) ∧ HZ c' = some (CodeO c' q) ∧ tl E HZ Q))
    (hc : H c' = some (CodeO c' q)) (h : TTR cO tl H Q) :
    ∃ t, PSs (cxOf C8.CX0 P w K mg base n_ref "_law_refused" (defScope s_law_refused) g cdg A outer s H C8.E0).nox (defBody s_law_refused) t ∧ t { nx := fun _ H' => Q .non H', rt := Q } (L2.start n_ref [.ref f]) H := by
  have nd := sc_ref.nd
  refine ⟨_, pss_cons (ps_set (i := 1) nd rfl (Or.inl rfl) pe_non)
    (pss_cons (ps_try_hold (X := (cxOf C8.CX0 P w K mg base n_ref "_law_refused" (defScope s_law_refused) g cdg A outer s H C8.E0).nox) (c1 := .ref cM) (c2 := .ref cS) (c3 := .ref cO) (i := 2)
        (tb := fun W D σ H => ∃ Ech : XK, (∀ cls d σ' H', Ech cls d H' → W cls d σ' H') ∧ σ = [some (.ref f), some .non, none] ∧ H c' = some (CodeO c' q) ∧ ∀ Q' : VK, tl Ech H Q')
        (ts := fun a cls d => tAsg (tVar 2) (gName 1))
        rfl rfl rfl nd rfl rfl (by rfl) Z.m1 (by rfl) Z.m2 (by rfl) XO.m (by decide) (by decide) (by decide) (fun W pn xe tk _ => ?_) (fun a oe cls d pn _ _ => pss_one (ps_set (i := 1) nd rfl (Or.inl rfl) (pv 2))))
    (pss_cons (ps_if (pw_or (pt_not (pt_val (pe_callB call_isH (by rfl) B.isinstance (by decide +kernel) (pa_cons (pv 1) (pa_cons (pe_glob (v := .ref cO) (by rfl) XO.m rfl) pa_nil)))))
        (pw_or1 (pt_val (pe_callB call_isH (by rfl) B.isinstance (by decide +kernel) (pa_cons (pv 1) (pa_cons (pe_tup (pa_cons (pe_glob (v := .ref cI) (by rfl) Z.m4 rfl) (pa_cons (pe_bltn (v := .ty "LookupError") (by rfl) B.LookupError (by decide +kernel) rfl) (pa_cons (pe_bltn (v := .ty "ValueError") (by rfl) B.ValueError (by decide +kernel) rfl) pa_nil)))) pa_nil)))))).pt
      (pss_one (ps_ret pe_str)) pss_nil)
    (pss_one (ps_ret (pe_ifExp (pt_val (pe_callB call_isH (by rfl) B.isinstance (by decide +kernel) (pa_cons (pv 1) (pa_cons (pe_bltn (v := .ty "OverflowError") (by rfl) B.OverflowError (by decide +kernel) rfl) pa_nil)))) (pe_getH (pv 1)) pe_str))))), ?_⟩
  · refine ⟨fun pins s' σ H' D I h' => ?_⟩
    obtain ⟨Ech, hW, rfl, h2, h3⟩ := h'
    refine (pss_one (ps_expr (act W pn xe Ech _ _ tk hW))).run pins s' _ H' D I ?_
    exact ⟨rfl, h2, h3 _⟩
  · refine ⟨fun cls d H' => ∃ (dd : Addr) (n : Int), cls = .ref cO ∧ d = some dd ∧ H' dd = some (.xd [("limit", .int n)]) ∧ ∀ H2, Ex H' H2 → Q (.int n) H2, ?_, rfl, hc, ?_⟩
    · rintro cls d σ' H' ⟨dd, n, rfl, rfl, hd, kk⟩
      refine ⟨cO, dd, rfl, rfl, Z.ex, fun a hl na => ?_⟩
      obtain ⟨s0, s1, s2, rfl⟩ : ∃ s0 s1 s2, σ' = [s0, s1, s2] := by
        match σ', hl with
        | [s0, s1, s2], _ => exact ⟨s0, s1, s2, rfl⟩
      refine s_asg (v := .ref a) (ev_var rfl) fun H2 e2 na2 => ?_
      have ha : HAt (upd H2 a (exh a cO dd)) a cO [("limit", .int n)] := ⟨dd, upd_same, by
        rw [upd_ne (fun z => by rw [z] at hd; rw [na] at hd; cases hd)]
        exact e2 _ _ hd⟩
      have e3 : Ex H' (upd H2 a (exh a cO dd)) := e2.trans (Ex.new na2)
      dsimp only
      refine q_when (b := false) (et_is (et_or (a := false) (b := false) (et_not (a := true) (et_B (ev_isH1 (ev_var rfl) ha XO.ec ev_c (.own _) Z.k1))) (fun _ => et_B (ev_isHN (ev_var rfl) ha XO.ec (ea_cons ev_c (ea_cons ev_c (ea_cons ev_c ea_nil))) (by show 3 ≤ 100000; decide) (.cons (.own _) (.cons (.ty _) (.cons (.ty _) .nil))) Z.k3))) rfl) (fun z => by cases z) (fun _ H4 e4 => ?_)
      unfold tRet tIf
      refine (et_B (b := true) (ev_isH1 (ev_var rfl) (hat_mono ha e4) XO.ec ev_c (.ty _) Z.kV)) H4 (Ex.refl _) _ fun H5 e5 => ?_
      exact (ev_getH (v := .int n) (ev_var rfl) (hat_mono ha (e4.trans e5)) XO.ec XO.no rfl) H5 (Ex.refl _) _ fun H6 e6 => kk _ (e3.trans ((e4.trans e5).trans e6))
    · intro Q'
      exact h _ Q' fun dd n H1 hd kk => ⟨dd, n, rfl, rfl, hd, kk⟩
end
theorem ref_gives {X : Cx} {g fO cM cS cO cI : Addr} {cdg : Value} {dO : FuncData} {bO : EB} {q : Str} (B : Bt X.mg) (Z : RFc X.K X.mg cM cS cO cI) (XO : X1 X.prog X.w X.K X.mg X.base "TooMany" "limit" bO cO fO dO) :
    GivesTo X n_ref "_law_refused" (defScope s_law_refused) g cdg (defBody s_law_refused) "_law_ask" q (TTR cO) := fun f c' s H Q tl act hc h => ref_ps B Z XO act hc h
/-- .. and of the def that calls what it got -/
structure RD (K : W.Frag) (mg : Str → Option Value) (fT : Addr) (dT : FuncData) : Prop where
  fn : FnP K "_law_refused" s_law_refused fT dT
  m : mg "_law_refused" = some (.ref fT)
  b : Binds K dT ["_law_ask"] []
/-- refused(lambda: body) -/
theorem pe_refused {X : Cx} {fO fH c Pt cM cS cO cI : Addr} {dO dH : FuncData} {bO : EB} {Tt : List (Addr × Str)} {scope : Scope} {params : Arguments} {body : Expr} {t : XK → TE} {p5 p6 p7 : Pos} {k : Nat}
    (B : Bt X.mg) (Z : RFc X.K X.mg cM cS cO cI) (XO : X1 X.prog X.w X.K X.mg X.base "TooMany" "limit" bO cO fO dO) (D : RD X.K X.mg fH dH)
    (TB : TabB X.base X.mg c Pt) (hcode : X.env.code = .ref c) (hmT : (Pt, X.env.qual ++ "<lambda>") ∈ Tt) (hu : ∀ p ∈ Tt, p.1 = Pt → p.2 = X.env.qual ++ "<lambda>") (hr : Room (k + 2) X.A) (L : LamS X.env.scope scope) (hdef : defaultsOf params X.env = ([], []))
    (hbind : ∀ (q : Str) (cl : List (Str × Addr)) (pm cv ctv : Value), bindArgs (W.kla_fn "<lambda>" q params body scope cl pm cv ctv) ⟨[], []⟩ = pure []) (hg : Gl X "_law_refused")
    (hbody : ∀ (A : Around) (outer : List Env) (s : Shared) (H : Hp) (E : XK) (f c' : Addr), Room k (A.deeper (lamEnv X scope s.heap.objs.size f c')) → PE (lamCx X A outer s H E scope f c') body (t E)) :
    PE X (.Call (.Name "_law_refused" p5) [.Lambda params body scope p6] [] p7) (tLam Tt (TTR cO) t) := by
  obtain ⟨oc, od, dV, kV, doc, pm, an, cdv, ct, osl, rfl, lk, hcg, _, _⟩ := D.fn.ex
  exact pe_lamcall (k := k) (c := c) (P := Pt) (Ng := n_ref) (a := "_law_ask") hg D.m D.fn.kp lk hcg D.b sc_ref rfl (.inl rfl) (ref_gives B Z XO) TB hcode hmT hu hr L hdef hbind hbody
end L2.M2
set_option maxRecDepth 100000
set_option maxHeartbeats 8000000
namespace L2.M2
open PySem PySem.Spec PyProof.Rows L2 Mx L2.Mb Evl Mv L2.C LamX Sr Srt SrtO NdefX
/-! ### families shown -/
/-- a short text that can be shown and laid -/
def shT (z : Str) : Bool := z.cps.toList.all (fun c => decide (c < 16 ^ 8)) && (decide (z.cps.size ≤ 8) && PyData.strOk z)
def famD (b : Bool) (ds : List PyData) : PyData := if b then .list ds else .tuple ds
def rowD (r : List Str) : PyData := .tuple (r.map PyData.str)
def hoB (b : Bool) (xs : List V) : HO := if b then .lst xs else .tup xs
/-- a list, or a tuple -/
def AtB (b : Bool) (H : Hp) (a : Addr) (xs : List V) : Prop := H a = some (hoB b xs)
theorem hoB_nt {b : Bool} {xs : List V} : ∀ ps, hoB b xs ≠ .tbl ps := fun ps y => by cases b <;> cases y
theorem AtB.sq {K : W.Frag} {b : Bool} {H : Hp} {a : Addr} {xs : List V} (h : AtB b H a xs) : SqL K H a xs ∨ SqT K H a xs := by
  cases b with
  | true => exact .inl (sq_of h)
  | false => exact .inr (st_of h)
theorem AtB.n {b : Bool} {H H' : Hp} {a : Addr} {xs : List V} (h : AtB b H a xs) (e : ExtN H H') : AtB b H' a xs := e _ _ h hoB_nt
/-- rows in a list or in a tuple -/
structure FamB (b : Bool) (H : Hp) (a : Addr) (ps : Parts) : Prop where
  at_ : AtB b H a (ps.map fun q => .ref q.1)
  row : ∀ q ∈ ps, H q.1 = some (.tup (rowV q.2))
theorem FamB.n {b : Bool} {H H' : Hp} {a : Addr} {ps : Parts} (h : FamB b H a ps) (e : ExtN H H') : FamB b H' a ps := ⟨h.at_.n e, fun q hq => e _ _ (h.row q hq) fun _ y => by cases y⟩
theorem row_fam {H : Hp} {t : Addr} {rs : List (List Str)} (h : RowT H t rs) : ∃ ps : Parts, ps.map Prod.snd = rs ∧ FamB false H t ps := by
  obtain ⟨ps, h1, h2, h3⟩ := h
  exact ⟨ps, h1, h2, h3⟩
theorem dq_strs {K : W.Frag} {H : Hp} : ∀ us : List Str, DqAll K H (rowV us) (us.map PyData.str)
  | [] => .nil
  | b :: r => .cons (.str b) (dq_strs r)
theorem dq_rows {K : W.Frag} {H : Hp} : ∀ ps : Parts, (∀ q ∈ ps, H q.1 = some (.tup (rowV q.2))) → DqAll K H (ps.map fun q => .ref q.1) (ps.map fun q => rowD q.2)
  | [], _ => .nil
  | b :: r, h => .cons (.tup (st_of (h b List.mem_cons_self)) (dq_strs _)) (dq_rows r fun q hq => h q (List.mem_cons_of_mem _ hq))
theorem dq_at {K : W.Frag} {b : Bool} {H : Hp} {a : Addr} {xs : List V} {ds : List PyData} (h : AtB b H a xs) (d : DqAll K H xs ds) : Dq K H (.ref a) (famD b ds) := by
  cases b with
  | true => exact .lst (sq_of h) d
  | false => exact .tup (st_of h) d
theorem leaf_s {z : Str} (h : shT z = true) : (PyData.str z).leavesShort 8 = true ∧ (PyData.str z).weight ≤ 8 ∧ (PyData.str z).showable = true ∧ (PyData.str z).depth = 0 := by
  unfold shT at h
  rw [Bool.and_eq_true, Bool.and_eq_true] at h
  exact ⟨by simpa only [PyData.leavesShort] using h.1, (of_decide_eq_true h.2.1 : z.cps.size ≤ 8), rfl, rfl⟩
theorem leaf_ss : ∀ {zs : List Str}, (∀ z ∈ zs, shT z = true) → PyData.leavesShortAll 8 (zs.map PyData.str) = true ∧ PyData.weightAll (zs.map PyData.str) ≤ 9 * zs.length ∧ PyData.showableAll (zs.map PyData.str) = true ∧ PyData.depthAll (zs.map PyData.str) = 0
  | [], _ => ⟨rfl, Nat.zero_le _, rfl, rfl⟩
  | z :: zs, h => by
    obtain ⟨a1, a2, a3, a4⟩ := leaf_s (h z List.mem_cons_self)
    obtain ⟨b1, b2, b3, b4⟩ := leaf_ss fun x hx => h x (List.mem_cons_of_mem _ hx)
    refine ⟨?_, ?_, ?_, ?_⟩
    · rw [List.map_cons, PyData.leavesShortAll, a1, b1]; rfl
    · rw [List.map_cons, PyData.weightAll, List.length_cons, Nat.mul_succ]; omega
    · rw [List.map_cons, PyData.showableAll, a3, b3]; rfl
    · rw [List.map_cons, PyData.depthAll, a4, b4]; rfl
theorem leaf_rows : ∀ {rs : List (List Str)}, (∀ r ∈ rs, r.length ≤ 9 ∧ ∀ z ∈ r, shT z = true) → PyData.leavesShortAll 8 (rs.map rowD) = true ∧ PyData.weightAll (rs.map rowD) ≤ 90 * rs.length ∧ PyData.showableAll (rs.map rowD) = true ∧ PyData.depthAll (rs.map rowD) ≤ 1
  | [], _ => ⟨rfl, Nat.zero_le _, rfl, Nat.zero_le _⟩
  | r :: rs, h => by
    obtain ⟨a0, a⟩ := h r List.mem_cons_self
    obtain ⟨a1, a2, a3, a4⟩ := leaf_ss a
    obtain ⟨b1, b2, b3, b4⟩ := leaf_rows fun x hx => h x (List.mem_cons_of_mem _ hx)
    have c1 : (rowD r).leavesShort 8 = true := by unfold rowD; rw [PyData.leavesShort]; exact a1
    have c2 : (rowD r).weight ≤ 88 := by
      unfold rowD
      rw [PyData.weight]
      omega
    have c3 : (rowD r).showable = true := by unfold rowD; rw [PyData.showable]; exact a3
    have c4 : (rowD r).depth ≤ 1 := by
      unfold rowD
      rw [PyData.depth, a4]
      exact Nat.le_refl _
    refine ⟨?_, ?_, ?_, ?_⟩
    · rw [List.map_cons, PyData.leavesShortAll, c1, b1]; rfl
    · rw [List.map_cons, PyData.weightAll, List.length_cons, Nat.mul_succ]; omega
    · rw [List.map_cons, PyData.showableAll, c3, b3]; rfl
    · rw [List.map_cons, PyData.depthAll]
      exact Nat.max_le.mpr ⟨c4, b4⟩
theorem okD_by {d : PyData} (h1 : d.leavesShort 8 = true) (h2 : d.showable = true) (h3 : d.depth ≤ 60) (h4 : d.weight ≤ 30000) : okD d = true := by
  have e := PyData.shown_le 8 (by decide) d h1
  have e2 : d.shown.length ≤ 1000000 := by omega
  unfold okD
  rw [h2, decide_eq_true h3, decide_eq_true (Nat.le_trans e2 (by decide))]
  rfl
theorem okD_row {b : Bool} {r : List Str} (h0 : r.length ≤ 100) (h : ∀ z ∈ r, shT z = true) : okD (famD b (r.map PyData.str)) = true := by
  obtain ⟨a1, a2, a3, a4⟩ := leaf_ss h
  cases b with
  | true => exact okD_by (by show PyData.leavesShort 8 (.list _) = true; rw [PyData.leavesShort]; exact a1) (by show PyData.showable (.list _) = true; rw [PyData.showable]; exact a3) (by show PyData.depth (.list _) ≤ 60; rw [PyData.depth, a4]; decide) (by show PyData.weight (.list _) ≤ 30000; rw [PyData.weight]; omega)
  | false => exact okD_by (by show PyData.leavesShort 8 (.tuple _) = true; rw [PyData.leavesShort]; exact a1) (by show PyData.showable (.tuple _) = true; rw [PyData.showable]; exact a3) (by show PyData.depth (.tuple _) ≤ 60; rw [PyData.depth, a4]; decide) (by show PyData.weight (.tuple _) ≤ 30000; rw [PyData.weight]; omega)
theorem okD_fam {b : Bool} {rs : List (List Str)} (h0 : rs.length ≤ 300) (h : ∀ r ∈ rs, r.length ≤ 9 ∧ ∀ z ∈ r, shT z = true) : okD (famD b (rs.map rowD)) = true := by
  obtain ⟨a1, a2, a3, a4⟩ := leaf_rows h
  cases b with
  | true => exact okD_by (by show PyData.leavesShort 8 (.list _) = true; rw [PyData.leavesShort]; exact a1) (by show PyData.showable (.list _) = true; rw [PyData.showable]; exact a3) (by show PyData.depth (.list _) ≤ 60; rw [PyData.depth]; omega) (by show PyData.weight (.list _) ≤ 30000; rw [PyData.weight]; omega)
  | false => exact okD_by (by show PyData.leavesShort 8 (.tuple _) = true; rw [PyData.leavesShort]; exact a1) (by show PyData.showable (.tuple _) = true; rw [PyData.showable]; exact a3) (by show PyData.depth (.tuple _) ≤ 60; rw [PyData.depth]; omega) (by show PyData.weight (.tuple _) ≤ 30000; rw [PyData.weight]; omega)
/-- repr of a row, of rows -/
theorem rv_row {K : W.Frag} {b : Bool} {H : Hp} {a : Addr} {r : List Str} {Q : VK} (h : AtB b H a (rowV r)) (h0 : r.length ≤ 100) (hs : ∀ z ∈ r, shT z = true) (k : Q (.str (famD b (r.map PyData.str)).shown) H) : rRepr K [.ref a] H Q := ⟨a, _, rfl, dq_at h (dq_strs r), okD_row h0 hs, k⟩
theorem rv_fam {K : W.Frag} {b : Bool} {H : Hp} {a : Addr} {ps : Parts} {Q : VK} (h : FamB b H a ps) (h0 : ps.length ≤ 300) (hs : ∀ r ∈ ps.map Prod.snd, r.length ≤ 9 ∧ ∀ z ∈ r, shT z = true) (k : Q (.str (famD b ((ps.map Prod.snd).map rowD)).shown) H) : rRepr K [.ref a] H Q := by
  refine ⟨a, famD b (ps.map fun q => rowD q.2), rfl, dq_at h.at_ (dq_rows ps h.row), ?_, ?_⟩
  · have z := okD_fam (b := b) (rs := ps.map Prod.snd) (by rw [List.length_map]; exact h0) hs
    rw [List.map_map] at z
    exact z
  · rw [List.map_map] at k
    exact k
theorem ev_reprR {K : W.Frag} {σ : L2.St} {b : Bool} {H : Hp} {a : Addr} {r : List Str} {te : TE} (he : Ev te σ H (.ref a)) (h : AtB b H a (rowV r)) (h0 : r.length ≤ 100) (hs : ∀ z ∈ r, shT z = true) : Ev (tCB (rRepr K) (tCons te tNil)) σ H (.str (famD b (r.map PyData.str)).shown) := fun H1 e Q q =>
  he H1 e _ fun H2 e2 => rv_row (h.n (ex_extN (e.trans e2))) h0 hs (q H2 e2)
theorem ev_reprF {K : W.Frag} {σ : L2.St} {b : Bool} {H : Hp} {a : Addr} {ps : Parts} {te : TE} (he : Ev te σ H (.ref a)) (h : FamB b H a ps) (h0 : ps.length ≤ 300) (hs : ∀ r ∈ ps.map Prod.snd, r.length ≤ 9 ∧ ∀ z ∈ r, shT z = true) : Ev (tCB (rRepr K) (tCons te tNil)) σ H (.str (famD b ((ps.map Prod.snd).map rowD)).shown) := fun H1 e Q q =>
  he H1 e _ fun H2 e2 => rv_fam (h.n (ex_extN (e.trans e2))) h0 hs (q H2 e2)
theorem things_sh : ∀ y, y < 3 → ∀ k, k < 8 → shT (thingAt y k) = true := by decide +kernel
/-- what stands where the pen stands -/
theorem pen_ne {H : Hp} {p q : Addr} {ns : Cells} {t : Int} {o : HO} (pen : PenAt H p ns t) (h : H q = some o) (n : ∀ g : Int, o ≠ .lst [.ref ns.l, .int t, .int g]) : q ≠ p := fun e => by
  obtain ⟨g, hp, _⟩ := pen
  rw [e, hp] at h
  exact n g (Option.some.inj h).symm
theorem row_npen {l : Addr} {t g : Int} {xs : List Str} : HO.lst (rowV xs) ≠ .lst [.ref l, .int t, .int g] := fun y => by
  injection y with y
  match xs, y with
  | a :: _, y => injection y with y _; cases y
theorem nat_npen {l : Addr} {t g : Int} {xs : List Nat} : HO.lst (xs.map natV) ≠ .lst [.ref l, .int t, .int g] := fun y => by
  injection y with y
  match xs, y with
  | a :: _, y => injection y with y _; cases y
end L2.M2
set_option maxRecDepth 100000
set_option maxHeartbeats 8000000
namespace L2.M2
open PySem PySem.Spec PyProof.Rows L2 Mx L2.Mb Evl Mv L2.C LamX Sr Srt SrtO NdefX
/-! ### one turn of the law: what is drawn -/
/-- what was drawn, and what is due -/
structure RZ (n : Nat) (T L : List Str) (seeds due ag : List Nat) : Prop where
  n5 : 5 ≤ n
  n8 : n ≤ 8
  pT : ∃ y, y < 3 ∧ T.Perm (thingsL y n)
  nm : Nms L T
  sl : ∀ b ∈ seeds, b < 2 ^ n
  sz : seeds.length ≤ 256
  du : ∃ ms, ms.Perm seeds ∧ BySize ms ∧ due = leastF ms
  ag_ : ∃ ms, ms.Perm (trN n due) ∧ BySize ms ∧ ag = leastF ms
section
variable {n : Nat} {T L : List Str} {seeds due ag : List Nat}
theorem RZ.len (z : RZ n T L seeds due ag) : L.length = n := by
  obtain ⟨y, _, p⟩ := z.pT
  rw [nms_len z.nm, p.length_eq, things_len]
theorem RZ.tlen (z : RZ n T L seeds due ag) : T.length = n := (nms_len z.nm).symm.trans z.len
theorem RZ.ord (z : RZ n T L seeds due ag) : Ord L := ⟨z.nm.s, by
  obtain ⟨y, hy, p⟩ := z.pT
  exact ((z.nm.p.trans p).nodup_iff).mpr (things_nd hy z.n8)⟩
theorem RZ.sh (z : RZ n T L seeds due ag) : ∀ x ∈ T, shT x = true := fun x hx => by
  obtain ⟨y, hy, p⟩ := z.pT
  obtain ⟨k, hk, rfl⟩ := List.mem_map.mp (p.mem_iff.mp hx)
  have := z.n8
  exact things_sh y hy k (by have := List.mem_range.mp hk; omega)
theorem RZ.shL (z : RZ n T L seeds due ag) : ∀ x ∈ L, shT x = true := fun x hx => z.sh x (z.nm.p.mem_iff.mp hx)
theorem RZ.okL (z : RZ n T L seeds due ag) : okS L := List.all_eq_true.mpr fun x hx => by
  have h := z.shL x hx
  unfold shT at h
  rw [Bool.and_eq_true, Bool.and_eq_true] at h
  exact h.2.2
theorem RZ.row (z : RZ n T L seeds due ag) (m : Nat) : (rowOf L m).length ≤ 9 ∧ ∀ x ∈ rowOf L m, shT x = true := ⟨by have := rowOf_len (L := L) (m := m); have := z.len; have := z.n8; omega, fun x hx => z.shL x (rowOf_sub x hx)⟩
theorem RZ.rows (z : RZ n T L seeds due ag) {ms : List Nat} {rs : List (List Str)} (h : rs.Perm (ms.map (rowOf L))) : ∀ r ∈ rs, r.length ≤ 9 ∧ ∀ x ∈ r, shT x = true := fun r hr => by
  obtain ⟨m, _, rfl⟩ := List.mem_map.mp (h.mem_iff.mp hr)
  exact z.row m
theorem RZ.least (z : RZ n T L seeds due ag) : ∃ ms, ms.Perm seeds ∧ BySize ms ∧ due = leastF ms ∧ (∀ m ∈ ms, m < 2 ^ n) ∧ LeastOf ms due := by
  obtain ⟨ms, h1, h2, h3⟩ := z.du
  have hl : ∀ m ∈ ms, m < 2 ^ n := fun m hm => z.sl m (h1.mem_iff.mp hm)
  exact ⟨ms, h1, h2, h3, hl, by rw [h3]; exact least_of ms h2 fun m hm => two8 z.n8 (hl m hm)⟩
theorem RZ.due_lt (z : RZ n T L seeds due ag) : ∀ m ∈ due, m < 2 ^ n := fun m hm => by
  obtain ⟨ms, _, _, _, hl, lo⟩ := z.least
  exact hl m (lo.sub m hm)
theorem RZ.due_nd (z : RZ n T L seeds due ag) : due.Nodup := by
  obtain ⟨ms, _, _, _, _, lo⟩ := z.least
  exact least_nd lo
theorem RZ.due_len (z : RZ n T L seeds due ag) : due.length ≤ 256 := am_len z.due_nd fun m hm => two8 z.n8 (z.due_lt m hm)
theorem RZ.mem_ag (z : RZ n T L seeds due ag) (b : Nat) : b ∈ ag ↔ MinTr due b := by
  obtain ⟨ms, h1, h2, rfl⟩ := z.ag_
  exact mem_hit z.n8 z.due_lt h1 h2 b
theorem RZ.ag_lt (z : RZ n T L seeds due ag) : ∀ m ∈ ag, m < 2 ^ n := fun m hm => minTr_lt z.due_lt ((z.mem_ag m).mp hm)
theorem RZ.ag_nd (z : RZ n T L seeds due ag) : ag.Nodup := by
  obtain ⟨ms, h1, h2, rfl⟩ := z.ag_
  exact least_nd (least_of ms h2 fun m hm => two8 z.n8 (mem_trN.mp (h1.mem_iff.mp hm)).1)
theorem RZ.ag_len (z : RZ n T L seeds due ag) : ag.length ≤ 256 := am_len z.ag_nd fun m hm => two8 z.n8 (z.ag_lt m hm)
end
/-- .. and where it stands -/
structure RA (Tt : List (Addr × Str)) (H : Hp) (p tp lp sp dp ap : Addr) (ns : Cells) (u : Int) (T L : List Str) (seeds due ag : List Nat) : Prop where
  pen : PenAt H p ns u
  tabs : Tabs Tt H
  ht : H tp = some (.lst (rowV T))
  hl : H lp = some (.lst (rowV L))
  hs : H sp = some (.lst (seeds.map natV))
  hd : H dp = some (.lst (due.map natV))
  ha : H ap = some (.lst (ag.map natV))
section
variable {Tt : List (Addr × Str)} {H H' : Hp} {p tp lp sp dp ap : Addr} {ns : Cells} {u v : Int} {T L : List Str} {seeds due ag : List Nat}
theorem RA.n (r : RA Tt H p tp lp sp dp ap ns u T L seeds due ag) (e : ExtN H H') (t : Tabs Tt H') : RA Tt H' p tp lp sp dp ap ns u T L seeds due ag := ⟨pen_extn e r.pen, t, lst_n e r.ht, lst_n e r.hl, lst_n e r.hs, lst_n e r.hd, lst_n e r.ha⟩
theorem RA.b (r : RA Tt H p tp lp sp dp ap ns u T L seeds due ag) (b : But p H H') (pen : PenAt H' p ns v) : RA Tt H' p tp lp sp dp ap ns v T L seeds due ag :=
  ⟨pen, tabs_but r.pen b r.tabs, b _ _ (pen_ne r.pen r.ht fun _ => row_npen) r.ht, b _ _ (pen_ne r.pen r.hl fun _ => row_npen) r.hl, b _ _ (pen_ne r.pen r.hs fun _ => nat_npen) r.hs, b _ _ (pen_ne r.pen r.hd fun _ => nat_npen) r.hd, b _ _ (pen_ne r.pen r.ha fun _ => nat_npen) r.ha⟩
theorem RA.e (r : RA Tt H p tp lp sp dp ap ns u T L seeds due ag) (e : Ex H H') : RA Tt H' p tp lp sp dp ap ns u T L seeds due ag := r.n (ex_extN e) (tabs_ex r.tabs e)
end
section
variable {K : W.Frag} {Tt : List (Addr × Str)} {D : Ends} {tz : TS} {H : Hp} {p : Addr} {ns : Cells} {t : Int} {n : Nat}
abbrev tA1 (K : W.Frag) : TS := tAsg (tCall (spMx K) [] E0 (tCons (tVar 0) (tCons (tCall spTh [] E0 (tCons (tVar 0) (tCons (tVar 1) tNil))) tNil))) (gName 2)
abbrev tA2 (K : W.Frag) : TS := tAsg (tCB (rSortD K) (tCons (tVar 2) tNil)) (gName 3)
abbrev tA3 : TS := tAsg (tCall spSd [] E0 (tCons (tVar 0) (tCons (tVar 1) tNil))) (gName 4)
abbrev tA4 (K : W.Frag) : TS := tAsg (tCall (spLe K) [] E0 (tCons (tVar 4) tNil)) (gName 5)
abbrev tA5 (K : W.Frag) : TS := tAsg (tCall (spHi K) [] E0 (tCons (tVar 1) (tCons (tVar 5) tNil))) (gName 6)
theorem rd_cb1 {r : List V → Hp → VK → Prop} {te : TE} {σ : L2.St} {H : Hp} {Q : VK} (h : te σ H fun v H1 => r [v] H1 Q) : tCB r (tCons te tNil) σ H Q := h
theorem right_a (n5 : 5 ≤ n) (n8 : n ≤ 8) (pen : PenAt H p ns t) (hn : ns.length ≤ 63) (t0 : 0 ≤ t) (t1 : t ≤ 800000) (hT : Tabs Tt H)
    (k : ∀ (T L : List Str) (seeds due ag : List Nat) (tp lp sp dp ap : Addr) (u : Int) (H' : Hp), RZ n T L seeds due ag → t ≤ u → u ≤ t + 29 → RA Tt H' p tp lp sp dp ap ns u T L seeds due ag →
      tz D [some (.ref p), some (natV n), some (.ref tp), some (.ref lp), some (.ref sp), some (.ref dp), some (.ref ap), none, none, none, none, none, none, none] H') :
    tSeq (tA1 K) (tSeq (tA2 K) (tSeq tA3 (tSeq (tA4 K) (tSeq (tA5 K) tz)))) D [some (.ref p), some (natV n), none, none, none, none, none, none, none, none, none, none, none, none] H := by
  refine q_asgR ⟨_, rfl, _, rfl, _, rfl, ⟨p, ns, t, n, rfl, n8, pen, hn, t0, by omega, fun y u1 q1 H1 hy u10 u11 pen1 b1 nq1 h1 => ?_⟩⟩
  refine ⟨p, q1, ns, u1, rowV (thingsL y n), rfl, .inl (sq_of h1), by rw [List.length_map, things_len]; omega, pen1, hn, by omega, by omega, fun ys u2 tp H2 pm u20 u21 pen2 b2 ntp h2 => ?_⟩
  obtain ⟨T, hTp, rfl⟩ := L2.Mb.perm_lift (g := V.str) pm (thingsL y n) rfl
  rw [List.length_map, things_len] at u21
  refine q_asgR (rd_cb1 ⟨_, rfl, sort_strsA (.inl (sq_of h2)) fun L lp hL nlp => ?_⟩)
  have eL := Ex.new (o := .lst (rowV L)) nlp
  have hlp : (upd H2 lp (.lst (rowV L))) lp = some (.lst (rowV L)) := upd_same
  have b02 : But p H H2 := b1.trans b2
  have T2 : Tabs Tt H2 := tabs_but pen b02 hT
  refine q_asgR ⟨_, rfl, _, rfl, ⟨p, ns, u2, n, rfl, by omega, n8, pen_mono eL pen2, hn, by omega, by omega, fun seeds u3 sp H3 hsd hsz u30 u31 pen3 b3 nsp h3 => ?_⟩⟩
  have ht3 := b3 _ _ (pen_ne (pen_mono eL pen2) (eL _ _ h2) fun _ => row_npen) (eL _ _ h2)
  have hl3 := b3 _ _ (pen_ne (pen_mono eL pen2) hlp fun _ => row_npen) hlp
  have T3 : Tabs Tt H3 := tabs_but (pen_mono eL pen2) b3 (tabs_ex T2 eL)
  refine q_asgR ⟨_, rfl, ⟨sp, seeds, rfl, sq_of h3, hsz, fun dp H4 ms hp bs ndp e4 hdp => ?_⟩⟩
  have hl : ∀ m ∈ ms, m < 2 ^ n := fun m hm => hsd m (hp.mem_iff.mp hm)
  have lo := least_of ms bs fun m hm => two8 n8 (hl m hm)
  have dl : (leastF ms).length ≤ 256 := am_len (least_nd lo) fun m hm => two8 n8 (hl m (lo.sub m hm))
  refine q_asgR ⟨_, rfl, _, rfl, ⟨dp, leastF ms, n, rfl, sq_of hdp, dl, n8, fun ap H5 ms2 hp2 bs2 nap e5 hap => ?_⟩⟩
  refine k T L seeds (leastF ms) (leastF ms2) tp lp sp dp ap u3 H5 ⟨n5, n8, ⟨y, hy, hTp⟩, hL, hsd, hsz, ⟨ms, hp, bs, rfl⟩, ⟨ms2, hp2, bs2, rfl⟩⟩ (by omega) (by omega) ⟨pen_mono (e4.trans e5) pen3, tabs_ex T3 (e4.trans e5), (e4.trans e5) _ _ ht3, (e4.trans e5) _ _ hl3, (e4.trans e5) _ _ h3, e5 _ _ hdp, hap⟩
end
end L2.M2
set_option maxRecDepth 100000
set_option maxHeartbeats 8000000
namespace L2.M2
open PySem PySem.Spec PyProof.Rows L2 Mx L2.Mb Evl Mv L2.C LamX Sr Srt SrtO NdefX
/-! ### one turn of the law: the least sets -/
theorem clo_monoT {H H' : Hp} {f : Addr} {F : NF} {fr : List Str} {ws : List V} (e : ∀ b o, H b = some o → (∀ xs, o ≠ .lst xs) → (∀ ps, o ≠ .tbl ps) → H' b = some o) (h : Clo H f F fr ws) : Clo H' f F fr ws := by
  have ec : ∀ c o, H c = some (.frz o T0) → H' c = some (.frz o T0) := fun c o z => e _ _ z (fun _ y => by cases y) fun _ y => by cases y
  refine ⟨e _ _ h.f (fun _ y => by unfold FnO at y; cases y) (fun _ y => by unfold FnO at y; cases y), e _ _ h.c (fun _ y => by unfold CodeO at y; cases y) (fun _ y => by unfold CodeO at y; cases y), h.len, fun p hp => ?_, h.inj, fun i y hy => ?_⟩
  · obtain ⟨o, z, y⟩ := h.all p hp
    exact ⟨o, ec _ _ z, y⟩
  · obtain ⟨c, h1, h2⟩ := h.has i y hy
    exact ⟨c, h1, fun v hv => by
      obtain ⟨o, u, z1, z2, z3⟩ := h2 v hv
      exact ⟨o, u, ec _ _ z1, z2, z3⟩⟩
section
variable {K : W.Frag} {Tt : List (Addr × Str)} {D : Ends} {tz : TS} {H : Hp} {p : Addr} {ns : Cells} {t : Int} {n : Nat} {σ : L2.St}
theorem rd_or {t u : TT} {Q : Bool → Hp → Prop} (h : t σ H fun c H1 => if c = true then Q true H1 else u σ H1 Q) : tOr t u σ H Q := h
theorem rd_neV {te : TE} {j : Nat} {Q : Bool → Hp → Prop} (h : te σ H fun x H1 => ∃ y, σ[j]? = some (some y) ∧ (scal x y = true ∧ ∃ k, V.bl (!decide (x = y)) = .bl k ∧ Q k H1)) : tTest (tOp rNe te (tVar j)) σ H Q := h
theorem end_ne {z : Str} {j : Nat} {Q : Bool → Hp → Prop} (h : σ[j]? = some (some (.str z))) (q : Q false H) : ∃ y, σ[j]? = some (some y) ∧ (scal (.str z) y = true ∧ ∃ k, V.bl (!decide (V.str z = y)) = .bl k ∧ Q k H) := ⟨_, h, rfl, false, by rw [decide_eq_true rfl]; rfl, q⟩
theorem q_ifR {c : TT} {u : TS} (h : c σ H fun b H1 => if b = true then u { D with nx := tz D } σ H1 else tz D σ H1) : tSeq (tIfS c u tNext) tz D σ H := h
/-- one of two in a new list, by a draw -/
theorem rd_ix2 {q a1 a2 : Addr} {Q : VK} (hp : σ[0]? = some (some (.ref p))) (pen : PenAt H p ns t) (hn : ns.length ≤ 63) (t0 : 0 ≤ t) (t1 : t ≤ 1000000) (hq : H q = some (.lst [.ref a1, .ref a2]))
    (k : ∀ (b : Bool) u H', t ≤ u → u ≤ t + 1 → PenAt H' p ns u → But p H H' → Q (.ref (if b then a1 else a2)) H') : tDr (tC (.int 2)) σ H fun y H2 => rIxL K (.ref q) y H2 Q :=
  c_draw (j := 0) (te := tC (.int 2)) (E := E0) hp ev_c pen hn t0 t1 (by decide) (by decide) fun d u H' d0 d1 u0 u1 pen' b' => by
    have hq' := b' _ _ (pen_ne pen hq fun g y => by injection y with y; injection y with _ y; injection y with _ y; cases y) hq
    have e : d = 0 ∨ d = 1 := by omega
    rcases e with rfl | rfl
    · exact rv_ixL (v := .ref a1) (sq_of hq') (atI_nat (j := 0) rfl) H' (Ex.refl _) _ fun H9 e9 => k true u H9 u0 u1 (pen_mono e9 pen') (b'.trans (but_ex e9))
    · exact rv_ixL (v := .ref a2) (sq_of hq') (atI_nat (j := 1) rfl) H' (Ex.refl _) _ fun H9 e9 => k false u H9 u0 u1 (pen_mono e9 pen') (b'.trans (but_ex e9))
abbrev tA6 (K : W.Frag) : TS := tAsg (tOp (rIxL K) (tLst (tCons (tCB (rTupO K) (tCons (tVar 2) tNil)) (tCons (tCB (rListO K) (tCons (tVar 2) tNil)) tNil))) (tDr (tC (.int 2)))) (gName 7)
theorem atb_b {b : Bool} {H H' : Hp} {a : Addr} {r : List Str} (h : AtB b H a (rowV r)) (pen : PenAt H p ns t) (e : But p H H') : AtB b H' a (rowV r) := e _ _ (pen_ne pen h fun g y => by
  cases b with
  | true => exact row_npen y
  | false => cases y) h
theorem right_b {tp lp sp dp ap : Addr} {u : Int} {T L : List Str} {seeds due ag : List Nat} {a1 a3 a4 a5 a6 a8 a9 a10 a11 a12 a13 : Option V} (ra : RA Tt H p tp lp sp dp ap ns u T L seeds due ag) (hn : ns.length ≤ 63) (t0 : 0 ≤ u) (t1 : u ≤ 900000)
    (k : ∀ (b : Bool) (gp : Addr) (u' : Int) (H' : Hp), u ≤ u' → u' ≤ u + 1 → RA Tt H' p tp lp sp dp ap ns u' T L seeds due ag → AtB b H' gp (rowV T) →
      tz D [some (.ref p), a1, some (.ref tp), a3, a4, a5, a6, some (.ref gp), a8, a9, a10, a11, a12, a13] H') :
    tSeq (tA6 K) tz D [some (.ref p), a1, some (.ref tp), a3, a4, a5, a6, none, a8, a9, a10, a11, a12, a13] H := by
  refine q_asgR ⟨_, rfl, tp, rowV T, rfl, .inl ⟨sq_of ra.ht, fun g1 ng1 => ?_⟩⟩
  have e1 := Ex.new (o := .tup (rowV T)) ng1
  refine ⟨_, rfl, tp, rowV T, rfl, .inl (sq_of (e1 _ _ ra.ht)), fun g2 ng2 => ?_⟩
  have e2 := Ex.new (o := .lst (rowV T)) ng2
  refine ⟨(by show 2 ≤ sizeLine; decide), fun q nq => ?_⟩
  have e3 := Ex.new (o := .lst [.ref g1, .ref g2]) nq
  have e13 := (e1.trans e2).trans e3
  have r3 := ra.e e13
  refine rd_ix2 (a1 := g1) (a2 := g2) rfl r3.pen hn t0 (by omega) upd_same fun b u' H' u0 u1 pen' b' => ?_
  have h1 : AtB false H' g1 (rowV T) := atb_b (by show _ = _; exact e3 _ _ (e2 _ _ upd_same)) r3.pen b'
  have h2 : AtB true H' g2 (rowV T) := atb_b (by show _ = _; exact e3 _ _ upd_same) r3.pen b'
  cases b with
  | true => exact k false g1 u' H' u0 u1 (r3.b b' pen') h1
  | false => exact k true g2 u' H' u0 u1 (r3.b b' pen') h2
end
end L2.M2
set_option maxRecDepth 100000
set_option maxHeartbeats 8000000
namespace L2.M2
open PySem PySem.Spec PyProof.Rows L2 Mx L2.Mb Evl Mv L2.C LamX Sr Srt SrtO NdefX
/-- a judge, as it stands while it is asked; H0: before the list of what was asked was made -/
structure JS (Tt : List (Addr × Str)) (H0 H : Hp) (fh lp sp nl : Addr) (L : List Str) (B : Nat) : Prop where
  n0 : H0 nl = none
  ex : ExtN H0 H
  tabs : Tabs Tt H
  clo : ∃ cl c', Clo H fh (mkJ cl c') frJ [.ref lp, .ref sp, .ref nl]
  rows : RowG H nl (fun r => ∃ m, r = rowOf L m) B
theorem JS.mono {Tt : List (Addr × Str)} {H0 H H' : Hp} {fh lp sp nl : Addr} {L : List Str} {B : Nat} (j : JS Tt H0 H fh lp sp nl L B) (e : Ex H H') : JS Tt H0 H' fh lp sp nl L B := by
  obtain ⟨cl, c', h⟩ := j.clo
  obtain ⟨rows, h1, h2, h3⟩ := j.rows
  exact ⟨j.n0, j.ex.trans (ex_extN e), tabs_ex j.tabs e, ⟨cl, c', clo_mono (fun b o z _ _ => e b o z) h⟩, rows, h1.mono e, h2, h3⟩
section
variable {K : W.Frag} {Tt : List (Addr × Str)} {CM : Addr} {D : Ends} {tz : TS} {H H0 : Hp} {p tp lp sp dp ap gp fh nl : Addr} {ns : Cells} {u : Int} {n B : Nat} {T L : List Str} {seeds due ag : List Nat} {b : Bool} {rs : List (List Str)} {gV : List V → List V → List V}
/-- least_sets by the judge -/
theorem use_ls {Q : VK} {E : XK} (z : RZ n T L seeds due ag) (ra : RA Tt H0 p tp lp sp dp ap ns u T L seeds due ag) (ab : AtB b H0 gp (rowV T)) (js : JS Tt H0 H fh lp sp nl L B) (hB : B ≤ 10000) (pm : rs.Perm (due.map (rowOf L))) (srt : SrtR rs)
    (k : ∀ t ps H', JS Tt H0 H' fh lp sp nl L (B + 256) → FamB false H' t ps → ps.map Prod.snd = rs → ps.length ≤ 300 → Q (.ref t) H') : spLS K Tt CM [.ref gp, .ref fh] H Q E := by
  have lq : lp ≠ nl := fun y => by have h := ra.hl; rw [y, js.n0] at h; cases h
  have ls : sp ≠ nl := fun y => by have h := ra.hs; rw [y, js.n0] at h; cases h
  refine ⟨gp, fh, lp, sp, nl, T, L, seeds, fun r => ∃ m, r = rowOf L m, B, rfl, (ab.n js.ex).sq, by rw [z.tlen]; have := z.n8; omega, ⟨js.clo, sq_of (lst_n js.ex ra.hl), sq_of (lst_n js.ex ra.hs), by rw [z.len]; have := z.n8; omega, z.sz, lq, ls⟩, js.tabs, js.rows, hB, fun I hI m => ⟨m, by rw [nms_eq hI z.nm]⟩, fun _ I Fs rs2 t H' hI af pm2 st2 fr nn rg T' nt rt => ?_, fun h => absurd h (by rw [z.tlen]; have := z.n8; omega)⟩
  have eI := nms_eq hI z.nm
  subst eI
  obtain ⟨ms, m1, m2, m3, _, _⟩ := z.least
  have dp := due_perm z.ord.nd (by rw [z.len]; exact z.n8) (by rw [z.len]; exact z.sl) m1 m2 af
  have er : rs2 = rs := rows_eq (pm2.trans (((dp.map _).trans (by rw [m3])).trans pm.symm)) st2 srt
  obtain ⟨ps, hp, fam⟩ := row_fam rt
  obtain ⟨cl, c', hc⟩ := js.clo
  obtain ⟨rws, ⟨q, q1, q2, q3⟩, _, _⟩ := js.rows
  have exN : ExtN H0 H' := fun c o hc nt => fr c o (fun y => by rw [y, js.n0] at hc; cases hc) nt (js.ex c o hc nt)
  refine k t ps H' ⟨js.n0, exN, T', ⟨cl, c', clo_monoT (fun bb o y n1 n2 => fr bb o (fun e => by
    rw [e, q2] at y
    exact n1 _ (Option.some.inj y).symm) n2 y) hc⟩, rg⟩ fam (hp.trans er) ?_
  have l1 := congrArg List.length (hp.trans er)
  have l2 := pm.length_eq
  have l3 := z.due_len
  rw [List.length_map] at l1 l2
  omega
theorem rd_call2 {sp : Sp} {σ : L2.St} {E : XK} {i j : Nat} {x y : V} {Q : VK} (hi : σ[i]? = some (some x)) (hj : σ[j]? = some (some y)) (h : sp [x, y] H Q E) : tCall sp [] E (tCons (tVar i) (tCons (tVar j) tNil)) σ H Q := ⟨x, hi, y, hj, h⟩
theorem rd_callK2 {sp : Sp} {σ : L2.St} {E : XK} {i j : Nat} {x y : V} {Q : VK} (hi : σ[i]? = some (some x)) (hj : σ[j]? = some (some y)) (h : sp (gV [] [x, y]) H Q E) : tCallK0 sp gV E (tCons (tVar i) (tCons (tVar j) tNil)) σ H Q := ⟨x, hi, y, hj, h⟩
abbrev tA7 (K : W.Frag) : TS := tAsg (tCB (rRepr K) (tCons (tVar 7) tNil)) (gName 8)
abbrev tA8 : TS := tAsg (tLst tNil) (gName 9)
abbrev tA9 (Tt : List (Addr × Str)) : TS := tAsg (tCall (spJd Tt) [] E0 (tCons (tVar 3) (tCons (tVar 4) (tCons (tVar 9) tNil)))) (gName 10)
abbrev tA10 (K : W.Frag) : TS := tAsg (tCB (rRepr K) (tCons (tCall (spWr K) [] E0 (tCons (tVar 3) (tCons (tVar 5) tNil))) tNil)) (gName 11)
abbrev tA11 (K : W.Frag) (Tt : List (Addr × Str)) (CM : Addr) (gV : List V → List V → List V) : TS := tIfS (tOr (tTest (tOp rNe (tCB (rRepr K) (tCons (tCall (spLS K Tt CM) [] E0 (tCons (tVar 7) (tCons (tVar 10) tNil))) tNil)) (tVar 11))) (tTest (tOp rNe (tCB (rRepr K) (tCons (tCallK0 (spLS K Tt CM) gV E0 (tCons (tVar 10) (tCons (tVar 7) tNil))) tNil)) (tVar 11)))) tNever tNext
abbrev tA12 (K : W.Frag) : TS := tIfS (tOr (tNot (tB (tCall (spAr K) [] E0 (tCons (tVar 3) (tCons (tVar 9) tNil))))) (tTest (tOp rNe (tCB (rRepr K) (tCons (tVar 7) tNil)) (tVar 8)))) tNever tNext
theorem right_c (hgV : ∀ a c : V, gV [] [a, c] = [c, a]) (z : RZ n T L seeds due ag) (ra : RA Tt H p tp lp sp dp ap ns u T L seeds due ag) (ab : AtB b H gp (rowV T))
    (k : ∀ (x8 x9 x10 x11 : V) (H' : Hp), RA Tt H' p tp lp sp dp ap ns u T L seeds due ag →
      tz D [some (.ref p), some (natV n), some (.ref tp), some (.ref lp), some (.ref sp), some (.ref dp), some (.ref ap), some (.ref gp), some x8, some x9, some x10, some x11, none, none] H') :
    tSeq (tA7 K) (tSeq tA8 (tSeq (tA9 Tt) (tSeq (tA10 K) (tSeq (tA11 K Tt CM gV) (tSeq (tA12 K) tz))))) D [some (.ref p), some (natV n), some (.ref tp), some (.ref lp), some (.ref sp), some (.ref dp), some (.ref ap), some (.ref gp), none, none, none, none, none, none] H := by
  have tl := z.tlen
  have ll := z.len
  have n8 := z.n8
  refine q_asg (ev_reprR (ev_var rfl) ab (by omega) z.sh) fun H1 e1 => ?_
  have r1 := ra.e e1
  have ab1 := ab.n (ex_extN e1)
  refine q_asgL (xs := []) (el_lst ea_nil (by decide)) fun nl H2 nnl e2 hnl => ?_
  have r2 := r1.e e2
  refine q_asgR ⟨_, rfl, _, rfl, _, rfl, ⟨.ref lp, .ref sp, .ref nl, rfl, r2.tabs, fun fh cl c' H3 hclo eN T3 nfh => ?_⟩⟩
  have js3 : JS Tt H1 H3 fh lp sp nl L 0 := ⟨nnl, (ex_extN e2).trans eN, T3, ⟨cl, c', hclo⟩, [], ⟨[], rfl, lst_n eN hnl, fun _ y => by cases y⟩, Nat.le_refl _, fun _ y => by cases y⟩
  have r3 := r2.n eN T3
  refine q_asgR (rd_cb1 ⟨_, rfl, _, rfl, ⟨lp, dp, L, due, rfl, sq_of r3.hl, by omega, sq_of r3.hd, z.due_len, fun t4 H4 rs pm srt nt4 e4 rt4 => ?_⟩⟩)
  obtain ⟨ps4, hp4, fam4⟩ := row_fam rt4
  have hrs := z.rows pm
  have hl4 : ps4.length ≤ 300 := by
    have l1 := congrArg List.length hp4
    have l2 := pm.length_eq
    have l3 := z.due_len
    rw [List.length_map] at l1 l2
    omega
  refine rv_fam fam4 hl4 (by rw [hp4]; exact hrs) ?_
  rw [hp4]
  refine q_ifR (rd_or (rd_neV (rd_cb1 (rd_call2 rfl rfl (use_ls z r1 ab1 (js3.mono e4) (by decide) pm srt fun t5 ps5 H5 js5 fam5 hp5 hl5 => rv_fam fam5 hl5 (by rw [hp5]; exact hrs) ?_)))))
  rw [hp5]
  refine ⟨_, rfl, rfl, false, by rw [decide_eq_true rfl]; rfl, ?_⟩
  show (if false = true then _ else _)
  rw [if_neg Bool.false_ne_true]
  refine rd_neV (rd_cb1 (rd_callK2 rfl rfl ?_))
  rw [hgV]
  refine use_ls z r1 ab1 js5 (by decide) pm srt fun t6 ps6 H6 js6 fam6 hp6 hl6 => rv_fam fam6 hl6 (by rw [hp6]; exact hrs) ?_
  rw [hp6]
  refine ⟨_, rfl, rfl, false, by rw [decide_eq_true rfl]; rfl, ?_⟩
  show (if false = true then _ else _)
  rw [if_neg Bool.false_ne_true]
  have r6 := r1.n js6.ex js6.tabs
  have ab6 := ab1.n js6.ex
  obtain ⟨rws, hrow, hz, hG⟩ := js6.rows
  refine q_when (b := false) (et_is (et_or (a := false) (b := false) (et_not (a := true) (et_B (ev_call (z := .bl true) (ea_cons (ev_var rfl) (ea_cons (ev_var rfl) ea_nil)) (fun H9 e9 Q q E => ⟨lp, nl, L, rws, rfl, sq_of (e9 _ _ r6.hl), z.ord, z.okL, by omega, hrow.mono e9, by omega, hG, fun H8 e8 => q H8 e8⟩))))
    (fun _ => et_test (ev_is (ev_op (ev_reprR (ev_var rfl) ab6 (by omega) z.sh) (ev_var rfl) (rv_ne rfl)) (by rw [decide_eq_true rfl]; rfl)))) rfl) (fun y => by cases y) (fun _ H7 e7 => ?_)
  exact k _ _ _ _ _ (r6.e e7)
end
end L2.M2
set_option maxRecDepth 100000
set_option maxHeartbeats 8000000
namespace L2.M2
open PySem PySem.Spec PyProof.Rows L2 Mx L2.Mb Evl Mv L2.C LamX Sr Srt SrtO NdefX
/-! ### one turn of the law: families -/
/-- a family of parts over a ladder whose parts ask what F asks -/
structure FS (L : List Str) (F : List Nat) (ps : Parts) : Prop where
  tr : ∀ b, Tr (masksP L ps) b ↔ Tr F b
  inL : ∀ q ∈ ps, ∀ x ∈ q.2, x ∈ L
  len : ∀ q ∈ ps, q.2.length ≤ 9
  sz : ps.length ≤ 300
section
variable {K : W.Frag} {Tt : List (Addr × Str)} {H : Hp} {g : Addr} {L : List Str} {F A : List Nat} {ps : Parts} {b : Bool} {rs : List (List Str)}
theorem tr_mem {F G : List Nat} (h : ∀ m, m ∈ F ↔ m ∈ G) (b : Nat) : Tr F b ↔ Tr G b := ⟨fun z m hm => z m ((h m).mpr hm), fun z m hm => z m ((h m).mp hm)⟩
theorem use_bk {Q : VK} {E : XK} (hL : Ord L) (h8 : L.length ≤ 8) (fs : FS L F ps) (fam : FamB b H g ps) (hA : ∀ b, b ∈ A ↔ MinTr F b) (nA : A.Nodup) (hT : Tabs Tt H) (pm : rs.Perm (A.map (rowOf L))) (srt : SrtR rs)
    (k : ∀ t ps' H', ExtN H H' → Tabs Tt H' → FamB false H' t ps' → ps'.map Prod.snd = rs → Q (.ref t) H') : spBk K Tt [.ref g] H Q E :=
  ⟨g, ps, L, rfl, fam.at_.sq, fam.row, fs.sz, fs.len, h8, fs.inL, hT, fun I Bs rs2 t H' s1 nd hI am nB lt pm2 st2 eN nn T' nt rt => by
    have p2 := blk_rows hL s1 nd hI fs.inL am nB (fun b => (hA b).trans (minTr_congr fs.tr b).symm) nA
    have er : rs2 = rs := rows_eq ((pm2.trans p2).trans pm.symm) st2 srt
    obtain ⟨ps', hp, fam'⟩ := row_fam rt
    exact k t ps' H' eN T' fam' (hp.trans er)⟩
/-- rows written over the ladder -/
theorem fs_rows (hL : Ord L) (h8 : L.length ≤ 8) (hF : ∀ m ∈ F, m < 2 ^ L.length) (hz : F.length ≤ 300) (pm : (ps.map Prod.snd).Perm (F.map (rowOf L))) : FS L F ps := by
  have hm : (masksP L ps).Perm F := by
    have z := pm.map (maskR L)
    rw [List.map_map, List.map_map] at z
    refine z.trans (List.Perm.of_eq ?_)
    refine (List.map_congr_left fun m hm => ?_).trans (List.map_id F)
    exact mask_row hL.nd (hF m hm)
  have hr : ∀ q ∈ ps, ∃ m, q.2 = rowOf L m := fun q hq => by
    obtain ⟨m, _, e⟩ := List.mem_map.mp (pm.mem_iff.mp (List.mem_map_of_mem hq))
    exact ⟨m, e.symm⟩
  refine ⟨tr_mem fun m => hm.mem_iff, fun q hq x hx => ?_, fun q hq => ?_, ?_⟩
  · obtain ⟨m, e⟩ := hr q hq
    rw [e] at hx
    exact rowOf_sub x hx
  · obtain ⟨m, e⟩ := hr q hq
    rw [e]
    have := rowOf_len (L := L) (m := m)
    omega
  · have := pm.length_eq
    rw [List.length_map, List.length_map] at this
    omega
/-- rows in any order each -/
theorem fs_mixed (hL : Ord L) (h8 : L.length ≤ 8) {Fs : List Nat} (hF : ∀ m ∈ Fs, m < 2 ^ L.length) (hz : Fs.length ≤ 300) {rows : List (List Str)} (pm : rows.Perm (Fs.map (rowOf L))) (e : masksP L ps = rows.map (maskR L)) (hp : ∀ q ∈ ps, ∃ m, q.2.Perm (rowOf L m)) (ht : ∀ b, Tr Fs b ↔ Tr F b) : FS L F ps := by
  have hm : (masksP L ps).Perm Fs := by
    rw [e]
    have z := pm.map (maskR L)
    rw [List.map_map] at z
    refine z.trans (List.Perm.of_eq ?_)
    refine (List.map_congr_left fun m hm => ?_).trans (List.map_id Fs)
    exact mask_row hL.nd (hF m hm)
  refine ⟨fun b => (tr_mem (fun m => hm.mem_iff) b).trans (ht b), fun q hq x hx => ?_, fun q hq => ?_, ?_⟩
  · obtain ⟨m, z⟩ := hp q hq
    exact rowOf_sub x (z.mem_iff.mp hx)
  · obtain ⟨m, z⟩ := hp q hq
    rw [z.length_eq]
    have := rowOf_len (L := L) (m := m)
    omega
  · have := hm.length_eq
    rw [List.length_map] at this
    omega
end
end L2.M2
set_option maxRecDepth 100000
set_option maxHeartbeats 8000000
namespace L2.M2
open PySem PySem.Spec PyProof.Rows L2 Mx L2.Mb Evl Mv L2.C LamX Sr Srt SrtO NdefX
/-! ### one turn of the law: the family asked -/
abbrev tCat3 : TE := tOp rCat (tOp rCat (tVar 5) (tVar 4)) (tVar 5)
abbrev tWr (K : W.Frag) (te : TE) : TE := tCall (spWr K) [] E0 (tCons (tVar 3) (tCons te tNil))
abbrev tA13 (K : W.Frag) : TS := tAsg (tLc (iTup K (tWr K (tSl (rSlL K) tCat3 tNoPart (tPart (tC (.int 40)))))) (gName 13) tYes (tCB (rTupO K) (tCons (tCall (spMx K) [] E0 (tCons (tVar 0) (tCons (tVar 13) tNil))) tNil)) [13]) (gName 12)
abbrev tA14 (K : W.Frag) : TS := tAsg (tIf (tTest (tOp (rI0 fun i j => .bl (decide (i ≤ j))) (tCB (rLenS K) (tCons tCat3 tNil)) (tC (.int 40)))) (tOp (rIxL K) (tLst (tCons (tCB (rTupO K) (tCons (tVar 12) tNil)) (tCons (tVar 12) tNil))) (tDr (tC (.int 2)))) (tWr K (tVar 5))) (gName 12)
section
variable {K : W.Frag} {Tt : List (Addr × Str)} {D : Ends} {tz : TS} {H : Hp} {p tp lp sp dp ap gp : Addr} {ns : Cells} {u : Int} {n : Nat} {T L : List Str} {seeds due ag : List Nat} {σ : L2.St}
theorem el_catVV {ta tb : TE} {a c : Addr} {xs ys : List V} (h1 : Ev ta σ H (.ref a)) (ha : H a = some (.lst xs)) (h2 : Ev tb σ H (.ref c)) (hc : H c = some (.lst ys)) (hz : xs.length + ys.length ≤ 100000) : EvL (tOp rCat ta tb) σ H (xs ++ ys) := fun H1 e Q q => h1 H1 e _ fun H2 e2 => h2 H2 (e.trans e2) _ fun H3 e3 =>
  ⟨a, c, xs, ys, rfl, rfl, (e.trans (e2.trans e3)) _ _ ha, (e.trans (e2.trans e3)) _ _ hc, Nat.le_trans hz (by decide), fun r nr => q r _ (fresh_back (e2.trans e3) nr) ((e2.trans e3).trans (Ex.new nr)) upd_same⟩
theorem el_catLV {ta tb : TE} {c : Addr} {xs ys : List V} (h1 : EvL ta σ H xs) (h2 : Ev tb σ H (.ref c)) (hc : H c = some (.lst ys)) (hz : xs.length + ys.length ≤ 100000) : EvL (tOp rCat ta tb) σ H (xs ++ ys) := fun H1 e Q q => h1 H1 e _ fun a H2 na e2 ha => h2 H2 (e.trans e2) _ fun H3 e3 =>
  ⟨a, c, xs, ys, rfl, rfl, e3 _ _ ha, (e.trans (e2.trans e3)) _ _ hc, Nat.le_trans hz (by decide), fun r nr => q r _ (fresh_back (e2.trans e3) nr) ((e2.trans e3).trans (Ex.new nr)) upd_same⟩
theorem cut40 (l : List Nat) : cutV (l.map natV) none (some 40) = (l.take 40).map natV := by
  unfold cutV
  rw [show (40 : Int) = ((40 : Nat) : Int) from rfl, HT.sIx_nat]
  show ((l.map natV).drop 0).take (min 40 (l.map natV).length - 0) = _
  rw [List.drop_zero, Nat.sub_zero, List.length_map, ← List.map_take]
  congr 1
  rcases Nat.le_total 40 l.length with h | h
  · rw [Nat.min_eq_left h]
  · rw [Nat.min_eq_right h, List.take_length, List.take_of_length_le h]
theorem el_cut40 {te : TE} {l : List Nat} (h : EvL te σ H (l.map natV)) : EvL (tSl (rSlL K) te tNoPart (tPart (tC (.int 40)))) σ H ((l.take 40).map natV) := fun H1 e Q q => h H1 e _ fun a H2 na e2 ha =>
  ⟨40, rfl, a, _, rfl, sq_of ha, fun r nr => q r _ (fresh_back e2 nr) (e2.trans (Ex.new nr)) (by rw [upd_same, cut40])⟩
theorem right_d {a1 a2 a6 a7 a8 a9 a10 a11 : Option V} (z : RZ n T L seeds due ag) (ra : RA Tt H p tp lp sp dp ap ns u T L seeds due ag) (hn : ns.length ≤ 63) (t0 : 0 ≤ u) (t1 : u ≤ 890000)
    (k : ∀ (b : Bool) (fp : Addr) (ps : Parts) (u' : Int) (H' : Hp), u ≤ u' → u' ≤ u + 400 → RA Tt H' p tp lp sp dp ap ns u' T L seeds due ag → FamB b H' fp ps → FS L due ps →
      tz D [some (.ref p), a1, a2, some (.ref lp), some (.ref sp), some (.ref dp), a6, a7, a8, a9, a10, a11, some (.ref fp), none] H') :
    tSeq (tA13 K) (tSeq (tA14 K) tz) D [some (.ref p), a1, a2, some (.ref lp), some (.ref sp), some (.ref dp), a6, a7, a8, a9, a10, a11, none, none] H := by
  have ll := z.len
  have n8 := z.n8
  have dz := z.due_len
  have sz := z.sz
  have cat3 : ∀ {σ : L2.St} {H1 : Hp}, RA Tt H1 p tp lp sp dp ap ns u T L seeds due ag ∨ (∃ u', RA Tt H1 p tp lp sp dp ap ns u' T L seeds due ag) → σ[4]? = some (some (.ref sp)) → σ[5]? = some (some (.ref dp)) → EvL tCat3 σ H1 ((due ++ seeds ++ due).map natV) := fun {σ H1} r s4 s5 => by
    obtain ⟨u', r⟩ : ∃ u', RA Tt H1 p tp lp sp dp ap ns u' T L seeds due ag := r.elim (fun r => ⟨_, r⟩) id
    have w := el_catLV (el_catVV (ev_var s5) r.hd (ev_var s4) r.hs (by rw [List.length_map, List.length_map]; omega)) (ev_var s5) r.hd (by rw [List.length_append, List.length_map, List.length_map]; omega)
    rw [← List.map_append, ← List.map_append] at w
    exact w
  refine q_asgR ?_
  refine ⟨_, rfl, (el_cut40 (cat3 (.inl ra) rfl rfl)) H (Ex.refl _) _ fun fl H1 nfl e1 hfl => ?_⟩
  have r1 := ra.e e1
  refine ⟨lp, fl, L, (due ++ seeds ++ due).take 40, rfl, sq_of r1.hl, by omega, sq_of hfl, by rw [List.length_take]; omega, fun t H2 rows pm srt nt e2 rt => ?_⟩
  have r2 := r1.e e2
  obtain ⟨ps, hps, fam⟩ := row_fam rt
  have lps : ps.length ≤ 40 := by
    have l1 := congrArg List.length hps
    have l2 := pm.length_eq
    rw [List.length_map] at l1 l2
    rw [List.length_take] at l2
    omega
  refine ⟨t, rfl, ⟨_, st_of fam.at_⟩, fun Dl hD => ?_⟩
  have Fl : ∀ m ∈ (due ++ seeds ++ due).take 40, m < 2 ^ L.length := fun m hm => by
    rw [ll]
    rcases List.mem_append.mp (List.mem_of_mem_take hm) with y | y
    · rcases List.mem_append.mp y with y | y
      · exact z.due_lt m y
      · exact z.sl m y
    · exact z.due_lt m y
  have hrm : ∀ r ∈ rows, ∃ m, r = rowOf L m := fun r hr => by
    obtain ⟨m, _, e⟩ := List.mem_map.mp (pm.mem_iff.mp hr)
    exact ⟨m, e.symm⟩
  have pD : Dl ≠ p := pen_fresh r2.pen hD
  have pn : Dl ≠ ns.l := fun e => by
    obtain ⟨_, _, y⟩ := r2.pen
    rw [← e, hD] at y
    cases y
  refine lc_it (walk_tup (K := K) (a := t) (xs := ps.map fun q => .ref q.1)) (fun i H' => ∃ (acc : Parts) (u' : Int), H' Dl = some (.lst (acc.map fun q => .ref q.1)) ∧ (∀ q ∈ acc, H' q.1 = some (.tup (rowV q.2))) ∧ acc.length = i ∧ masksP L acc = (rows.take i).map (maskR L) ∧ (∀ q ∈ acc, ∃ m, q.2.Perm (rowOf L m)) ∧ u ≤ u' ∧ u' ≤ u + 8 * i ∧ PenAt H' p ns u' ∧ But p H2 H')
    ⟨[], u, upd_same, (fun _ y => by cases y), rfl, rfl, (fun _ y => by cases y), Int.le_refl _, by omega, pen_upd0 r2.pen hD, fun c o _ hc => (upd_ne fun e => by rw [e, hD] at hc; cases hc).trans hc⟩ (fun i H' _ pp => ?_) (fun i x H3 H4 hi pp yy => ?_) (fun H' pp => ?_)
  · obtain ⟨acc, u', _, _, _, _, _, _, _, _, bt⟩ := pp
    exact st_of (bt _ _ (pen_ne r2.pen fam.at_ fun g y => by cases y) fam.at_)
  · obtain ⟨rfl, hx⟩ := yy
    obtain ⟨acc, u', hA, hAr, hl, hm, hmp, u0, u1, pen', bt⟩ := pp
    rw [List.length_map] at hi
    rw [List.getElem?_map, List.getElem?_eq_getElem hi] at hx
    cases hx
    have hm0 := List.getElem_mem hi
    have hrow := bt _ _ (pen_ne r2.pen (fam.row _ hm0) fun g y => by cases y) (fam.row _ hm0)
    obtain ⟨m, em⟩ := hrm _ (by rw [← hps]; exact List.mem_map_of_mem hm0)
    have lr : (ps[i]).2.length ≤ 8 := by
      rw [em]
      have := rowOf_len (L := L) (m := m)
      omega
    refine ⟨rfl, ?_⟩
    refine rd_cb1 (rd_call2 rfl rfl ⟨p, (ps[i]).1, ns, u', rowV (ps[i]).2, rfl, .inr (st_of hrow), by rw [List.length_map]; omega, pen', hn, by omega, by omega, fun ys u2 q H5 pmy u20 u21 pen5 b5 nq h5 => ?_⟩)
    obtain ⟨r', hr', rfl⟩ := L2.Mb.perm_lift (g := V.str) pmy (ps[i]).2 rfl
    rw [List.length_map] at u21
    refine ⟨q, rowV r', rfl, .inl ⟨sq_of h5, fun l nl => ?_⟩⟩
    have eN := Ex.new (o := .tup (rowV r')) nl
    have hA5 := b5 _ _ pD hA
    have lD : Dl ≠ l := fun e => by rw [e, nl] at hA5; cases hA5
    have tk : rows.take (i + 1) = rows.take i ++ [(ps[i]).2] := by
      rw [List.take_add_one, ← hps, List.getElem?_map, List.getElem?_eq_getElem hi]
      rfl
    refine ⟨acc.map fun q => .ref q.1, eN _ _ hA5, sz_lt (by rw [List.length_map]; omega), acc ++ [(l, r')], u2, ?_, fun q2 hq2 => ?_, ?_, ?_, fun q2 hq2 => ?_, by omega, by omega, ?_, fun c o nc hc => ?_⟩
    · rw [upd_same, List.map_append]
      rfl
    · rcases List.mem_append.mp hq2 with y | y
      · have h9 := hAr q2 y
        have c1 : q2.1 ≠ Dl := fun e => by rw [e, hA] at h9; cases h9
        rw [upd_ne c1]
        exact eN _ _ (b5 _ _ (pen_ne pen' h9 fun g y => by cases y) h9)
      · rw [List.mem_singleton.mp y]
        rw [upd_ne lD.symm]
        exact upd_same
    · rw [List.length_append, hl]
      rfl
    · rw [tk, List.map_append, ← hm]
      show (acc ++ [(l, r')]).map _ = _
      rw [List.map_append]
      exact congrArg (masksP L acc ++ [·]) (mask_perm fun x => hr'.mem_iff)
    · rcases List.mem_append.mp hq2 with y | y
      · exact hmp q2 y
      · rw [List.mem_singleton.mp y]
        exact ⟨m, by rw [← em]; exact hr'⟩
    · exact pen_updL (pen_mono eN pen5) (eN _ _ hA5) pD pn
    · have c1 : c ≠ Dl := fun e => by rw [e, hD] at hc; cases hc
      rw [upd_ne c1]
      exact eN _ _ (b5 _ _ nc (bt _ _ nc hc))
  · obtain ⟨acc, u', hA, hAr, hl, hm, hmp, u0, u1, pen', bt⟩ := pp
    rw [List.length_map] at hl u1
    have r3 := r2.b bt pen'
    have famA : FamB true H' Dl acc := ⟨hA, hAr⟩
    have hmm : masksP L acc = rows.map (maskR L) := by
      rw [hm, List.length_map, ← List.length_map (f := Prod.snd) (as := ps), hps, List.take_length]
    refine q_asgR ?_
    refine (et_test (ev_op (ev_lenN (cat3 (.inr ⟨_, r3⟩) rfl rfl)) ev_c rv_I0)) H' (Ex.refl _) _ fun H6 e6 => ?_
    have r6 := r3.e e6
    have fam6 := famA.n (ex_extN e6)
    by_cases hc : (((due ++ seeds ++ due).map natV).length : Int) ≤ 40
    · show (if decide _ = true then _ else _)
      rw [if_pos (decide_eq_true hc)]
      rw [List.length_map] at hc
      have tk : (due ++ seeds ++ due).take 40 = due ++ seeds ++ due := List.take_of_length_le (by omega)
      obtain ⟨ms, m1, m2, m3, m4, lo⟩ := z.least
      have fs : FS L due acc := fs_mixed z.ord (by omega) Fl (by rw [List.length_take]; omega) pm hmm hmp (by
        rw [tk]
        intro b
        rw [m3]
        refine tr_due m2 (fun m hm => two8 n8 (m4 m hm)) (fun m hm => ?_) (fun m hm => List.mem_append_right _ hm) b
        rw [← m3] at hm
        rcases List.mem_append.mp hm with y | y
        · rcases List.mem_append.mp y with y | y
          · exact lo.sub m y
          · exact m1.mem_iff.mpr y
        · exact lo.sub m y)
      refine ⟨_, rfl, Dl, _, rfl, .inl ⟨sq_of fam6.at_, fun g1 ng1 => ?_⟩⟩
      have e7 := Ex.new (o := .tup (acc.map fun q => .ref q.1)) ng1
      refine ⟨_, rfl, ⟨(by show 2 ≤ sizeLine; decide), fun q nq => ?_⟩⟩
      have e8 := Ex.new (o := .lst [.ref g1, .ref Dl]) nq
      have r8 := r6.e (e7.trans e8)
      have fam8 := fam6.n (ex_extN (e7.trans e8))
      refine rd_ix2 (a1 := g1) (a2 := Dl) rfl r8.pen hn (by omega) (by omega) upd_same fun b u9 H9 u90 u91 pen9 b9 => ?_
      have r9 := r8.b b9 pen9
      have row9 : ∀ q ∈ acc, H9 q.1 = some (.tup (rowV q.2)) := fun q hq => b9 _ _ (pen_ne r8.pen (fam8.row q hq) fun g y => by cases y) (fam8.row q hq)
      cases b with
      | true => exact k false g1 acc u9 H9 (by omega) (by omega) r9 ⟨b9 _ _ (pen_ne r8.pen (e8 _ _ upd_same) fun g y => by cases y) (e8 _ _ upd_same), row9⟩ fs
      | false => exact k true Dl acc u9 H9 (by omega) (by omega) r9 ⟨b9 _ _ (fun e => pD e) fam8.at_, row9⟩ fs
    · show (if decide _ = true then _ else _)
      rw [if_neg (by rw [decide_eq_false hc]; exact Bool.false_ne_true)]
      refine rd_call2 rfl rfl ⟨lp, dp, L, due, rfl, sq_of r6.hl, by omega, sq_of r6.hd, dz, fun t7 H7 rs pm7 srt7 nt7 e7 rt7 => ?_⟩
      obtain ⟨ps7, hp7, fam7⟩ := row_fam rt7
      exact k false t7 ps7 u' H7 (by omega) (by omega) (r6.e e7) fam7 (fs_rows z.ord (by omega) (by rw [ll]; exact z.due_lt) (by omega) (by rw [hp7]; exact pm7))
end
end L2.M2
set_option maxRecDepth 100000
set_option maxHeartbeats 8000000
namespace L2.M2
open PySem PySem.Spec PyProof.Rows L2 Mx L2.Mb Evl Mv L2.C LamX Sr Srt SrtO NdefX
/-! ### one turn of the law: blockers -/
abbrev tBk (K : W.Frag) (Tt : List (Addr × Str)) (te : TE) : TE := tCall (spBk K Tt) [] E0 (tCons te tNil)
abbrev tRp (K : W.Frag) (te : TE) : TE := tCB (rRepr K) (tCons te tNil)
abbrev tA15 (K : W.Frag) : TS := tAsg (tRp K (tVar 12)) (gName 8)
abbrev tA16 (K : W.Frag) : TS := tAsg (tRp K (tWr K (tVar 6))) (gName 11)
abbrev tA17 (K : W.Frag) (Tt : List (Addr × Str)) (gW : List V → List V → List V) : TS := tIfS (tOr (tTest (tOp rNe (tRp K (tBk K Tt (tVar 12))) (tVar 11))) (tOr (tTest (tOp rNe (tRp K (tCallK0 (spBk K Tt) gW E0 (tCons (tVar 12) tNil))) (tVar 11))) (tTest (tOp rNe (tRp K (tVar 12)) (tVar 8))))) tNever tNext
abbrev tA18 (K : W.Frag) (Tt : List (Addr × Str)) : TS := tRet (tOp rEq (tRp K (tBk K Tt (tBk K Tt (tVar 12)))) (tRp K (tWr K (tVar 5))))
section
variable {K : W.Frag} {Tt : List (Addr × Str)} {D : Ends} {tz : TS} {H : Hp} {p tp lp sp dp ap fp : Addr} {ns : Cells} {u : Int} {n : Nat} {T L : List Str} {seeds due ag : List Nat} {b : Bool} {ps : Parts} {gW : List V → List V → List V}
theorem rd_callK1 {sp : Sp} {σ : L2.St} {E : XK} {i : Nat} {x : V} {Q : VK} (hi : σ[i]? = some (some x)) (h : sp (gW [] [x]) H Q E) : tCallK0 sp gW E (tCons (tVar i) tNil) σ H Q := ⟨x, hi, h⟩
theorem rd_callV {sp : Sp} {σ : L2.St} {E : XK} {i : Nat} {x : V} {Q : VK} (hi : σ[i]? = some (some x)) (h : sp [x] H Q E) : tCall sp [] E (tCons (tVar i) tNil) σ H Q := ⟨x, hi, h⟩
theorem fam_sh (z : RZ n T L seeds due ag) {F : List Nat} (fs : FS L F ps) : ∀ r ∈ ps.map Prod.snd, r.length ≤ 9 ∧ ∀ x ∈ r, shT x = true := fun r hr => by
  obtain ⟨q, hq, rfl⟩ := List.mem_map.mp hr
  exact ⟨fs.len q hq, fun x hx => z.shL x (fs.inL q hq x hx)⟩
theorem len_of {ps : Parts} {rs : List (List Str)} {F : List Nat} (h1 : ps.map Prod.snd = rs) (h2 : rs.Perm (F.map (rowOf L))) (h3 : F.length ≤ 256) : ps.length ≤ 300 := by
  have l1 := congrArg List.length h1
  have l2 := h2.length_eq
  rw [List.length_map] at l1 l2
  omega
theorem use_bkR {Q : VK} {E : XK} {g : Addr} {F A : List Nat} (hL : Ord L) (h8 : L.length ≤ 8) (fs : FS L F ps) (fam : FamB b H g ps) (hA : ∀ b, b ∈ A ↔ MinTr F b) (nA : A.Nodup) (hT : Tabs Tt H)
    (k : ∀ t ps' H', ExtN H H' → Tabs Tt H' → FamB false H' t ps' → (ps'.map Prod.snd).Perm (A.map (rowOf L)) → SrtR (ps'.map Prod.snd) → Q (.ref t) H') : spBk K Tt [.ref g] H Q E :=
  ⟨g, ps, L, rfl, fam.at_.sq, fam.row, fs.sz, fs.len, h8, fs.inL, hT, fun I Bs rs2 t H' s1 nd hI am nB lt pm2 st2 eN nn T' nt rt => by
    have p2 := blk_rows hL s1 nd hI fs.inL am nB (fun b => (hA b).trans (minTr_congr fs.tr b).symm) nA
    obtain ⟨ps', hp, fam'⟩ := row_fam rt
    exact k t ps' H' eN T' fam' (by rw [hp]; exact pm2.trans p2) (by rw [hp]; exact st2)⟩
theorem right_e {a1 a2 a7 a8 a9 a10 a11 a13 : Option V} (hgW : ∀ a : V, gW [] [a] = [a]) (z : RZ n T L seeds due ag) (ra : RA Tt H p tp lp sp dp ap ns u T L seeds due ag) (fam : FamB b H fp ps) (fs : FS L due ps)
    (k : ∀ H', PenAt H' p ns u → Tabs Tt H' → D.rt (.bl true) H') :
    tSeq (tA15 K) (tSeq (tA16 K) (tSeq (tA17 K Tt gW) (tA18 K Tt))) D [some (.ref p), a1, a2, some (.ref lp), some (.ref sp), some (.ref dp), some (.ref ap), a7, a8, a9, a10, a11, some (.ref fp), a13] H := by
  have ll := z.len
  have n8 := z.n8
  have h8 : L.length ≤ 8 := by omega
  have fsh := fam_sh z fs
  refine q_asg (ev_reprF (ev_var rfl) fam fs.sz fsh) fun H1 e1 => ?_
  have r1 := ra.e e1
  refine q_asgR (rd_cb1 (rd_call2 rfl rfl ⟨lp, ap, L, ag, rfl, sq_of r1.hl, h8, sq_of r1.ha, z.ag_len, fun t2 H2 rs pm srt nt2 e2 rt2 => ?_⟩))
  obtain ⟨ps2, hp2, fam2⟩ := row_fam rt2
  have hrs := z.rows pm
  refine rv_fam fam2 (len_of hp2 pm z.ag_len) (by rw [hp2]; exact hrs) ?_
  rw [hp2]
  have r2 := r1.e e2
  have famA := fam.n (ex_extN (e1.trans e2))
  refine q_ifR (rd_or (rd_neV (rd_cb1 (rd_callV rfl (use_bk z.ord h8 fs famA z.mem_ag z.ag_nd r2.tabs pm srt fun t3 ps3 H3 eN3 T3 fam3 hp3 => rv_fam fam3 (len_of hp3 pm z.ag_len) (by rw [hp3]; exact hrs) ?_)))))
  rw [hp3]
  refine ⟨_, rfl, rfl, false, by rw [decide_eq_true rfl]; rfl, ?_⟩
  show (if false = true then _ else _)
  rw [if_neg Bool.false_ne_true]
  refine rd_or (rd_neV (rd_cb1 (rd_callK1 rfl ?_)))
  rw [hgW]
  refine use_bk z.ord h8 fs (famA.n eN3) z.mem_ag z.ag_nd T3 pm srt fun t4 ps4 H4 eN4 T4 fam4 hp4 => rv_fam fam4 (len_of hp4 pm z.ag_len) (by rw [hp4]; exact hrs) ?_
  rw [hp4]
  refine ⟨_, rfl, rfl, false, by rw [decide_eq_true rfl]; rfl, ?_⟩
  show (if false = true then _ else _)
  rw [if_neg Bool.false_ne_true]
  have r4 := r2.n (eN3.trans eN4) T4
  have famB := famA.n (eN3.trans eN4)
  refine (et_test (ev_is (ev_op (ev_reprF (ev_var rfl) famB fs.sz fsh) (ev_var rfl) (rv_ne rfl)) (by rw [decide_eq_true rfl]; rfl)) : EvT _ _ _ false) H4 (Ex.refl _) _ fun H5 e5 => ?_
  show (if false = true then _ else _)
  rw [if_neg Bool.false_ne_true]
  have r5 := r4.e e5
  have famC := famB.n (ex_extN e5)
  refine s_retR ?_
  refine rd_cb1 (rd_call1 (rd_callV rfl (use_bk z.ord h8 fs famC z.mem_ag z.ag_nd r5.tabs pm srt fun t6 ps6 H6 eN6 T6 fam6 hp6 => ?_)))
  have r6 := r5.n eN6 T6
  have fs6 : FS L ag ps6 := fs_rows z.ord h8 (by rw [ll]; exact z.ag_lt) (by have := z.ag_len; omega) (by rw [hp6]; exact pm)
  obtain ⟨ms, m1, m2, m3, m4, lo⟩ := z.least
  have dl : ∀ d, d ∈ due ↔ MinTr ag d := fun d => (dual z.due_lt (fun a ha c hc s => least_anti lo ha hc s) z.mem_ag d).symm
  refine use_bkR z.ord h8 fs6 fam6 dl z.due_nd T6 fun t7 ps7 H7 eN7 T7 fam7 pm7 srt7 => ?_
  have r7 := r6.n eN7 T7
  have l7 : ps7.length ≤ 300 := len_of rfl pm7 z.due_len
  refine rv_fam fam7 l7 (z.rows pm7) ?_
  refine rd_cb1 (rd_call2 rfl rfl ⟨lp, dp, L, due, rfl, sq_of r7.hl, h8, sq_of r7.hd, z.due_len, fun t8 H8 rs8 pm8 srt8 nt8 e8 rt8 => ?_⟩)
  obtain ⟨ps8, hp8, fam8⟩ := row_fam rt8
  refine rv_fam fam8 (len_of hp8 pm8 z.due_len) (by rw [hp8]; exact z.rows pm8) ?_
  have er : ps7.map Prod.snd = ps8.map Prod.snd := by rw [hp8]; exact rows_eq (pm7.trans pm8.symm) srt7 srt8
  refine ⟨rfl, ?_⟩
  rw [er, decide_eq_true rfl]
  have r8 := r7.e e8
  exact k H8 r8.pen r8.tabs
end
end L2.M2
set_option maxRecDepth 100000
set_option maxHeartbeats 16000000
namespace L2.M2
open PySem PySem.Spec PyProof.Rows L2 Mx L2.Mb Evl Mv L2.C LamX Sr Srt SrtO NdefX
/-! ### one turn of the law, whole -/
theorem passF {X : Cx} : Passes (L2.CX X.prog X.w) X (fun _ _ _ => False) := fun _ _ _ _ _ _ _ h => by
  obtain ⟨_, _, _, _, _, _, _, _, _, _, _, _, hE⟩ := h
  exact hE.elim
/-- a def of the program that may raise -/
structure FnX (P : Program) (w : World) (K : W.Frag) (mg : Str → Option Value) (base : Heap) (x : Str) (k : Nat) (f : Addr) (fd : FuncData) (ps : List Str) (sp : Sp) : Prop where
  ok : FnOk P w K mg base (L2.CX P w) k f fd ps sp
  m : mg x = some (.ref f)
  k : W.keepIn K (.ref f) = true
  b : Binds K fd ps []
def spRt (Tt : List (Addr × Str)) : Sp := fun vs H Q _ => ∃ (p : Addr) (ns : Cells) (t : Int) (n : Nat), vs = [.ref p, natV n] ∧ 5 ≤ n ∧ n ≤ 8 ∧ PenAt H p ns t ∧ ns.length ≤ 63 ∧ 0 ≤ t ∧ t ≤ 800000 ∧ Tabs Tt H ∧ ∀ u H', t ≤ u → u ≤ t + 500 → PenAt H' p ns u → Tabs Tt H' → Q (.bl true) H'
section
variable {P : Program} {w : World} {K : W.Frag} {mg : Str → Option Value} {base : Heap} {Tt : List (Addr × Str)} {CM f fD fT fM fS fL fH fJ fW fX fA fB : Addr} {fd dD dT dM dS dL dH dJ dW dX dA dB : FuncData} {g1 g2 : List Value → List Value → List Value} {gV gW : List V → List V → List V}
theorem ok_right (B : Bt mg) (sys : SysD K) (DD : Fn0 P w K mg base "_law_draw" 1 fD dD p_law_draw spTake) (DT : Fn0 P w K mg base "_law_things" 2 fT dT p_law_things spTh) (DM : Fn0 P w K mg base "_law_mixed" 2 fM dM p_law_mixed (spMx K)) (DS : Fn0 P w K mg base "_law_seeds" 2 fS dS p_law_seeds spSd)
    (DL : Fn0 P w K mg base "_law_least" 3 fL dL p_law_least (spLe K)) (DH : Fn0 P w K mg base "_law_hit" 4 fH dH p_law_hit (spHi K)) (DJ : Fn0 P w K mg base "_law_judge" 3 fJ dJ p_law_judge (spJd Tt)) (DW : Fn0 P w K mg base "_law_written" 3 fW dW p_law_written (spWr K))
    (DX : FnX P w K mg base "least_sets" 9 fX dX p_least_sets (spLS K Tt CM)) (kb1 : KBinds K dX p_least_sets ["holds", "items"] g1 gV) (DA : Fn0 P w K mg base "_law_asked_right" 3 fA dA p_law_asked_right (spAr K)) (DB : Fn0 P w K mg base "blockers" 6 fB dB p_blockers (spBk K Tt)) (kb2 : KBinds K dB p_blockers ["sets"] g2 gW)
    (hgV : ∀ a c : V, gV [] [a, c] = [c, a]) (hgW : ∀ a : V, gW [] [a] = [a]) (F : FnP K "_law_right" s_law_right f fd) : FnG P w K mg base CX0 10 f fd p_law_right (spRt Tt) := by
  refine fund_okG F sc_law_right (fun vs H Q E h => ?_) (fun cdv A outer s H vs Q E gd hr h => ?_)
  · obtain ⟨p, ns, t, n, rfl, _⟩ := h
    rfl
  · obtain ⟨p, ns, t, n, rfl, n5, n8, pen, hn, t0, t1, hT, k⟩ := h
    have nd := sc_law_right.nd
    have hun := hr.units
    have hu2 := (hr.mono (show 2 ≤ 9 by decide)).in1.in1.units0
    refine ⟨_, PSs.nox (pss_cons (ps_set (i := 2) nd rfl (by first | exact Or.inl rfl | exact Or.inr rfl) (pe_call DM.ok (hr.mono (by decide)) (by rfl) DM.m DM.k DM.b .nil pass0 (pa_cons (pv 0) (pa_cons (pe_call DT.ok (hr.mono (by decide)) (by rfl) DT.m DT.k DT.b .nil pass0 (pa_cons (pv 0) (pa_cons (pv 1) pa_nil))) pa_nil))))
      (pss_cons (ps_set (i := 3) nd rfl (by first | exact Or.inl rfl | exact Or.inr rfl) (pe_callB (cr_sortD hu2) (by rfl) B.sorted (by decide +kernel) (pa_cons (pv 2) pa_nil)))
      (pss_cons (ps_set (i := 4) nd rfl (by first | exact Or.inl rfl | exact Or.inr rfl) (pe_call DS.ok (hr.mono (by decide)) (by rfl) DS.m DS.k DS.b .nil pass0 (pa_cons (pv 0) (pa_cons (pv 1) pa_nil))))
      (pss_cons (ps_set (i := 5) nd rfl (by first | exact Or.inl rfl | exact Or.inr rfl) (pe_call DL.ok (hr.mono (by decide)) (by rfl) DL.m DL.k DL.b .nil pass0 (pa_cons (pv 4) pa_nil)))
      (pss_cons (ps_set (i := 6) nd rfl (by first | exact Or.inl rfl | exact Or.inr rfl) (pe_call DH.ok (hr.mono (by decide)) (by rfl) DH.m DH.k DH.b .nil pass0 (pa_cons (pv 1) (pa_cons (pv 5) pa_nil))))
      (pss_cons (ps_set (i := 7) nd rfl (by first | exact Or.inl rfl | exact Or.inr rfl) (pe_ix ix_list (pe_lst (pa_cons (pe_callTy (r := rTupO K) call_tuple_of (by rfl) B.tuple (by decide +kernel) (pa_cons (pv 2) pa_nil)) (pa_cons (pe_callTy (r := rListO K) call_list_of (by rfl) B.list (by decide +kernel) (pa_cons (pv 2) pa_nil)) pa_nil)))
          (pe_call DD.ok (hr.mono (by decide)) (by rfl) DD.m DD.k DD.b .nil pass0 (pa_cons (pv 0) (pa_cons pe_int pa_nil))) (fun _ _ => rfl)))
      (pss_cons (ps_set (i := 8) nd rfl (by first | exact Or.inl rfl | exact Or.inr rfl) (pe_callB (call_repr gd sys hun) (by rfl) B.repr (by decide +kernel) (pa_cons (pv 7) pa_nil)))
      (pss_cons (ps_set (i := 9) nd rfl (by first | exact Or.inl rfl | exact Or.inr rfl) (pe_lst pa_nil))
      (pss_cons (ps_set (i := 10) nd rfl (by first | exact Or.inl rfl | exact Or.inr rfl) (pe_call DJ.ok (hr.mono (by decide)) (by rfl) DJ.m DJ.k DJ.b .nil pass0 (pa_cons (pv 3) (pa_cons (pv 4) (pa_cons (pv 9) pa_nil)))))
      (pss_cons (ps_set (i := 11) nd rfl (by first | exact Or.inl rfl | exact Or.inr rfl) (pe_callB (call_repr gd sys hun) (by rfl) B.repr (by decide +kernel) (pa_cons (pe_call DW.ok (hr.mono (by decide)) (by rfl) DW.m DW.k DW.b .nil pass0 (pa_cons (pv 3) (pa_cons (pv 5) pa_nil))) pa_nil)))
      (pss_cons (ps_if (pw_or (pt_cmpR op_ne (pe_callB (call_repr gd sys hun) (by rfl) B.repr (by decide +kernel) (pa_cons (pe_call (E := fun _ _ _ => False) DX.ok hr (by rfl) DX.m DX.k DX.b .nil passF (pa_cons (pv 7) (pa_cons (pv 10) pa_nil))) pa_nil)) (pv 11) (nomark _))
          (pw_or1 (pt_cmpR op_ne (pe_callB (call_repr gd sys hun) (by rfl) B.repr (by decide +kernel) (pa_cons (pe_callK0 (E := fun _ _ _ => False) DX.ok hr (by rfl) DX.m DX.k kb1 passF (pk_cons (pv 10) (pk_cons (pv 7) pk_nil))) pa_nil)) (pv 11) (nomark _)))).pt (pss_one ps_never) pss_nil)
      (pss_cons (ps_if (pw_or (pt_not (pt_val (pe_call DA.ok (hr.mono (by decide)) (by rfl) DA.m DA.k DA.b .nil pass0 (pa_cons (pv 3) (pa_cons (pv 9) pa_nil)))))
          (pw_or1 (pt_cmpR op_ne (pe_callB (call_repr gd sys hun) (by rfl) B.repr (by decide +kernel) (pa_cons (pv 7) pa_nil)) (pv 8) (nomark _)))).pt (pss_one ps_never) pss_nil)
      (pss_cons (ps_setLc (i := 12) (own := [("_law_row", 13)]) (g := gName 13) (tt := tYes) (te := tCB (rTupO K) (tCons (tCall (spMx K) [] E0 (tCons (tVar 0) (tCons (tVar 13) tNil))) tNil)) (by rfl) nd rfl rfl (sw_true rfl rfl rfl (by decide +kernel))
          (pi_tup (pe_call DW.ok (hr.mono (by decide)) (by rfl) DW.m DW.k DW.b .nil pass0 (pa_cons (pv 3) (pa_cons (pe_slice sl_list (pe_op op_cat (pe_op op_cat (pv 5) (pv 4)) (pv 5)) po_none (po_some pe_int)) pa_nil)))) (blkOk_by (N := n_law_right) (sc := defScope s_law_right) (by decide +kernel)) (fun _ _ _ _ _ => pg_name (i := 13) nd rfl (Or.inl rfl)) (fun _ _ _ _ _ => pts_nil)
          (fun _ _ _ _ _ => pe_callTy (r := rTupO K) call_tuple_of (by rfl) B.tuple (by decide +kernel) (pa_cons (pe_call DM.ok (hr.mono (by decide)) (by rfl) DM.m DM.k DM.b .nil pass0 (pa_cons (pv 0) (pa_cons (pv 13) pa_nil))) pa_nil)))
      (pss_cons (ps_set (i := 12) nd rfl (by first | exact Or.inl rfl | exact Or.inr rfl) (pe_ifExp (pt_cmpR op_le (pe_callB call_len_seq (by rfl) B.len (by decide +kernel) (pa_cons (pe_op op_cat (pe_op op_cat (pv 5) (pv 4)) (pv 5)) pa_nil)) pe_int (nomark _))
          (pe_ix ix_list (pe_lst (pa_cons (pe_callTy (r := rTupO K) call_tuple_of (by rfl) B.tuple (by decide +kernel) (pa_cons (pv 12) pa_nil)) (pa_cons (pv 12) pa_nil))) (pe_call DD.ok (hr.mono (by decide)) (by rfl) DD.m DD.k DD.b .nil pass0 (pa_cons (pv 0) (pa_cons pe_int pa_nil))) (fun _ _ => rfl))
          (pe_call DW.ok (hr.mono (by decide)) (by rfl) DW.m DW.k DW.b .nil pass0 (pa_cons (pv 3) (pa_cons (pv 5) pa_nil)))))
      (pss_cons (ps_set (i := 8) nd rfl (by first | exact Or.inl rfl | exact Or.inr rfl) (pe_callB (call_repr gd sys hun) (by rfl) B.repr (by decide +kernel) (pa_cons (pv 12) pa_nil)))
      (pss_cons (ps_set (i := 11) nd rfl (by first | exact Or.inl rfl | exact Or.inr rfl) (pe_callB (call_repr gd sys hun) (by rfl) B.repr (by decide +kernel) (pa_cons (pe_call DW.ok (hr.mono (by decide)) (by rfl) DW.m DW.k DW.b .nil pass0 (pa_cons (pv 3) (pa_cons (pv 6) pa_nil))) pa_nil)))
      (pss_cons (ps_if (pw_or (pt_cmpR op_ne (pe_callB (call_repr gd sys hun) (by rfl) B.repr (by decide +kernel) (pa_cons (pe_call DB.ok (hr.mono (by decide)) (by rfl) DB.m DB.k DB.b .nil pass0 (pa_cons (pv 12) pa_nil)) pa_nil)) (pv 11) (nomark _))
          (pw_or (pt_cmpR op_ne (pe_callB (call_repr gd sys hun) (by rfl) B.repr (by decide +kernel) (pa_cons (pe_callK0 DB.ok (hr.mono (by decide)) (by rfl) DB.m DB.k kb2 pass0 (pk_cons (pv 12) pk_nil)) pa_nil)) (pv 11) (nomark _))
          (pw_or1 (pt_cmpR op_ne (pe_callB (call_repr gd sys hun) (by rfl) B.repr (by decide +kernel) (pa_cons (pv 12) pa_nil)) (pv 8) (nomark _))))).pt (pss_one ps_never) pss_nil)
      (pss_one (ps_ret (pe_cmpR op_eq (pe_callB (call_repr gd sys hun) (by rfl) B.repr (by decide +kernel) (pa_cons (pe_call DB.ok (hr.mono (by decide)) (by rfl) DB.m DB.k DB.b .nil pass0 (pa_cons (pe_call DB.ok (hr.mono (by decide)) (by rfl) DB.m DB.k DB.b .nil pass0 (pa_cons (pv 12) pa_nil)) pa_nil)) pa_nil))
          (pe_callB (call_repr gd sys hun) (by rfl) B.repr (by decide +kernel) (pa_cons (pe_call DW.ok (hr.mono (by decide)) (by rfl) DW.m DW.k DW.b .nil pass0 (pa_cons (pv 3) (pa_cons (pv 5) pa_nil))) pa_nil)) (nomark _))))))))))))))))))))), ?_⟩
    refine right_a (Tt := Tt) n5 n8 pen hn t0 t1 hT fun T L seeds due ag tp lp sp dp ap u1 H1 z u10 u11 r1 => ?_
    refine right_b r1 hn (by omega) (by omega) fun b gp u2 H2 u20 u21 r2 ab => ?_
    refine right_c (gV := gV) hgV z r2 ab fun x8 x9 x10 x11 H3 r3 => ?_
    refine right_d z r3 hn (by omega) (by omega) fun b2 fp ps u4 H4 u40 u41 r4 fam fs => ?_
    exact right_e (gW := gW) hgW z r4 fam fs fun H5 pen5 T5 => k u4 H5 (by omega) (by omega) pen5 T5
end
end L2.M2
set_option maxRecDepth 100000
set_option maxHeartbeats 8000000
namespace L2.M2
open PySem PySem.Spec PyProof.Rows L2 Mx L2.Mb Evl Mv L2.C LamX Sr Srt SrtO NdefX
/-! ### the law's own families -/
section
variable {K : W.Frag} {H H' : Hp} {σ : L2.St}
theorem dp_mono {v : V} {d : PyData} (e : Ex H H') (h : Dp K H v d) : Dp K H' v d := by
  refine Dp.rec (motive_1 := fun v d _ => Dp K H' v d) (motive_2 := fun vs ds _ => DpAll K H' vs ds) ?_ ?_ ?_ ?_ ?_ ?_ ?_ ?_ h
  · exact .non
  · exact fun b => .bl b
  · exact fun i => .int i
  · exact fun x => .str x
  · exact fun hs _ ha => .lst (ex_l e hs) ha
  · exact fun hs _ ha => .tup (ex_t e hs) ha
  · exact .nil
  · exact fun _ _ h1 h2 => .cons h1 h2
theorem dpa_mono {vs : List V} {ds : List PyData} (e : Ex H H') (h : DpAll K H vs ds) : DpAll K H' vs ds := by
  induction ds generalizing vs with
  | nil => cases h; exact .nil
  | cons d ds ih => cases h with | cons h1 h2 => exact .cons (dp_mono e h1) (ih h2)
/-- a value that says d -/
def EvP (K : W.Frag) (te : TE) (σ : L2.St) (H : Hp) (d : PyData) : Prop := ∀ H1, Ex H H1 → ∀ Q : VK, (∀ v H2, Ex H1 H2 → Dp K H2 v d → Q v H2) → te σ H1 Q
def EvPA (K : W.Frag) (ta : TA) (σ : L2.St) (H : Hp) (ds : List PyData) : Prop := ∀ H1, Ex H H1 → ∀ Q : List V → Hp → Prop, (∀ vs H2, Ex H1 H2 → DpAll K H2 vs ds → Q vs H2) → ta σ H1 Q
theorem dpa_len {vs : List V} {ds : List PyData} (h : DpAll K H vs ds) : vs.length = ds.length := by
  induction ds generalizing vs with
  | nil => cases h; rfl
  | cons d ds ih => cases h with | cons h1 h2 => rw [List.length_cons, List.length_cons, ih h2]
theorem ep_str {z : Str} : EvP K (tC (.str z)) σ H (.str z) := fun H1 _ Q q => q _ H1 (Ex.refl _) (.str z)
theorem epa_nil : EvPA K tNil σ H [] := fun H1 _ Q q => q _ H1 (Ex.refl _) .nil
theorem epa_cons {te : TE} {ta : TA} {d : PyData} {ds : List PyData} (h1 : EvP K te σ H d) (h2 : EvPA K ta σ H ds) : EvPA K (tCons te ta) σ H (d :: ds) := fun H1 e Q q =>
  h1 H1 e _ fun v H2 e2 p => h2 H2 (e.trans e2) _ fun vs H3 e3 ps => q _ H3 (e2.trans e3) (.cons (dp_mono e3 p) ps)
theorem ep_tup {ta : TA} {ds : List PyData} (h : EvPA K ta σ H ds) (hz : ds.length ≤ 100) : EvP K (tTup ta) σ H (.tuple ds) := fun H1 e Q q => h H1 e _ fun vs H2 e2 ps =>
  ⟨by rw [dpa_len ps]; exact Nat.le_trans hz (by decide), fun p np => q _ _ (e2.trans (Ex.new np)) (.tup (st_of upd_same) (dpa_mono (Ex.new np) ps))⟩
theorem ep_lst {ta : TA} {ds : List PyData} (h : EvPA K ta σ H ds) (hz : ds.length ≤ 100) : EvP K (tLst ta) σ H (.list ds) := fun H1 e Q q => h H1 e _ fun vs H2 e2 ps =>
  ⟨by rw [dpa_len ps]; exact Nat.le_trans hz (by decide), fun p np => q _ _ (e2.trans (Ex.new np)) (.lst (sq_of upd_same) (dpa_mono (Ex.new np) ps))⟩
theorem dp_row {H : Hp} : ∀ r : List Str, DpAll K H (rowV r) (r.map PyData.str)
  | [] => .nil
  | b :: r => .cons (.str b) (dp_row r)
theorem dp_rows {H : Hp} : ∀ ps : Parts, (∀ q ∈ ps, H q.1 = some (.tup (rowV q.2))) → DpAll K H (ps.map fun q => .ref q.1) ((ps.map Prod.snd).map rowD)
  | [], _ => .nil
  | b :: r, h => .cons (.tup (st_of (h b List.mem_cons_self)) (dp_row _)) (dp_rows r fun q hq => h q (List.mem_cons_of_mem _ hq))
theorem dp_fam {t : Addr} {ps : Parts} {rs : List (List Str)} (h : FamB false H t ps) (e : ps.map Prod.snd = rs) : Dp K H (.ref t) (.tuple (rs.map rowD)) := by
  subst e
  exact .tup (st_of h.at_) (dp_rows ps h.row)
end
/-! ### blockers of four small families -/
def Lab : List Str := ["a", "b"]
theorem ord_ab : Ord Lab := ⟨by
  refine List.pairwise_cons.mpr ⟨fun b hb => ?_, List.pairwise_singleton _ _⟩
  rw [List.mem_singleton.mp hb]
  decide +kernel, by decide +kernel⟩
theorem am2 : AllMin [0] [] := by
  have z := allMin_step (n := 2) (F := []) (B := [0]) (m := 0) (by decide) allMin_nil
  rw [show meeting 2 [0] 0 = [] by decide] at z
  exact z
theorem am3 : AllMin [0, 1] [] := by
  have z1 := allMin_step (n := 2) (F := []) (B := [0]) (m := 1) (by decide) allMin_nil
  rw [show meeting 2 [0] 1 = [1] by decide] at z1
  have z := allMin_step (n := 2) (F := [1]) (B := [1]) (m := 0) (by decide) z1
  rw [show meeting 2 [1] 0 = [] by decide] at z
  exact z
theorem am4 : AllMin [3] [1, 2] := by
  have z := allMin_step (n := 2) (F := []) (B := [0]) (m := 3) (by decide) allMin_nil
  rw [show meeting 2 [0] 3 = [1, 2] by decide] at z
  exact z
theorem srt_ab : SrtR [["a"], ["b"]] := by
  refine List.pairwise_cons.mpr ⟨fun b hb => ?_, List.pairwise_singleton _ _⟩
  rw [List.mem_singleton.mp hb]
  decide +kernel
theorem use_small {K : W.Frag} {Tt : List (Addr × Str)} {H : Hp} {g : Addr} {b : Bool} {ps : Parts} {F A : List Nat} {rs : List (List Str)} {Q : VK} {E : XK} (fam : FamB b H g ps) (hz : ps.length ≤ 9) (hin : ∀ q ∈ ps, (∀ x ∈ q.2, x ∈ Lab) ∧ q.2.length ≤ 9) (hF : masksP Lab ps = F) (am : AllMin F A) (nA : A.Nodup) (hr : A.map (rowOf Lab) = rs) (srt : SrtR rs) (hT : Tabs Tt H)
    (k : ∀ t ps' H', ExtN H H' → Tabs Tt H' → FamB false H' t ps' → ps'.map Prod.snd = rs → Q (.ref t) H') : spBk K Tt [.ref g] H Q E :=
  use_bk (L := Lab) (F := F) (A := A) ord_ab (by decide) ⟨fun b => by rw [hF], fun q hq => (hin q hq).1, fun q hq => (hin q hq).2, by omega⟩ fam am nA hT (by rw [hr]) srt k
end L2.M2
set_option maxRecDepth 100000
set_option maxHeartbeats 8000000
namespace L2.M2
open PySem PySem.Spec PyProof.Rows L2 Mx L2.Mb Evl Mv L2.C LamX Sr Srt SrtO NdefX
section
variable {K : W.Frag} {Tt : List (Addr × Str)} {H : Hp} {σ : L2.St} {D : Ends}
theorem rd_cons {te : TE} {ta : TA} {P : List V → Hp → Prop} (h : te σ H fun x H1 => ta σ H1 fun xs H2 => P (x :: xs) H2) : tCons te ta σ H P := h
theorem rd_lst {ta : TA} {Q : VK} (h : ta σ H fun xs H1 => xs.length ≤ sizeLine ∧ ∀ p, H1 p = none → Q (.ref p) (upd H1 p (.lst xs))) : tLst ta σ H Q := h
theorem rd_tup {ta : TA} {Q : VK} (h : ta σ H fun xs H1 => xs.length ≤ sizeLine ∧ ∀ p, H1 p = none → Q (.ref p) (upd H1 p (.tup xs))) : tTup ta σ H Q := h
abbrev tTold (K : W.Frag) (Tt : List (Addr × Str)) : TE := tLst (tCons (tBk K Tt (tTup tNil)) (tCons (tBk K Tt (tLst (tCons (tTup tNil) tNil))) (tCons (tBk K Tt (tTup (tCons (tTup tNil) (tCons (tTup (tCons (tC (.str "a")) tNil)) tNil)))) (tCons (tBk K Tt (tTup (tCons (tTup (tCons (tC (.str "b")) (tCons (tC (.str "a")) tNil))) tNil))) tNil))))
abbrev toldD : PyData := .list [.tuple [.tuple []], .tuple [], .tuple [], .tuple [.tuple [.str "a"], .tuple [.str "b"]]]
theorem sz9 {n : Nat} (h : n ≤ 9) : n ≤ sizeLine := Nat.le_trans h (by decide)
theorem rd_told {Q : VK} (hT : Tabs Tt H) (k : ∀ t H', ExtN H H' → Tabs Tt H' → Dp K H' (.ref t) toldD → Q (.ref t) H') : tTold K Tt σ H Q := by
  refine rd_lst (rd_cons (rd_call1 (rd_tup ⟨sz9 (by decide), fun g1 n1 => ?_⟩)))
  refine use_small (b := false) (ps := []) (F := []) (A := [0]) (rs := [[]]) ⟨upd_same, fun _ y => by cases y⟩ (by decide) (fun _ y => by cases y) rfl allMin_nil (by decide) (by decide) (List.pairwise_singleton _ _) (tabs_ex hT (Ex.new n1)) fun t1 p1 H1 eN1 T1 f1 h1 => ?_
  have x1 := (ex_extN (Ex.new (o := .tup []) n1)).trans eN1
  refine rd_cons (rd_call1 (rd_lst (rd_cons (rd_tup ⟨sz9 (by decide), fun a2 m2 => ⟨sz9 (by show 1 ≤ 9; decide), fun g2 n2 => ?_⟩⟩))))
  have e2 := (Ex.new (o := .tup []) m2).trans (Ex.new (o := .lst [.ref a2]) n2)
  refine use_small (b := true) (ps := [(a2, [])]) (F := [0]) (A := []) (rs := []) ⟨upd_same, fun q hq => by rw [List.mem_singleton.mp hq]; exact Ex.new n2 _ _ upd_same⟩ (by show 1 ≤ 9; decide) (fun q hq => by rw [List.mem_singleton.mp hq]; exact ⟨(fun _ y => by cases y), by show 0 ≤ 9; decide⟩) (by show [maskR Lab []] = [0]; decide +kernel) am2 (by decide) rfl List.Pairwise.nil (tabs_ex T1 e2) fun t2 p2 H2 eN2 T2 f2 h2 => ?_
  have x2 := (ex_extN e2).trans eN2
  refine rd_cons (rd_call1 (rd_tup (rd_cons (rd_tup ⟨sz9 (by decide), fun a3 m3 => rd_cons (rd_tup ⟨sz9 (by show 1 ≤ 9; decide), fun c3 l3 => ⟨sz9 (by show 2 ≤ 9; decide), fun g3 n3 => ?_⟩⟩)⟩))))
  have e3a := Ex.new (o := .tup []) m3
  have e3b := Ex.new (o := .tup [.str "a"]) l3
  have e3c := Ex.new (o := .tup [.ref a3, .ref c3]) n3
  refine use_small (b := false) (ps := [(a3, []), (c3, ["a"])]) (F := [0, 1]) (A := []) (rs := []) ⟨upd_same, fun q hq => ?_⟩ (by show 2 ≤ 9; decide) (fun q hq => ?_) (by show [maskR Lab [], maskR Lab ["a"]] = [0, 1]; decide +kernel) am3 (by decide) rfl List.Pairwise.nil (tabs_ex T2 ((e3a.trans e3b).trans e3c)) fun t3 p3 H3 eN3 T3 f3 h3 => ?_
  · rcases List.mem_cons.mp hq with y | y
    · rw [y]
      exact e3c _ _ (e3b _ _ upd_same)
    · rw [List.mem_singleton.mp y]
      exact e3c _ _ upd_same
  · rcases List.mem_cons.mp hq with y | y
    · rw [y]
      exact ⟨(fun _ y => by cases y), by show 0 ≤ 9; decide⟩
    · rw [List.mem_singleton.mp y]
      exact ⟨fun x hx => by rw [List.mem_singleton.mp hx]; decide, by show 1 ≤ 9; decide⟩
  have x3 := (ex_extN ((e3a.trans e3b).trans e3c)).trans eN3
  refine rd_cons (rd_call1 (rd_tup (rd_cons (rd_tup ⟨sz9 (by show 2 ≤ 9; decide), fun a4 m4 => ⟨sz9 (by show 1 ≤ 9; decide), fun g4 n4 => ?_⟩⟩))))
  have e4a := Ex.new (o := .tup [.str "b", .str "a"]) m4
  have e4b := Ex.new (o := .tup [.ref a4]) n4
  refine use_small (b := false) (ps := [(a4, ["b", "a"])]) (F := [3]) (A := [1, 2]) (rs := [["a"], ["b"]]) ⟨upd_same, fun q hq => by rw [List.mem_singleton.mp hq]; exact e4b _ _ upd_same⟩ (by show 1 ≤ 9; decide) (fun q hq => ?_) (by show [maskR Lab ["b", "a"]] = [3]; decide +kernel) am4 (by decide) (by decide +kernel) srt_ab (tabs_ex T3 (e4a.trans e4b)) fun t4 p4 H4 eN4 T4 f4 h4 => ?_
  · rw [List.mem_singleton.mp hq]
    exact ⟨fun x hx => by
      rcases List.mem_cons.mp hx with y | y
      · rw [y]; decide
      · rw [List.mem_singleton.mp y]; decide, by show 2 ≤ 9; decide⟩
  have x4 := (ex_extN (e4a.trans e4b)).trans eN4
  refine ⟨sz9 (by show 4 ≤ 9; decide), fun g n => ?_⟩
  have e5 := Ex.new (o := .lst [.ref t1, .ref t2, .ref t3, .ref t4]) n
  have x5 := ex_extN e5
  refine k g _ ((((x1.trans x2).trans x3).trans x4).trans x5) (tabs_ex T4 e5) (.lst (sq_of upd_same) (.cons (dp_fam (f1.n (((x2.trans x3).trans x4).trans x5)) h1) (.cons (dp_fam (f2.n ((x3.trans x4).trans x5)) h2) (.cons (dp_fam (f3.n (x4.trans x5)) h3) (.cons (dp_fam (f4.n x5) h4) .nil)))))
end
end L2.M2
set_option maxRecDepth 100000
set_option maxHeartbeats 8000000
namespace L2.M2
open PySem PySem.Spec PyProof.Rows L2 Mx L2.Mb Evl Mv L2.C LamX Sr Srt SrtO NdefX
/-! ### the law's end -/
def nine : List Str := ["a", "b", "c", "d", "e", "f", "g", "h", "i"]
/-- the judge that always says yes -/
structure AL (Tt : List (Addr × Str)) (H : Hp) (np sp nl fh : Addr) : Prop where
  hn : H np = some (.lst (rowV nine))
  hs : H sp = some (.lst [natV 0])
  clo : ∃ cl c', Clo H fh (mkJ cl c') frJ [.ref np, .ref sp, .ref nl]
  rows : RowG H nl (fun _ => True) 300
  tabs : Tabs Tt H
  n1 : np ≠ nl
  n2 : sp ≠ nl
section
variable {K : W.Frag} {Tt : List (Addr × Str)} {CM : Addr} {H H' : Hp} {σ : L2.St} {D : Ends} {tz : TS} {np sp nl fh : Addr}
theorem rowG_n {nl : Addr} {G : List Str → Prop} {B : Nat} (e : ExtN H H') (h : RowG H nl G B) : RowG H' nl G B := by
  obtain ⟨rows, ⟨ps, h1, h2, h3⟩, h4, h5⟩ := h
  exact ⟨rows, ⟨ps, h1, lst_n e h2, fun q hq => e _ _ (h3 q hq) fun _ y => by cases y⟩, h4, h5⟩
theorem AL.n (a : AL Tt H np sp nl fh) (e : ExtN H H') (t : Tabs Tt H') : AL Tt H' np sp nl fh := by
  obtain ⟨cl, c', h⟩ := a.clo
  exact ⟨lst_n e a.hn, lst_n e a.hs, ⟨cl, c', clo_monoT (fun b o y _ n => e b o y n) h⟩, rowG_n e a.rows, t, a.n1, a.n2⟩
theorem AL.e (a : AL Tt H np sp nl fh) (e : Ex H H') : AL Tt H' np sp nl fh := a.n (ex_extN e) (tabs_ex a.tabs e)
theorem AL.j (a : AL Tt H np sp nl fh) : JAt K H fh np sp nl nine [0] := ⟨a.clo, sq_of a.hn, sq_of a.hs, by decide, by decide, a.n1, a.n2⟩
abbrev tRef (K : W.Frag) (Tt : List (Addr × Str)) (CM : Addr) : TS := tIfS (tTest (tOp rNe (tLam Tt (TTR CM) fun E => tCall (spLS K Tt CM) [] E (tCons (tVar 5) (tCons (tVar 4) tNil))) (tC (.int 8)))) tNever tNext
/-- nine are too many -/
theorem s_ref {b : Bool} {g : Addr} {a0 a1 a2 a3 a6 : Option V} (al : AL Tt H np sp nl fh) (hg : AtB b H g (rowV nine)) (k : ∀ H', ExtN H H' → AL Tt H' np sp nl fh → D.nx [a0, a1, a2, a3, some (.ref fh), some (.ref g), a6] H') :
    tRef K Tt CM D [a0, a1, a2, a3, some (.ref fh), some (.ref g), a6] H := by
  refine ⟨al.tabs, fun H1 eN T1 E' Q' hE => ?_⟩
  have a1' := al.n eN T1
  refine rd_call2 rfl rfl ⟨g, fh, np, sp, nl, nine, nine, [0], fun _ => True, 300, rfl, (hg.n eN).sq, by decide, a1'.j, T1, a1'.rows, by decide, fun _ _ _ => trivial, fun h => absurd h (by decide), fun _ d H2 e2 hd => hE d 8 H2 hd fun H3 e3 => ?_⟩
  refine ⟨rfl, false, by decide, ?_⟩
  show D.nx _ H3
  exact k H3 (eN.trans (ex_extN (e2.trans e3))) (a1'.e (e2.trans e3))
abbrev tLoop (K : W.Frag) (Tt : List (Addr × Str)) (CM : Addr) : TS := tFor (iTup K (tTup (tCons (tVar 3) (tCons (tCB (rTupO K) (tCons (tVar 3) tNil)) tNil)))) (gName 5) (tRef K Tt CM)
theorem q_loop {a0 a1 a2 : Option V} (al : AL Tt H np sp nl fh) (k : ∀ x5 H', AL Tt H' np sp nl fh → tz D [a0, a1, a2, some (.ref np), some (.ref fh), x5, none] H') :
    tSeq (tLoop K Tt CM) tz D [a0, a1, a2, some (.ref np), some (.ref fh), none, none] H := by
  refine ⟨_, rfl, _, rfl, np, rowV nine, rfl, .inl ⟨sq_of al.hn, fun g1 ng1 => ⟨sz9 (by show 2 ≤ 9; decide), fun tp ntp => ?_⟩⟩⟩
  have e1 := Ex.new (o := .tup (rowV nine)) ng1
  have e2 := Ex.new (o := .tup [.ref np, .ref g1]) ntp
  have hg1 := e2 _ _ (upd_same (H := H) (a := g1) (o := .tup (rowV nine)))
  refine ⟨tp, rfl, ⟨[.ref np, .ref g1], st_of upd_same⟩, for_it (walk_tup (K := K) (a := tp) (xs := [.ref np, .ref g1])) (fun i σ' H' => ∃ x5, σ' = [a0, a1, a2, some (.ref np), some (.ref fh), x5, none] ∧ AL Tt H' np sp nl fh ∧ H' tp = some (.tup [.ref np, .ref g1]) ∧ AtB false H' g1 (rowV nine))
    ⟨none, rfl, al.e (e1.trans e2), upd_same, hg1⟩ (fun i σ' H' _ pp => ?_) (fun i x σ' H3 H4 hi pp yy => ?_) (fun σ' H' pp => ?_)⟩
  · obtain ⟨x5, _, _, h, _⟩ := pp
    exact st_of h
  · obtain ⟨rfl, hx⟩ := yy
    obtain ⟨x5, rfl, al3, htp, hg3⟩ := pp
    have step : ∀ {b : Bool} {g : Addr}, AtB b H4 g (rowV nine) → tRef K Tt CM { nx := fun σ' H' => ∃ x5, σ' = [a0, a1, a2, some (.ref np), some (.ref fh), x5, none] ∧ AL Tt H' np sp nl fh ∧ H' tp = some (.tup [.ref np, .ref g1]) ∧ AtB false H' g1 (rowV nine), rt := D.rt, ct := fun σ' H' => ∃ x5, σ' = [a0, a1, a2, some (.ref np), some (.ref fh), x5, none] ∧ AL Tt H' np sp nl fh ∧ H' tp = some (.tup [.ref np, .ref g1]) ∧ AtB false H' g1 (rowV nine), bk := tz D } [a0, a1, a2, some (.ref np), some (.ref fh), some (.ref g), none] H4 := fun {b g} hb =>
      s_ref al3 hb fun H5 eN al5 => ⟨_, rfl, al5, eN _ _ htp (fun _ y => by cases y), hg3.n eN⟩
    match i, hx with
    | 0, hx =>
      cases hx
      exact step (b := true) al3.hn
    | 1, hx =>
      cases hx
      exact step hg3
  · obtain ⟨x5, rfl, al3, _, _⟩ := pp
    exact k x5 H' al3
end
end L2.M2
set_option maxRecDepth 100000
set_option maxHeartbeats 8000000
namespace L2.M2
open PySem PySem.Spec PyProof.Rows L2 Mx L2.Mb Evl Mv L2.C LamX Sr Srt SrtO NdefX
section
variable {K : W.Frag} {Tt : List (Addr × Str)} {CM : Addr} {H H' : Hp} {σ : L2.St} {D : Ends} {tz : TS} {np sp nl fh p : Addr} {ns : Cells} {u : Int}
theorem rd_op {r : R2} {ta tb : TE} {Q : VK} (h : ta σ H fun x H1 => tb σ H1 fun y H2 => r x y H2 Q) : tOp r ta tb σ H Q := h
theorem rd_callG {sp : Sp} {E : XK} {ta : TA} {Q : VK} (h : ta σ H fun vs H1 => sp (vs ++ []) H1 Q E) : tCall sp [] E ta σ H Q := h
theorem fam_t {nl t : Addr} {ps : Parts} {xs : List V} (h : FamB false H t ps) (fr : FrT nl H H') (hl : H nl = some (.lst xs)) : FamB false H' t ps := by
  have k : ∀ {c : Addr} {us : List V}, H c = some (.tup us) → H' c = some (.tup us) := fun {c us} hc => fr c _ (fun e => by rw [e, hl] at hc; cases hc) (fun _ y => by cases y) hc
  exact ⟨k h.at_, fun q hq => k (h.row q hq)⟩
/-! ### the last answer -/
abbrev tJn (Tt : List (Addr × Str)) : TE := tCall (spJd Tt) [] E0 (tCons (tLst tNil) (tCons (tLst tNil) (tCons (tLst tNil) tNil)))
abbrev tEnd (K : W.Frag) (Tt : List (Addr × Str)) (CM : Addr) : TS := tRet (tOp (rEqD K) (tLst (tCons (tCall (spLS K Tt CM) [] E0 (tCons (tTup tNil) (tCons (tVar 4) tNil))) (tCons (tCall (spLS K Tt CM) [] E0 (tCons (tLst tNil) (tCons (tJn Tt) tNil))) tNil))) (tLst (tCons (tTup (tCons (tTup tNil) tNil)) (tCons (tTup tNil) tNil))))
theorem holds0 {L r : List Str} : holdsR L [0] r = true := by
  unfold holdsR
  simp
theorem fs_all {L : List Str} {Fs : List Nat} (af : AllF [] L [0] Fs) : Fs.Perm [0] := perm_of af.nd (by decide) fun m => (af.mem m).trans ⟨fun z => by
  have h := z.2
  rw [show (2 : Nat) ^ ([] : List Str).length = 1 from rfl] at h
  rw [show m = 0 by omega]
  exact List.mem_singleton.mpr rfl, fun z => by
  rw [List.mem_singleton.mp z]
  exact ⟨⟨holds0, fun c s _ => Nat.le_zero.mp s.le⟩, by decide⟩⟩
theorem fs_none {I L : List Str} {Fs : List Nat} (af : AllF I L [] Fs) : Fs = [] := List.eq_nil_iff_forall_not_mem.mpr fun m hm => by
  have h := ((af.mem m).mp hm).1.1
  unfold holdsR at h
  cases h
theorem s_end {a0 a1 a2 a3 a5 a6 : Option V} (al : AL Tt H np sp nl fh) (k : ∀ H', D.rt (.bl true) H') : tEnd K Tt CM D [a0, a1, a2, a3, some (.ref fh), a5, a6] H := by
  refine s_retR (rd_op (rd_lst (rd_cons (rd_callG (rd_cons (rd_tup ⟨sz9 (by decide), fun g ng => rd_cons ⟨_, rfl, ?_⟩⟩))))))
  have e1 := Ex.new (o := .tup []) ng
  have al1 := al.e e1
  refine ⟨g, fh, np, sp, nl, [], nine, [0], fun _ => True, 300, rfl, .inr (st_of upd_same), by decide, al1.j, al1.tabs, al1.rows, by decide, fun _ _ _ => trivial, fun _ I Fs rs t1 H2 hI af pm srt fr nn rg T2 nt rt => ?_, fun h => absurd h (by decide)⟩
  have eI : I = [] := List.perm_nil.mp hI.p
  subst eI
  have er : rs = [[]] := List.perm_singleton.mp (pm.trans ((fs_all af).map _))
  subst er
  obtain ⟨p1, hp1, f1⟩ := row_fam rt
  refine rd_cons (rd_callG (rd_cons (rd_lst ⟨sz9 (by decide), fun gp ngp => rd_cons (rd_callG (rd_cons (rd_lst ⟨sz9 (by decide), fun q2 nq2 => rd_cons (rd_lst ⟨sz9 (by decide), fun s2 ns2 => rd_cons (rd_lst ⟨sz9 (by decide), fun l2 nl2 => ?_⟩)⟩)⟩)))⟩)))
  have ea := Ex.new (o := .lst []) ngp
  have eb := Ex.new (o := .lst []) nq2
  have ec := Ex.new (o := .lst []) ns2
  have ed := Ex.new (o := .lst []) nl2
  have hg := ed _ _ (ec _ _ (eb _ _ (upd_same (H := H2) (a := gp) (o := .lst []))))
  have hq := ed _ _ (ec _ _ (upd_same (H := upd H2 gp (.lst [])) (a := q2) (o := .lst [])))
  have hs := ed _ _ (upd_same (H := upd (upd H2 gp (.lst [])) q2 (.lst [])) (a := s2) (o := .lst []))
  have hl := upd_same (H := upd (upd (upd H2 gp (.lst [])) q2 (.lst [])) s2 (.lst [])) (a := l2) (o := .lst [])
  have e4 := ((ea.trans eb).trans ec).trans ed
  have ql : q2 ≠ l2 := fun e => by rw [← e, ec _ _ upd_same] at nl2; cases nl2
  have sl : s2 ≠ l2 := fun e => by rw [← e, upd_same] at nl2; cases nl2
  refine ⟨.ref q2, .ref s2, .ref l2, rfl, tabs_ex T2 e4, fun fh2 cl2 c2 H4 hclo eN T4 nfh => ?_⟩
  refine ⟨gp, fh2, q2, s2, l2, [], [], [], fun _ => True, 0, rfl, .inl (sq_of (lst_n eN hg)), by decide, ⟨⟨cl2, c2, hclo⟩, sq_of (lst_n eN hq), sq_of (lst_n eN hs), by decide, by decide, ql, sl⟩, T4, ⟨[], ⟨[], rfl, lst_n eN hl, fun _ y => by cases y⟩, Nat.le_refl _, fun _ y => by cases y⟩, by decide, fun _ _ _ => trivial, fun _ I2 Fs2 rs2 t2 H5 hI2 af2 pm2 srt2 fr2 nn2 rg2 T5 nt2 rt2 => ?_, fun h => absurd h (by decide)⟩
  rw [fs_none af2] at pm2
  have er2 : rs2 = [] := List.perm_nil.mp pm2
  subst er2
  obtain ⟨p2, hp2, f2⟩ := row_fam rt2
  have f15 := fam_t (f1.n ((ex_extN e4).trans eN)) fr2 (lst_n eN hl)
  refine ⟨sz9 (by show 2 ≤ 9; decide), fun g9 ng9 => ?_⟩
  have e9 := Ex.new (o := .lst [.ref t1, .ref t2]) ng9
  refine (ep_lst (K := K) (epa_cons (ep_tup (epa_cons (ep_tup epa_nil (by decide)) epa_nil) (by decide)) (epa_cons (ep_tup epa_nil (by decide)) epa_nil)) (by decide)) _ (Ex.refl _) _ fun v H7 e7 dv => ?_
  refine ⟨.list [.tuple [.tuple []], .tuple []], .list [.tuple [.tuple []], .tuple []], dp_mono e7 (.lst (sq_of upd_same) (.cons (dp_fam (f15.n (ex_extN e9)) hp1) (.cons (dp_fam (f2.n (ex_extN e9)) hp2) .nil))), dv, by decide +kernel, by decide +kernel, ?_⟩
  rw [show PyData.eqv (.list [.tuple [.tuple []], .tuple []]) (.list [.tuple [.tuple []], .tuple []]) = true by decide +kernel]
  exact k H7
end
end L2.M2
set_option maxRecDepth 100000
set_option maxHeartbeats 16000000
namespace L2.M2
open PySem PySem.Spec PyProof.Rows L2 Mx L2.Mb Evl Mv L2.C LamX Sr Srt SrtO NdefX
def spLaw (K : W.Frag) (Tt : List (Addr × Str)) : Sp := fun vs H Q _ => ∃ (a : Addr) (ns : List Int), vs = [.ref a] ∧ SqL K H a (ns.map V.int) ∧ ns.length ≤ 63 ∧ Tabs Tt H ∧ ∀ H', Q (.bl true) H'
section
variable {K : W.Frag} {Tt : List (Addr × Str)} {CM : Addr} {H H' : Hp} {σ : L2.St} {D : Ends} {tz : TS} {p : Addr} {ns : Cells} {u : Int}
abbrev tNx (K : W.Frag) : TE := tOp (rIxL K) (tLst (tCons (tC (.int 8)) (tCons (tOp (rI0 fun i j => .int (i + j)) (tC (.int 5)) (tCall spTake [] E0 (tCons (tVar 1) (tCons (tC (.int 3)) tNil)))) (tCons (tC (.int 6)) tNil)))) (tVar 2)
abbrev tTurn (K : W.Frag) (Tt : List (Addr × Str)) : TS := tIfS (tNot (tB (tCall (spRt Tt) [] E0 (tCons (tVar 1) (tCons (tNx K) tNil))))) tNever tNext
theorem rd_c {v : V} {Q : VK} (h : Q v H) : tC v σ H Q := h
theorem s_turn {a0 a3 a4 a5 a6 : Option V} {i : Nat} (hi : i < 3) (pen : PenAt H p ns u) (hn : ns.length ≤ 63) (t0 : 0 ≤ u) (t1 : u ≤ 700000) (hT : Tabs Tt H)
    (k : ∀ u' H', u ≤ u' → u' ≤ u + 501 → PenAt H' p ns u' → Tabs Tt H' → D.nx [a0, some (.ref p), some (.int (i : Int)), a3, a4, a5, a6] H') : tTurn K Tt D [a0, some (.ref p), some (.int (i : Int)), a3, a4, a5, a6] H := by
  refine ⟨_, rfl, rd_cons (rd_op (rd_lst (rd_cons (rd_c (rd_cons (rd_op (rd_c ?_)))))))⟩
  refine c_draw (j := 1) (te := tC (.int 3)) (E := E0) rfl ev_c pen hn t0 (by omega) (by decide) (by decide) fun d v H1 d0 d1 v0 v1 pen1 b1 => ?_
  have T1 := tabs_but pen b1 hT
  refine ⟨5, d, rfl, rfl, rd_cons ⟨sz9 (by show 3 ≤ 9; decide), fun q nq => ⟨_, rfl, ?_⟩⟩⟩
  have e1 := Ex.new (o := .lst [.int 8, .int (5 + d), .int 6]) nq
  have hq : (upd H1 q (.lst [.int 8, .int (5 + d), .int 6])) q = some (.lst [.int 8, .int (5 + d), .int 6]) := upd_same
  have fin : ∀ (n : Nat) (H2 : Hp), 5 ≤ n → n ≤ 8 → Ex (upd H1 q (.lst [.int 8, .int (5 + d), .int 6])) H2 → spRt Tt [.ref p, natV n] H2 (fun x H3 => ∃ c, x = .bl c ∧ (if (!c) = true then tNever D [a0, some (.ref p), some (.int (i : Int)), a3, a4, a5, a6] H3 else D.nx [a0, some (.ref p), some (.int (i : Int)), a3, a4, a5, a6] H3)) E0 := fun n H2 n5 n8 e2 =>
    ⟨p, ns, v, n, rfl, n5, n8, pen_mono (e1.trans e2) pen1, hn, by omega, by omega, tabs_ex T1 (e1.trans e2), fun u3 H3 u30 u31 pen3 T3 => ⟨true, rfl, k u3 H3 (by omega) (by omega) pen3 T3⟩⟩
  obtain ⟨d, rfl⟩ := Int.eq_ofNat_of_zero_le d0
  have h0 : i = 0 ∨ i = 1 ∨ i = 2 := by omega
  rcases h0 with rfl | rfl | rfl
  · exact rv_ixL (v := .int 8) (sq_of hq) (atI_nat (j := 0) rfl) _ (Ex.refl _) _ fun H2 e2 => fin 8 H2 (by decide) (by decide) e2
  · refine rv_ixL (v := .int (5 + (d : Int))) (sq_of hq) (atI_nat (j := 1) rfl) _ (Ex.refl _) _ fun H2 e2 => ?_
    have z := fin (5 + d) H2 (by omega) (by omega) e2
    have e : natV (5 + d) = .int (5 + (d : Int)) := congrArg V.int (by omega)
    rw [e] at z
    exact z
  · exact rv_ixL (v := .int 6) (sq_of hq) (atI_nat (j := 2) rfl) _ (Ex.refl _) _ fun H2 e2 => fin 6 H2 (by decide) (by decide) e2
abbrev tAb : TE := tLst (tCons (tTup (tCons (tTup tNil) tNil)) (tCons (tTup tNil) (tCons (tTup tNil) (tCons (tTup (tCons (tTup (tCons (tC (.str "a")) tNil)) (tCons (tTup (tCons (tC (.str "b")) tNil)) tNil))) tNil))))
abbrev tNine : TE := tLst (tCons (tC (.str "a")) (tCons (tC (.str "b")) (tCons (tC (.str "c")) (tCons (tC (.str "d")) (tCons (tC (.str "e")) (tCons (tC (.str "f")) (tCons (tC (.str "g")) (tCons (tC (.str "h")) (tCons (tC (.str "i")) tNil)))))))))
theorem law_sem {a : Addr} {ns : List Int} (hS : SqL K H a (ns.map V.int)) (hn : ns.length ≤ 63) (hT : Tabs Tt H) (k : ∀ H', D.rt (.bl true) H') :
    tSeq (tAsg (tCall (spPen K) [] E0 (tCons (tVar 0) tNil)) (gName 1)) (tSeq (tFor (iRng1 (tCons (tC (.int 3)) tNil)) (gName 2) (tTurn K Tt)) (tSeq (tAsg tNine (gName 3)) (tSeq (tAsg (tCall (spJd Tt) [] E0 (tCons (tVar 3) (tCons (tLst (tCons (tC (.int 0)) tNil)) (tCons (tLst tNil) tNil)))) (gName 4))
      (tSeq (tLoop K Tt CM) (tSeq (tAsg (tTold K Tt) (gName 6)) (tSeq (tIfS (tTest (tOp (rNeD K) (tVar 6) tAb)) tNever tNext) (tEnd K Tt CM)))))))
      D [some (.ref a), none, none, none, none, none, none] H := by
  refine q_asgR (rd_callV rfl ⟨a, ns, rfl, hS, hn, fun p n2 H1 hn2 pen1 e1 => ?_⟩)
  have T1 := tabs_ex hT e1
  refine q_forR1 (n := 3) (ea_cons ev_c ea_nil) (by decide) (fun i σ' H' => ∃ (u : Int) (z2 : Option V), σ' = [some (.ref a), some (.ref p), z2, none, none, none, none] ∧ 0 ≤ u ∧ u ≤ 501 * (i : Int) ∧ PenAt H' p n2 u ∧ Tabs Tt H')
    (fun H2 e2 => ⟨0, none, rfl, Int.le_refl _, by simp, pen_mono e2 pen1, tabs_ex T1 e2⟩) (fun i σ' H2 hi hh => ?_) (fun σ' H2 hh => ?_)
  · obtain ⟨u, z2, rfl, u0, u1, pen2, T2⟩ := hh
    exact s_turn (by omega) pen2 hn2 u0 (by omega) T2 fun u9 H9 u90 u91 pen9 T9 => ⟨u9, _, rfl, by omega, by push_cast; omega, pen9, T9⟩
  · obtain ⟨u, z2, rfl, u0, u1, pen2, T2⟩ := hh
    refine q_asgL (xs := rowV nine) (el_lst (ea_cons ev_c (ea_cons ev_c (ea_cons ev_c (ea_cons ev_c (ea_cons ev_c (ea_cons ev_c (ea_cons ev_c (ea_cons ev_c (ea_cons ev_c ea_nil))))))))) (by decide)) fun np H3 nnp e3 hnp => ?_
    refine q_asgR (rd_callG (rd_cons ⟨_, rfl, rd_cons (rd_lst (rd_cons ⟨sz9 (by show 1 ≤ 9; decide), fun sp nsp => rd_cons (rd_lst ⟨sz9 (by decide), fun nl nnl => ?_⟩)⟩))⟩))
    have e4 := Ex.new (o := .lst [natV 0]) nsp
    have e5 := Ex.new (o := .lst []) nnl
    have T5 := tabs_ex T2 ((e3.trans e4).trans e5)
    have hsp := e5 _ _ (upd_same (H := H3) (a := sp) (o := .lst [natV 0]))
    have hnl : (upd (upd H3 sp (.lst [natV 0])) nl (.lst [])) nl = some (.lst []) := upd_same
    have hnp5 := e5 _ _ (e4 _ _ hnp)
    have n1 : np ≠ nl := fun e => by have y := e4 _ _ hnp; rw [e] at y; exact absurd (nnl.symm.trans y) (by simp)
    have n2' : sp ≠ nl := fun e => by have y := upd_same (H := H3) (a := sp) (o := .lst [natV 0]); rw [e] at y nnl; exact absurd (nnl.symm.trans y) (by simp)
    refine ⟨.ref np, .ref sp, .ref nl, rfl, T5, fun fh cl c' H6 hclo eN T6 nfh => ?_⟩
    have al : AL Tt H6 np sp nl fh := ⟨lst_n eN hnp5, lst_n eN hsp, ⟨cl, c', hclo⟩, ⟨[], ⟨[], rfl, lst_n eN hnl, fun _ y => by cases y⟩, Nat.zero_le _, fun _ y => by cases y⟩, T6, n1, n2'⟩
    refine q_loop al fun x5 H7 al7 => ?_
    refine q_asgR (rd_told al7.tabs fun told H8 eN8 T8 dp8 => ?_)
    have al8 := al7.n eN8 T8
    refine q_ifR (rd_op (r := rNeD K) (ta := tVar 6) (tb := tAb) ⟨_, rfl, ?_⟩)
    refine (ep_lst (K := K) (epa_cons (ep_tup (epa_cons (ep_tup epa_nil (by decide)) epa_nil) (by decide)) (epa_cons (ep_tup epa_nil (by decide)) (epa_cons (ep_tup epa_nil (by decide)) (epa_cons (ep_tup (epa_cons (ep_tup (epa_cons ep_str epa_nil) (by decide)) (epa_cons (ep_tup (epa_cons ep_str epa_nil) (by decide)) epa_nil)) (by decide)) epa_nil)))) (by decide)) _ (Ex.refl _) _ fun v H9 e9 dv => ?_
    refine ⟨toldD, toldD, dp_mono e9 dp8, dv, by decide +kernel, by decide +kernel, false, by rw [show PyData.eqv toldD toldD = true by decide +kernel]; rfl, ?_⟩
    show tEnd K Tt CM D _ H9
    exact s_end (al8.e e9) k
end
end L2.M2
set_option maxRecDepth 100000
set_option maxHeartbeats 16000000
namespace L2.M2
open PySem PySem.Spec PyProof.Rows L2 Mx L2.Mb Evl Mv L2.C LamX Sr Srt SrtO NdefX
structure FnGr (P : Program) (w : World) (K : W.Frag) (mg : Str → Option Value) (base : Heap) (x : Str) (k : Nat) (f : Addr) (fd : FuncData) (ps : List Str) (sp : Sp) : Prop where
  ok : FnG P w K mg base CX0 k f fd ps sp
  m : mg x = some (.ref f)
  k : W.keepIn K (.ref f) = true
  b : Binds K fd ps []
section
variable {P : Program} {w : World} {K : W.Frag} {mg : Str → Option Value} {base : Heap}
theorem ok_law {fP fD fR fJ fX fB fT fO cM cS cO cI f c Pt : Addr} {dP dD dR dJ dX dB dT dO : FuncData} {bO : EB} {Tt : List (Addr × Str)} (B : Bt mg) (sys : SysD K)
    (DP : Fn0 P w K mg base "_law_pen" 1 fP dP p_law_pen (spPen K)) (DD : Fn0 P w K mg base "_law_draw" 1 fD dD p_law_draw spTake) (DR : FnGr P w K mg base "_law_right" 10 fR dR p_law_right (spRt Tt)) (DJ : Fn0 P w K mg base "_law_judge" 3 fJ dJ p_law_judge (spJd Tt))
    (DX : FnX P w K mg base "least_sets" 9 fX dX p_least_sets (spLS K Tt cO)) (DB : Fn0 P w K mg base "blockers" 6 fB dB p_blockers (spBk K Tt)) (Z : RFc K mg cM cS cO cI) (XO : X1 P w K mg base "TooMany" "limit" bO cO fO dO) (DT : RD K mg fT dT)
    (TB : TabB base mg c Pt) (hmT : (Pt, ("law.<locals>.<lambda>" : Str)) ∈ Tt) (hu : ∀ p ∈ Tt, p.1 = Pt → p.2 = ("law.<locals>.<lambda>" : Str))
    {oc dV kV doc pm ct : Value} {an od : Option Addr} {osl : Array (Option Value)}
    (lk : K.lookup f = some ⟨oc, od, .func (W.fnOf "law" "law" (defArgs s_law) (defBody s_law) (defScope s_law) dV kV doc pm an (.ref c) ct), osl⟩) (hcd : W.codeIn K (.ref c) "law" = true) :
    FnG P w K mg base CX0 12 f (W.fnOf "law" "law" (defArgs s_law) (defBody s_law) (defScope s_law) dV kV doc pm an (.ref c) ct) p_law (spLaw K Tt) := by
  refine fng_of lk hcd sc_law (fun vs H Q E h => ?_) (fun A outer s H vs Q E gd hr h => ?_)
  · obtain ⟨a, ns, rfl, _⟩ := h
    rfl
  · obtain ⟨a, ns, rfl, hS, hn, hT, k⟩ := h
    have nd := sc_law.nd
    have hun := hr.units
    refine ⟨_, PSs.nox (pss_cons (ps_set (i := 1) nd rfl (by first | exact Or.inl rfl | exact Or.inr rfl) (pe_call DP.ok (hr.mono (by decide)) (by rfl) DP.m DP.k DP.b .nil pass0 (pa_cons (pv 0) pa_nil)))
      (pss_cons (ps_for PassesOwn.never rfl (pi_range1 (by rfl) B.range (pa_cons pe_int pa_nil)) (pg_name (i := 2) nd rfl (by first | exact Or.inl rfl | exact Or.inr rfl))
        (pss_one (ps_if (pt_not (pt_val (pe_callG gd DR.ok (hr.mono (by decide)) (by rfl) DR.m DR.k DR.b .nil pass0 (pa_cons (pv 1) (pa_cons (pe_ix ix_list (pe_lst (pa_cons pe_int (pa_cons (pe_op op_add pe_int (pe_call DD.ok (hr.mono (by decide)) (by rfl) DD.m DD.k DD.b .nil pass0 (pa_cons (pv 1) (pa_cons pe_int pa_nil)))) (pa_cons pe_int pa_nil)))) (pv 2) (fun _ _ => rfl)) pa_nil))))) (pss_one ps_never) pss_nil)))
      (pss_cons (ps_set (i := 3) nd rfl (by first | exact Or.inl rfl | exact Or.inr rfl) (pe_lst (pa_cons pe_str (pa_cons pe_str (pa_cons pe_str (pa_cons pe_str (pa_cons pe_str (pa_cons pe_str (pa_cons pe_str (pa_cons pe_str (pa_cons pe_str pa_nil)))))))))))
      (pss_cons (ps_set (i := 4) nd rfl (by first | exact Or.inl rfl | exact Or.inr rfl) (pe_call DJ.ok (hr.mono (by decide)) (by rfl) DJ.m DJ.k DJ.b .nil pass0 (pa_cons (pv 3) (pa_cons (pe_lst (pa_cons pe_int pa_nil)) (pa_cons (pe_lst pa_nil) pa_nil)))))
      (pss_cons (ps_for PassesOwn.never rfl (pi_tup (pe_tup (pa_cons (pv 3) (pa_cons (pe_callTy (r := rTupO K) call_tuple_of (by rfl) B.tuple (by decide +kernel) (pa_cons (pv 3) pa_nil)) pa_nil)))) (pg_name (i := 5) nd rfl (by first | exact Or.inl rfl | exact Or.inr rfl))
        (pss_one (ps_if (pt_cmpR op_ne (pe_refused (k := 9) B Z XO DT TB rfl hmT hu hr (lamS_by (sc := defScope s_law) (by decide +kernel)) (by rfl) (fun _ _ _ _ _ => by rfl) (by rfl) (fun A outer s H E f c' hr2 => pe_call (E := E) DX.ok hr2 (by rfl) DX.m DX.k DX.b .nil (passes_call (takes_of rfl rfl rfl rfl) (fun _ _ _ _ h => h))
            (pa_cons (pe_var (i := 5) rfl (.inr (.inr rfl))) (pa_cons (pe_var (i := 4) rfl (.inr (.inr rfl))) pa_nil)))) pe_int (nomark _)) (pss_one ps_never) pss_nil)))
      (pss_cons (ps_set (i := 6) nd rfl (by first | exact Or.inl rfl | exact Or.inr rfl) (pe_lst (pa_cons (pe_call DB.ok (hr.mono (by decide)) (by rfl) DB.m DB.k DB.b .nil pass0 (pa_cons (pe_tup pa_nil) pa_nil))
          (pa_cons (pe_call DB.ok (hr.mono (by decide)) (by rfl) DB.m DB.k DB.b .nil pass0 (pa_cons (pe_lst (pa_cons (pe_tup pa_nil) pa_nil)) pa_nil))
          (pa_cons (pe_call DB.ok (hr.mono (by decide)) (by rfl) DB.m DB.k DB.b .nil pass0 (pa_cons (pe_tup (pa_cons (pe_tup pa_nil) (pa_cons (pe_tup (pa_cons pe_str pa_nil)) pa_nil))) pa_nil))
          (pa_cons (pe_call DB.ok (hr.mono (by decide)) (by rfl) DB.m DB.k DB.b .nil pass0 (pa_cons (pe_tup (pa_cons (pe_tup (pa_cons pe_str (pa_cons pe_str pa_nil))) pa_nil)) pa_nil)) pa_nil))))))
      (pss_cons (ps_if (pt_cmpR (op_neD hun) (pv 6) (pe_lst (pa_cons (pe_tup (pa_cons (pe_tup pa_nil) pa_nil)) (pa_cons (pe_tup pa_nil) (pa_cons (pe_tup pa_nil) (pa_cons (pe_tup (pa_cons (pe_tup (pa_cons pe_str pa_nil)) (pa_cons (pe_tup (pa_cons pe_str pa_nil)) pa_nil))) pa_nil))))) (nomark _)) (pss_one ps_never) pss_nil)
      (pss_one (ps_ret (pe_cmpR (op_eqD hun) (pe_lst (pa_cons (pe_call (E := fun _ _ _ => False) DX.ok (hr.mono (by decide)) (by rfl) DX.m DX.k DX.b .nil passF (pa_cons (pe_tup pa_nil) (pa_cons (pv 4) pa_nil)))
          (pa_cons (pe_call (E := fun _ _ _ => False) DX.ok (hr.mono (by decide)) (by rfl) DX.m DX.k DX.b .nil passF (pa_cons (pe_lst pa_nil) (pa_cons (pe_call DJ.ok (hr.mono (by decide)) (by rfl) DJ.m DJ.k DJ.b .nil pass0 (pa_cons (pe_lst pa_nil) (pa_cons (pe_lst pa_nil) (pa_cons (pe_lst pa_nil) pa_nil)))) pa_nil))) pa_nil)))
          (pe_lst (pa_cons (pe_tup (pa_cons (pe_tup pa_nil) pa_nil)) (pa_cons (pe_tup pa_nil) pa_nil))) (nomark _))))))))))), ?_⟩
    exact law_sem (K := K) (CM := cO) hS hn hT k
end
end L2.M2
set_option maxRecDepth 100000
set_option maxHeartbeats 4000000
namespace L2.M2
open PySem PySem.Spec PyProof.Rows L2 Mx L2.Mb Evl Mv L2.C LamX Sr Srt SrtO NdefX
/-! ### what is looked at behind the top -/
def isB (a b : Option Bool) : Bool := decide (a = b)
/-- the error class -/
def excB (K : W.Frag) (C : Addr) (b : EB) : Bool := match K.lookup C with
  | some ⟨.type t, _, .cls cd, sl⟩ => (match cd.mro, sl.toList with
    | .ref c :: r, [_, _, _, _, some (.builtin n), _] => decide (t = "type") && (decide (c = C) && (decide (n = b.new) && (!cd.hasDel && (cd.hasDict && own b r))))
    | _, _ => false)
  | _ => false
theorem excB_ok {K : W.Frag} {C : Addr} {b : EB} (z : excB K C b = true) :
    ∃ nm q N bs bm sn sub ab col dd k0 k1 k2 k3 k5, K.lookup C = some (excClassObj nm q C N bs bm true sn sub ab col dd k0 k1 k2 k3 k5 b.new) ∧ own b bm = true := by
  unfold excB at z
  split at z
  · rename_i t dd cd sl lk
    split at z
    · rename_i c r x0 x1 x2 x3 n x5 em es
      simp only [Bool.and_eq_true, decide_eq_true_eq, Bool.not_eq_true'] at z
      obtain ⟨rfl, rfl, rfl, hd, hh, ho⟩ := z
      obtain ⟨a1, a2, a3, a4, a5, a6, a7, a8, a9, a10, a11⟩ := cd
      simp only at em hd hh
      subst em hd hh
      obtain ⟨l⟩ := sl
      simp only at es
      subst es
      exact ⟨a1, a5, a4, a2, r, a7, a8, a9, a10, dd, x0, x1, x2, x3, x5, lk, ho⟩
    · cases z
  · cases z
def ecB (K : W.Frag) (x fld : Str) (b : EB) : Bool := excB K (He.ga K x) b && (He.eqO (W.findIn K (.ref (He.ga K x)) "__setattr__") (some (some (.builtin "object.__setattr__"))) && (He.eqO (W.findIn K (.ref (He.ga K x)) "__getattribute__") (some (some (.builtin "BaseException.__getattribute__"))) &&
    (He.eqO (W.findIn K (.ref (He.ga K x)) "__getattr__") (some none) && (He.eqO (W.findIn K (.ref (He.ga K x)) "__class__") (some (some (.builtin "object.__class__"))) && (isB (W.instIn K (.ref (He.ga K x)) (.type "type")) (some true) &&
      (W.keepIn K (.ref (He.ga K x)) && (He.eqO (W.findIn K (.ref (He.ga K x)) "__init__") (some (some (.ref (He.ma K (He.ga K x) "__init__")))) && (decide (W.typeIn K (.ref (He.ma K (He.ga K x) "__init__")) = some (.type "function")) &&
        (He.eqO (W.specialIn K (.builtin "object.__class__") "__get__") (some (some (.builtin "getset_descriptor.__get__"))) && (isB (W.takesIn K (.builtin "object.__class__")) (some true) &&
          (decide (W.typeIn K (.ref (He.ga K x)) = some (.type "type")) && He.eqO (W.findIn K (.ref (He.ga K x)) fld) (some none))))))))))))
theorem ecB_ok {K : W.Frag} {x fld : Str} {b : EB} (z : ecB K x fld b = true) : EC K (He.ga K x) (He.ma K (He.ga K x) "__init__") b ∧ W.typeIn K (.ref (He.ga K x)) = some (.type "type") ∧ W.findIn K (.ref (He.ga K x)) fld = some none := by
  obtain ⟨z1, z⟩ := He.ba z
  obtain ⟨z2, z⟩ := He.ba z
  obtain ⟨z3, z⟩ := He.ba z
  obtain ⟨z4, z⟩ := He.ba z
  obtain ⟨z5, z⟩ := He.ba z
  obtain ⟨z6, z⟩ := He.ba z
  obtain ⟨z7, z⟩ := He.ba z
  obtain ⟨z8, z⟩ := He.ba z
  obtain ⟨z9, z⟩ := He.ba z
  obtain ⟨za, z⟩ := He.ba z
  obtain ⟨zb, z⟩ := He.ba z
  obtain ⟨zc, zd⟩ := He.ba z
  exact ⟨⟨excB_ok z1, He.eqO_ok z2, He.eqO_ok z3, He.eqO_ok z4, He.eqO_ok z5, of_decide_eq_true z6, z7, He.eqO_ok z8, of_decide_eq_true z9, He.eqO_ok za, of_decide_eq_true zb⟩, of_decide_eq_true zc, He.eqO_ok zd⟩
abbrev SA (K : W.Frag) : Addr := He.ga K "Search"
abbrev OA (K : W.Frag) : Addr := He.ga K "TooMany"
def rfL (K : W.Frag) : List Bool := [isB (W.exmAny K (.ref (OA K)) [.ref (He.ga K "MeetError"), .ref (He.ga K "NoStation"), .ref (OA K)]) (some true), isB (W.kitOne K (.ref (OA K)) (.ref (OA K))) (some true), isB (W.kitAny K (.ref (OA K)) [.ref (He.ga K "InvalidQuestion"), .type "LookupError", .type "ValueError"]) (some false), isB (W.kitOne K (.ref (OA K)) (.type "OverflowError")) (some true)]
def rfB (K : W.Frag) : Bool := (rfL K).all id
theorem rfb {K : W.Frag} (h : rfB K = true) (i : Nat) {a b : Option Bool} (e : (rfL K)[i]? = some (isB a b)) : a = b := of_decide_eq_true (List.all_eq_true.mp h (isB a b) (List.mem_of_getElem? e))
/-- _in_order has no defaults by keyword -/
def kvB (K : W.Frag) : Bool := match K.lookup (He.ga K "_in_order") with
  | some ⟨_, _, .func u, _⟩ => decide (u.kwdefaults = .none)
  | _ => false
def sysB (K : W.Frag) : Bool := match K.lookup sysModules with
  | some o => decide (o.cls = .type "dict")
  | none => false
theorem sysB_ok {K : W.Frag} (z : sysB K = true) : SysD K := by
  unfold sysB at z
  split at z
  · rename_i o e
    exact ⟨o, e, of_decide_eq_true z⟩
  · cases z
/-! ### functions by their address -/
structure DefA where
  name : Str
  qual : Str
  st : Stmt
  at_ : W.Frag → Addr
abbrev FnY : Type := Option (Str × Str × Arguments × FuncBody × Scope × Addr × List (Str × Addr) × Addr)
def fnA (K : W.Frag) (a : Addr) : FnY := (K.lookup a).bind fun o => match o.data with
  | .func u => some (u.name, u.qualname, u.params, u.body, u.scope, u.globals, u.closure, u.builtins)
  | _ => none
def DefA.want (d : DefA) : FnY := some (d.name, d.qual, defArgs d.st, .stmts (defBody d.st), defScope d.st, mainGlobals, [], builtinsNs)
def okFA (K : W.Frag) (a : Addr) (q : Str) : Bool := W.keepIn K (.ref a) && (K.lookup a).any fun o => match o.data with
  | .func u => W.codeIn K u.code q && (He.dflB K u.defaults [] && He.kwdB K u.kwdefaults [])
  | _ => false
theorem fnA_ok {K : W.Frag} {d : DefA} (e : fnA K (d.at_ K) = d.want) (c : okFA K (d.at_ K) d.qual = true) : ∃ fd, FunD K d.name d.qual (defArgs d.st) (defBody d.st) (defScope d.st) [] [] (d.at_ K) fd := by
  obtain ⟨kp, c⟩ := He.ba c
  unfold fnA at e
  cases hl : K.lookup (d.at_ K) with
  | none =>
    rw [hl] at c
    cases c
  | some o =>
    obtain ⟨oc, od, dt, sl⟩ := o
    rw [hl] at c e
    cases dt with
    | func u =>
      have c2 : (W.codeIn K u.code d.qual && (He.dflB K u.defaults [] && He.kwdB K u.kwdefaults [])) = true := c
      obtain ⟨u1, u2, u3, u4, u5, u6, u7, u8, u9, u10, u11, u12, u13, u14, u15⟩ := u
      have e2 : (u1, u2, u3, u4, u5, u6, u7, u15) = (d.name, d.qual, defArgs d.st, FuncBody.stmts (defBody d.st), defScope d.st, mainGlobals, ([] : List (Str × Addr)), builtinsNs) := Option.some.inj e
      simp only [Prod.mk.injEq] at e2
      obtain ⟨r1, r2, r3, r4, r5, r6, r7, r8⟩ := e2
      subst r1 r2 r3 r4 r5 r6 r7 r8
      obtain ⟨k1, k2⟩ := He.ba c2
      obtain ⟨k3, k4⟩ := He.ba k2
      exact ⟨_, ⟨oc, od, u8, u9, u10, u11, u12, u13, u14, sl, rfl, hl, k1, He.dflB_ok k3, He.kwdB_ok k4⟩, kp⟩
    | _ => cases c
abbrev fnY : List DefA := []
/-! ### the facts by names -/
def tD (x : Str) (i : Nat) : He.DefD := { at_ := (x, none), name := x, qual := x, params := defArgs (top i), body := defBody (top i), scope := defScope (top i) }
def mD (x m : Str) (st : Stmt) (kw : List (Str × He.Dv)) : He.DefD := { at_ := (x, some m), name := m, qual := x ++ "." ++ m, params := defArgs st, body := defBody st, scope := defScope st, kwd := kw }
abbrev fnZ : List He.DefD := ([tD "least_sets" 7, tD "blockers" 8, tD "_meeting_also" 10, tD "_in_order" 11, tD "_law_pen" 13, tD "_law_draw" 14, tD "_law_things" 15, tD "_law_mixed" 16, tD "_law_size" 17, tD "_law_seeds" 18, tD "_law_least" 19, tD "_law_written" 20, tD "_law_judge" 21, tD "_law_asked_right" 22, tD "_law_meets" 23, tD "_law_hit" 24, tD "_law_refused" 25, tD "_law_right" 26, tD "law" 27] : List He.DefD) ++ ([mD "TooMany" "__init__" s_TooMany_init [], mD "Search" "__init__" s_Search_init [], mD "Search" "members" s_Search_members [], mD "Search" "least_outside" s_Search_least_outside [], mD "Search" "_lessened" s_Search_lessened [], mD "Search" "_is_held" s_Search_is_held []] : List He.DefD)
abbrev faZ : List He.Fa := ([.glo "Search", .glo "MeetError", .glo "InvalidQuestion", .glo "NoStation", .glo "TooMany", .glo "least_sets", .glo "blockers", .glo "_meeting_also", .glo "_in_order", .glo "_law_pen", .glo "_law_draw", .glo "_law_things", .glo "_law_mixed", .glo "_law_size", .glo "_law_seeds", .glo "_law_least", .glo "_law_written", .glo "_law_judge", .glo "_law_asked_right", .glo "_law_meets"] : List He.Fa) ++ (([.glo "_law_hit", .glo "_law_refused", .glo "_law_right", .glo "law"] : List He.Fa) ++ (([.free "KeyError", .free "LookupError", .free "OverflowError", .free "ValueError", .free "abs", .free "any", .free "bool", .free "enumerate", .free "int", .free "isinstance", .free "len", .free "list", .free "range", .free "repr", .free "set", .free "sorted", .free "sum", .free "tuple"] : List He.Fa) ++ ([.int "MOST_ITEMS" 8, .cls "Search", .noat "Search" "_items", .noat "Search" "_holds", .noat "Search" "_answers", .mkr "Search", .meth "Search" "members", .meth "Search" "least_outside", .meth "Search" "_lessened", .meth "Search" "_is_held"] : List He.Fa)))
abbrev tsZ : List He.Tab := []
abbrev mdD : He.Defn := ("law", none)
abbrev ioD : He.Defn := ("_in_order", none)
abbrev jdD : He.Defn := ("_law_judge", none)
abbrev tfZ : List He.Defn := [mdD, ioD, jdD]
def bitsB (K : W.Frag) : List Bool := [sysB K, ecB K "TooMany" "limit" .over, rfB K, kvB K, decide ((He.cT K mdD).2 ≠ (He.cT K ioD).2), decide ((He.cT K mdD).2 ≠ (He.cT K jdD).2), decide ((He.cT K ioD).2 ≠ (He.cT K jdD).2)]
def allB (K : W.Frag) : Bool := (bitsB K).all id
theorem bit {K : W.Frag} (h : allB K = true) (i : Nat) {b : Bool} (e : (bitsB K)[i]? = some b) : b = true := List.all_eq_true.mp h b (List.mem_of_getElem? e)
/-! ### the hook -/
/-! the addresses that are named from the globals on, n levels deep, each once: a number's bits tell which were seen -/
def frN {α : Type} (n : Nat) (k : Nat → α) : α := match n with
  | 0 => k 0
  | m + 1 => k (m + 1)
def refsG (g : Addr → Option Obj) (a : Addr) : List Addr := match g a with
  | some o => He.refsD o
  | none => []
def addB {α : Type} (k : Nat → List Addr → α) : List Addr → Nat → List Addr → α
  | [], s, o => k s o
  | a :: as, s, o => match s.testBit a with
    | true => addB k as s o
    | false => frN (s ||| (1 <<< a)) fun s2 => addB k as s2 (a :: o)
def expB {α : Type} (g : Addr → Option Obj) (k : Nat → List Addr → α) : List Addr → Nat → List Addr → α
  | [], s, o => k s o
  | a :: fr, s, o => addB (fun s2 o2 => expB g k fr s2 o2) (refsG g a) s o
def lvB (g : Addr → Option Obj) : Nat → List Addr → List Addr → Nat → List Addr
  | 0, all, fr, _ => fr ++ all
  | n + 1, all, fr, s => expB g (fun s2 o2 => lvB g n (fr ++ all) o2 s2) fr s []
def asB (g : Addr → Option Obj) (n : Nat) : List Addr := lvB g n [] [mainGlobals] (1 <<< mainGlobals)
def frY (n : Nat) (g : Addr → Option Obj) : W.Frag := He.frT g (sysModules :: cStatics :: asB g n)
abbrev AlY : Type := He.AlT × Bool × List FnY
def obY (n : Nat) (g : Addr → Option Obj) : AlY := (He.obsT faZ fnZ tsZ (frY n g), allB (frY n g) && He.tabsB g tfZ (frY n g), fnY.map fun d => fnA (frY n g) (d.at_ (frY n g)))
structure SaysY (w : World) (h : Heap) (K : W.Frag) : Prop where
  t : He.SaysT faZ fnZ tsZ w K
  more : allB K = true
  fs : (fnY.map fun d => fnA K (d.at_ K)) = fnY.map DefA.want
  hd : ∀ p ∈ tfZ, W.codeHdIn K (He.cT K p).1 (He.cT K p).2 = true
  out : ∀ p ∈ tfZ, K.lookup (He.cT K p).2 = none
  bare : ∀ p ∈ tfZ, Bare h (He.cT K p).2
theorem SaysY.d {w : World} {h : Heap} {K : W.Frag} (c : SaysY w h K) : He.SaysD faZ fnZ K := c.t.d
theorem saysY_of {n : Nat} {w : World} {h : Heap} (e : obY n h.get? = (He.valT fnZ tsZ w, true, fnY.map DefA.want)) : SaysY w h (frY n h.get?) := by
  obtain ⟨m1, m2⟩ := He.ba (show (allB (frY n h.get?) && He.tabsB h.get? tfZ (frY n h.get?)) = true from congrArg (fun z : AlY => z.2.1) e)
  have tab : ∀ p ∈ tfZ, ∃ o, h.get? (He.cT (frY n h.get?) p).2 = some o ∧ He.emptyTab o = true := fun p hp => by
    obtain ⟨_, y⟩ := He.ba (List.all_eq_true.mp m2 p hp)
    split at y
    · rename_i o q
      exact ⟨o, q, y⟩
    · cases y
  refine { t := congrArg (fun z : AlY => z.1) e, more := m1, fs := congrArg (fun z : AlY => z.2.2) e, hd := fun p hp => (He.ba (List.all_eq_true.mp m2 p hp)).1, out := fun p hp => ?_, bare := fun p hp => ?_ }
  · obtain ⟨o, q, y⟩ := tab p hp
    exact He.frT_none q y
  · obtain ⟨o, q, y⟩ := tab p hp
    unfold Bare
    rw [q, He.emptyTab_eq y]
def hookY (n : Nat) : W.Hook where
  α := AlY
  obs := fun s => obY n s.heap.get?
  val := fun w => (He.valT fnZ tsZ w, true, fnY.map DefA.want)
  says := fun w h => ∃ K : W.Frag, K.In h ∧ SaysY w h K
  of := fun _ _ e => ⟨_, He.frT_in, saysY_of e⟩
  keeps := fun _ _ _ z k => z.elim fun K y => ⟨K, W.Frag.In.keeps y.1 k, { t := y.2.t, more := y.2.more, fs := y.2.fs, hd := y.2.hd, out := y.2.out, bare := fun p hp => k _ _ (y.2.bare p hp) }⟩
abbrev lvl : Nat := 6
abbrev hkY : W.Hook := hookY lvl
def eyeY (s : W.SharedT) : AlY := obY lvl (HandSHeadRun.getT s)
theorem eyeY_eq (s : W.SharedT) : eyeY s = hkY.obs s.abs := by
  have e : HandSHeadRun.getT s = s.abs.heap.get? := funext fun a => HandSHeadRun.getT_eq s a
  show obY lvl (HandSHeadRun.getT s) = obY lvl s.abs.heap.get?
  rw [e]
/-! ### all together -/
abbrev TtOf (K : W.Frag) : List (Addr × Str) := [((He.cT K mdD).2, "law.<locals>.<lambda>"), ((He.cT K ioD).2, Str.ofString "_in_order.<locals>.<lambda>"), ((He.cT K jdD).2, qJ)]
/-- how least_sets binds two keywords, blockers one -/
def gLS {α : Type} (us ws : List α) : List α := match us, ws with
  | [], [a, c] => [c, a]
  | _, _ => []
def gBk {α : Type} (us ws : List α) : List α := match us, ws with
  | [], [a] => [a]
  | _, _ => []
theorem gLS_rel {vs zs : List V} {us ws : List Value} (h1 : Vals vs us) (h3 : Vals zs ws) : Vals (gLS vs zs) (gLS us ws) := by
  cases h1 with
  | cons _ _ => exact .nil
  | nil =>
    cases h3 with
    | nil => exact .nil
    | cons a h3 =>
      cases h3 with
      | nil => exact .nil
      | cons b h3 =>
        cases h3 with
        | nil => exact .cons b (.cons a .nil)
        | cons _ _ => exact .nil
theorem gBk_rel {vs zs : List V} {us ws : List Value} (h1 : Vals vs us) (h3 : Vals zs ws) : Vals (gBk vs zs) (gBk us ws) := by
  cases h1 with
  | cons _ _ => exact .nil
  | nil =>
    cases h3 with
    | nil => exact .nil
    | cons a h3 =>
      cases h3 with
      | nil => exact .cons a .nil
      | cons _ _ => exact .nil
theorem kb_ls {K : W.Frag} {f : Addr} {fd : FuncData} (F : FnP K "least_sets" s_least_sets f fd) : KBinds K fd p_least_sets ["holds", "items"] gLS gLS := by
  obtain ⟨oc, od, dV, kV, doc, pm, an, cdv, ct, osl, rfl, lk, hcd, hD, hK⟩ := F.ex
  rcases hD with ⟨_, rfl⟩ | ⟨z, _⟩
  · refine ⟨fun s us ws _ hl => ?_, fun r1 r2 => gLS_rel r1 r2⟩
    match us, ws, hl with
    | [], [_, _], _ => exact .of_eq rfl
  · exact absurd rfl z
theorem kb_bk {K : W.Frag} {f : Addr} {fd : FuncData} (F : FnP K "blockers" s_blockers f fd) : KBinds K fd p_blockers ["sets"] gBk gBk := by
  obtain ⟨oc, od, dV, kV, doc, pm, an, cdv, ct, osl, rfl, lk, hcd, hD, hK⟩ := F.ex
  rcases hD with ⟨_, rfl⟩ | ⟨z, _⟩
  · refine ⟨fun s us ws _ hl => ?_, fun r1 r2 => gBk_rel r1 r2⟩
    match us, ws, hl with
    | [], [_], _ => exact .of_eq rfl
  · exact absurd rfl z
section
variable {P : Program} {w : World} {K : W.Frag} {mg : Str → Option Value} {base : Heap} {f : Addr} {fd : FuncData}
theorem ok_xtm {bk : EB} {CE : Addr} (F : FnC K "__init__" "TooMany.__init__" s_TooMany_init [] f fd) (T : EC K CE f bk) (no : W.findIn K (.ref CE) "limit" = some none) : FnOk P w K mg base CX0 1 f fd ["self", "limit"] (spI1 CE "limit") := by
  refine F.ok sc_TooMany_init (fun vs H Q E h => ?_) (fun cdv A outer s H vs Q E hr h => ?_)
  · obtain ⟨a, v, rfl, _⟩ := h
    rfl
  · obtain ⟨a, v, rfl, ha, k⟩ := h
    refine ⟨_, PSs.nox (pss_one (ps_putX (pv 0) (pv 1))), ?_⟩
    exact ⟨v, rfl, _, rfl, a, CE, f, bk, rfl, T, no, .inl ⟨ha, k⟩⟩
end
section
variable {P : Program} {w : World} {K : W.Frag} {h : Heap} {mg : Str → Option Value} {f : Addr}
theorem bt_of (X : K.In h) (G : h.Ns mainGlobals mg) (c : SaysY w h K) : Bt mg where
  KeyError := He.free_ok X G (c.d.fact 24 rfl)
  LookupError := He.free_ok X G (c.d.fact 25 rfl)
  OverflowError := He.free_ok X G (c.d.fact 26 rfl)
  ValueError := He.free_ok X G (c.d.fact 27 rfl)
  abs := He.free_ok X G (c.d.fact 28 rfl)
  any := He.free_ok X G (c.d.fact 29 rfl)
  bool := He.free_ok X G (c.d.fact 30 rfl)
  enumerate := He.free_ok X G (c.d.fact 31 rfl)
  int := He.free_ok X G (c.d.fact 32 rfl)
  isinstance := He.free_ok X G (c.d.fact 33 rfl)
  len := He.free_ok X G (c.d.fact 34 rfl)
  list := He.free_ok X G (c.d.fact 35 rfl)
  range := He.free_ok X G (c.d.fact 36 rfl)
  repr := He.free_ok X G (c.d.fact 37 rfl)
  set := He.free_ok X G (c.d.fact 38 rfl)
  sorted := He.free_ok X G (c.d.fact 39 rfl)
  sum := He.free_ok X G (c.d.fact 40 rfl)
  tuple := He.free_ok X G (c.d.fact 41 rfl)
theorem glo_at (X : K.In h) (G : h.Ns mainGlobals mg) (c : He.SaysD faZ fnZ K) (i : Nat) {x : Str} (e : faZ[i]? = some (.glo x)) : mg x = some (.ref (He.ga K x)) := He.glo_ok X G (c.fact i e)
theorem facts (X : K.In h) (G : h.Ns mainGlobals mg) (hfa : mg "law" = some (.ref f)) (c : SaysY w h K) :
    ∃ fd : FuncData, (∀ (s : Shared) (v : Value), BindsTo s fd ⟨[v], []⟩ [("_law_script", v)]) ∧ ∀ base : Heap, K.In base → base.Ns mainGlobals mg → (∀ p ∈ tfZ.map (He.cT K), TabB base mg p.1 p.2) → FnG P w K mg base CX0 12 f fd ["_law_script"] (spLaw K (TtOf K)) := by
  obtain ⟨dleast_sets, Fleast_sets⟩ := c.t.d.def_ 0 (d := tD "least_sets" 7) rfl
  have bleast_sets : Binds K dleast_sets p_least_sets [] := Fleast_sets.bindsN fun _ _ _ _ _ _ us hl => match us, hl with | [_, _], _ => rfl
  have mleast_sets : mg "least_sets" = some (.ref (He.ga K "least_sets")) := glo_at X G c.t.d 5 rfl
  obtain ⟨dblockers, Fblockers⟩ := c.t.d.def_ 1 (d := tD "blockers" 8) rfl
  have bblockers : Binds K dblockers p_blockers [] := Fblockers.bindsN fun _ _ _ _ _ _ us hl => match us, hl with | [_], _ => rfl
  have mblockers : mg "blockers" = some (.ref (He.ga K "blockers")) := glo_at X G c.t.d 6 rfl
  obtain ⟨dmeeting_also, Fmeeting_also⟩ := c.t.d.def_ 2 (d := tD "_meeting_also" 10) rfl
  have bmeeting_also : Binds K dmeeting_also p_meeting_also [] := Fmeeting_also.bindsN fun _ _ _ _ _ _ us hl => match us, hl with | [_, _], _ => rfl
  have mmeeting_also : mg "_meeting_also" = some (.ref (He.ga K "_meeting_also")) := glo_at X G c.t.d 7 rfl
  obtain ⟨din_order, Fin_order⟩ := c.t.d.def_ 3 (d := tD "_in_order" 11) rfl
  have bin_order : Binds K din_order p_in_order [] := Fin_order.bindsN fun _ _ _ _ _ _ us hl => match us, hl with | [_], _ => rfl
  have min_order : mg "_in_order" = some (.ref (He.ga K "_in_order")) := glo_at X G c.t.d 8 rfl
  obtain ⟨dl_pen, Fl_pen⟩ := c.t.d.def_ 4 (d := tD "_law_pen" 13) rfl
  have bl_pen : Binds K dl_pen p_law_pen [] := Fl_pen.bindsN fun _ _ _ _ _ _ us hl => match us, hl with | [_], _ => rfl
  have ml_pen : mg "_law_pen" = some (.ref (He.ga K "_law_pen")) := glo_at X G c.t.d 9 rfl
  obtain ⟨dl_draw, Fl_draw⟩ := c.t.d.def_ 5 (d := tD "_law_draw" 14) rfl
  have bl_draw : Binds K dl_draw p_law_draw [] := Fl_draw.bindsN fun _ _ _ _ _ _ us hl => match us, hl with | [_, _], _ => rfl
  have ml_draw : mg "_law_draw" = some (.ref (He.ga K "_law_draw")) := glo_at X G c.t.d 10 rfl
  obtain ⟨dl_things, Fl_things⟩ := c.t.d.def_ 6 (d := tD "_law_things" 15) rfl
  have bl_things : Binds K dl_things p_law_things [] := Fl_things.bindsN fun _ _ _ _ _ _ us hl => match us, hl with | [_, _], _ => rfl
  have ml_things : mg "_law_things" = some (.ref (He.ga K "_law_things")) := glo_at X G c.t.d 11 rfl
  obtain ⟨dl_mixed, Fl_mixed⟩ := c.t.d.def_ 7 (d := tD "_law_mixed" 16) rfl
  have bl_mixed : Binds K dl_mixed p_law_mixed [] := Fl_mixed.bindsN fun _ _ _ _ _ _ us hl => match us, hl with | [_, _], _ => rfl
  have ml_mixed : mg "_law_mixed" = some (.ref (He.ga K "_law_mixed")) := glo_at X G c.t.d 12 rfl
  obtain ⟨dl_size, Fl_size⟩ := c.t.d.def_ 8 (d := tD "_law_size" 17) rfl
  have bl_size : Binds K dl_size p_law_size [] := Fl_size.bindsN fun _ _ _ _ _ _ us hl => match us, hl with | [_], _ => rfl
  have ml_size : mg "_law_size" = some (.ref (He.ga K "_law_size")) := glo_at X G c.t.d 13 rfl
  obtain ⟨dl_seeds, Fl_seeds⟩ := c.t.d.def_ 9 (d := tD "_law_seeds" 18) rfl
  have bl_seeds : Binds K dl_seeds p_law_seeds [] := Fl_seeds.bindsN fun _ _ _ _ _ _ us hl => match us, hl with | [_, _], _ => rfl
  have ml_seeds : mg "_law_seeds" = some (.ref (He.ga K "_law_seeds")) := glo_at X G c.t.d 14 rfl
  obtain ⟨dl_least, Fl_least⟩ := c.t.d.def_ 10 (d := tD "_law_least" 19) rfl
  have bl_least : Binds K dl_least p_law_least [] := Fl_least.bindsN fun _ _ _ _ _ _ us hl => match us, hl with | [_], _ => rfl
  have ml_least : mg "_law_least" = some (.ref (He.ga K "_law_least")) := glo_at X G c.t.d 15 rfl
  obtain ⟨dl_written, Fl_written⟩ := c.t.d.def_ 11 (d := tD "_law_written" 20) rfl
  have bl_written : Binds K dl_written p_law_written [] := Fl_written.bindsN fun _ _ _ _ _ _ us hl => match us, hl with | [_, _], _ => rfl
  have ml_written : mg "_law_written" = some (.ref (He.ga K "_law_written")) := glo_at X G c.t.d 16 rfl
  obtain ⟨dl_judge, Fl_judge⟩ := c.t.d.def_ 12 (d := tD "_law_judge" 21) rfl
  have bl_judge : Binds K dl_judge p_law_judge [] := Fl_judge.bindsN fun _ _ _ _ _ _ us hl => match us, hl with | [_, _, _], _ => rfl
  have ml_judge : mg "_law_judge" = some (.ref (He.ga K "_law_judge")) := glo_at X G c.t.d 17 rfl
  obtain ⟨dl_asked_right, Fl_asked_right⟩ := c.t.d.def_ 13 (d := tD "_law_asked_right" 22) rfl
  have bl_asked_right : Binds K dl_asked_right p_law_asked_right [] := Fl_asked_right.bindsN fun _ _ _ _ _ _ us hl => match us, hl with | [_, _], _ => rfl
  have ml_asked_right : mg "_law_asked_right" = some (.ref (He.ga K "_law_asked_right")) := glo_at X G c.t.d 18 rfl
  obtain ⟨dl_meets, Fl_meets⟩ := c.t.d.def_ 14 (d := tD "_law_meets" 23) rfl
  have bl_meets : Binds K dl_meets p_law_meets [] := Fl_meets.bindsN fun _ _ _ _ _ _ us hl => match us, hl with | [_, _], _ => rfl
  have ml_meets : mg "_law_meets" = some (.ref (He.ga K "_law_meets")) := glo_at X G c.t.d 19 rfl
  obtain ⟨dl_hit, Fl_hit⟩ := c.t.d.def_ 15 (d := tD "_law_hit" 24) rfl
  have bl_hit : Binds K dl_hit p_law_hit [] := Fl_hit.bindsN fun _ _ _ _ _ _ us hl => match us, hl with | [_, _], _ => rfl
  have ml_hit : mg "_law_hit" = some (.ref (He.ga K "_law_hit")) := glo_at X G c.t.d 20 rfl
  obtain ⟨dl_refused, Fl_refused⟩ := c.t.d.def_ 16 (d := tD "_law_refused" 25) rfl
  have bl_refused : Binds K dl_refused p_law_refused [] := Fl_refused.bindsN fun _ _ _ _ _ _ us hl => match us, hl with | [_], _ => rfl
  have ml_refused : mg "_law_refused" = some (.ref (He.ga K "_law_refused")) := glo_at X G c.t.d 21 rfl
  obtain ⟨dl_right, Fl_right⟩ := c.t.d.def_ 17 (d := tD "_law_right" 26) rfl
  have bl_right : Binds K dl_right p_law_right [] := Fl_right.bindsN fun _ _ _ _ _ _ us hl => match us, hl with | [_, _], _ => rfl
  have ml_right : mg "_law_right" = some (.ref (He.ga K "_law_right")) := glo_at X G c.t.d 22 rfl
  obtain ⟨dlaw, Flaw⟩ := c.t.d.def_ 18 (d := tD "law" 27) rfl
  have blaw : Binds K dlaw p_law [] := Flaw.bindsN fun _ _ _ _ _ _ us hl => match us, hl with | [_], _ => rfl
  have mlaw : mg "law" = some (.ref (He.ga K "law")) := glo_at X G c.t.d 23 rfl
  obtain ⟨dxt, Fxt⟩ := c.t.d.def_ 19 (d := mD "TooMany" "__init__" s_TooMany_init []) rfl
  have bxt : Binds K dxt ["self", "limit"] [] := Fxt.bindsN fun _ _ _ _ _ _ us hl => match us, hl with | [_, _], _ => rfl
  obtain ⟨dsi, Fsi⟩ := c.t.d.def_ 20 (d := mD "Search" "__init__" s_Search_init []) rfl
  have bsi : Binds K dsi p_Search_init [] := Fsi.bindsN fun _ _ _ _ _ _ us hl => match us, hl with | [_, _, _], _ => rfl
  obtain ⟨dsm, Fsm⟩ := c.t.d.def_ 21 (d := mD "Search" "members" s_Search_members []) rfl
  have bsm : Binds K dsm p_Search_members [] := Fsm.bindsN fun _ _ _ _ _ _ us hl => match us, hl with | [_, _], _ => rfl
  obtain ⟨dso, Fso⟩ := c.t.d.def_ 22 (d := mD "Search" "least_outside" s_Search_least_outside []) rfl
  have bso : Binds K dso p_Search_least_outside [] := Fso.bindsN fun _ _ _ _ _ _ us hl => match us, hl with | [_, _], _ => rfl
  obtain ⟨dsl, Fsl⟩ := c.t.d.def_ 23 (d := mD "Search" "_lessened" s_Search_lessened []) rfl
  have bsl : Binds K dsl p_Search_lessened [] := Fsl.bindsN fun _ _ _ _ _ _ us hl => match us, hl with | [_, _], _ => rfl
  obtain ⟨dsh, Fsh⟩ := c.t.d.def_ 24 (d := mD "Search" "_is_held" s_Search_is_held []) rfl
  have bsh : Binds K dsh p_Search_is_held [] := Fsh.bindsN fun _ _ _ _ _ _ us hl => match us, hl with | [_, _], _ => rfl
  cases hfa.symm.trans mlaw
  have bl := FunD.bindsA (ps := ["_law_script"]) Flaw fun _ _ _ _ _ _ us hl => match us, hl with | [_], _ => rfl
  refine ⟨dlaw, fun s v => bl s [v] rfl, fun base KB NB hTB => ?_⟩
  have B := bt_of X G c
  have q := c.more
  have sys : SysD K := sysB_ok (bit q 0 rfl)
  obtain ⟨t8, c8⟩ := He.int_ok X G (c.d.fact 42 rfl)
  obtain ⟨tc, tty, tno⟩ := ecB_ok (bit q 1 rfl)
  have XM : X1 P w K mg base "TooMany" "limit" .over (OA K) (He.ma K (OA K) "__init__") dxt := ⟨tc, tty, glo_at X G c.d 4 rfl, ok_xtm Fxt tc tno, bxt, tno⟩
  have hb := bit q 2 (b := rfB K) rfl
  have Z : RFc K mg (He.ga K "MeetError") (He.ga K "NoStation") (OA K) (He.ga K "InvalidQuestion") := ⟨glo_at X G c.d 1 rfl, glo_at X G c.d 3 rfl, glo_at X G c.d 2 rfl, rfb hb 0 rfl, rfb hb 1 rfl, rfb hb 2 rfl, rfb hb 3 rfl⟩
  have d1 : (He.cT K mdD).2 ≠ (He.cT K ioD).2 := of_decide_eq_true (bit q 4 rfl)
  have d2 : (He.cT K mdD).2 ≠ (He.cT K jdD).2 := of_decide_eq_true (bit q 5 rfl)
  have d3 : (He.cT K ioD).2 ≠ (He.cT K jdD).2 := of_decide_eq_true (bit q 6 rfl)
  have T : CF K mg (SA K) := ⟨glo_at X G c.d 0 rfl, He.cls_ok (c.d.fact 43 rfl), He.noat_ok (c.d.fact 44 rfl), He.noat_ok (c.d.fact 45 rfl), He.noat_ok (c.d.fact 46 rfl)⟩
  -- the package's functions
  have DM : Fn0 P w K mg base "_meeting_also" 1 _ dmeeting_also p_meeting_also (spMt K) := ⟨ok_meeting B Fmeeting_also, mmeeting_also, Fmeeting_also.kp, bmeeting_also⟩
  have DO : Fn0 P w K mg base "_in_order" 5 (He.ga K "_in_order") din_order p_in_order (spIo (TtOf K)) := by
    have hw := bit q 3 (b := kvB K) rfl
    have kp := Fin_order.kp
    unfold kvB at hw
    obtain ⟨oc, od, dV, kV, doc, pm, an, cdv, ct, osl, rfl, lk, hcd, hD, _⟩ := Fin_order.ex
    rcases hD with ⟨_, rfl⟩ | ⟨z, _⟩
    · replace lk : K.lookup (He.ga K "_in_order") = _ := lk
      rw [lk] at hw
      have hk : kV = .none := of_decide_eq_true hw
      subst hk
      obtain ⟨cc, rfl⟩ := He.codeIn_ref hcd
      have ce : He.codeOf K ioD = cc := He.codeOf_eq lk rfl
      have tb := hTB (He.cT K ioD) (List.mem_map.mpr ⟨ioD, by simp, rfl⟩)
      rw [show (He.cT K ioD).1 = cc from ce] at tb
      exact ⟨ok_in_order B lk hcd tb (by simp) (fun p hp e => by
        simp only [List.mem_cons, List.not_mem_nil, or_false] at hp
        rcases hp with rfl | rfl | rfl
        · exact absurd e d1
        · rfl
        · exact absurd e.symm d3), min_order, kp, bin_order⟩
    · exact absurd rfl z
  have MM : Mt P w K mg base (SA K) "members" 2 p_Search_members (spMb (SA K)) (He.ma K (SA K) "members") dsm := ⟨He.meth_ok (c.d.fact 48 rfl), ok_members B T Fsm, bsm⟩
  have MI : Mt P w K mg base (SA K) "_is_held" 6 p_Search_is_held (spIh K (SA K)) (He.ma K (SA K) "_is_held") dsh := ⟨He.meth_ok (c.d.fact 51 rfl), ok_is_held B T MM Fsh, bsh⟩
  have ME : Mt P w K mg base (SA K) "_lessened" 7 p_Search_lessened (spLs K (SA K)) (He.ma K (SA K) "_lessened") dsl := ⟨He.meth_ok (c.d.fact 50 rfl), ok_lessened B T MI Fsl, bsl⟩
  have ML : Mt P w K mg base (SA K) "least_outside" 8 p_Search_least_outside (spLo K (SA K)) (He.ma K (SA K) "least_outside") dso := ⟨He.meth_ok (c.d.fact 49 rfl), ok_least_outside B T MI ME Fso, bso⟩
  have MK : Mk K (SA K) (He.ma K (SA K) "__init__") := He.mkr_ok (c.d.fact 47 rfl)
  have DX : FnX P w K mg base "least_sets" 9 _ dleast_sets p_least_sets (spLS K (TtOf K) (OA K)) := ⟨ok_least_sets B T XM c8 MK (ok_search B T Fsi) bsi ML MM DM DO Fleast_sets, mleast_sets, Fleast_sets.kp, bleast_sets⟩
  have DB : Fn0 P w K mg base "blockers" 6 _ dblockers p_blockers (spBk K (TtOf K)) := ⟨ok_blockers B DM DO Fblockers, mblockers, Fblockers.kp, bblockers⟩
  -- the law's own functions
  have D : RD K mg (He.ga K "_law_refused") dl_refused := ⟨Fl_refused, ml_refused, bl_refused⟩
  have DP : Fn0 P w K mg base "_law_pen" 1 _ dl_pen p_law_pen (spPen K) := ⟨ok_pen B Fl_pen, ml_pen, Fl_pen.kp, bl_pen⟩
  have DD : Fn0 P w K mg base "_law_draw" 1 _ dl_draw p_law_draw spTake := ⟨ok_draw B Fl_draw, ml_draw, Fl_draw.kp, bl_draw⟩
  have DT : Fn0 P w K mg base "_law_things" 2 _ dl_things p_law_things spTh := ⟨ok_things B DD Fl_things, ml_things, Fl_things.kp, bl_things⟩
  have DMx : Fn0 P w K mg base "_law_mixed" 2 _ dl_mixed p_law_mixed (spMx K) := ⟨ok_mixed B DD Fl_mixed, ml_mixed, Fl_mixed.kp, bl_mixed⟩
  have DZ : Fn0 P w K mg base "_law_size" 1 _ dl_size p_law_size spSz := ⟨ok_size B Fl_size, ml_size, Fl_size.kp, bl_size⟩
  have DS : Fn0 P w K mg base "_law_seeds" 2 _ dl_seeds p_law_seeds spSd := ⟨ok_seeds B DD DZ Fl_seeds, ml_seeds, Fl_seeds.kp, bl_seeds⟩
  have DL : Fn0 P w K mg base "_law_least" 3 _ dl_least p_law_least (spLe K) := ⟨ok_least B DZ Fl_least, ml_least, Fl_least.kp, bl_least⟩
  have DMe : Fn0 P w K mg base "_law_meets" 1 _ dl_meets p_law_meets (spMs K) := ⟨ok_meets B Fl_meets, ml_meets, Fl_meets.kp, bl_meets⟩
  have DH : Fn0 P w K mg base "_law_hit" 4 _ dl_hit p_law_hit (spHi K) := ⟨ok_hit B DMe DL Fl_hit, ml_hit, Fl_hit.kp, bl_hit⟩
  have DW : Fn0 P w K mg base "_law_written" 3 _ dl_written p_law_written (spWr K) := ⟨ok_written B Fl_written, ml_written, Fl_written.kp, bl_written⟩
  have DA : Fn0 P w K mg base "_law_asked_right" 3 _ dl_asked_right p_law_asked_right (spAr K) := ⟨ok_asked B Fl_asked_right, ml_asked_right, Fl_asked_right.kp, bl_asked_right⟩
  have DJ : Fn0 P w K mg base "_law_judge" 3 (He.ga K "_law_judge") dl_judge p_law_judge (spJd (TtOf K)) := by
    have kp := Fl_judge.kp
    have F0 := Fl_judge
    obtain ⟨oc, od, dV, kV, doc, pm, an, cdv, ct, osl, rfl, lk, hcd, _, _⟩ := Fl_judge.ex
    obtain ⟨cc, rfl⟩ := He.codeIn_ref hcd
    have ce : He.codeOf K jdD = cc := He.codeOf_eq lk rfl
    have tb := hTB (He.cT K jdD) (List.mem_map.mpr ⟨jdD, by simp, rfl⟩)
    rw [show (He.cT K jdD).1 = cc from ce] at tb
    exact ⟨ok_judge F0 lk tb (by simp) (fun p hp e => by
      simp only [List.mem_cons, List.not_mem_nil, or_false] at hp
      rcases hp with rfl | rfl | rfl
      · exact absurd e d2
      · exact absurd e d3
      · rfl), ml_judge, kp, bl_judge⟩
  have DR : FnGr P w K mg base "_law_right" 10 _ dl_right p_law_right (spRt (TtOf K)) := ⟨ok_right B sys DD DT DMx DS DL DH DJ DW DX (kb_ls Fleast_sets) DA DB (kb_bk Fblockers) (fun _ _ => rfl) (fun _ => rfl) Fl_right, ml_right, Fl_right.kp, bl_right⟩
  obtain ⟨oc, od, dV, kV, doc, pm, an, cdv, ct, osl, rfl, lk, hcd, _, _⟩ := Flaw.ex
  obtain ⟨cc, rfl⟩ := He.codeIn_ref hcd
  have ce : He.codeOf K mdD = cc := He.codeOf_eq lk rfl
  have tb := hTB (He.cT K mdD) (List.mem_map.mpr ⟨mdD, by simp, rfl⟩)
  rw [show (He.cT K mdD).1 = cc from ce] at tb
  exact ok_law B sys DP DD DR DJ DX DB Z XM D tb (by simp) (fun p hp e => by
    simp only [List.mem_cons, List.not_mem_nil, or_false] at hp
    rcases hp with rfl | rfl | rfl
    · rfl
    · exact absurd e.symm d1
    · exact absurd e.symm d2) lk hcd
end
end L2.M2
set_option maxRecDepth 100000
set_option maxHeartbeats 0
namespace L2.M2
open PySem PySem.Spec PyProof.Rows Mx Evl
abbrev RY : W.OpenRow := W.OpenLaw.row PySem.Challenge.rw_meetbehind_k12_least_sets_and_blockers
abbrev looseY : List Str := (["MeetError", "InvalidQuestion", "NoStation", "TooMany", "MOST_ITEMS", "least_sets", "blockers", "Search", "_meeting_also", "_in_order", "_law_pen", "_law_draw", "_law_things", "_law_mixed", "_law_size", "_law_seeds", "_law_least", "_law_written", "_law_judge", "_law_asked_right", "_law_meets", "_law_hit", "_law_refused", "_law_right"] : List Str)
theorem run_f (w : World) : HandSHeadRun.RunEq RY (W.view RY.prog [27]) hkY eyeY 20000 looseY (w.withFollow "special-get-raises" false) := by
  intro os
  kernel_rfl
theorem run_t (w : World) : HandSHeadRun.RunEq RY (W.view RY.prog [27]) hkY eyeY 20000 looseY (w.withFollow "special-get-raises" true) := by
  intro os
  kernel_rfl
end L2.M2
set_option maxRecDepth 100000
set_option maxHeartbeats 0
namespace L2.M2
open PySem PySem.Spec PyProof.Rows L2 Mx L2.Mb Evl Mv LamX
theorem run (w : World) : HandSHeadRun.RunEq RY (W.view RY.prog [27]) hkY eyeY 20000 looseY w := W.byRow2 "special-get-raises" (P := fun w => HandSHeadRun.RunEq RY (W.view RY.prog [27]) hkY eyeY 20000 looseY w) run_f run_t w
theorem law_at {P : Program} {w : World} {mg : Str → Option Value} {h : Heap} {f : Addr} (Y : hkY.says w h) (G : h.Ns mainGlobals mg) (hmg : mg "law" = some (.ref f)) :
    ∃ (K : W.Frag) (fd : FuncData) (sp : Sp) (cs : List (Addr × Addr)), K.In h ∧ (∀ p ∈ cs, Bare h p.2) ∧ (∀ p ∈ cs, K.lookup p.2 = none) ∧ (∀ p ∈ cs, W.CodeHd h p.1 p.2) ∧ (∀ (s : Shared) (u : Value), BindsTo s fd ⟨[u], []⟩ [("_law_script", u)]) ∧
      (∀ (H : Hp) (a : Addr) (ns : List Int), ns.length ≤ 63 → (∀ p ∈ cs, H p.2 = some (.tbl #[])) → SqL K H a (ns.map V.int) → sp [.ref a] H (fun v _ => v = .bl true) fun _ _ _ => False) ∧
      ∀ base : Heap, K.In base → base.Ns mainGlobals mg → (∀ p ∈ cs, TabB base mg p.1 p.2) → FnG P w K mg base CX0 12 f fd ["_law_script"] sp := by
  obtain ⟨K, KX, c⟩ := Y
  obtain ⟨fd, hb, hF⟩ := facts (P := P) (w := w) KX G hmg c
  refine ⟨K, fd, spLaw K (TtOf K), tfZ.map (He.cT K), KX, fun p hp => ?_, fun p hp => ?_, fun p hp => ?_, hb, fun H a ns hl hT hS => ⟨a, ns, rfl, hS, hl, fun p hp => ?_, fun _ => rfl⟩, hF⟩
  · obtain ⟨d, hd, rfl⟩ := List.mem_map.mp hp
    exact c.bare d hd
  · obtain ⟨d, hd, rfl⟩ := List.mem_map.mp hp
    exact c.out d hd
  · obtain ⟨d, hd, rfl⟩ := List.mem_map.mp hp
    exact W.codeHd_of_K KX (c.hd d hd)
  · simp only [List.mem_cons, List.not_mem_nil, or_false] at hp
    rcases hp with rfl | rfl | rfl
    · exact TabS.nil (hT _ (List.mem_map.mpr ⟨mdD, by simp, rfl⟩))
    · exact TabS.nil (hT _ (List.mem_map.mpr ⟨ioD, by simp, rfl⟩))
    · exact TabS.nil (hT _ (List.mem_map.mpr ⟨jdD, by simp, rfl⟩))
end L2.M2
open PySem PySem.W PySem.Calls PyProof.Rows
theorem PySem.Challenge.cw_meetbehind_k12_least_sets_and_blockers_holds : PySem.Challenge.rw_meetbehind_k12_least_sets_and_blockers.Holds := by
  w_on; o_law
  refine HandSHeadRun.head_any (r := L2.M2.RY) (q := view L2.M2.RY.prog [27]) (H := L2.M2.hkY) (ob := L2.M2.eyeY) (M := 20000) (loose := L2.M2.looseY) (d := HandSHeadRun.topDef L2.M2.RY.prog 27) (kwd := []) L2.M2.eyeY_eq
    (by kernel_rfl) (fun s => by kernel_rfl) L2.M2.run (by kernel_rfl) (by kernel_rfl) (by kernel_rfl) (by rfl) (by first | assumption | decide +kernel) (by decide +kernel) ⟨rfl, rfl, rfl, rfl, rfl, by decide +kernel⟩ ?hw ?hc
  case hw => w_witness2
  case hc =>
    refine L2.Mb.walkT (l := PySem.Challenge.rw_meetbehind_k12_least_sets_and_blockers) (n := 63) (k := 12) (x := "_law_script") (CX := L2.CX0) rfl (by decide) (by kernel_rfl) ⟨rfl, by decide, by decide⟩ ?F (fun _ _ _ _ z => z)
    intro w mg fa h Y G hmg0
    have hmg : mg ("law" : PySem.Str) = some (.ref fa) := by
      have e : (HandSHeadRun.topDef (OpenLaw.row PySem.Challenge.rw_meetbehind_k12_least_sets_and_blockers).prog 27).name = ("law" : PySem.Str) := by kernel_rfl
      rw [← e]
      exact hmg0
    exact L2.M2.law_at (P := (PySem.Challenge.rw_meetbehind_k12_least_sets_and_blockers).prog) Y G hmg
