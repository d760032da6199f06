import PyProof.Rows.All
import Wide.All
import OpenK.AllK
import Wide.FinOn
import HandS.ForExc
import HandS.ExcInit
import HandS.ExcIs
import KE.KExcIs
import HandS.Defaults
import HandS.IsInst
import HandS.MakeKwOnly
import KE.KTryMore
import HandS.Exc
import HandS.HeadEnd
import HandS.Dict
import HandS.DictTup
import HandS.SortKw
import HandS.EndTab
import HandS.Nested
import KE.GoesMore
import HandS.Walk
import KE.KCallOwn
import HandS.ForMost
import HandS.ClsMeth
import HandS.Property
import HandS.OwnEq
import HandS.FStr
import HandS.Evl
import HandS.Text
import PyProof.EqAt
import PyProof.EqKinds
import PyProof.P3In
import HandS.Deep
import PyProof.InstEq
import PyProof.InstNe
import HandS.Iter
import OpenK.KMeth
import HandS.HeadHook2
import PySem.Challenge.RW_meetbehind_k90_gates_joined
import HandS.Head0
import HandS.Head1
import HandS.Head2
import HandS.HeadHook1
import HandS.HeadHook3
import HandS.HeadHook4
import Wide.Once
import HandS.Codes
import HandS.TupAny
import HandS.StrMore
import Wide.Txt
import HandS.Star
import HandS.WordsDict
import KE.KStar
import HandS.Flow
import HandS.TryOnly
import PyProof.NeKinds
import HandS.List
import HandS.SetFor
import KE.DataFind
import HandS.Lambda
set_option Elab.async false
set_option linter.all false
set_option maxRecDepth 100000
set_option maxHeartbeats 4000000
namespace Mx
open PySem PySem.Spec PyProof.Rows PySem.F

/-! exception bases -/
/-- the built-in classes over which the package's errors stand -/
inductive EB where | val | key | ind | look | run | over
  deriving DecidableEq
/-- the class whose maker serves -/
def EB.nm : EB → String
  | .val => "ValueError" | .key => "LookupError" | .ind => "IndexError" | .look => "LookupError"
  | .run => "RuntimeError" | .over => "OverflowError"
def EB.new : EB → String
  | .val => "ValueError.__new__" | .key => "LookupError.__new__" | .ind => "IndexError.__new__"
  | .look => "LookupError.__new__" | .run => "RuntimeError.__new__" | .over => "OverflowError.__new__"
def EB.ini : EB → String
  | .val => "ValueError.__init__" | .key => "LookupError.__init__" | .ind => "IndexError.__init__"
  | .look => "LookupError.__init__" | .run => "RuntimeError.__init__" | .over => "OverflowError.__init__"
def EB.names : EB → List String
  | .val => ["ValueError", "Exception", "BaseException", "object"]
  | .key => ["KeyError", "LookupError", "Exception", "BaseException", "object"]
  | .ind => ["IndexError", "LookupError", "Exception", "BaseException", "object"]
  | .look => ["LookupError", "Exception", "BaseException", "object"]
  | .run => ["RuntimeError", "Exception", "BaseException", "object"]
  | .over => ["OverflowError", "ArithmeticError", "Exception", "BaseException", "object"]
def EB.tl (b : EB) : List Value := b.names.map Value.type
def EB.mk : EB → EB
  | .key => .look
  | b => b
theorem EB.facts : ∀ b : EB, ExcBaseFacts b.nm b.new b.ini b.mk.tl
  | .val => excBase_ValueError
  | .key => excBase_LookupError
  | .ind => excBase_IndexError
  | .look => excBase_LookupError
  | .run => excBase_RuntimeError
  | .over => excBase_OverflowError
theorem EB.pass (self : Value) : ∀ b : EB, refuseLoop self "__setattr__" b.tl = pure ()
  | .val => by kernel_rfl
  | .key => by kernel_rfl
  | .ind => by kernel_rfl
  | .look => by kernel_rfl
  | .run => by kernel_rfl
  | .over => by kernel_rfl
theorem EB.obj (b : EB) : b.tl.contains (.type "object") = true := by cases b <;> decide +kernel
theorem EB.hasB (b : EB) : b.tl.contains (.type b.nm) = true := by cases b <;> decide +kernel
theorem EB.noA (b : EB) : b.tl.contains (.type "AttributeError") = false := by cases b <;> decide +kernel
theorem EB.noN (b : EB) : b.tl.contains (.type "NameError") = false := by cases b <;> decide +kernel
theorem EB.bas (b : EB) : b.tl.contains (.type "BaseException") = true := by cases b <;> decide +kernel
/-- own classes, then the built-in ones -/
def own (b : EB) : List Value → Bool
  | .ref _ :: r => own b r
  | l => l == b.tl
theorem own_cases {b : EB} {l : List Value} (h : own b l = true) : (∃ c r, l = .ref c :: r ∧ own b r = true) ∨ l = b.tl := by
  unfold own at h
  split at h
  · exact .inl ⟨_, _, rfl, h⟩
  · exact .inr (eq_of_beq h)
theorem own_has {b : EB} (X : String) : ∀ l : List Value, own b l = true → l.contains (.type X) = b.tl.contains (.type X)
  | [], h => by
    rcases own_cases h with ⟨c, r, e, _⟩ | e
    · cases e
    · rw [e]
  | a :: l, h => by
    rcases own_cases h with ⟨c, r, e, k⟩ | e
    · obtain ⟨rfl, rfl⟩ := List.cons.inj e
      have ih := own_has X l k
      rw [List.contains_cons, ih]
      rfl
    · rw [e]
theorem own_pass {b : EB} (self : Value) : ∀ l : List Value, own b l = true → refuseLoop self "__setattr__" l = pure ()
  | [], h => by
    rcases own_cases h with ⟨c, r, e, _⟩ | e
    · cases e
    · rw [e]
      exact EB.pass self b
  | a :: l, h => by
    rcases own_cases h with ⟨c, r, e, k⟩ | e
    · obtain ⟨rfl, rfl⟩ := List.cons.inj e
      rw [refuseLoop_ref]
      exact own_pass self l k
    · rw [e]
      exact EB.pass self b
theorem own_ne {b : EB} {l : List Value} (h : own b l = true) : l.isEmpty = false := by
  cases l with
  | nil =>
    rcases own_cases h with ⟨c, r, e, _⟩ | e
    · cases e
    · cases b <;> cases e
  | cons => rfl
section
variable {M : Model} {A : Around} {E : Value → Shared → Prop} {hp : Heap} {gs : Array GenState} {dr : Drawn} {tk : Nat} {os : OsState}
variable {nm q : Str} {C N : Addr} {bs bm : List Value} {hdct : Bool} {sn : List Str} {sub : List Value} {ab : Bool} {col : Option Bool} {dd : Option Addr} {k0 k1 k2 k3 k5 : Option Value}
theorem chk_new {b : EB} (hb : own b bm = true) {rest : List Value} {kw : List (Str × Value)} {Q : Unit → Shared → Prop}
    (hC : hp.get? C = some (excClassObj nm q C N bs bm hdct sn sub ab col dd k0 k1 k2 k3 k5 b.new)) (hq : Q () ⟨hp, gs, dr, tk, os⟩) :
    wpAny M A (checkBuiltinCall b.new ⟨.ref C :: rest, kw⟩) Q E ⟨hp, gs, dr, tk, os⟩ := by
  have F := b.facts
  have mB : (Value.ref C :: bm).contains (.type b.nm) = true := by rw [List.contains_cons, own_has _ _ hb, b.hasB, Bool.or_true]
  have st := F.noStar
  simp only [checkBuiltinCall, F.newKind, F.newSplit, F.newRow]
  repeat (first
    | refine wpAny_loadPart_at hC ?_
    | (refine wpAny_isSubtype_exc hC ?_; rw [mB])
    | refine wpAny_staticBase_exc hC ?_
    | refine wpAny_madeBy_exc hC ?_
    | simp only [bne_self_eq_false, Bool.false_eq_true, if_false]
    | wp_step)
  exact hq
end
section
variable {prog : Program} {w : World} {A : Around} {E : Value → Shared → Prop} {R : Result → Shared → Prop} {hp : Heap} {gs : Array GenState} {dr : Drawn} {tk : Nat} {os : OsState}
variable {nm q : Str} {C N : Addr} {bs bm : List Value} {hdct : Bool} {sn : List Str} {sub : List Value} {ab : Bool} {col : Option Bool} {dd : Option Addr} {k0 k1 k2 k3 k5 : Option Value}
/-- an exception that is not yet set up -/
abbrev rawX (C t : Addr) : Obj := { cls := .ref C, data := .fields #[.ref t, .none, .none, .none, .bool false, .none] }
abbrev tupO (us : List Value) : Obj := { cls := .type "tuple", data := .seq us.toArray }
theorem run_new {b : EB} (hb : own b bm = true) {rest : List Value} {kw : List (Str × Value)} (hr : rest.length ≤ sizeLine)
    (hC : hp.get? C = some (excClassObj nm q C N bs bm hdct sn sub ab col dd k0 k1 k2 k3 k5 b.new))
    (hq : R (.ok (.ret (.ref (hp.objs.size + 1)))) ⟨(hp.push (tupO rest)).push (rawX C hp.objs.size), gs, dr, tk, os⟩) :
    codeAny (model prog w) A (.builtin b.new ⟨.ref C :: rest, kw⟩) R ⟨hp, gs, dr, tk, os⟩ := by
  have F := b.facts
  have fe := F.ends
  have m1 : (Value.ref C :: bm).contains (.type b.nm) = true := by rw [List.contains_cons, own_has _ _ hb, b.hasB, Bool.or_true]
  have m2 : (Value.ref C :: bm).contains (.type "AttributeError") = false := by rw [List.contains_cons, own_has _ _ hb, b.noA]; rfl
  have m3 : (Value.ref C :: bm).contains (.type "NameError") = false := by rw [List.contains_cons, own_has _ _ hb, b.noN]; rfl
  refine codeAny_builtinAt F.entry ?_
  unfold Builtin.«BaseException.__new__»
  refine PySem.wpAt_bind ?_
  show PySem.wpAt _ _ _ (stack >>= _) _ _ _
  refine PySem.wpAt_bind (PySem.wpAt_stack fun p1 p2 => PySem.wpAt_of_wpAny ?_)
  wp_walk
  refine PySem.wpAt_of_wpAny ?_
  rw [F.owner]
  repeat (first
    | with_reducible refine wpAny_madeHere_exc F.canon hC ?_
    | with_reducible refine wpAny_loadPart_at hC ?_
    | (with_reducible refine wpAny_isSubtype_exc hC ?_; first | rw [m1] | rw [m2] | rw [m3])
    | wp_step)
  show R _ _
  rw [Heap.size_push]
  exact hq
/-- what comes back from the setting up -/
def BackX (e : Addr) (R : Result → Shared → Prop) : Result → Shared → Prop := fun r s => match r with
  | .ok (.ret v) => v = .none ∧ R (.ok (.ret (.ref e))) s
  | .ok _ => False
  | .error x => R (.error x) s
theorem run_typecall {b : EB} (hb : own b bm = true) {rest : List Value} {kw : List (Str × Value)} (hr : rest.length ≤ sizeLine) {fI : Addr} {Q : Fin → Shared → Prop}
    (hC : hp.get? C = some (excClassObj nm q C N bs bm hdct sn sub ab col dd k0 k1 k2 k3 k5 b.new))
    (hi : W.Looks (model prog w) hp (typeLookup (.ref C) "__init__") (some (.ref fI)))
    (hbd : ∀ self, W.Looks (model prog w) hp (bindSpecial (.ref fI) self) (.ref fI, [self]))
    (hq : codeAny (model prog w) A (.call (.ref fI) ⟨.ref (hp.objs.size + 1) :: rest, kw⟩)
      (fun r s' => match r with
        | .ok (.ret v) => v = .none ∧ Q (.done (.ret (.ref (hp.objs.size + 1)))) s'
        | .ok _ => False
        | .error x => E x s') ⟨(hp.push (tupO rest)).push (rawX C hp.objs.size), gs, dr, tk, os⟩) :
    wpAny (model prog w) A (Builtin.«type.__call__» ⟨.ref C :: rest, kw⟩) Q E ⟨hp, gs, dr, tk, os⟩ := by
  have F := b.facts
  repeat (first
    | with_reducible refine wpAny_loadPart_at hC ?_
    | with_reducible refine wpAny_madeBy_exc hC ?_
    | wp_step)
  refine codeAny_call_builtin_code (Code.quiet_builtin _ F.quiet) (chk_new hb hC ?_)
  refine run_new hb hr hC ?_
  show wpAny _ _ _ _ _ _
  have kp : ∀ c o, hp.get? c = some o → ((hp.push (tupO rest)).push (rawX C hp.objs.size)).get? c = some o :=
    fun c o e => Heap.get?_push_of_some _ (Heap.get?_push_of_some _ e)
  have hC2 := kp _ _ hC
  have ge : ((hp.push (tupO rest)).push (rawX C hp.objs.size)).get? (hp.objs.size + 1) = some (rawX C hp.objs.size) := by heap_get
  have mC : (Value.ref C :: bm).contains (.ref C) = true := by simp
  have j1 := hi.keeps kp
  have j2 := (hbd (.ref (hp.objs.size + 1))).keeps kp
  unfold isInstance
  repeat (first
    | with_reducible refine wpAny_loadPart_at ge ?_
    | (with_reducible refine wpAny_isSubtype_exc hC2 ?_; rw [mC])
    | wp_step)
  show wpAny _ _ (typeLookup (.ref C) _) _ _ _
  refine j1.at ?_
  refine wpAny_holding (wpAny_bind (j2.at ?_))
  refine wpAny_bind (wpAny_call (codeAny_mono hq fun r s' z => ?_))
  rcases r with x | (v | _ | _ | _) <;> first | exact z | exact z.elim | skip
  obtain ⟨ev, z⟩ := z
  subst ev
  first
    | exact wpAny_pure (wpAny_pure z)
    | (wp_walk; exact z)
theorem run_class {b : EB} (hb : own b bm = true) {rest : List Value} {kw : List (Str × Value)} (hr : rest.length ≤ sizeLine) {fI : Addr}
    (hC : hp.get? C = some (excClassObj nm q C N bs bm hdct sn sub ab col dd k0 k1 k2 k3 k5 b.new))
    (hi : W.Looks (model prog w) hp (typeLookup (.ref C) "__init__") (some (.ref fI)))
    (hbd : ∀ self, W.Looks (model prog w) hp (bindSpecial (.ref fI) self) (.ref fI, [self]))
    (hty : W.Looks (model prog w) hp (isInstance (.ref C) (.type "type")) true)
    (hq : codeAny (model prog w) (A.under (.builtin "type.__call__" ⟨.ref C :: rest, kw⟩)) (.call (.ref fI) ⟨.ref (hp.objs.size + 1) :: rest, kw⟩) (BackX (hp.objs.size + 1) R)
      ⟨(hp.push (tupO rest)).push (rawX C hp.objs.size), gs, dr, tk, os⟩) :
    codeAny (model prog w) A (.call (.ref C) ⟨rest, kw⟩) R ⟨hp, gs, dr, tk, os⟩ := by
  have f1 := tc_lookup
  have f2 := tc_bind (.ref C)
  have hTy : (⟨hp, gs, dr, tk, os⟩ : Shared).TypeIs (.ref C) "type" := ⟨_, hC, rfl⟩
  refine codeAny_of_tree ?_
  show wpAny _ _ (callAny (.ref C) _) _ _ _
  repeat (any_goals (first | assumption | with_reducible refine wpAny_loadPart_at hC ?_ | wp_step))
  refine ⟨rfl, ?_⟩
  refine codeAny_call_builtin_at (Code.quiet_builtin _ (by decide +kernel)) entry_typeCall
    (W.check_slot tc_kind tc_split hty (W.tc_args _ _ _) (run_typecall hb hr hC hi hbd ?_))
  refine codeAny_mono hq fun r s' z => ?_
  rcases r with x | (v | _ | _ | _) <;> exact z
end

/-! ### self.f = v -/
section
open Builtin Builtin.ObjectAttr PySem.W
variable {prog : Program} {w : World} {A : Around} {E : Value → Shared → Prop} {R : Result → Shared → Prop} {hp : Heap} {gs : Array GenState} {dr : Drawn} {tk : Nat} {os : OsState}
/-- the first field: the exception's dict is laid -/
theorem put_first {b : EB} {K : Frag} {f : Str} {u : Tok} {v : Value} {x C : Addr} {fv : Array Value} {cd : ClassData} (X : K.In hp)
    (hx : hp.get? x = some { cls := .ref C, data := .fields fv }) (hcd : clsIn K C = some cd) (hm : own b cd.mro = true) (hh : cd.hasDict = true) (ha : findIn K (.ref C) f = some none)
    (hq : ∀ h' tk' dx, (∀ c o, c ≠ x → hp.get? c = some o → h'.get? c = some o) → hp.objs.size ≤ dx → dx ≠ x →
      h'.get? x = some { cls := .ref C, dict := some dx, data := .fields fv } → h'.Ns1 dx (fun y => if y = f then some v else none) → R (.ok (.ret .none)) ⟨h', gs, dr, tk', os⟩) :
    codeAny (model prog w) A (.call (.builtin "object.__setattr__") ⟨[.ref x, .str f u, v], []⟩) R ⟨hp, gs, dr, tk, os⟩ := by
  have SF := F.store_object
  have I : InstAt hp x { cls := .ref C, data := .fields fv } C none := ⟨hx, rfl, rfl, trivial⟩
  have isob : cd.mro.contains (.type "object") = true := (own_has "object" _ hm).trans b.obj
  have ns := own_ne hm
  have xz : x ≠ hp.objs.size := Nat.ne_of_lt (Heap.lt_size hx)
  have Ls : Looks (model prog w) hp (isInstance (.ref x) (.type "object")) true :=
    I.type.andThen (looks_mroIn X (by unfold mroIn; rw [hcd, Option.bind_some, if_neg (by rw [ns]; decide), isob]))
  refine codeAny_call_builtin SF.slot.plain SF.entry
    (@check_slot (model prog w) _ _ ⟨hp, gs, dr, tk, os⟩ "object.__setattr__" "object" "__setattr__" (.ref x) [.str f u, v] [] _ SF.kind SF.split Ls (SF.args (.ref x) (.str f u) v) ?_)
  have Lm : Looks (model prog w) hp (mroOf (.ref C)) cd.mro := (looks_clsIn X hcd).andThen .now
  have Lt : Looks (model prog w) hp (storeTaker? none) none := .now
  have Lc : Looks (model prog w) hp (classData C) cd := looks_clsIn X hcd
  rw [osa_eq, refuse_eq]
  refine wpAny_bind (wpAny_bind (I.type.at (wpAny_bind (Lm.at ?_))))
  rw [own_pass _ _ hm]
  refine wpAny_pure (wpAny_bind (I.type.at (wpAny_bind ((looks_findIn X ha).at (wpAny_bind (Lt.at ?_))))))
  show wpAny _ _ (storeInOwnDict (.ref x) (.ref C) (.str f u) f v false) _ _ _
  obtain ⟨c1, c2, c3, c4, c5, c6, c7, c8, c9, c10, c11⟩ := cd
  dsimp only at hh
  subst hh
  unfold storeInOwnDict ownDictForStores
  repeat (first
    | with_reducible refine HandSPX.store_in_new ?_ ?_
    | with_reducible refine wpAny_loadPart_at hx ?_
    | with_reducible refine Lc.at ?_
    | wp_step)
  · exact ⟨_, #[], _, (Heap.get?_update_ne _ _ _ _ xz.symm).trans (Heap.get?_push_at rfl rfl), rfl, fun e he => absurd he (by simp), fun _ => rfl⟩
  · intro h' tk' hn' hs
    have hx1 : (hp.push { cls := .type "dict", data := .dict #[] }).get? x = some { cls := .ref C, data := .fields fv } := Heap.get?_push_of_some _ hx
    refine hq h' tk' hp.objs.size (fun c o hc ho => ?_) (Nat.le_refl _) xz.symm ?_ hn'
    · exact (hs.2 c (Nat.ne_of_lt (Heap.lt_size ho))).trans ((Heap.get?_update_ne _ _ _ _ hc).trans (Heap.get?_push_of_some _ ho))
    · exact (hs.2 x xz).trans (Heap.get?_update_self _ hx1 rfl)
/-- a further field -/
theorem put_more {b : EB} {K : Frag} {f : Str} {u : Tok} {v : Value} {x C dx : Addr} {fv : Array Value} {cd : ClassData} {m0 : Str → Option Value} {nl : List Str} (X : K.In hp)
    (hx : hp.get? x = some { cls := .ref C, dict := some dx, data := .fields fv }) (hns : hp.Ns1 dx m0) (hw : Within m0 nl) (hz : nl.length ≤ 1000)
    (hcd : clsIn K C = some cd) (hm : own b cd.mro = true) (hh : cd.hasDict = true) (ha : findIn K (.ref C) f = some none)
    (hq : ∀ h' tk', (∀ c o, c ≠ dx → hp.get? c = some o → h'.get? c = some o) → h'.Ns1 dx (fun y => if y = f then some v else m0 y) → R (.ok (.ret .none)) ⟨h', gs, dr, tk', os⟩) :
    codeAny (model prog w) A (.call (.builtin "object.__setattr__") ⟨[.ref x, .str f u, v], []⟩) R ⟨hp, gs, dr, tk, os⟩ := by
  have SF := F.store_object
  obtain ⟨oD, esD, epD, hoD, hdD, _⟩ := hns.count hw
  have I : InstAt hp x { cls := .ref C, dict := some dx, data := .fields fv } C (some oD) := ⟨hx, rfl, rfl, hoD⟩
  have isob : cd.mro.contains (.type "object") = true := (own_has "object" _ hm).trans b.obj
  have ns := own_ne hm
  have Ls : Looks (model prog w) hp (isInstance (.ref x) (.type "object")) true :=
    I.type.andThen (looks_mroIn X (by unfold mroIn; rw [hcd, Option.bind_some, if_neg (by rw [ns]; decide), isob]))
  refine codeAny_call_builtin SF.slot.plain SF.entry
    (@check_slot (model prog w) _ _ ⟨hp, gs, dr, tk, os⟩ "object.__setattr__" "object" "__setattr__" (.ref x) [.str f u, v] [] _ SF.kind SF.split Ls (SF.args (.ref x) (.str f u) v) ?_)
  have Lm : Looks (model prog w) hp (mroOf (.ref C)) cd.mro := (looks_clsIn X hcd).andThen .now
  have Lt : Looks (model prog w) hp (storeTaker? none) none := .now
  have Lc : Looks (model prog w) hp (classData C) cd := looks_clsIn X hcd
  rw [osa_eq, refuse_eq]
  refine wpAny_bind (wpAny_bind (I.type.at (wpAny_bind (Lm.at ?_))))
  rw [own_pass _ _ hm]
  refine wpAny_pure (wpAny_bind (I.type.at (wpAny_bind ((looks_findIn X ha).at (wpAny_bind (Lt.at ?_))))))
  show wpAny _ _ (storeInOwnDict (.ref x) (.ref C) (.str f u) f v false) _ _ _
  obtain ⟨c1, c2, c3, c4, c5, c6, c7, c8, c9, c10, c11⟩ := cd
  dsimp only at hh
  subst hh
  unfold storeInOwnDict ownDictForStores
  repeat (first
    | with_reducible refine OEX.store_in_old hns hw hz ?_
    | with_reducible refine wpAny_loadPart_at hx ?_
    | with_reducible refine Lc.at ?_
    | wp_step)
  intro h' tk' hn' hs
  exact hq h' tk' (fun c o hc ho => (hs.2 c hc).trans ho) hn'
end
end Mx
set_option maxRecDepth 100000
set_option maxHeartbeats 4000000
namespace L2.Mb
open PySem PySem.Spec PyProof.Rows Mx

/-- the own exception class at C over b, its setting up at fI -/
structure EC (K : W.Frag) (C fI : Addr) (b : EB) : Prop where
  cls : ∃ nm q N bs bm sn sub ab col dd k0 k1 k2 k3 k5, K.lookup C = some (excClassObj nm q C N bs bm true sn sub ab col dd k0 k1 k2 k3 k5 b.new) ∧ own b bm = true
  sa : W.findIn K (.ref C) "__setattr__" = some (some (.builtin "object.__setattr__"))
  ga : W.findIn K (.ref C) "__getattribute__" = some (some (.builtin "BaseException.__getattribute__"))
  gg : W.findIn K (.ref C) "__getattr__" = some none
  cl : W.findIn K (.ref C) "__class__" = some (some (.builtin "object.__class__"))
  ins : W.instIn K (.ref C) (.type "type") = some true
  kp : W.keepIn K (.ref C) = true
  ini : W.findIn K (.ref C) "__init__" = some (some (.ref fI))
  tfn : W.typeIn K (.ref fI) = some (.type "function")
  gs : W.specialIn K (.builtin "object.__class__") "__get__" = some (some (.builtin "getset_descriptor.__get__"))
  tk : W.takesIn K (.builtin "object.__class__") = some true
section
variable {K : W.Frag} {C fI : Addr} {b : EB}
theorem EC.cd (T : EC K C fI b) : ∃ cd, W.clsIn K C = some cd ∧ own b cd.mro = true ∧ cd.hasDict = true := by
  obtain ⟨nm, q, N, bs, bm, sn, sub, ab, col, dd, k0, k1, k2, k3, k5, hC, hb⟩ := T.cls
  refine ⟨{ name := nm, bases := bs, mro := .ref C :: bm, ns := N, qualname := q, hasDict := true, slotNames := sn, subclasses := sub, abstract := ab, collection := col, hasDel := false }, ?_, hb, rfl⟩
  unfold W.clsIn
  rw [hC]
  all_goals rfl
theorem EC.mro (T : EC K C fI b) (X : String) : W.mroIn K C (.type X) = some (b.tl.contains (.type X)) := by
  obtain ⟨cd, e, m, _⟩ := T.cd
  unfold W.mroIn
  rw [e, Option.bind_some, if_neg (by rw [own_ne m]; decide), own_has _ _ m]
theorem EC.base (T : EC K C fI b) : W.subIn K (.ref C) (.type "BaseException") = some true := by
  show W.mroIn K C (.type "BaseException") = some true
  rw [T.mro, b.bas]
theorem EC.isob (T : EC K C fI b) : W.mroIn K C (.type "object") = some true := by rw [T.mro, b.obj]
theorem EC.isc (T : EC K C fI b) : (W.clsIn K C).isSome = true := by
  obtain ⟨cd, e, _⟩ := T.cd
  rw [e]
  rfl
theorem EC.hd (T : EC K C fI b) : W.hasDictIn K C = true := by
  obtain ⟨cd, e, _, h⟩ := T.cd
  unfold W.hasDictIn
  rw [e]
  exact h
end
section
variable {X : Cx} {pins : List (Addr × Obj)} {σ : St} {H : Hp} {s : Shared} {C fI : Addr} {b : EB}
/-- C(..), the arguments reckoned -/
theorem run_mkX {CX : CXT} {k : Nat} {fd : FuncData} {ps : List Str} {sp : Sp} {Q : VK} {us ws : List Value} {vs : List V} {kw : List (Str × Value)} (T : EC X.K C fI b) (F : FnOk X.prog X.w X.K X.mg X.base CX k fI fd ps sp)
    (hr : Room (k + 1) X.A) (hx : Passes CX X (fun _ _ _ => False)) (I : Inv X pins σ H s) (hus : us.length ≤ sizeLine) (rv : Vals vs ws)
    (hto : ∀ (a : Addr) (s' : Shared), X.K.In s'.heap → BindsTo s' fd ⟨.ref a :: us, kw⟩ (ps.zip (.ref a :: ws)))
    (h : ∀ a, H a = none → sp (.ref a :: vs) (upd H a (exo a C none)) (fun v H2 => v = .non ∧ Q (.ref a) H2) (fun _ _ _ => False)) :
    wpAny (model X.prog X.w) X.A (call (.ref C) us kw) (EP X pins σ Q) X.xe s := by
  obtain ⟨nm, q, N, bs, bm, sn, sub, ab, col, dd, k0, k1, k2, k3, k5, hC, hb⟩ := T.cls
  obtain ⟨hp, g, dr, tk, os⟩ := s
  have hsz : hp.objs.size ≤ hp.objs.size + 1 := Nat.le_succ _
  have hn : H (hp.objs.size + 1) = none := I.hok.fresh hsz
  have kk : ∀ c o, hp.get? c = some o → ((hp.push (tupO us)).push (rawX C hp.objs.size)).get? c = some o := fun c o e => Heap.get?_push_of_some _ (Heap.get?_push_of_some _ e)
  have ge : ((hp.push (tupO us)).push (rawX C hp.objs.size)).get? (hp.objs.size + 1) = some (rawX C hp.objs.size) := by heap_get
  have I2 : Inv X pins σ (upd H (hp.objs.size + 1) (exo (hp.objs.size + 1) C none)) ⟨(hp.push (tupO us)).push (rawX C hp.objs.size), g, dr, tk, os⟩ :=
    I.laid (t' := tk) (a := hp.objs.size + 1) (o := exo (hp.objs.size + 1) C none) (h' := (hp.push (tupO us)).push (rawX C hp.objs.size)) kk hsz (exo_ok ge)
  refine wpAny_call (run_class hb hus (I.kIn _ _ hC) (W.looks_findIn I.kIn T.ini) (fun self => W.bind_fn I.kIn self T.tfn) (W.looks_instIn I.kIn T.ins)
    (codeAny_mono (F.run _ X.stack _ _ ⟨Value.ref (hp.objs.size + 1) :: us, kw⟩ (Value.ref (hp.objs.size + 1) :: ws) (V.ref (hp.objs.size + 1) :: vs) _ (fun _ _ _ => False) (hr.make C us kw) (I2.env0.make C us kw)
      (hto _ _ I2.kIn) (.cons rfl rv) (h _ hn)) fun r s' hq' => ?_))
  cases r with
  | error er => exact (hx pins σ _ _ er s' I2 hq')
  | ok fl =>
    cases fl with
    | ret u =>
      obtain ⟨v, H', I3, r3, ev, q3⟩ := I2.after hq'
      subst ev
      exact ⟨r3, ⟨V.ref (hp.objs.size + 1), H', I3, rfl, q3⟩⟩
    | next => exact False.elim hq'
    | brk => exact False.elim hq'
    | cont => exact False.elim hq'
end

/-! ### readings and rules -/
/-- the error of the class at C stands at a, with these fields -/
def XAt (H : Hp) (a C : Addr) (fs : List (Str × V)) : Prop := ∃ d, H a = some (exo a C (some d)) ∧ H d = some (exd d fs)
def tMkX (C : Addr) (sp : Sp) (ta : TA) : TE := fun σ H Q => ta σ H fun vs H1 => vs.length ≤ 1000 ∧
  ∀ a, H1 a = none → sp (.ref a :: vs) (upd H1 a (exo a C none)) (fun v H2 => v = .non ∧ Q (.ref a) H2) (fun _ _ _ => False)
def tMkXK (C : Addr) (sp : Sp) (n : Nat) (gV : List V → List V) (ta : TA) : TE := fun σ H Q => ta σ H fun vs H1 => vs.length = n ∧
  ∀ a, H1 a = none → sp (.ref a :: gV vs) (upd H1 a (exo a C none)) (fun v H2 => v = .non ∧ Q (.ref a) H2) (fun _ _ _ => False)
/-- how keywords alone bind -/
structure KwB (K : W.Frag) (fd : FuncData) (ps ks : List Str) (g : List Value → List Value) (gV : List V → List V) : Prop where
  to : ∀ (s : Shared) (a : Addr) (ws : List Value), K.In s.heap → ws.length = ks.length → BindsTo s fd ⟨[.ref a], ks.zip ws⟩ (ps.zip (.ref a :: g ws))
  rel : ∀ {zs : List V} {ws : List Value}, Vals zs ws → Vals (gV zs) (g ws)
section
variable {X : Cx} {CX : CXT} {k : Nat} {fI C : Addr} {b : EB} {fd : FuncData} {ps ks : List Str} {sp : Sp} {x f : Str} {p p' pos : Pos} {e o : Expr} {es : List Expr} {kws : List Keyword} {t tk : TA} {te to : TE} {g : List Value → List Value} {gV : List V → List V}
theorem pe_mkX (T : EC X.K C fI b) (F : FnOk X.prog X.w X.K X.mg X.base CX k fI fd ps sp) (hr : Room (k + 1) X.A) (hb : Binds X.K fd ps []) (hx : Passes CX X (fun _ _ _ => False)) (hg : Gl X x) (hm : X.mg x = some (.ref C)) (ha : PA X (e :: es) t)
    (hdb : (x == ("__debug__" : Str)) = false := by decide) (he : starEach (e :: es) X.env = (false, eval e X.env) :: starEach es X.env := by rfl) (hpl : (backTo pos (starEach es X.env)).any (·.1) = false := by rfl) :
    PE X (.Call (.Name x p) (e :: es) [] pos) (tMkX C sp t) := by
  refine ⟨fun pins s σ H Q I h => ?_⟩
  refine wpAny_Call_Name_kw (ld_glob I hg hm ?_ hdb)
  refine W.callWith_K (h₀ := X.base) I.ok.mod.kin T.kp (thn (ha.run pos pins s σ H _ I h) fun us s1 ⟨vs, H1, I1, r, hl, q⟩ => ⟨I1.kIn, ?_⟩) he hpl
  have hus : us.length ≤ sizeLine := by
    rw [← r.length, sizeLine_eq]
    omega
  have hn : (V.ref (s1.heap.objs.size + 1) :: vs).length = ps.length := F.len _ _ _ _ (q (s1.heap.objs.size + 1) (I1.hok.fresh (Nat.le_succ _)))
  refine run_mkX T F hr hx I1 hus r (fun a s' K' => ?_) q
  have z := hb s' (Value.ref a :: us) K' (by
    have r1 := r.length
    rw [List.length_cons] at hn
    rw [List.append_nil, List.length_cons]
    omega)
  rwa [List.append_nil] at z
theorem pe_mkXK (T : EC X.K C fI b) (F : FnOk X.prog X.w X.K X.mg X.base CX k fI fd ps sp) (hr : Room (k + 1) X.A) (hb : KwB X.K fd ps ks g gV) (hx : Passes CX X (fun _ _ _ => False)) (hg : Gl X x) (hm : X.mg x = some (.ref C)) (hkw : PK X kws tk)
    (hall : (backToKw pos (keywordEach kws X.env)).all (·.1.isSome) = true := by rfl) (hks : (backToKw pos (keywordEach kws X.env)).filterMap (·.1) = ks := by rfl) (hdb : (x == ("__debug__" : Str)) = false := by decide)
    (hpl : ((backTo pos (starEach [] X.env)).any (·.1) || (backToKw pos (keywordEach kws X.env)).any (·.1.isNone)) = false := by rfl) :
    PE X (.Call (.Name x p) [] kws pos) (tMkXK C sp ks.length gV tk) := by
  refine ⟨fun pins s σ H Q I h => ?_⟩
  refine wpAny_Call_Name_kw (ld_glob I hg hm ?_ hdb)
  refine W.callWith_KW0 (h₀ := X.base) I.ok.mod.kin T.kp hall ?_ hpl
  refine thn (hkw.run pos pins s σ H _ I h) fun ws s2 ⟨zs, H2, I2, rz, l2, q2⟩ => ⟨I2.kIn, ?_⟩
  rw [hks]
  exact run_mkX (us := []) T F hr hx I2 (Nat.zero_le _) (hb.rel rz) (fun a s' K' => hb.to s' a ws K' (rz.length.symm.trans l2)) q2
/-- self.f = e in an __init__ of such a class -/
def tPutX (K : W.Frag) (f : Str) (to te : TE) : TS := fun D σ H => te σ H fun y H1 => to σ H1 fun x H2 => ∃ (a C fI : Addr) (b : EB), x = .ref a ∧ EC K C fI b ∧ W.findIn K (.ref C) f = some none ∧
  ((H2 a = some (exo a C none) ∧ ∀ dx, H2 dx = none → dx ≠ a → D.nx σ (upd (upd H2 dx (exd dx [(f, y)])) a (exo a C (some dx)))) ∨
    ∃ (dx : Addr) (fs : List (Str × V)), H2 a = some (exo a C (some dx)) ∧ H2 dx = some (exd dx fs) ∧ fs.length ≤ 900 ∧ D.nx σ (upd H2 dx (exd dx ((f, y) :: fs))))
section
variable {pins : List (Addr × Obj)} {σ : St} {H : Hp} {s : Shared} {a dx : Addr} {y : V} {u : Value} {fs : List (Str × V)} {Q : Unit → Shared → Prop} {E : Value → Shared → Prop} {A : Around}
theorem putX_first (T : EC X.K C fI b) (I : Inv X pins σ H s) (e : H a = some (exo a C none)) (hno : W.findIn X.K (.ref C) f = some none) (ry : RelV y u)
    (h : ∀ dx s', H dx = none → dx ≠ a → Inv X pins σ (upd (upd H dx (exd dx [(f, y)])) a (exo a C (some dx))) s' → Q () s') : wpAny (model X.prog X.w) A (setAttr (.ref a) f u) Q E s := by
  obtain ⟨cd, hcl, hm, hd⟩ := T.cd
  obtain ⟨t1, ho⟩ := exo_at I.hok e
  obtain ⟨hp, g, d, t, os⟩ := s
  refine W.set_plain I.kIn (ox := { cls := .ref C, dict := none, data := .fields #[.ref t1, .none, .none, .none, .bool false, .none] }) (od := none) ⟨ho, rfl, rfl, trivial⟩ T.sa ?_
  refine put_first I.kIn ho hcl hm hd hno (fun h' tk' dx k dn dne hx hn => ?_)
  have hnd : H dx = none := I.hok.fresh dn
  have nd : ∀ {c : Addr} {o : Obj}, hp.get? c = some o → c ≠ dx := fun {c o} q => Nat.ne_of_lt (Nat.lt_of_lt_of_le (Heap.lt_size q) dn)
  have na : ∀ {c : Addr}, H c = none → c ≠ a := fun {c} n z => by
    rw [z, e] at n
    cases n
  have U : Un X.fs [] H (upd (upd H dx (exd dx [(f, y)])) a (exo a C (some dx))) hp h' := {
    keep := fun c o q n _ _ => k c o (na n) q
    slot := fun c o q n _ _ => ⟨o.slots, k c o (na n) q⟩
    free := fun c o q n _ => by
      rw [upd_ne (na n), upd_ne (nd q)]
      exact n
    there := fun c o q _ => by
      by_cases hc : c = a
      · exact ⟨_, by rw [hc]; exact hx⟩
      · exact ⟨o, k c o hc q⟩
    tups := fun c xs q => by
      rw [upd_ne (at_ne e q exo_tup), upd_ne (ne_of_none q hnd)]
      exact q
    frzs := fun c o v q => by
      rw [upd_ne (at_ne e q exo_frz), upd_ne (ne_of_none q hnd)]
      exact q
    tbls := fun c ps q => ⟨#[], by rw [upd_ne (at_ne e q exo_tbl), upd_ne (ne_of_none q hnd), q]; simp⟩ }
  refine h dx _ hnd dne (I.un (t' := tk') U fun c o q => ?_)
  by_cases hc : c = a
  · subst hc
    rw [upd_same] at q
    cases q
    exact exo_ok hx
  · rw [upd_ne hc] at q
    by_cases hd : c = dx
    · subst hd
      rw [upd_same] at q
      cases q
      exact exd_ok hn (relO_put (fs := []) ry fun g => True.intro)
    · rw [upd_ne hd] at q
      refine (I.hok c o q).stay (fun c2 v hc2 z => k c2 v ?_ z) (fun c2 hc2 => ?_) (fun c2 xs hc2 => ?_)
      · rcases hc2 with z2 | z2
        · rw [z2]
          exact hc
        · exact at_ne e z2 exo_own
      · rw [upd_ne (at_ne e hc2 exo_own), upd_ne (ne_of_none hc2 hnd)]
        exact hc2
      · rw [upd_ne (at_ne e hc2 exo_tup), upd_ne (ne_of_none hc2 hnd)]
        exact hc2
theorem putX_more (T : EC X.K C fI b) (I : Inv X pins σ H s) (e : H a = some (exo a C (some dx))) (ed : H dx = some (exd dx fs)) (hl : fs.length ≤ 900) (hno : W.findIn X.K (.ref C) f = some none) (ry : RelV y u)
    (h : ∀ s', Inv X pins σ (upd H dx (exd dx ((f, y) :: fs))) s' → Q () s') : wpAny (model X.prog X.w) A (setAttr (.ref a) f u) Q E s := by
  obtain ⟨cd, hcl, hm, hd⟩ := T.cd
  obtain ⟨t1, ho⟩ := exo_at I.hok e
  obtain ⟨mA, hns, rel⟩ := exd_at I.hok ed
  have hw := within_of rel
  obtain ⟨hp, g, d, t, os⟩ := s
  obtain ⟨oD, _, _, hoD, _, _⟩ := hns.count hw
  refine W.set_plain I.kIn (ox := { cls := .ref C, dict := some dx, data := .fields #[.ref t1, .none, .none, .none, .bool false, .none] }) (od := some oD) ⟨ho, rfl, rfl, hoD⟩ T.sa ?_
  refine put_more I.kIn ho hns hw (by rw [List.length_map]; omega) hcl hm hd hno (fun h' tk' k hn => ?_)
  obtain ⟨o1, _, _, e1, _⟩ := id hn
  exact h _ (I.write (t' := tk') (x := dx) (e := dx) (o := exd dx ((f, y) :: fs)) (by rw [ed]; exact True.intro) (.inl rfl) k ⟨o1, e1⟩ (exd_ok hn (relO_put ry rel)))
end
theorem ps_putX (ho : PE X o to) (he : PE X e te) (hs : swapsWith e (some (.Attribute o f p')) pos.line X.env = pure false := by rfl) : PS X (.Assign [.Attribute o f p'] e pos) (tPutX X.K f to te) := by
  refine ⟨fun pins s σ H D I h => ?_⟩
  refine plainObj_wpAny_Assign_Attribute (thn (he.run pins s σ H _ I h) fun v s1 ⟨y, H1, I1, r1, q1⟩ => thn (ho.run pins s1 σ H1 _ I1 q1) fun u s2 ⟨x, H2, I2, r2, a, C, fI, b, ex, T, hno, q⟩ => ?_) hs
  subst ex
  obtain rfl : u = Value.ref a := r2
  rcases q with ⟨ea, q⟩ | ⟨dx, fs, ea, ed, hl, q⟩
  · exact putX_first T I2 ea hno r1 fun dx s' n ne J => ⟨σ, _, J, q dx n ne⟩
  · exact putX_more T I2 ea ed hl hno r1 fun s' J => ⟨σ, _, J, q⟩
theorem xat_inst {pins : List (Addr × Obj)} {σ : St} {H : Hp} {s : Shared} {a : Addr} {fs : List (Str × V)} (I : Inv X pins σ H s) (h : XAt H a C fs) :
    ∃ (ox od : Obj) (d : Addr) (mA : Str → Option Value), W.InstAt s.heap a ox C (some od) ∧ s.heap.get? d = some od ∧ s.heap.Ns1 d mA ∧ ∀ g, RelO (fs.lookup g) (mA g) := by
  obtain ⟨d, e1, e2⟩ := h
  obtain ⟨t1, ho⟩ := exo_at I.hok e1
  obtain ⟨mA, hns, rel⟩ := exd_at I.hok e2
  obtain ⟨oD, _, _, hoD, _, _⟩ := hns.count (within_of rel)
  exact ⟨_, oD, d, mA, ⟨ho, rfl, rfl, hoD⟩, hoD, hns, rel⟩
/-- isinstance(e, c), e an error that is held as a value -/
def rIsX (K : W.Frag) : List V → Hp → VK → Prop := fun xs H Q => ∃ (a C fI : Addr) (b : EB) (fs : List (Str × V)) (c : V) (u : Value) (r : Bool), xs = [.ref a, c] ∧ XAt H a C fs ∧ EC K C fI b ∧ ClsV c u ∧ W.kitOne K (.ref C) u = some r ∧ Q (.bl r) H
theorem call_isX : CallR X (.builtin "isinstance") (rIsX X.K) := by
  intro pins s σ H xs us Q I r h
  obtain ⟨a, C, fI, b, fs, c, u, z, rfl, hx, T, k, e, q⟩ := h
  obtain ⟨u1, u2, rfl, r1, r2⟩ := vals2 r
  cases (show u1 = Value.ref a from r1)
  have e2 := k.eq r2
  subst e2
  obtain ⟨ox, od, d, mA, J, _⟩ := xat_inst I hx
  exact W.kia_one (W.kitx_exc T.isc T.ga T.gg T.base T.cl T.gs T.tk T.isob) I.kIn J e (fun z => nomatch z) fun tk => ⟨.bl z, H, I.tok tk, rfl, q⟩
/-- e.f, e an error that is held as a value -/
def tGetX (K : W.Frag) (f : Str) (te : TE) : TE := fun σ H Q => te σ H fun x H1 => ∃ (a C fI : Addr) (b : EB) (fs : List (Str × V)) (v : V), x = .ref a ∧ XAt H1 a C fs ∧ EC K C fI b ∧ W.findIn K (.ref C) f = some none ∧ fs.lookup f = some v ∧ Q v H1
theorem pe_getX (he : PE X e te) (hb : attributeBase e f X.env (eval e X.env) = eval e X.env := by rfl) : PE X (.Attribute e f pos) (tGetX X.K f te) := by
  refine ⟨fun pins s σ H Q I h => ?_⟩
  refine attr_of hb (thn (he.run pins s σ H _ I h) fun u s1 hh => ?_)
  obtain ⟨x, H1, I1, rx, a, C, fI, b, fs, v, ex, hx, T, hno, l, q⟩ := hh
  subst ex
  obtain rfl : u = Value.ref a := rx
  obtain ⟨ox, od, d, mA, J, hd, hns, hr⟩ := xat_inst I1 hx
  obtain ⟨od2, ho, hl⟩ := lookIn_ns hns
  rw [hd] at ho
  cases ho
  obtain ⟨u, hu, ru⟩ := RelO.some_of (v := v) (o := mA f) (by rw [← l]; exact hr f)
  exact HandSPX.exc_get I1.kIn J T.ga T.gg T.base (W.findObj_own T.hd hno rfl (by rw [hl, hu])) (handed_of ru) ⟨v, H1, I1.tok _, ru, q⟩
end
end L2.Mb
set_option maxRecDepth 100000
set_option maxHeartbeats 4000000
namespace L2.Mb
open PySem PySem.Spec PyProof.Rows Mx

/-! ### an error that was caught and is kept behind its suite -/
/-- the record of a caught error: its class, its dict -/
def exh (a C d : Addr) : HO := .ext fun h => ∃ (o : Obj) (vs : Array Value), h.get? a = some o ∧ o.cls = .ref C ∧ o.dict = some d ∧ o.data = .fields vs
def HAt (H : Hp) (a C : Addr) (fs : List (Str × V)) : Prop := ∃ d, H a = some (exh a C d) ∧ H d = some (.xd fs)
theorem exh_ok {P : Program} {w : World} {H : Hp} {h : Heap} {a C d : Addr} {o : Obj} {vs : Array Value} (e : h.get? a = some o) (c : o.cls = .ref C) (k : o.dict = some d) (f : o.data = .fields vs) : ObjOk P w H h a (exh a C d) :=
  ⟨⟨o, vs, e, c, k, f⟩, ⟨o, e⟩, fun h1 h2 z kk => by
    obtain ⟨o1, v1, e1, r⟩ := z
    exact ⟨o1, v1, kk _ e1, r⟩⟩
section
variable {X : Cx} {pins : List (Addr × Obj)} {σ : St} {H : Hp} {s : Shared}
/-- an object that was made since the def began is looked at from now on -/
theorem inv_know {a : Addr} {o : HO} (I : Inv X pins σ H s) (na : H a = none) (n0 : X.s_0.heap.get? a = none) (nL : a ≠ X.env.locals) (nc : ∀ x c, X.env.cells.lookup x = some c → c ≠ a) (np : ∀ p ∈ X.pn ++ pins, p.1 ≠ a)
    (new : ObjOk X.prog X.w (upd H a o) s.heap a o) : Inv X pins σ (upd H a o) s := by
  have far : ∀ {b : Addr} {u : HO}, H b = some u → b ≠ a := fun e => ne_of_none e na
  refine ⟨I.ok, I.os, I.bare, ⟨I.base.keep, I.base.slot, fun b u e n hx => ?_, I.base.there, fun b xs e => ?_, fun b u v e => ?_, fun b ps e => ?_⟩, I.loc, I.cell, ?_, fun x c e => ?_, fun p hp => ?_, fun b u e => ?_, I.len⟩
  · have hb : b ≠ a := fun z => by
      rw [z, n0] at e
      cases e
    rw [upd_ne hb]
    exact I.base.free b u e n hx
  · have q := I.base.tups b xs e
    rw [upd_ne (far q)]
    exact q
  · have q := I.base.frzs b u v e
    rw [upd_ne (far q)]
    exact q
  · obtain ⟨more, q⟩ := I.base.tbls b ps e
    exact ⟨more, by rw [upd_ne (far q)]; exact q⟩
  · rw [upd_ne (Ne.symm nL)]
    exact I.free
  · rw [upd_ne (nc x c e)]
    exact I.freeC x c e
  · obtain ⟨z1, z2, z3⟩ := I.pin p hp
    exact ⟨z1, by rw [upd_ne (np p hp)]; exact z2, z3⟩
  · by_cases hb : b = a
    · subst hb
      rw [upd_same] at e
      cases e
      exact new
    · rw [upd_ne hb] at e
      refine (I.hok b u e).stay (fun c v _ q => q) (fun c q => ?_) fun c xs q => ?_
      · rw [upd_ne (far q)]
        exact q
      · rw [upd_ne (far q)]
        exact q
theorem unsuiteK {a : Addr} {q : Addr × Obj} {pn' : List (Addr × Obj)} (I : Inv (X.suite a (q :: (X.pn ++ pins))) pn' σ H s) (ok : X.Ok) : Inv X (q :: pins) σ H s :=
  ⟨ok, I.os, I.bare, I.base, I.loc, I.cell, I.free, I.freeC, fun p hp => by
    refine I.pin p (List.mem_append_left _ ?_)
    rcases List.mem_append.mp hp with z | z
    · exact List.mem_cons_of_mem _ (List.mem_append_left _ z)
    · rcases List.mem_cons.mp z with z | z
      · rw [z]
        exact List.mem_cons_self
      · exact List.mem_cons_of_mem _ (List.mem_append_right _ z), I.hok, I.len⟩
theorem flying_kept {B h h' : Heap} {l : List Env} {e : Addr} {Z : Obj → Prop} (x : HandSPX.FlyingZ B l e Z h) (k : ∀ b o, h.get? b = some o → h'.get? b = some o) : HandSPX.FlyingZ B l e Z h' := by
  obtain ⟨k1, k2, k3, oe, vs, T, oT, ts, e1, e2, e3, e4, e5, e6, e7, e8⟩ := x
  exact ⟨fun b o q => k b o (k1 b o q), k2, k3.of_keeps fun b o q _ => ⟨o, k b o q, rfl⟩, oe, vs, T, oT, ts, k _ _ e1, e2, e3, e4, e5, e6, k _ _ e7, e8⟩
end
/-- what 'except (x1, x2, x3) as n' wishes of an error that it catches, behind which the error is kept -/
def wHold (K : W.Frag) (n : Nat) (cs : List Value) (i : Nat) (ts : Addr → Value → Option Addr → TS) (D : Ends) : WX := fun cls d σ H => ∃ C dd, cls = .ref C ∧ d = some dd ∧ W.exmAny K cls cs = some true ∧
  ∀ a, σ.length = n → H a = none → ts a cls d { nx := fun σ' H' => H' a = none → D.nx (σ'.set i none) (upd H' a (exh a C dd)), rt := fun _ _ => False, bk := fun _ _ => False, ct := fun _ _ => False } (σ.set i (some (.ref a))) H
section
variable {X : Cx} {x1 x2 x3 n : Str} {c1 c2 c3 : Value} {i j : Nat} {body suite : List Stmt} {b₀ : Stmt} {p1 p2 p3 pt pos pos' : Pos} {tb : WX → TS} {ts : Addr → Value → Option Addr → TS}
theorem ps_try_hold (hs : X.stack = X.env :: X.outer) (hf : X.env.frame = some X.env.locals) (hx : X.ex = []) (hN : X.N.Nodup) (hi : X.N[i]? = some n) (hln : X.env.kindOf n = some .local) (g1 : Gl X x1) (m1 : X.mg x1 = some c1) (g2 : Gl X x2) (m2 : X.mg x2 = some c2)
    (g3 : Gl X x3) (m3 : X.mg x3 = some c3) (d1 : (x1 == ("__debug__" : Str)) = false) (d2 : (x2 == ("__debug__" : Str)) = false) (d3 : (x3 == ("__debug__" : Str)) = false)
    (hb : ∀ (W : WX) (pn : List (Addr × Obj)) (xe : Value → Shared → Prop), Takes (X.tr pn xe) W → PassesOwn (model X.prog X.w) X.A X.env xe → PSs (X.tr pn xe) body (tb W))
    (hsu : ∀ (a : Addr) (oe : Obj) (cls : Value) (d : Option Addr) (pn : List (Addr × Obj)), Zc cls d oe → (∃ vs, oe.data = .fields vs) → PSs (X.suite a ((a, oe) :: pn)) (b₀ :: suite) (ts a cls d)) :
    PS X (.Try body [.ExceptHandler (some (.Tuple [.Name x1 p1, .Name x2 p2, .Name x3 p3] j pt)) (some n) (b₀ :: suite) pos'] [] [] pos) (fun D σ H => tb (wHold X.K X.N.length [c1, c2, c3] i ts D) D σ H) := by
  refine ⟨fun pins s σ H D I h => ?_⟩
  have ok := I.ok
  have fr : X.A.frames = some (X.env :: X.outer) := by
    rw [ok.frames, hs]
  have hloc : Loc X.env.scope n := .inl hln
  refine wpAny_Try_except ?_
  refine wpAny_mono ((hb (wHold X.K X.N.length [c1, c2, c3] i ts D) (X.pn ++ pins) (fun e sa => wpAny (model X.prog X.w) X.A (noteFrame e X.env) (fun _ sb => wpAny (model X.prog X.w) X.A (setFlight e none) (fun _ sc =>
    wpAny (model X.prog X.w) X.A (handleBy e X.env [.ExceptHandler (some (.Tuple [.Name x1 p1, .Name x2 p2, .Name x3 p3] j pt)) (some n) (b₀ :: suite) pos']) (SP X pins D) X.xe sc) X.xe sb) X.xe sa) (fun u s' xx => ?_) PassesOwn.looking).run [] s σ H D (I.toTry _) h) (fun f s1 hsp => ?_) (fun _ _ z => z)
  · obtain ⟨a, B, sI, pins', σ', H', cls, d, rfl, J', nb, up, sky, na, os, ag, C, dd, rfl, rfl, ha, hyes⟩ := xx
    have J : Inv X pins σ' H' sI := J'.ofTry ok
    have sky2 : Sky B (X.env :: X.outer) a (Zc (.ref C) (some dd)) X.env.locals s'.heap := by
      rw [← hs]
      exact sky
    show wpAny (model X.prog X.w) X.A (noteFrame (.ref a) X.env) _ _ _
    refine Sky.land Zc.steady fr hf sky2 fun hA flA upA => ?_
    have JA : Inv X pins σ' H' { s' with heap := hA } := J.landed nb flA.1 (up.trans upA) os ag
    obtain ⟨oA, vA, eA, zA, dA⟩ := flA.there
    have nfr : a ∉ frs (X.env :: X.outer) := fun hm => by
      obtain ⟨_, o2, e2, nf2⟩ := flA.2.2.1.mem hm
      rw [eA] at e2
      cases e2
      exact nf2 _ dA
    have nL : a ≠ X.env.locals := fun z => nfr (List.mem_filterMap.mpr ⟨X.env, List.mem_cons_self, by rw [hf, z]⟩)
    have nF : a ∉ X.fs := fun hm => by
      obtain ⟨e, he, q⟩ := List.mem_filterMap.mp hm
      exact nfr (List.mem_filterMap.mpr ⟨e, List.mem_cons_of_mem _ he, q⟩)
    have nI : ∀ o, sI.heap.get? a ≠ some o := fun o e => by
      have q := nb a o e (by rw [hs]; exact nfr)
      rw [flA.2.1] at q
      cases q
    have n0 : X.s_0.heap.get? a = none := by
      cases q : X.s_0.heap.get? a with
      | none => rfl
      | some o =>
        obtain ⟨o2, e2⟩ := J.base.there a o q (by rw [hx]; exact List.not_mem_nil)
        exact absurd e2 (nI o2)
    have nc : ∀ x c, X.env.cells.lookup x = some c → c ≠ a := fun x c e z => by
      obtain ⟨_, oc, hoc, _⟩ := J.cell x c e
      rw [z] at hoc
      exact nI _ hoc
    have np : ∀ p ∈ X.pn ++ pins, p.1 ≠ a := fun p hp z => by
      have q := (J.pin p hp).1
      rw [z] at q
      exact nI _ q
    have SA := JA.suite eA dA na nL nF
    refine wpAny_handleBy_cons (codeAny_handlers_test ?_) (by intro q; cases q)
    refine wpAny_Tuple ?_
    refine wpAny_items_cons (ld_glob (X := X.suite a ((a, oA) :: (X.pn ++ pins))) SA g1 m1 ?_ d1)
    refine wpAny_items_cons (ld_glob (X := X.suite a ((a, oA) :: (X.pn ++ pins))) SA g2 m2 ?_ d2)
    refine wpAny_items_cons (ld_glob (X := X.suite a ((a, oA) :: (X.pn ++ pins))) SA g3 m3 ?_ d3)
    refine wpAny_items_nil ⟨by size_fits, ?_⟩
    have kp : ∀ q o, hA.get? q = some o → (hA.push { cls := .type "tuple", data := .seq [c1, c2, c3].toArray }).get? q = some o := fun _ _ z => Heap.get?_push_of_some _ z
    have LT : W.Looks (model X.prog X.w) hA (typeOf (.ref a)) (.ref C) := fun A Q E s k q => wpAny_typeOf_ref (k _ _ eA) (by rw [zA.1]; exact q)
    refine (W.exm_tup3 (M := model X.prog X.w) (JA.kIn.keeps kp) (LT.keeps kp) (Heap.get?_push_size hA rfl) ha).here ?_
    refine codeAny_handlers_suite_as ?_
    have flB := flying_kept flA kp
    have upB : hA.UpToSlots (hA.push { cls := .type "tuple", data := .seq [c1, c2, c3].toArray }) := Heap.UpToSlots.of_keeps kp
    refine HandSPX.lands_againZ flB fun h4 fl4 up4 => ?_
    have J4 : Inv X pins σ' H' { s' with heap := h4 } := J.landed nb fl4.1 (((up.trans upA).trans upB).trans up4) os ag
    obtain ⟨o4, v4, e4, z4, f4⟩ := fl4.there
    have S4 := J4.suite e4 f4 na nL nF
    refine store_ok (X := X.suite a ((a, o4) :: (X.pn ++ pins))) (v := .ref a) S4 hN hi hloc rfl (fun s5 S5 => ?_) (.inr hln)
    refine wpAny_mono ((hsu a o4 (.ref C) (some dd) (X.pn ++ pins) z4 ⟨_, f4⟩).run [] s5 _ H' _ S5 (hyes a J.len na)) (fun f s6 hsp => ?_) (fun _ _ z => False.elim z)
    cases f with
    | next =>
      obtain ⟨σ6, H6, S6, q6⟩ := hsp
      refine gone_ok (unsuiteK S6 ok) hN hi hln fun s7 J7 => ?_
      have e7 := (J7.pin (a, o4) (List.mem_append_right _ List.mem_cons_self)).1
      have u7 := (J7.pin (a, o4) (List.mem_append_right _ List.mem_cons_self)).2.1
      have K7 : Inv X pins (σ6.set i none) H6 s7 := J7.pins_of fun r hr => J7.pin r (List.mem_append_right _ (List.mem_cons_of_mem _ hr))
      exact ⟨_, _, inv_know K7 u7 n0 nL nc np (exh_ok e7 z4.1 z4.2 f4), q6 u7⟩
    | brk =>
      obtain ⟨σ6, H6, S6, q6⟩ := hsp
      exact q6.elim
    | cont =>
      obtain ⟨σ6, H6, S6, q6⟩ := hsp
      exact q6.elim
    | ret u =>
      obtain ⟨v6, σ6, H6, S6, r6, q6⟩ := hsp
      exact q6.elim
  · cases f with
    | next =>
      obtain ⟨σ', H', J', q⟩ := hsp
      exact wpAny_execs_nil ⟨σ', H', J'.ofTry ok, q⟩
    | brk =>
      obtain ⟨σ', H', J', q⟩ := hsp
      exact ⟨σ', H', J'.ofTry ok, q⟩
    | cont =>
      obtain ⟨σ', H', J', q⟩ := hsp
      exact ⟨σ', H', J'.ofTry ok, q⟩
    | ret u =>
      obtain ⟨v, σ', H', J', r, q⟩ := hsp
      exact ⟨v, σ', H', J'.ofTry ok, r, q⟩
end
/-! ### what is asked of it -/
section
variable {X : Cx} {C : Addr} {f : Str} {e : Expr} {te : TE} {pos : Pos} {b : EB} {fI : Addr}
theorem hat_inst {pins : List (Addr × Obj)} {σ : St} {H : Hp} {s : Shared} {a : Addr} {fs : List (Str × V)} (I : Inv X pins σ H s) (h : HAt H a C fs) :
    ∃ (ox od : Obj) (d : Addr) (mA : Str → Option Value), W.InstAt s.heap a ox C (some od) ∧ s.heap.get? d = some od ∧ s.heap.Ns1 d mA ∧ ∀ g, RelO (fs.lookup g) (mA g) := by
  obtain ⟨d, e1, e2⟩ := h
  have z : ObjOk X.prog X.w H s.heap a (.ext fun h => ∃ (o : Obj) (vs : Array Value), h.get? a = some o ∧ o.cls = .ref C ∧ o.dict = some d ∧ o.data = .fields vs) := I.hok a _ e1
  obtain ⟨⟨o, vs, q1, q2, q3, q4⟩, _, _⟩ := z
  have y : ObjOk X.prog X.w H s.heap d (.xd fs) := I.hok d _ e2
  obtain ⟨mA, hns, rel⟩ := y
  obtain ⟨oD, hoD, _⟩ := lookIn_ns hns
  exact ⟨o, oD, d, mA, ⟨q1, q2, by unfold W.notCls; rw [q4] <;> rfl, by rw [q3]; exact hoD⟩, hoD, hns, rel⟩
/-- isinstance(e, c) | isinstance(e, (c, ..)), e such an error -/
def rIsH (K : W.Frag) : List V → Hp → VK → Prop := fun xs H Q => ∃ (a C fI : Addr) (b : EB) (fs : List (Str × V)) (c : V) (r : Bool), xs = [.ref a, c] ∧ HAt H a C fs ∧ EC K C fI b ∧ Q (.bl r) H ∧
  ((∃ u, ClsV c u ∧ W.kitOne K (.ref C) u = some r) ∨ ∃ (tp : Addr) (cs : List V) (us : List Value), c = .ref tp ∧ H tp = some (.tup cs) ∧ Paired ClsV cs us ∧ W.kitAny K (.ref C) us = some r)
theorem call_isH : CallR X (.builtin "isinstance") (rIsH X.K) := by
  intro pins s σ H xs us Q I r h
  obtain ⟨a, C, fI, b, fs, c, z, rfl, hx, T, q, hc⟩ := h
  obtain ⟨u1, u2, rfl, r1, r2⟩ := vals2 r
  cases (show u1 = Value.ref a from r1)
  obtain ⟨ox, od, d, mA, J, _⟩ := hat_inst I hx
  rcases hc with ⟨u, k, e⟩ | ⟨tp, cs, ws, rfl, hT, k, e⟩
  · have e2 := k.eq r2
    subst e2
    exact W.kia_one (W.kitx_exc T.isc T.ga T.gg T.base T.cl T.gs T.tk T.isob) I.kIn J e (fun z => nomatch z) fun tk => ⟨.bl z, H, I.tok tk, rfl, q⟩
  · cases (show u2 = Value.ref tp from r2)
    obtain ⟨_, its, rv, o, h1, h2, n, h3⟩ := (show ObjOk X.prog X.w H s.heap tp (.tup cs) from I.hok tp _ hT)
    have e3 := ClsV.all k rv
    subst e3
    obtain ⟨oc, od2, dt, sl⟩ := o
    simp only at h2 h3
    subst h2 h3
    exact W.kia_tup (W.kitx_exc T.isc T.ga T.gg T.base T.cl T.gs T.tk T.isob) I.kIn J h1 e (fun z => nomatch z) fun tk => ⟨.bl z, H, I.tok tk, rfl, q⟩
/-- e.f of such an error -/
def tGetH (K : W.Frag) (f : Str) (te : TE) : TE := fun σ H Q => te σ H fun x H1 => ∃ (a C fI : Addr) (b : EB) (fs : List (Str × V)) (v : V), x = .ref a ∧ HAt H1 a C fs ∧ EC K C fI b ∧ W.findIn K (.ref C) f = some none ∧ fs.lookup f = some v ∧ Q v H1
theorem pe_getH (he : PE X e te) (hb : attributeBase e f X.env (eval e X.env) = eval e X.env := by rfl) : PE X (.Attribute e f pos) (tGetH X.K f te) := by
  refine ⟨fun pins s σ H Q I h => ?_⟩
  refine attr_of hb (thn (he.run pins s σ H _ I h) fun u s1 hh => ?_)
  obtain ⟨x, H1, I1, rx, a, C, fI, b, fs, v, ex, hx, T, hno, l, q⟩ := hh
  subst ex
  obtain rfl : u = Value.ref a := rx
  obtain ⟨ox, od, d, mA, J, hd, hns, hr⟩ := hat_inst I1 hx
  obtain ⟨od2, ho, hl⟩ := lookIn_ns hns
  rw [hd] at ho
  cases ho
  obtain ⟨u, hu, ru⟩ := RelO.some_of (v := v) (o := mA f) (by rw [← l]; exact hr f)
  exact HandSPX.exc_get I1.kIn J T.ga T.gg T.base (W.findObj_own T.hd hno rfl (by rw [hl, hu])) (handed_of ru) ⟨v, H1, I1.tok _, ru, q⟩
end
/-! ### the own classes over ValueError are raised -/
theorem own_VE (l : List Value) : own .val l = true → HandSPX.refsVE l = true := by
  induction l with
  | nil => exact fun h => by cases h
  | cons v r ih =>
    intro h
    rcases own_cases h with ⟨c, r2, e, h2⟩ | e
    · cases e
      exact ih h2
    · rw [e]
      rfl
theorem EC.oex {K : W.Frag} {C fI : Addr} (T : EC K C fI .val) (ty : W.typeIn K (.ref C) = some (.type "type")) : OexC K C where
  cls := by
    obtain ⟨nm, q, N, bs, bm, sn, sub, ab, col, dd, k0, k1, k2, k3, k5, h, ho⟩ := T.cls
    exact ⟨nm, q, N, bs, bm, sn, sub, ab, col, dd, k0, k1, k2, k3, k5, h, own_VE _ ho⟩
  sa := T.sa
  exC := T.base
  tyC := ty
  kC := T.kp
end L2.Mb
set_option maxRecDepth 100000
set_option maxHeartbeats 4000000
namespace L2.Mb
open PySem PySem.Spec PyProof.Rows Mx
/-! ### promises where no repr is under way -/
/-- no repr of a container runs around -/
abbrev Gd (A : Around) : Prop := A.guards = some []
theorem gd_deeper {A : Around} {env : Env} (h : Gd A) : Gd (A.deeper env) := h
structure FnG (P : Program) (w : World) (K : W.Frag) (mg : Str → Option Value) (base : Heap) (CX : CXT) (k : Nat) (f : Addr) (fd : FuncData) (ps : List Str) (sp : Sp) : Prop where
  len : ∀ vs H Q E, sp vs H Q E → vs.length = ps.length
  run : ∀ (A : Around) (outer : List Env) (s : Shared) (H : Hp) (args : Args) (us : List Value) (vs : List V) (Q : VK) (E : XK), Gd A → Room k A → Env0 P w K mg base A outer s H →
    BindsTo s fd args (ps.zip us) → Vals vs us → sp vs H Q E → codeAny (model P w) A (.call (.ref f) args) (CR CX outer P w H s Q E) s
section
variable {P : Program} {w : World} {K : W.Frag} {mg : Str → Option Value} {base : Heap} {CX : CXT} {k : Nat} {f : Addr} {fd : FuncData} {ps : List Str} {sp : Sp}
theorem FnG.of (F : FnOk P w K mg base CX k f fd ps sp) : FnG P w K mg base CX k f fd ps sp :=
  ⟨F.len, fun A outer s H args us vs Q E _ hr e hb hv hs => F.run A outer s H args us vs Q E hr e hb hv hs⟩
theorem FnG.mono {j : Nat} (F : FnG P w K mg base CX j f fd ps sp) (h : j ≤ k) : FnG P w K mg base CX k f fd ps sp :=
  ⟨F.len, fun A outer s H args us vs Q E hg hr => F.run A outer s H args us vs Q E hg (hr.mono h)⟩
theorem FnG.imp {sp' : Sp} (F : FnG P w K mg base CX k f fd ps sp) (h : ∀ vs H Q E, sp' vs H Q E → sp vs H Q E) : FnG P w K mg base CX k f fd ps sp' :=
  ⟨fun vs H Q E q => F.len vs H Q E (h _ _ _ _ q), fun A outer s H args us vs Q E hg hr he hb hv hs => F.run A outer s H args us vs Q E hg hr he hb hv (h _ _ _ _ hs)⟩
end
/-- a def by its body -/
theorem fng_of {CX : CXT} {P : Program} {w : World} {K : W.Frag} {mg : Str → Option Value} {base : Heap} {k : Nat} {f : Addr} {name qual : Str} {params : Arguments} {body : List Stmt} {scope : Scope} {dV kV doc pm cdv ct oc : Value} {an od : Option Addr}
    {osl : Array (Option Value)} {N ps : List Str} {sp : Sp} (lk : K.lookup f = some ⟨oc, od, .func (W.fnOf name qual params body scope dV kV doc pm an cdv ct), osl⟩) (hcd : W.codeIn K cdv qual = true) (S : FnScope N ps scope)
    (len : ∀ vs H Q E, sp vs H Q E → vs.length = ps.length)
    (hbody : ∀ (A : Around) (outer : List Env) (s : Shared) (H : Hp) (vs : List V) (Q : VK) (E : XK), Gd (A.deeper (envOfC qual scope s.heap.objs.size f cdv)) → Room k (A.deeper (envOfC qual scope s.heap.objs.size f cdv)) → sp vs H Q E →
      ∃ t, PSs (cxOf CX P w K mg base N qual scope f cdv A outer s H E) body t ∧ t { nx := fun _ H' => Q .non H', rt := Q } (start N vs) H) :
    FnG P w K mg base CX (k + 1) f (W.fnOf name qual params body scope dV kV doc pm an cdv ct) ps sp := by
  refine ⟨len, fun A outer s H args us vs Q E gd hr e0 hb r hsp => ?_⟩
  have hl := len _ _ _ _ hsp
  have kept : ∀ c o, base.get? c = some o → s.heap.get? c = some o := fun c o e => (e0.bs c o e).1
  have KX : K.In s.heap := e0.mod.kin.keeps kept
  have lim : s.heap.NoLimit := e0.mod.nolimit.keeps kept
  have kinds : ∀ y ∈ ps.zip us, scope.names.lookup y.1 = some .local ∨ (scope.names.lookup y.1 = some .cell ∧ ((cellsFrom (s.heap.objs.size + 1) scope.names []).lookup y.1).isSome = true) := fun ⟨n, v⟩ hy => by
    cases S.par n (List.of_mem_zip hy).1 with
    | inl q => exact .inl q
    | inr q => exact .inr ⟨q, W.cellsFrom_some _ _ _ (.inl q)⟩
  refine codeAny_call_function hr.depth (KX _ _ lk) rfl S.co S.gen rfl (W.codeRec_of KX hcd) (hb _ _ _ _ ?_)
  refine wpAny_newFunctionEnv_cells S.kind kinds fun env he s1 x => ?_
  subst he
  refine ⟨lim.keeps x.toInCall.keep, codeAny_func ?_⟩
  obtain ⟨t, ht, hq⟩ := hbody A outer s H vs Q E (gd_deeper gd) (hr.deeper _) hsp
  have I := inv_start (CX := CX) (E := E) S hr.hd e0 hl r x
  have back : ∀ {σ' : L2.St} {H' : Hp} {v : V} {u : Value} {s' : Shared}, Inv (cxOf CX P w K mg base N qual scope f cdv A outer s H E) [] σ' H' s' → RelV v u → Q v H' → CE outer P w H s Q u s' :=
    fun {σ' H' v u s'} J rv q => ⟨v, H', J.os, J.bare, J.base, J.hok, rv, q⟩
  refine wpAny_mono (ht.run [] s1 (start N vs) H _ I hq) (fun fl s' hs => ?_) fun e s' hs => hs
  cases fl with
  | ret u =>
    obtain ⟨v, σ', H', J, rv, q⟩ := hs
    exact back J rv q
  | next =>
    obtain ⟨σ', H', J, q⟩ := hs
    exact back (v := V.non) (u := Value.none) J rfl q
  | brk => exact (hs.elim fun _ z => z.elim fun _ z => z.elim fun _ z => False.elim z)
  | cont => exact (hs.elim fun _ z => z.elim fun _ z => z.elim fun _ z => False.elim z)
theorem fund_okG {P : Program} {w : World} {K : W.Frag} {mg : Str → Option Value} {base : Heap} {x qual : Str} {params : Arguments} {body : List Stmt} {scope : Scope} {dvs : List V} {kws : List (Str × V)} {f : Addr} {fd : FuncData} {CX : CXT} {N ps : List Str} {k : Nat} {sp : Sp}
    (F : FunD K x qual params body scope dvs kws f fd) (S : FnScope N ps scope) (len : ∀ vs H Q E, sp vs H Q E → vs.length = ps.length)
    (hbody : ∀ (cdv : Value) (A : Around) (outer : List Env) (s : Shared) (H : Hp) (vs : List V) (Q : VK) (E : XK), Gd (A.deeper (envOfC qual scope s.heap.objs.size f cdv)) → Room k (A.deeper (envOfC qual scope s.heap.objs.size f cdv)) → sp vs H Q E →
      ∃ t, PSs (cxOf CX P w K mg base N qual scope f cdv A outer s H E) body t ∧ t { nx := fun _ H' => Q .non H', rt := Q } (start N vs) H) : FnG P w K mg base CX (k + 1) f fd ps sp := by
  obtain ⟨oc, od, dV, kV, doc, pm, an, cdv, ct, osl, rfl, lk, hcd, _, _⟩ := F.ex
  exact fng_of lk hcd S len fun A outer s H vs Q E hg hr hsp => hbody cdv A outer s H vs Q E hg hr hsp
/-! ### calls -/
section
variable {X : Cx} {CX : CXT} {k : Nat} {f C : Addr} {fd : FuncData} {ps : List Str} {sp : Sp} {dvs : List V} {ds : List Value} {E : XK} {x m : Str} {p pos apos : Pos} {e o : Expr} {es : List Expr} {ta : TE} {t : TA}
theorem run_fnG {pins : List (Addr × Obj)} {σ : L2.St} {H : Hp} {s : Shared} {Q : VK} {us : List Value} {vs : List V} (gd : Gd X.A) (F : FnG X.prog X.w X.K X.mg X.base CX k f fd ps sp) (hr : Room k X.A) (hb : Binds X.K fd ps ds) (hd : Vals dvs ds) (hx : Passes CX X E)
    (I : Inv X pins σ H s) (r : Vals vs us) (h : sp (vs ++ dvs) H Q E) : wpAny (model X.prog X.w) X.A (call (.ref f) us) (EP X pins σ Q) X.xe s := by
  have r2 : Vals (vs ++ dvs) (us ++ ds) := r.append hd
  have hl : (us ++ ds).length = ps.length := by
    rw [← r2.length]
    exact F.len _ _ _ _ h
  refine wpAny_call (codeAny_mono (F.run X.A X.stack s H ⟨us, []⟩ (us ++ ds) (vs ++ dvs) Q E gd hr I.env0 (hb s us I.kIn hl) r2 h) fun r s' hq => ?_)
  cases r with
  | error er => exact (hx pins σ H s er s' I hq)
  | ok fl =>
    cases fl with
    | ret u => exact (I.after hq)
    | next => exact (False.elim hq)
    | brk => exact (False.elim hq)
    | cont => exact (False.elim hq)
theorem pe_callG (gd : Gd X.A) (F : FnG X.prog X.w X.K X.mg X.base CX k f fd ps sp) (hr : Room k X.A) (hg : Gl X x) (hm : X.mg x = some (.ref f)) (hk : W.keepIn X.K (.ref f) = true) (hb : Binds X.K fd ps ds) (hd : Vals dvs ds) (hx : Passes CX X E)
    (ha : PA X (e :: es) t) (hdb : (x == ("__debug__" : Str)) = false := by decide) (he : starEach (e :: es) X.env = (false, eval e X.env) :: starEach es X.env := by rfl) (hpl : (backTo pos (starEach es X.env)).any (·.1) = false := by rfl) :
    PE X (.Call (.Name x p) (e :: es) [] pos) (tCall sp dvs E t) :=
  ⟨fun pins s σ H Q I h => wpAny_Call_Name_kw (ld_glob I hg hm
    (W.callWith_K (h₀ := X.base) I.ok.mod.kin hk (thn (ha.run pos pins s σ H _ I h) fun us s1 ⟨vs, H1, I1, r, q⟩ => ⟨I1.kIn, run_fnG gd F hr hb hd hx I1 r q⟩) he hpl) hdb)⟩
theorem pe_callG0 (gd : Gd X.A) (F : FnG X.prog X.w X.K X.mg X.base CX k f fd ps sp) (hr : Room k X.A) (hg : Gl X x) (hm : X.mg x = some (.ref f)) (hk : W.keepIn X.K (.ref f) = true) (hb : Binds X.K fd ps ds) (hd : Vals dvs ds) (hx : Passes CX X E)
    (hdb : (x == ("__debug__" : Str)) = false := by decide) : PE X (.Call (.Name x p) [] [] pos) (tCall sp dvs E tNil) :=
  ⟨fun pins s σ H Q I h => wpAny_Call_Name_kw (ld_glob I hg hm (W.callWith_K0 I.kIn hk (run_fnG (us := []) gd F hr hb hd hx I .nil h)) hdb)⟩
end
/-! ### data: what a value says, dicts too -/
def keyD : Key → PyData
  | .inl i => .int i
  | .inr x => .str x
mutual
inductive Dq (K : W.Frag) (H : Hp) : V → PyData → Prop
  | non : Dq K H .non .none
  | bl (b : Bool) : Dq K H (.bl b) (.bool b)
  | int (i : Int) : Dq K H (.int i) (.int i)
  | str (x : Str) : Dq K H (.str x) (.str x)
  | lst {a : Addr} {xs : List V} {ds : List PyData} : SqL K H a xs → DqAll K H xs ds → Dq K H (.ref a) (.list ds)
  | tup {a : Addr} {xs : List V} {ds : List PyData} : SqT K H a xs → DqAll K H xs ds → Dq K H (.ref a) (.tuple ds)
  | dct {a : Addr} {ks : List Key} {xs : List V} {ds : List PyData} : H a = some (.dK (ks.zip xs)) → ks.length = xs.length → DqAll K H xs ds → Dq K H (.ref a) (.dict ((ks.map keyD).zip ds))
inductive DqAll (K : W.Frag) (H : Hp) : List V → List PyData → Prop
  | nil : DqAll K H [] []
  | cons {v : V} {vs : List V} {d : PyData} {ds : List PyData} : Dq K H v d → DqAll K H vs ds → DqAll K H (v :: vs) (d :: ds)
end

/-- the interpreter's table of modules is written down, and it is a dict -/
def SysD (K : W.Frag) : Prop := ∃ o, K.lookup sysModules = some o ∧ o.cls = .type "dict"
theorem keys_read {prog : Program} {w : World} {h : Heap} : ∀ {es : List DictEntry} {ks : List Key} {us : List Value}, ks.length = us.length → PySem.Pairs (mixKind prog w) es (ks.zip us) →
    ReadsAll h (es.map (·.key)) (ks.map keyD) [] ∧ es.map (·.val) = us
  | [], ks, us, l, p => by
    cases ks with
    | nil =>
      cases us with
      | nil => exact ⟨.nil, rfl⟩
      | cons _ _ => cases l
    | cons _ _ =>
      cases us with
      | nil => cases l
      | cons _ _ => cases p
  | e :: es, ks, us, l, p => by
    cases ks with
    | nil =>
      cases us with
      | nil => cases p
      | cons _ _ => cases l
    | cons k ks =>
      cases us with
      | nil => cases l
      | cons u us =>
        cases p with
        | cons h1 h2 h3 =>
          obtain ⟨r1, r2⟩ := keys_read (h := h) (Nat.succ.inj l) h3
          refine ⟨?_, ?_⟩
          · rcases keyIs_shape (show keyIs k e.key = true from h1) with ⟨i, t, e1, e2⟩ | ⟨x, t, e1, e2⟩
            · have q : ReadsAll h (e.key :: es.map (·.key)) (keyD k :: ks.map keyD) ([] ++ []) := by
                rw [e1, e2]
                exact .cons (.int i t) r1
              exact q
            · have q : ReadsAll h (e.key :: es.map (·.key)) (keyD k :: ks.map keyD) ([] ++ []) := by
                rw [e1, e2]
                exact .cons (.str x t) r1
              exact q
          · show e.val :: es.map (·.val) = u :: us
            rw [r2, show e.val = u from h2]
theorem kv_split : ∀ {ks : List Key} {xs : List V} {vs : List (Key × Value)}, ks.length = xs.length → KV (ks.zip xs) vs → ∃ us, us.length = xs.length ∧ vs = ks.zip us ∧ Vals xs us
  | [], [], _, _, h => by
    cases h
    exact ⟨[], rfl, rfl, .nil⟩
  | [], _ :: _, _, l, _ => by cases l
  | _ :: _, [], _, l, _ => by cases l
  | k :: ks, x :: xs, vs, l, h => by
    cases h with
    | @cons p q _ qs h1 h2 =>
      obtain ⟨us, e1, e2, e3⟩ := kv_split (Nat.succ.inj l) h2
      obtain ⟨qk, qv⟩ := q
      obtain ⟨a1, a2⟩ := h1
      refine ⟨qv :: us, congrArg Nat.succ e1, ?_, .cons a2 e3⟩
      rw [e2]
      have a1' : k = qk := a1
      rw [a1']
      rfl
section
variable {X : Cx} {pins : List (Addr × Obj)} {σ : L2.St} {H : Hp} {s : Shared}
theorem Dq.reads (sd : SysD X.K) (I : Inv X pins σ H s) {v : V} {d : PyData} (h : Dq X.K H v d) : ∀ u, RelV v u → ∃ as, Reads s.heap u d as ∧ sysModules ∉ as := by
  refine Dq.rec (motive_1 := fun v d _ => ∀ u, RelV v u → ∃ as, Reads s.heap u d as ∧ sysModules ∉ as)
    (motive_2 := fun vs ds _ => ds.length = vs.length ∧ ∀ us, Vals vs us → ∃ as, ReadsAll s.heap us ds as ∧ sysModules ∉ as) ?_ ?_ ?_ ?_ ?_ ?_ ?_ ?_ ?_ h
  · intro u r
    cases r
    exact ⟨_, .none, fun z => nomatch z⟩
  · intro b u r
    cases r
    exact ⟨_, .bool b, fun z => nomatch z⟩
  · intro i u r
    obtain ⟨t, rfl⟩ := r
    exact ⟨_, .int i t, fun z => nomatch z⟩
  · intro x u r
    obtain ⟨t, rfl⟩ := r
    exact ⟨_, .str x t, fun z => nomatch z⟩
  · intro a xs ds hs _ ih u r
    cases r
    obtain ⟨its, rv, ⟨o, n, ho, hc, _, hd⟩, _⟩ := I.list hs
    obtain ⟨as, hr, hn⟩ := ih.2 its rv
    refine ⟨_, .list ho hc hd hr, fun z => ?_⟩
    rcases List.mem_cons.mp z with z | z
    · obtain ⟨o2, q1, q2⟩ := sd
      have q3 := I.kIn _ _ q1
      rw [z, ho] at q3
      have q4 : o = o2 := Option.some.inj q3
      rw [← q4, hc] at q2
      exact absurd (Value.type.inj q2) (by decide)
    · exact hn z
  · intro a xs ds hs _ ih u r
    cases r
    obtain ⟨its, rv, ⟨o, ho, hc, n, hd⟩, _⟩ := I.tuple hs
    obtain ⟨as, hr, hn⟩ := ih.2 its rv
    exact ⟨_, .tuple ho hc hd hr, hn⟩
  · intro a ks xs ds ha hl _ ih u r
    cases r
    obtain ⟨el, hrs⟩ := ih
    obtain ⟨_, ya, vs, ra, o, es, ep, ho, hex, hd, _, hp, _⟩ := (show ObjOk X.prog X.w H s.heap a (.dK (ks.zip xs)) from I.hok a _ ha)
    obtain ⟨us, l1, e1, rv⟩ := kv_split hl ra
    subst e1
    have lk : ks.length = us.length := hl.trans l1.symm
    obtain ⟨k1, k2⟩ := keys_read (h := s.heap) lk hp
    obtain ⟨as, hr, hn⟩ := hrs us rv
    have m1 : (ks.map keyD).length = ds.length := by rw [List.length_map, hl, el]
    refine ⟨a :: [] ++ as, ?_, fun z => ?_⟩
    · refine .dict ho hex.1 hd ?_ ?_
      · rw [show ((ks.map keyD).zip ds).map (·.1) = ks.map keyD from List.map_fst_zip (Nat.le_of_eq m1)]
        exact k1
      · rw [show ((ks.map keyD).zip ds).map (·.2) = ds from List.map_snd_zip (Nat.le_of_eq m1.symm), k2]
        exact hr
    · rcases List.mem_cons.mp z with z | z
      · rw [← z] at ya
        simp at ya
      · exact hn z
  · exact ⟨rfl, fun us r => by
      cases r
      exact ⟨_, .nil, fun z => nomatch z⟩⟩
  · intro v vs d ds _ _ ih1 ih2
    refine ⟨congrArg Nat.succ ih2.1, fun us r => ?_⟩
    cases r with
    | cons r1 r2 =>
      obtain ⟨as, q1, n1⟩ := ih1 _ r1
      obtain ⟨bs, q2, n2⟩ := ih2.2 _ r2
      exact ⟨_, .cons q1 q2, fun z => (List.mem_append.mp z).elim n1 n2⟩
end
/-- what can be shown: short enough, no huge ints, at most 60 deep -/
def okD (d : PyData) : Bool := d.showable && (decide (d.depth ≤ 60) && decide (d.shown.length ≤ sizeLine))
section
variable {X : Cx}
/-- repr(x), x a list, a tuple or a dict of data -/
def rRepr (K : W.Frag) : List V → Hp → VK → Prop := fun xs H Q => ∃ (a : Addr) (d : PyData), xs = [.ref a] ∧ Dq K H (.ref a) d ∧ okD d = true ∧ Q (.str d.shown) H
theorem call_repr (gd : Gd X.A) (sd : SysD X.K) (hu : X.A.units + 64 < cLine) : CallR X (.builtin "repr") (rRepr X.K) := by
  intro pins s σ H xs us Q I r h
  obtain ⟨a, d, rfl, hd, ok, q⟩ := h
  obtain ⟨o1, o2⟩ := Bool.and_eq_true_iff.mp ok
  obtain ⟨o3, o4⟩ := Bool.and_eq_true_iff.mp o2
  have dp : d.depth ≤ 60 := of_decide_eq_true o3
  cases r with
  | cons r1 r2 =>
    cases r2
    obtain ⟨as, hr, hn⟩ := hd.reads sd I _ r1
    cases r1
    exact repr_of_reads' hr o1 (fun _ => hn) gd (by omega) (fun _ _ e => e) (fun h' u tk k => ⟨.str d.shown, H, I.kept (t' := tk) k, ⟨u, rfl⟩, q⟩) (of_decide_eq_true o4)
end
end L2.Mb
set_option maxRecDepth 100000
set_option maxHeartbeats 4000000
namespace L2.Sr
open PySem PySem.Spec PyProof.Rows L2 Srt SrtO
/-! ### the order of keys -/
def ltK : Key → Key → Bool
  | .inl a, .inl b => decide (a < b)
  | .inr x, .inr y => decide (x.cps.toList < y.cps.toList)
  | .inl _, .inr _ => true
  | .inr _, .inl _ => false
def isT : Key → Bool
  | .inl _ => false
  | .inr _ => true
/-- a strict order in which any two different things stand one ahead of the other -/
structure Lin {α : Type} (lt : α → α → Bool) : Prop where
  irr : ∀ x, lt x x = false
  tr : ∀ x y z, lt x y = true → lt y z = true → lt x z = true
  tot : ∀ x y, x ≠ y → lt x y = true ∨ lt y x = true
namespace Lin
variable {α : Type} {lt : α → α → Bool}
theorem asym (L : Lin lt) {x y : α} (h : lt x y = true) : lt y x = false := by
  cases e : lt y x with
  | false => rfl
  | true => exact (L.irr x).symm.trans (L.tr _ _ _ h e) |>.symm
theorem eq_of (L : Lin lt) {x y : α} (h1 : lt x y = false) (h2 : lt y x = false) : x = y := by
  by_cases e : x = y
  · exact e
  · rcases L.tot x y e with z | z
    · rw [h1] at z; cases z
    · rw [h2] at z; cases z
theorem swo (L : Lin lt) : Swo lt := ⟨fun x y h => L.asym h, fun x y z h1 h2 => by
  cases e : lt z x with
  | false => rfl
  | true =>
    by_cases q : x = y
    · subst q
      rw [h2] at e
      cases e
    · rcases L.tot x y q with w | w
      · rw [L.tr _ _ _ e w] at h2
        cases h2
      · rw [h1] at w
        cases w⟩
/-- rows in order with the same items are equal -/
theorem uniq (L : Lin lt) : ∀ {l m : List α}, Srtd lt l → Srtd lt m → l.Perm m → l = m
  | [], m, _, _, p => (List.nil_perm.mp p).symm
  | x :: l, [], _, _, p => by
    have := p.length_eq
    simp at this
  | x :: l, y :: m, h1, h2, p => by
    have e : x = y := by
      have a : lt y x = false := by
        rcases List.mem_cons.mp (p.symm.subset (List.mem_cons_self (a := y) (l := m))) with z | z
        · rw [z]; exact L.irr _
        · exact srtd_head h1 y z
      have b : lt x y = false := by
        rcases List.mem_cons.mp (p.subset (List.mem_cons_self (a := x) (l := l))) with z | z
        · rw [z]; exact L.irr _
        · exact srtd_head h2 x z
      exact L.eq_of b a
    subst e
    rw [L.uniq (List.pairwise_cons.mp h1).2 (List.pairwise_cons.mp h2).2 (List.Perm.cons_inv p)]
end Lin
/-- the order of tuples -/
def lexG {α : Type} [DecidableEq α] (lt : α → α → Bool) : List α → List α → Bool
  | [], [] => false
  | [], _ :: _ => true
  | _ :: _, [] => false
  | x :: xs, y :: ys => if x = y then lexG lt xs ys else lt x y
theorem lexG_cons {α : Type} [DecidableEq α] {lt : α → α → Bool} (x y : α) (xs ys : List α) : lexG lt (x :: xs) (y :: ys) = if x = y then lexG lt xs ys else lt x y := rfl
theorem lin_lex {α : Type} [DecidableEq α] {lt : α → α → Bool} (L : Lin lt) : Lin (lexG lt) where
  irr := fun l => by
    induction l with
    | nil => rfl
    | cons x l ih => rw [lexG_cons, if_pos rfl]; exact ih
  tr := fun l => by
    induction l with
    | nil =>
      intro m n h1 h2
      cases n with
      | nil => cases m <;> cases h2
      | cons z n => rfl
    | cons x l ih =>
      intro m n h1 h2
      cases m with
      | nil => cases h1
      | cons y m =>
        cases n with
        | nil => cases h2
        | cons z n =>
          rw [lexG_cons] at h1 h2 ⊢
          by_cases e : x = y
          · subst e
            rw [if_pos rfl] at h1
            by_cases e2 : x = z
            · rw [if_pos e2] at h2 ⊢
              exact ih _ _ h1 h2
            · rw [if_neg e2] at h2 ⊢
              exact h2
          · rw [if_neg e] at h1
            by_cases e2 : y = z
            · subst e2
              rw [if_neg e]
              exact h1
            · rw [if_neg e2] at h2
              have h3 := L.tr _ _ _ h1 h2
              by_cases e3 : x = z
              · subst e3
                rw [L.irr] at h3
                cases h3
              · rw [if_neg e3]
                exact h3
  tot := fun l => by
    induction l with
    | nil =>
      intro m h
      cases m with
      | nil => exact absurd rfl h
      | cons y m => exact .inl rfl
    | cons x l ih =>
      intro m h
      cases m with
      | nil => exact .inr rfl
      | cons y m =>
        rw [lexG_cons, lexG_cons]
        by_cases e : x = y
        · subst e
          rw [if_pos rfl, if_pos rfl]
          exact ih m fun z => h (by rw [z])
        · rw [if_neg e, if_neg (Ne.symm e)]
          exact L.tot x y e
theorem cps_inj {x y : Str} (h : x.cps.toList = y.cps.toList) : x = y := by
  obtain ⟨a⟩ := x
  obtain ⟨b⟩ := y
  have h : a.toList = b.toList := h
  rw [Array.toList_inj.mp h]
theorem lin_K : Lin ltK where
  irr := fun x => by
    cases x with
    | inl a => exact decide_eq_false (Int.lt_irrefl a)
    | inr x => exact decide_eq_false (List.lt_irrefl _)
  tr := fun x y z h1 h2 => by
    cases x with
    | inl a =>
      cases z with
      | inr c => rfl
      | inl c =>
        cases y with
        | inr b => cases h2
        | inl b =>
          have h1 := of_decide_eq_true (show decide (a < b) = true from h1)
          have h2 := of_decide_eq_true (show decide (b < c) = true from h2)
          exact decide_eq_true (Int.lt_trans h1 h2)
    | inr a =>
      cases y with
      | inl b => cases h1
      | inr b =>
        cases z with
        | inl c => cases h2
        | inr c =>
          have h1 := of_decide_eq_true (show decide (a.cps.toList < b.cps.toList) = true from h1)
          have h2 := of_decide_eq_true (show decide (b.cps.toList < c.cps.toList) = true from h2)
          exact decide_eq_true (List.lt_trans h1 h2)
  tot := fun x y h => by
    cases x with
    | inl a =>
      cases y with
      | inr b => exact .inl rfl
      | inl b =>
        have e : a ≠ b := fun z => h (by rw [z])
        rcases Int.lt_or_gt_of_ne e with z | z
        · exact .inl (decide_eq_true z)
        · exact .inr (decide_eq_true z)
    | inr a =>
      cases y with
      | inl b => exact .inr rfl
      | inr b =>
        by_cases z : a.cps.toList < b.cps.toList
        · exact .inl (decide_eq_true z)
        · by_cases w : b.cps.toList < a.cps.toList
          · exact .inr (decide_eq_true w)
          · exact absurd (congrArg Sum.inr (cps_inj (List.le_antisymm (List.not_lt.mp w) (List.not_lt.mp z)))) h
/-- an item of a key: a number or a text, or a tuple of such -/
inductive Dt where
  | k (x : Key)
  | t (l : List Key)
  deriving DecidableEq
def ltD : Dt → Dt → Bool
  | .k x, .k y => ltK x y
  | .t l, .t m => lexG ltK l m
  | .k _, .t _ => true
  | .t _, .k _ => false
theorem lin_D : Lin ltD where
  irr := fun x => by
    cases x with
    | k x => exact lin_K.irr x
    | t l => exact (lin_lex lin_K).irr l
  tr := fun x y z h1 h2 => by
    cases x with
    | k a =>
      cases z with
      | t c => rfl
      | k c =>
        cases y with
        | t b => cases h2
        | k b => exact lin_K.tr a b c h1 h2
    | t a =>
      cases y with
      | k b => cases h1
      | t b =>
        cases z with
        | k c => cases h2
        | t c => exact (lin_lex lin_K).tr a b c h1 h2
  tot := fun x y h => by
    cases x with
    | k a =>
      cases y with
      | t b => exact .inl rfl
      | k b => exact lin_K.tot a b fun z => h (by rw [z])
    | t a =>
      cases y with
      | k b => exact .inr rfl
      | t b => exact (lin_lex lin_K).tot a b fun z => h (by rw [z])
end L2.Sr
set_option maxRecDepth 100000
set_option maxHeartbeats 4000000
namespace L2.Sr
open PySem PySem.Spec PyProof.Rows L2 Srt SrtO
/-! ### two keys compared by the sort -/
theorem eqAt_key (A : Around) (s : Shared) {k l : Key} {u v : Value} (h1 : keyIs k u = true) (h2 : keyIs l v = true) : SeqAt.EqAt A s u v (decide (k = l)) := by
  rcases keyIs_shape h1 with ⟨a, t, rfl, rfl⟩ | ⟨x, t, rfl, rfl⟩
  · rcases keyIs_shape h2 with ⟨b, u, rfl, rfl⟩ | ⟨y, u, rfl, rfl⟩
    · rw [key_ll]
      exact SeqAt.EqAt.int_int a t b u
    · rw [key_lr]
      exact SeqAt.EqAt.int_str a t y u
  · rcases keyIs_shape h2 with ⟨b, u, rfl, rfl⟩ | ⟨y, u, rfl, rfl⟩
    · rw [key_rl]
      exact SeqAt.EqAt.str_int x t b u
    · rw [key_rr]
      have z := SeqAt.EqAt.str_str (A := A) (s := s) x t y u
      rw [show (x == y) = decide (x = y) from by
        cases e : decide (x = y) with
        | true => rw [of_decide_eq_true e]; simp
        | false =>
          have n : x ≠ y := of_decide_eq_false e
          simpa using n] at z
      exact z
theorem rcLt_key (A : Around) (s : Shared) {k l : Key} {u v : Value} (h1 : keyIs k u = true) (h2 : keyIs l v = true) (hc : isT k = isT l) (prog : Program) (w : World) (E : Value → Shared → Prop) (Q : Value → Shared → Prop) (h : Q (.bool (ltK k l)) s) :
    wpAny (model prog w) A (richCompare .Lt u v) Q E s := by
  rcases keyIs_shape h1 with ⟨a, t, rfl, rfl⟩ | ⟨x, t, rfl, rfl⟩
  · rcases keyIs_shape h2 with ⟨b, u, rfl, rfl⟩ | ⟨y, u, rfl, rfl⟩
    · exact HT.rcLt_int A s a t b u prog w E Q h
    · cases hc
  · rcases keyIs_shape h2 with ⟨b, u, rfl, rfl⟩ | ⟨y, u, rfl, rfl⟩
    · cases hc
    · exact DT.rcLt_str A s x t y u prog w E Q h
/-- keys in a tuple -/
inductive KeysAre : List Value → List Key → Prop
  | nil : KeysAre [] []
  | cons {v : Value} {k : Key} {vs : List Value} {ks : List Key} : keyIs k v = true → KeysAre vs ks → KeysAre (v :: vs) (k :: ks)
theorem KeysAre.length {vs : List Value} {ks : List Key} (h : KeysAre vs ks) : vs.length = ks.length := by
  induction h with
  | nil => rfl
  | cons _ _ ih => rw [List.length_cons, List.length_cons, ih]
/-- at each place numbers alone, or texts alone -/
def fitK (p : Nat → Bool) (l : List Key) : Prop := ∀ i x, l[i]? = some x → isT x = p i
theorem fitK.tail {p : Nat → Bool} {x : Key} {l : List Key} (h : fitK p (x :: l)) : fitK (fun i => p (i + 1)) l := fun i y e => h (i + 1) y (by rw [List.getElem?_cons_succ]; exact e)
theorem fitK.head {p : Nat → Bool} {x : Key} {l : List Key} (h : fitK p (x :: l)) : isT x = p 0 := h 0 x rfl
section
open PySem.SeqAt
open PySem.AutoSeq1 (wpAny_loadPart')
open PySem.MeetsSeq PySem.MeetsSeq2 PySem.MeetsSeq3
theorem tuple_lt_keys (l b : Addr) (items items2 : Array Value) (n n2 : Nat) (dd dd2 : Option Addr) (sl sl2 : Array (Option Value)) (ns ms : List Key) (p0 : Nat → Bool) (hi : KeysAre items.toList ns) (hj : KeysAre items2.toList ms) (f1 : fitK p0 ns) (f2' : fitK p0 ms) :
    Meets (Builtin.«tuple.__lt__» ⟨[.ref l, .ref b], []⟩)
      (fun _ R s => s.heap.get? l = some { cls := .type "tuple", dict := dd, data := .seq items n, slots := sl } ∧ s.heap.get? b = some { cls := .type "tuple", dict := dd2, data := .seq items2 n2, slots := sl2 } ∧
        R (.ok (.ret (.bool (lexG ltK ns ms)))) s) :=
  .of_wp fun prog w A R s h => by
    obtain ⟨hp, g, d, tk, os⟩ := s; obtain ⟨hl, hb, h⟩ := h
    have f2 := AutoSeq1.sub_tuple_tuple
    have z1 : items.size = ns.length := by rw [← hi.length]; simp
    have z2 : items2.size = ms.length := by rw [← hj.length]; simp
    wp_walk using wpAny_loadPart' hl, wpAny_loadPart' hb, wpAny_forIn_list _ (fun rest b s' => b.1 = none ∧ s' = ⟨hp, g, d, tk, os⟩ ∧ ∃ (vs ws : List Value) (ns' ms' : List Key) (p' : Nat → Bool), rest = vs.zip ws ∧
      KeysAre vs ns' ∧ KeysAre ws ms' ∧ fitK p' ns' ∧ fitK p' ms' ∧ ns'.length + items2.size = ms'.length + items.size ∧ R (.ok (.ret (.bool (lexG ltK ns' ms')))) ⟨hp, g, d, tk, os⟩) _
    case turn =>
      rintro ⟨y, x⟩ rest b s' ⟨hb', rfl, vs, ws, ns', ms', p', hz, hvi, hwi, g1, g2, hlen, hR⟩
      cases hvi with
      | nil => rw [List.zip_nil_left] at hz; cases hz
      | @cons v a vs' ks' ha hvi' =>
        cases hwi with
        | nil => rw [List.zip_nil_right] at hz; cases hz
        | @cons u c ws' ls' hc hwi' =>
          rw [List.zip_cons_cons] at hz
          injection hz with hyx hrest
          injection hyx with hy hx
          subst hy hx
          rw [lexG_cons] at hR
          simp only [List.length_cons] at hlen
          have he := eqAt_key A.in1 ⟨hp, g, d, tk, os⟩ ha hc
          refine wpAny_bind (he prog w _ _ ?_)
          cases e : decide (a = c) with
          | true =>
            rw [if_pos (of_decide_eq_true e)] at hR
            wp_walk
            exact ⟨rfl, rfl, _, _, _, _, _, hrest, hvi', hwi', g1.tail, g2.tail, by omega, hR⟩
          | false =>
            rw [if_neg (of_decide_eq_false e)] at hR
            have hri := rcLt_key A.in1 ⟨hp, g, d, tk, os⟩ ha hc (g1.head.trans g2.head.symm) prog w
            wp_walk using hri
            exact ⟨_, rfl, by simpa using hR⟩
    case fin =>
      rintro ⟨b1, b2⟩ s' ⟨hb', rfl, vs, ws, ns', ms', p', hz, hvi, hwi, _, _, hlen, hR⟩
      simp only at hb'
      subst hb'
      have hv : lexG ltK ns' ms' = decide (items.size < items2.size) := by
        cases hvi with
        | nil =>
          cases hwi with
          | nil =>
            simp only [List.length_nil] at hlen
            show false = _
            exact (decide_eq_false (by omega)).symm
          | cons hc hw =>
            simp only [List.length_nil, List.length_cons] at hlen
            show true = _
            exact (decide_eq_true (by omega)).symm
        | cons ha hv =>
          cases hwi with
          | nil =>
            simp only [List.length_nil, List.length_cons] at hlen
            show false = _
            exact (decide_eq_false (by omega)).symm
          | cons hc hw =>
            rw [List.zip_cons_cons] at hz
            cases hz
      rw [hv] at hR
      wp_walk
      exact ⟨_, rfl, by simpa [Builtin.Tuple.tupleCompareSizes] using hR⟩
    case h =>
      exact ⟨rfl, rfl, items.toList, items2.toList, ns, ms, p0, rfl, hi, hj, f1, f2', by omega, h⟩
end
section
variable {prog : Program} {w : World} {A : Around} {E : Value → Shared → Prop} {s : Shared}
theorem lt_tupKeys {l b : Addr} {items items2 : Array Value} {ns ms : List Key} {p : Nat → Bool} {Q : Value → Shared → Prop} (hl : IsTup s.heap l items) (hb : IsTup s.heap b items2) (hi : KeysAre items.toList ns) (hj : KeysAre items2.toList ms) (f1 : fitK p ns) (f2 : fitK p ms)
    (hu : A.units < cLine) (h : Q (.bool (lexG ltK ns ms)) s) : wpAny (model prog w) A (compareOp .Lt (.ref l) (.ref b)) Q E s := by
  obtain ⟨⟨cls, dd, data, sl⟩, ho, hc, n, hd⟩ := id hl
  obtain ⟨⟨cls2, dd2, data2, sl2⟩, ho2, hc2, n2, hd2⟩ := id hb
  simp only at hc hd hc2 hd2
  subst hc hd hc2 hd2
  exact richCompare_meets_room (op := .Lt) ⟨_, ho, rfl⟩ ⟨_, ho2, rfl⟩ PySem.F.slot_tuple_lt PySem.F.entry_tuple_lt (PySem.F.args_tuple_lt_2 _ _) (tuple_lt_keys l b items items2 n n2 dd dd2 sl sl2 ns ms p hi hj f1 f2)
    ⟨ho, ho2, show Value.bool (lexG ltK ns ms) ≠ Value.notImplemented ∧ Q (.bool (lexG ltK ns ms)) s from ⟨(fun x => nomatch x), h⟩⟩ hu
end
/-! ### items of keys: numbers, texts, tuples of such -/
def RD (h : Heap) : Value → Dt → Prop
  | u, .k x => keyIs x u = true
  | u, .t l => ∃ (a : Addr) (its : Array Value), u = .ref a ∧ IsTup h a its ∧ KeysAre its.toList l
/-- what may stand at a place: a number, a text, a tuple whose places are told -/
inductive Pt where
  | i | s
  | t (p : Nat → Bool)
def fitD : Pt → Dt → Prop
  | .i, .k x => isT x = false
  | .s, .k x => isT x = true
  | .t p, .t l => fitK p l
  | _, _ => False
def fits (p : Nat → Pt) (l : List Dt) : Prop := ∀ i d, l[i]? = some d → fitD (p i) d
theorem fits.tail {p : Nat → Pt} {x : Dt} {l : List Dt} (h : fits p (x :: l)) : fits (fun i => p (i + 1)) l := fun i y e => h (i + 1) y (by rw [List.getElem?_cons_succ]; exact e)
theorem fits.head {p : Nat → Pt} {x : Dt} {l : List Dt} (h : fits p (x :: l)) : fitD (p 0) x := h 0 x rfl
theorem keysAre_items {prog : Program} {w : World} : ∀ {vs : List Value} {ks : List Key}, KeysAre vs ks → ItemsAre (mixKind prog w) ks vs
  | _, _, .nil => .nil
  | _, _, .cons h r => .cons h (keysAre_items r)
section
variable {prog : Program} {w : World} {A : Around} {E : Value → Shared → Prop} {s : Shared}
theorem eqBool_D {u v : Value} {d e : Dt} {Q : Bool → Shared → Prop} (hu : A.units < cLine) (h1 : RD s.heap u d) (h2 : RD s.heap v e) {p : Pt} (f1 : fitD p d) (f2 : fitD p e) (h : Q (decide (d = e)) s) : wpAny (model prog w) A (eqBool u v) Q E s := by
  cases d with
  | k x =>
    cases e with
    | k y =>
      refine eqAt_key A s h1 h2 prog w E Q ?_
      rw [show decide (x = y) = decide (Dt.k x = Dt.k y) from by
        by_cases z : x = y
        · rw [z, decide_eq_true rfl, decide_eq_true rfl]
        · rw [decide_eq_false z, decide_eq_false fun q => z (by cases q; rfl)]]
      exact h
    | t m => cases p <;> first | exact f2.elim | exact f1.elim
  | t l =>
    cases e with
    | k y => cases p <;> first | exact f2.elim | exact f1.elim
    | t m =>
      obtain ⟨a, its, rfl, ⟨o, ho, hc, n, hd⟩, ka⟩ := h1
      obtain ⟨b, its2, rfl, ⟨o2, ho2, hc2, n2, hd2⟩, kb⟩ := h2
      refine wpAny_eqBool_tuple (knd := mixKind prog w) (x := l) (y := m) hu ⟨o, its, n, ho, hc, hd, keysAre_items ka⟩ ⟨o2, its2, n2, ho2, hc2, hd2, keysAre_items kb⟩ ?_
      rw [show decide (l = m) = decide (Dt.t l = Dt.t m) from by
        by_cases z : l = m
        · rw [z, decide_eq_true rfl, decide_eq_true rfl]
        · rw [decide_eq_false z, decide_eq_false fun q => z (by cases q; rfl)]]
      exact h
theorem lt_D {u v : Value} {d e : Dt} {Q : Bool → Shared → Prop} (hu : A.units < cLine) (h1 : RD s.heap u d) (h2 : RD s.heap v e) {p : Pt} (f1 : fitD p d) (f2 : fitD p e) (h : Q (ltD d e) s) : wpAny (model prog w) A (compareOp .Lt u v) (PySem.W.BoolBack Q) E s := by
  cases d with
  | k x =>
    cases e with
    | k y =>
      refine rcLt_key A s h1 h2 ?_ prog w E (PySem.W.BoolBack Q) h
      cases p with
      | i => exact (show isT x = false from f1).trans (show isT y = false from f2).symm
      | s => exact (show isT x = true from f1).trans (show isT y = true from f2).symm
      | t p => exact f1.elim
    | t m => cases p <;> first | exact f2.elim | exact f1.elim
  | t l =>
    cases e with
    | k y => cases p <;> first | exact f2.elim | exact f1.elim
    | t m =>
      obtain ⟨a, its, rfl, ta, ka⟩ := h1
      obtain ⟨b, its2, rfl, tb, kb⟩ := h2
      cases p with
      | i => exact f1.elim
      | s => exact f1.elim
      | t p => exact lt_tupKeys ta tb ka kb f1 f2 hu h
/-- the sort's own comparison of two first items -/
theorem oneLt_D (c : Bool) {u v : Value} {d e : Dt} {Q : Bool → Shared → Prop} (hu : A.units < cLine) (h1 : RD s.heap u d) (h2 : RD s.heap v e) {p : Pt} (f1 : fitD p d) (f2 : fitD p e) (hc : c = true → ∀ q, p ≠ .t q) (h : Q (ltD d e) s) : wpAny (model prog w) A (oneLt' c u v) Q E s := by
  cases c with
  | false => exact PySem.W.kat_one u v (lt_D hu h1 h2 f1 f2 h)
  | true =>
    cases p with
    | t q => exact absurd rfl (hc rfl q)
    | i =>
      cases d with
      | t l => exact f1.elim
      | k x =>
        cases e with
        | t m => exact f2.elim
        | k y =>
          cases x with
          | inr x => cases (show true = false from f1)
          | inl x =>
            cases y with
            | inr y => cases (show true = false from f2)
            | inl y =>
              rcases keyIs_shape (show keyIs _ _ = true from h1) with ⟨a, t, e1, rfl⟩ | ⟨_, _, e1, _⟩
              · cases e1
                rcases keyIs_shape (show keyIs _ _ = true from h2) with ⟨b, t2, e2, rfl⟩ | ⟨_, _, e2, _⟩
                · cases e2
                  exact oneLt_int h
                · cases e2
              · cases e1
    | s =>
      cases d with
      | t l => exact f1.elim
      | k x =>
        cases e with
        | t m => exact f2.elim
        | k y =>
          cases x with
          | inl x => cases (show false = true from f1)
          | inr x =>
            cases y with
            | inl y => cases (show false = true from f2)
            | inr y =>
              rcases keyIs_shape (show keyIs _ _ = true from h1) with ⟨_, _, e1, _⟩ | ⟨a, t, e1, rfl⟩
              · cases e1
              · cases e1
                rcases keyIs_shape (show keyIs _ _ = true from h2) with ⟨_, _, e2, _⟩ | ⟨b, t2, e2, rfl⟩
                · cases e2
                · cases e2
                  exact oneLt_str h
inductive DsAre (h : Heap) : List Value → List Dt → Prop
  | nil : DsAre h [] []
  | cons {v : Value} {d : Dt} {vs : List Value} {ds : List Dt} : RD h v d → DsAre h vs ds → DsAre h (v :: vs) (d :: ds)
theorem DsAre.length {h : Heap} {vs : List Value} {ks : List Dt} (x : DsAre h vs ks) : vs.length = ks.length := by
  induction x with
  | nil => rfl
  | cons _ _ ih => rw [List.length_cons, List.length_cons, ih]
/-- two tuples, item by item -/
theorem kat_D {b : Bool} {Q : Bool → Shared → Prop} (hu : A.units < cLine) {fin : Bool} : ∀ {xs ys : List Value} {ds es : List Dt} {p : Nat → Pt} {i : Nat}, DsAre s.heap xs ds → DsAre s.heap ys es → fits p ds → fits p es → (b = true → i = 0 → ∀ q, p 0 ≠ .t q) →
    (fin = decide (ds.length < es.length)) → Q (lexG ltD ds es) s → PySem.W.KatLex prog w A b fin Q (xs.zip ys) i s
  | [], ys, ds, es, p, i, h1, h2, _, _, _, hf, h => by
    cases h1
    rw [List.zip_nil_left]
    refine PySem.W.kat_nil ?_
    rw [hf]
    cases h2 with
    | nil => exact h
    | cons _ _ => exact h
  | x :: xs, [], ds, es, p, i, h1, h2, _, _, _, hf, h => by
    cases h2
    rw [List.zip_nil_right]
    refine PySem.W.kat_nil ?_
    rw [hf]
    cases h1 with
    | cons _ _ => exact h
  | x :: xs, y :: ys, ds, es, p, i, h1, h2, g1, g2, hc, hf, h => by
    cases h1 with
    | @cons _ d _ ds' hd r1 =>
      cases h2 with
      | @cons _ e _ es' he r2 =>
        rw [List.zip_cons_cons]
        refine PySem.W.kat_cons (eqBool_D hu hd he g1.head g2.head ?_)
        rw [lexG_cons] at h
        refine PySem.W.kat_go (fun e1 => ?_) (fun e1 => ?_)
        · rw [if_pos (of_decide_eq_true e1)] at h
          refine PySem.W.kat_yes (kat_D hu r1 r2 g1.tail g2.tail (fun _ z => by cases z) ?_ h)
          rw [hf, List.length_cons, List.length_cons]
          exact decide_eq_decide.mpr (by omega)
        · rw [if_neg (of_decide_eq_false e1)] at h
          refine PySem.W.kat_no (oneLt_D _ hu hd he g1.head g2.head (fun z => ?_) h)
          rw [Bool.and_eq_true] at z
          exact hc z.1 (by simpa using z.2)
end
end L2.Sr
set_option maxRecDepth 100000
set_option maxHeartbeats 4000000
namespace L2.Sr
open PySem PySem.Spec PyProof.Rows L2 Srt SrtO
/-! ### whole keys: a number, a text, a tuple of items -/
inductive KD where
  | a (x : Key)
  | l (ds : List Dt)
  deriving DecidableEq
def ltKD : KD → KD → Bool
  | .a x, .a y => ltK x y
  | .l d, .l e => lexG ltD d e
  | .a _, .l _ => true
  | .l _, .a _ => false
theorem lin_KD : Lin ltKD where
  irr := fun x => by
    cases x with
    | a x => exact lin_K.irr x
    | l d => exact (lin_lex lin_D).irr d
  tr := fun x y z h1 h2 => by
    cases x with
    | a x =>
      cases z with
      | l c => rfl
      | a c =>
        cases y with
        | l b => cases h2
        | a b => exact lin_K.tr x b c h1 h2
    | l x =>
      cases y with
      | a b => cases h1
      | l b =>
        cases z with
        | a c => cases h2
        | l c => exact (lin_lex lin_D).tr x b c h1 h2
  tot := fun x y h => by
    cases x with
    | a x =>
      cases y with
      | l b => exact .inl rfl
      | a b => exact lin_K.tot x b fun z => h (by rw [z])
    | l x =>
      cases y with
      | a b => exact .inr rfl
      | l b => exact (lin_lex lin_D).tot x b fun z => h (by rw [z])
/-- what all keys of a sort look like -/
inductive Shp where
  | a (t : Bool)
  | l (p : Nat → Pt)
def fitS : Shp → KD → Prop
  | .a t, .a x => isT x = t
  | .l p, .l ds => ds ≠ [] ∧ fits p ds
  | _, _ => False
def RV (h : Heap) : Value → KD → Prop
  | u, .a x => keyIs x u = true
  | u, .l ds => ∃ (a : Addr) (its : Array Value), u = .ref a ∧ IsTup h a its ∧ DsAre h its.toList ds
section
variable {prog : Program} {w : World} {A : Around} {E : Value → Shared → Prop} {s : Shared}
theorem ints_all : ∀ {vs : List Value} {k : Value → KD}, (∀ v ∈ vs, RV s.heap v (k v) ∧ fitS (.a false) (k v)) → ∃ ns, IntsAre vs ns
  | [], _, _ => ⟨[], .nil⟩
  | v :: vs, k, h => by
    obtain ⟨ns, r⟩ := ints_all (vs := vs) (k := k) fun u hu => h u (List.mem_cons_of_mem _ hu)
    obtain ⟨h1, h2⟩ := h v List.mem_cons_self
    cases e : k v with
    | l ds => rw [e] at h2; exact h2.elim
    | a x =>
      rw [e] at h1 h2
      rcases keyIs_shape (show keyIs x v = true from h1) with ⟨i, t, rfl, rfl⟩ | ⟨y, t, rfl, rfl⟩
      · exact ⟨i :: ns, .cons i t r⟩
      · cases (show true = false from h2)
theorem strs_all : ∀ {vs : List Value} {k : Value → KD}, (∀ v ∈ vs, RV s.heap v (k v) ∧ fitS (.a true) (k v)) → ∃ ns, StrsAre vs ns
  | [], _, _ => ⟨[], .nil⟩
  | v :: vs, k, h => by
    obtain ⟨ns, r⟩ := strs_all (vs := vs) (k := k) fun u hu => h u (List.mem_cons_of_mem _ hu)
    obtain ⟨h1, h2⟩ := h v List.mem_cons_self
    cases e : k v with
    | l ds => rw [e] at h2; exact h2.elim
    | a x =>
      rw [e] at h1 h2
      rcases keyIs_shape (show keyIs x v = true from h1) with ⟨i, t, rfl, rfl⟩ | ⟨y, t, rfl, rfl⟩
      · cases (show false = true from h2)
      · exact ⟨y :: ns, .cons y t r⟩
/-- the first items of tuples -/
theorem firsts_all : ∀ {vs : List Value} {k : Value → KD} {p : Nat → Pt}, (∀ v ∈ vs, RV s.heap v (k v) ∧ fitS (.l p) (k v)) → ∃ fs : List Value, PySem.W.KatTups s.heap vs fs ∧ fs.length = vs.length ∧ ∀ f ∈ fs, ∃ d, RD s.heap f d ∧ fitD (p 0) d
  | [], _, _, _ => ⟨[], PySem.W.KatTups.nil, rfl, fun f hf => by cases hf⟩
  | v :: vs, k, p, h => by
    obtain ⟨fs, r, hl, hi⟩ := firsts_all (vs := vs) (k := k) (p := p) fun u hu => h u (List.mem_cons_of_mem _ hu)
    obtain ⟨h1, h2⟩ := h v List.mem_cons_self
    cases e : k v with
    | a x => rw [e] at h2; exact h2.elim
    | l ds =>
      rw [e] at h1 h2
      obtain ⟨a, its, rfl, ⟨o, ho, hc, n, hd⟩, da⟩ := h1
      obtain ⟨ne, ft⟩ := h2
      cases hds : ds with
      | nil => exact absurd hds ne
      | cons d ds' =>
        rw [hds] at da ft
        obtain ⟨l0⟩ := its
        have da : DsAre s.heap l0 (d :: ds') := da
        cases da with
        | @cons f _ fr _ hf hr =>
          refine ⟨f :: fs, PySem.W.KatTups.cons ho hc hd rfl r, congrArg Nat.succ hl, fun g hg => ?_⟩
          rcases List.mem_cons.mp hg with z | z
          · rw [z]
            exact ⟨d, hf, ft.head⟩
          · exact hi g z
theorem looks_tup {f : Value} {d : Dt} {q : Nat → Bool} (h : RD s.heap f d) (g : fitD (.t q) d) : PySem.W.Looks (model prog w) s.heap (typeOf f) (Value.type "tuple") := by
  cases d with
  | k x => exact g.elim
  | t l =>
    obtain ⟨a, its, rfl, ⟨o, ho, hc, _⟩, _⟩ := h
    have z : PySem.W.Looks (model prog w) s.heap (typeOf (.ref a)) o.cls := (PySem.W.Looks.ld ho).andThen .now
    rw [hc] at z
    exact z
theorem looks_int {f : Value} {d : Dt} (h : RD s.heap f d) (g : fitD .i d) : PySem.W.Looks (model prog w) s.heap (typeOf f) (Value.type "int") := by
  cases d with
  | t l => exact g.elim
  | k x =>
    rcases keyIs_shape (show keyIs x f = true from h) with ⟨i, t, rfl, rfl⟩ | ⟨y, t, rfl, rfl⟩
    · exact PySem.W.Looks.now
    · cases (show true = false from g)
theorem looks_str {f : Value} {d : Dt} (h : RD s.heap f d) (g : fitD .s d) : PySem.W.Looks (model prog w) s.heap (typeOf f) (Value.type "str") := by
  cases d with
  | t l => exact g.elim
  | k x =>
    rcases keyIs_shape (show keyIs x f = true from h) with ⟨i, t, rfl, rfl⟩ | ⟨y, t, rfl, rfl⟩
    · cases (show false = true from g)
    · exact PySem.W.Looks.now
/-- such keys can be sorted -/
theorem sortable {vs : List Value} {k : Value → KD} {sh : Shp} (hu : A.units < cLine) (h2 : 2 ≤ vs.length) (hv : ∀ v ∈ vs, RV s.heap v (k v) ∧ fitS sh (k v)) :
    ∃ κ, (∀ (Q : SortKind → Shared → Prop) (E : Value → Shared → Prop), Q κ s → wpAny (model prog w) A (keyKind' vs.toArray) Q E s) ∧ Cmp prog w A s κ (fun p => p.1 ∈ vs) (lt2 fun v u => ltKD (k v) (k u)) := by
  obtain ⟨v1, v2, rest, ev⟩ : ∃ v1 v2 rest, vs = v1 :: v2 :: rest := by
    match vs, h2 with
    | v1 :: v2 :: rest, _ => exact ⟨v1, v2, rest, rfl⟩
  cases sh with
  | a t =>
    refine ⟨oneType', fun Q E hq => ?_, fun p q hp hq => ?_⟩
    · cases t with
      | false =>
        obtain ⟨ns, hI⟩ := ints_all hv
        rw [ev] at hI ⊢
        rw [keyKind_ints hI]
        exact wpAny_pure hq
      | true =>
        obtain ⟨ns, hI⟩ := strs_all hv
        rw [ev] at hI ⊢
        rw [keyKind_strs hI]
        exact wpAny_pure hq
    · obtain ⟨a1, a2⟩ := hv _ hp
      obtain ⟨b1, b2⟩ := hv _ hq
      show wpAny (model prog w) A (keyLt' oneType' p.1 q.1) (fun r s' => s' = s ∧ r = ltKD (k p.1) (k q.1)) (fun _ _ => False) s
      rw [keyLt'_oneType]
      cases e1 : k p.1 with
      | l ds => rw [e1] at a2; exact a2.elim
      | a x =>
        cases e2 : k q.1 with
        | l ds => rw [e2] at b2; exact b2.elim
        | a y =>
          rw [e1] at a1 a2
          rw [e2] at b1 b2
          have fx : fitD (if t = true then .s else .i) (.k x) := by
            cases t
            · exact a2
            · exact a2
          have fy : fitD (if t = true then .s else .i) (.k y) := by
            cases t
            · exact b2
            · exact b2
          exact oneLt_D true (d := .k x) (e := .k y) hu a1 b1 fx fy (fun _ q z => by cases t <;> cases z) ⟨rfl, rfl⟩
  | l p =>
    obtain ⟨fs, r, hl, hi⟩ := firsts_all hv
    refine ⟨tuples' (match p 0 with
      | .t _ => false
      | _ => true), fun Q E hq => ?_, fun x y hx hy => ?_⟩
    · cases e : p 0 with
      | i =>
        rw [e] at hi hq
        refine PySem.W.kat_kind (T := .type "int") r (by omega) (fun f hm => ?_) (by rfl) ?_
        · obtain ⟨d, d1, d2⟩ := hi f hm
          exact looks_int d1 d2
        · have z : (Value.type "int" != Value.type "tuple") = true := by first | decide +kernel | rfl | decide
          rw [z]
          exact hq
      | s =>
        rw [e] at hi hq
        refine PySem.W.kat_kind (T := .type "str") r (by omega) (fun f hm => ?_) (by rfl) ?_
        · obtain ⟨d, d1, d2⟩ := hi f hm
          exact looks_str d1 d2
        · have z : (Value.type "str" != Value.type "tuple") = true := by first | decide +kernel | rfl | decide
          rw [z]
          exact hq
      | t q =>
        rw [e] at hi hq
        refine PySem.W.kat_kind (T := .type "tuple") r (by omega) (fun f hm => ?_) (by rfl) ?_
        · obtain ⟨d, d1, d2⟩ := hi f hm
          exact looks_tup d1 d2
        · have z : (Value.type "tuple" != Value.type "tuple") = false := by first | rfl | decide | simp
          rw [z]
          exact hq
    · obtain ⟨a1, a2⟩ := hv _ hx
      obtain ⟨b1, b2⟩ := hv _ hy
      show wpAny (model prog w) A (keyLt' (tuples' _) x.1 y.1) (fun r s' => s' = s ∧ r = ltKD (k x.1) (k y.1)) (fun _ _ => False) s
      cases e1 : k x.1 with
      | a z => rw [e1] at a2; exact a2.elim
      | l ds =>
        cases e2 : k y.1 with
        | a z => rw [e2] at b2; exact b2.elim
        | l es =>
          rw [e1] at a1 a2
          rw [e2] at b1 b2
          obtain ⟨a, its, ea, ⟨o, ho, hc, n, hd⟩, da⟩ := a1
          obtain ⟨b, its2, eb, ⟨o2, ho2, hc2, n2, hd2⟩, db⟩ := b1
          rw [ea, eb]
          refine PySem.W.kat_lt ho hd ho2 hd2 (kat_D hu da db a2.2 b2.2 (fun z _ q e => ?_) ?_ ⟨rfl, rfl⟩)
          · rw [e] at z
            cases z
          · have l1 := da.length
            have l2 := db.length
            rw [Array.length_toList] at l1 l2
            rw [l1, l2]
end
/-! ### the same of tracked values -/
def DVl (K : PySem.W.Frag) (H : Hp) : V → Dt → Prop
  | v, .k x => v = kV x
  | v, .t l => ∃ a, v = .ref a ∧ SqT K H a (l.map kV)
inductive DVs (K : PySem.W.Frag) (H : Hp) : List V → List Dt → Prop
  | nil : DVs K H [] []
  | cons {v : V} {d : Dt} {vs : List V} {ds : List Dt} : DVl K H v d → DVs K H vs ds → DVs K H (v :: vs) (d :: ds)
/-- what a key says -/
def KDV (K : PySem.W.Frag) (H : Hp) : V → KD → Prop
  | v, .a x => v = kV x
  | v, .l ds => ∃ a us, v = .ref a ∧ SqT K H a us ∧ DVs K H us ds
theorem keyIs_of {k : Key} {u : Value} (r : RelV (kV k) u) : keyIs k u = true := by
  cases k with
  | inl i =>
    obtain ⟨t, rfl⟩ := r
    exact keyIs_int i t
  | inr x =>
    obtain ⟨t, rfl⟩ := r
    exact keyIs_str x t
theorem keysAre_of : ∀ {l : List Key} {us : List Value}, Vals (l.map kV) us → KeysAre us l
  | [], _, .nil => .nil
  | _ :: _, _, .cons h r => .cons (keyIs_of h) (keysAre_of r)
section
variable {X : Cx} {pins : List (Addr × Obj)} {σ : L2.St} {H : Hp} {s : Shared}
theorem rd_of (I : Inv X pins σ H s) {v : V} {d : Dt} {u : Value} (h : DVl X.K H v d) (r : RelV v u) : RD s.heap u d := by
  cases d with
  | k x =>
    have h : v = kV x := h
    rw [h] at r
    exact keyIs_of r
  | t l =>
    obtain ⟨a, rfl, hs⟩ := h
    obtain ⟨its, rv, it, _⟩ := I.tuple hs
    exact ⟨a, its.toArray, r, it, keysAre_of rv⟩
theorem dsAre_of (I : Inv X pins σ H s) : ∀ {vs : List V} {ds : List Dt} {us : List Value}, DVs X.K H vs ds → Vals vs us → DsAre s.heap us ds
  | _, _, _, .nil, .nil => .nil
  | _, _, _, .cons h t, .cons r q => .cons (rd_of I h r) (dsAre_of I t q)
theorem rv_of (I : Inv X pins σ H s) {v : V} {d : KD} {u : Value} (h : KDV X.K H v d) (r : RelV v u) : RV s.heap u d := by
  cases d with
  | a x =>
    have h : v = kV x := h
    rw [h] at r
    exact keyIs_of r
  | l ds =>
    obtain ⟨a, us, rfl, hs, hd⟩ := h
    obtain ⟨its, rv, it, _⟩ := I.tuple hs
    exact ⟨a, its.toArray, r, it, dsAre_of I hd rv⟩
end
/-- the V that a value is -/
def bk (u : Value) : V := (absV u).getD .non
theorem bk_of {v : V} {u : Value} (r : RelV v u) : bk u = v := by
  unfold bk
  rw [r.abs] <;> rfl
theorem bk_map : ∀ {vs : List V} {us : List Value}, Vals vs us → us.map bk = vs
  | _, _, .nil => rfl
  | _, _, .cons r t => by rw [List.map_cons, bk_of r, bk_map t]
theorem bk_vals : ∀ {us : List Value}, (∀ u ∈ us, ∃ v, RelV v u) → Vals (us.map bk) us
  | [], _ => .nil
  | u :: us, h => by
    obtain ⟨v, r⟩ := h u List.mem_cons_self
    rw [List.map_cons]
    refine .cons ?_ (bk_vals fun w hw => h w (List.mem_cons_of_mem _ hw))
    rw [bk_of r]
    exact r
theorem vals_mem : ∀ {vs : List V} {us : List Value}, Vals vs us → ∀ u ∈ us, ∃ v ∈ vs, RelV v u
  | _, _, .nil, u, hu => by cases hu
  | _, _, .cons r t, u, hu => by
    rcases List.mem_cons.mp hu with z | z
    · rw [z]
      exact ⟨_, List.mem_cons_self, r⟩
    · obtain ⟨v, hv, q⟩ := vals_mem t u z
      exact ⟨v, List.mem_cons_of_mem _ hv, q⟩
end L2.Sr
set_option maxRecDepth 100000
set_option maxHeartbeats 4000000
namespace L2.Sr
open PySem PySem.Spec PyProof.Rows L2 Srt SrtO
/-! ### collect of a list or tuple, with the heap told -/
section
variable {prog : Program} {w : World} {A : Around} {E : Value → Shared → Prop} {s : Shared}
abbrev chp (h : Heap) (vs : List Value) : Heap := (h.push (seqObj "list" #[] 0)).update h.objs.size (Obj.mapSeq (· ++ vs.toArray))
/-- a list or a tuple of these items -/
def IsSq (h : Heap) (l : Addr) (vs : List Value) : Prop := h.IsList l vs.toArray ∨ h.IsTuple l vs.toArray
theorem collect_tup {l : Addr} {vs : List Value} {Q : List Value → Shared → Prop} (ht : s.heap.IsTuple l vs.toArray) (h : Q vs { s with heap := chp s.heap vs }) (hz : vs.length ≤ sizeLine) :
    wpAny (model prog w) A (collect (.ref l)) Q E s := by
  obtain ⟨o, ho, hc, n, hd⟩ := id ht
  have new : (s.heap.push (seqObj "list" #[] 0)).get? s.heap.objs.size = some (seqObj "list" #[] 0) := Heap.get?_push_size _ rfl
  have old : (s.heap.push (seqObj "list" #[] 0)).get? l = some o := Heap.get?_push_of_some _ ho
  unfold collect
  refine wpAny_bind (wpAny_runValue (codeAny_builtin entry_proto_collect' ?_))
  show wpAny _ _ (newList [] >>= fun d => again (.builtin "list.__iadd__" ⟨[d, .ref l], []⟩)) _ _ s
  refine wpAny_bind (wpAny_newList (wpAny_pure ⟨Code.quiet_builtin _ (by decide +kernel), codeAny_builtin entry_list_iadd' ?_⟩))
  show wpAny _ _ (Builtin.List.listExtendWith (.ref s.heap.objs.size) (.ref l) (.ref s.heap.objs.size)) _ _ { s with heap := s.heap.push (seqObj "list" #[] 0) }
  unfold Builtin.List.listExtendWith
  refine wpAny_bind (wpAny_typeOf (T := "tuple") ⟨o, old, hc⟩ ?_)
  rw [if_pos (by
    have z : (Value.type "tuple" == Value.type "tuple") = true := by rfl
    rw [z]
    simp)]
  refine wpAny_bind (listItems_at old hd ?_)
  refine wpAny_bind (listItems_at new rfl ?_)
  rw [if_neg (by simp)]
  refine wpAny_bind (listUpdate_at new rfl ?_ (Nat.zero_le _) (by show (#[] ++ vs.toArray).size ≤ sizeLine + 1; simp only [Array.size_append, List.size_toArray, List.length_nil]; omega))
  refine wpAny_pure ?_
  show wpAny (model prog w) A (load s.heap.objs.size >>= fun o => match o.data with
    | .seq xs _ => pure xs.toList
    | _ => unsupported "internal:collect") Q E { s with heap := chp s.heap vs }
  refine wpAny_bind (wpAny_load (get?_update_seq new _) ?_)
  show wpAny _ _ (pure ((#[] : Array Value) ++ vs.toArray).toList) Q E _
  rw [show ((#[] : Array Value) ++ vs.toArray).toList = vs from by simp]
  exact wpAny_pure h
theorem collect_sq {l : Addr} {vs : List Value} {Q : List Value → Shared → Prop} (hs : IsSq s.heap l vs) (h : Q vs { s with heap := chp s.heap vs }) (hz : vs.length ≤ sizeLine) : wpAny (model prog w) A (collect (.ref l)) Q E s := by
  rcases hs with z | z
  · exact collect_list z h hz
  · exact collect_tup z h hz
abbrev cpy (h : Heap) (vs : List Value) : Heap := (chp h vs).push (seqObj "list" vs.toArray 0)
theorem chp_size (h : Heap) (vs : List Value) : (chp h vs).objs.size = h.objs.size + 1 := by
  rw [Heap.size_update, size_push']
theorem cpy_at (h : Heap) (vs : List Value) : (cpy h vs).get? (h.objs.size + 1) = some (seqObj "list" vs.toArray 0) := by
  rw [← chp_size h vs]
  exact Heap.get?_push_size _ rfl
theorem cpy_old (h : Heap) (vs : List Value) : ∀ b o, h.get? b = some o → b ≠ h.objs.size + 1 ∧ (cpy h vs).get? b = some o := fun b o q => by
  have hlt : b < h.objs.size := Heap.lt_size q
  refine ⟨Nat.ne_of_lt (Nat.lt_succ_of_lt hlt), Heap.get?_push_of_some _ ?_⟩
  rw [Heap.get?_update_ne _ _ _ _ (Nat.ne_of_lt hlt)]
  exact Heap.get?_push_of_some _ q
/-- sorted(x), x a list or a tuple -/
theorem sorted_sq {l : Addr} {vs : List Value} {ltv : Value → Value → Bool} {Q : Value → Shared → Prop} (O : Swo ltv) (hl : IsSq s.heap l vs) (hz : vs.length ≤ sizeLine)
    (hS : 2 ≤ vs.length → ∀ (h₁ : Heap) (a : Addr), h₁.get? a = some (seqObj "list" vs.toArray 0) → (∀ b o, s.heap.get? b = some o → b ≠ a ∧ h₁.get? b = some o) → SortableO prog w A.in1.in1 { s with heap := h₁ } a vs ltv)
    (h : ∀ out : List Value, Srtd ltv out → out.Perm vs → Q (.ref (s.heap.objs.size + 1)) { s with heap := sortedAll s.heap vs out.toArray }) :
    wpAny (model prog w) A (call (.builtin "sorted") [.ref l]) Q E s := by
  refine Calls.call_function_entry kind_sorted plain_sorted entry_sorted (args_sorted1 _) ?_
  unfold Builtin.«sorted»
  refine wpAny_bind (m := checkCount "sorted" 1 1 _) (wpAny_pure ?_)
  refine wpAny_bind (collect_sq hl ?_ hz)
  refine wpAny_bind (wpAny_newList ?_ hz)
  show wpAny _ _ _ _ _ { s with heap := cpy s.heap vs }
  rw [chp_size]
  refine wpAny_bind (wpAny_holding (wpAny_call_entry slot_list_sort ⟨_, cpy_at s.heap vs, rfl⟩ entry_list_sort (list_sort_ord O (cpy_at s.heap vs) hz (fun h2 => hS h2 _ _ (cpy_at s.heap vs) (cpy_old s.heap vs)) fun out hs hb => ⟨_, rfl, ?_⟩) (args_list_sort _)))
  exact wpAny_pure ⟨_, rfl, h out hs hb.perm⟩
end
section
variable {X : Cx} {pins : List (Addr × Obj)} {σ : L2.St} {H : Hp} {s : Shared}
theorem Inv.sq (I : Inv X pins σ H s) {a : Addr} {xs : List V} (h : SqL X.K H a xs ∨ SqT X.K H a xs) : ∃ its : List Value, Vals xs its ∧ IsSq s.heap a its ∧ xs.length ≤ sizeLine := by
  rcases h with z | z
  · obtain ⟨its, r, p, l⟩ := I.list z
    exact ⟨its, r, .inl p.isList, l⟩
  · obtain ⟨its, r, p, l⟩ := I.tuple z
    exact ⟨its, r, .inr p, l⟩
/-- sorted(x), x a list or a tuple of keys of one look -/
def rSortD (K : PySem.W.Frag) : List V → Hp → VK → Prop := fun vs H Q => ∃ (a : Addr) (xs : List V) (k : V → KD) (sh : Shp), vs = [.ref a] ∧ (SqL K H a xs ∨ SqT K H a xs) ∧ (∀ x ∈ xs, KDV K H x (k x) ∧ fitS sh (k x)) ∧
  ∀ (ys : List V) (p : Addr), Srtd (fun x y => ltKD (k x) (k y)) ys → ys.Perm xs → H p = none → Q (.ref p) (upd H p (.lst ys))
theorem RV.keeps {h h' : Heap} (kp : ∀ b o, h.get? b = some o → o.cls = .type "tuple" → h'.get? b = some o) {u : Value} {d : KD} (r : RV h u d) : RV h' u d := by
  have kd : ∀ {v : Value} {e : Dt}, RD h v e → RD h' v e := fun {v e} z => by
    cases e with
    | k x => exact z
    | t l =>
      obtain ⟨a, its, e1, ⟨o, ho, hc, r⟩, q⟩ := z
      exact ⟨a, its, e1, ⟨o, kp a o ho hc, hc, r⟩, q⟩
  have ks : ∀ {vs : List Value} {ds : List Dt}, DsAre h vs ds → DsAre h' vs ds := fun {vs ds} z => by
    induction z with
    | nil => exact .nil
    | cons a _ ih => exact .cons (kd a) ih
  cases d with
  | a x => exact r
  | l ds =>
    obtain ⟨a, its, e1, ⟨o, ho, hc, q⟩, z⟩ := r
    exact ⟨a, its, e1, ⟨o, kp a o ho hc, hc, q⟩, ks z⟩
theorem cr_sortD (hu : X.A.in1.in1.units < cLine) : CallR X (.builtin "sorted") (rSortD X.K) := by
  intro pins s σ H vs us Q I r h
  obtain ⟨a, xs, k, sh, rfl, hs, hk, q⟩ := h
  obtain ⟨its, rv, hl, hz⟩ := Inv.sq I hs
  rw [Vals.ref1 r]
  have hz' : its.length ≤ sizeLine := by rw [← rv.length]; exact hz
  have all : ∀ v ∈ its, RV s.heap v (k (bk v)) ∧ fitS sh (k (bk v)) := fun v hv => by
    obtain ⟨x, hx, rx⟩ := vals_mem rv v hv
    rw [bk_of rx]
    exact ⟨rv_of I (hk x hx).1 rx, (hk x hx).2⟩
  have O : Swo fun v u : Value => ltKD (k (bk v)) (k (bk u)) := ⟨fun x y => lin_KD.swo.asym _ _, fun x y z => lin_KD.swo.tr _ _ _⟩
  refine sorted_sq O hl hz' (fun h2 h₁ a' e' kk h' keep => ?_) fun out h1 h2 => ?_
  · refine sortable (sh := sh) hu h2 fun v hv => ⟨(all v hv).1.keeps fun b o e hc => keep b o (fun z => ?_) (kk b o e).2, (all v hv).2⟩
    exact (kk b o e).1 z
  · have ho : ∀ u ∈ out, ∃ v, RelV v u := fun u hu => by
      obtain ⟨v, _, r⟩ := vals_mem rv u (h2.subset hu)
      exact ⟨v, r⟩
    obtain ⟨ep, he'⟩ := sortedAll_at s.heap its out.toArray
    have e1 : (out.map bk).Perm xs := by
      have z := h2.map bk
      rw [bk_map rv] at z
      exact z
    have hlen : (out.map bk).length ≤ sizeLine := by
      rw [e1.length_eq]
      exact hz
    refine ⟨.ref _, upd H (s.heap.objs.size + 1) (.lst (out.map bk)), I.laid (t' := s.toks) (fun _ _ => sortedAll_old) (Nat.le_succ _) ⟨hlen, out, ep, bk_vals ho, he'⟩, rfl, q _ _ ?_ e1 (I.hok.fresh (Nat.le_succ _))⟩
    exact List.pairwise_map.mpr h1
end
end L2.Sr
set_option maxRecDepth 100000
set_option maxHeartbeats 4000000
namespace L2.Sr
open PySem PySem.Spec PyProof.Rows L2 Srt SrtO
/-! ### sorted(x, key=f) -/
section
variable {prog : Program} {w : World} {A : Around} {E : Value → Shared → Prop} {s : Shared}
theorem zip_len {keys : Array Value} {vs : List Value} (h : keys.size = vs.length) : (keys.zip vs.toArray).size = vs.length := by
  rw [Array.size_zip, h, List.size_toArray, Nat.min_self]
/-- behind the keys: the pairs are put in order -/
theorem key_end {a kS : Addr} {vs : List Value} {keys : Array Value} {e e1 : Nat} {P : PySem.Fin → Shared → Prop} {ltv : Value → Value → Bool} (O : Swo ltv)
    (nk : s.heap.get? kS = some (seqObj "list" keys e)) (na : s.heap.get? a = some (seqObj "list" #[] e1)) (hka : kS ≠ a) (hlen : keys.size = vs.length) (hz : vs.length ≤ sizeLine)
    (hS : 2 ≤ vs.length → ∃ κ, (∀ (Q : SortKind → Shared → Prop) (E : Value → Shared → Prop), Q κ s → wpAny (model prog w) A (keyKind' keys) Q E s) ∧ Cmp prog w A s κ (fun p => p.1 ∈ keys.toList) (lt2 ltv))
    (h : ∀ (ps : List Keyed) (h' : Heap), Srtd (lt2 ltv) ps → ps.Perm (keys.toList.zip vs) → (∀ b o, b ≠ kS → b ≠ a → s.heap.get? b = some o → h'.get? b = some o) → (∃ c, h'.get? a = some (seqObj "list" (ps.map (·.2)).toArray c)) → (∃ o, h'.get? kS = some o) → P (.done (.ret .none)) { s with heap := h' }) :
    wpAny (model prog w) A (ksk_end a false vs.toArray e1 (.ref kS) keys) P E s := by
  have zl := zip_len hlen
  have last : ∀ st : SortSt, failedOf st = none → Srtd (lt2 ltv) (arrOf st).toList → (arrOf st).toList.Perm (keys.toList.zip vs) → wpAny (model prog w) A (ksk_tail a false e1 (.ref kS) st) P E s := fun st hf hs hp => by
    have sz : (arrOf st).size = vs.length := by
      have z := hp.length_eq
      rw [Array.length_toList, List.length_zip, Array.length_toList, hlen, Nat.min_self] at z
      exact z
    have so : ((arrOf st).map (·.2)).size = vs.length := by rw [Array.size_map, sz]
    have b1 := Heap.SameBut.update s.heap kS (Obj.mapSeq fun _ => (#[] : Array Value))
    have a1 : (s.heap.update kS (Obj.mapSeq fun _ => (#[] : Array Value))).get? a = some (seqObj "list" #[] e1) := (b1.2 a (Ne.symm hka)).trans na
    obtain ⟨c1, k1⟩ : ∃ c, (s.heap.update kS (Obj.mapSeq fun _ => (#[] : Array Value))).get? kS = some (seqObj "list" #[] c) := ⟨_, get?_update_seq nk fun _ => #[]⟩
    have b2 := Heap.SameBut.update (s.heap.update kS (Obj.mapSeq fun _ => (#[] : Array Value))) a (Obj.mapSeq fun _ => (arrOf st).map (·.2))
    obtain ⟨c2, a2⟩ : ∃ c, ((s.heap.update kS (Obj.mapSeq fun _ => (#[] : Array Value))).update a (Obj.mapSeq fun _ => (arrOf st).map (·.2))).get? a = some (seqObj "list" ((arrOf st).map (·.2)) c) := ⟨_, get?_update_seq a1 fun _ => (arrOf st).map (·.2)⟩
    unfold ksk_tail
    try dsimp only
    refine wpAny_bind (listUpdate_at nk rfl ?_ (by rw [hlen]; exact hz) (Nat.zero_le _))
    refine wpAny_bind (wpAny_letGo ?_)
    refine wpAny_bind (seqEpoch_at a1 rfl ?_)
    refine wpAny_bind (listUpdate_at a1 rfl ?_ (Nat.zero_le _) (Nat.le_trans (Nat.le_of_eq so) (Nat.le_succ_of_le hz)))
    rw [hf]
    simp only [bne_self_eq_false, Bool.false_eq_true, if_false]
    refine wpAny_pure (h (arrOf st).toList _ hs hp (fun b o n1 n2 q => (b2.2 b n2).trans ((b1.2 b n1).trans q)) ⟨c2, ?_⟩ ⟨_, (b2.2 kS hka).trans k1⟩)
    rw [show ((arrOf st).toList.map fun p : Keyed => p.2).toArray = (arrOf st).map (·.2) from by
      apply Array.ext'
      rw [Array.toList_map]]
    exact a2
  unfold ksk_end
  try dsimp only
  show wpAny (model prog w) A (do
    let kind ← if vs.toArray.size < 2 then pure general' else keyKind' keys
    let ((), st) ← (if vs.toArray.size < 2 then pure () else sortRuns').run (SortSt.mk' kind (keys.zip vs.toArray) #[] 7 none)
    ksk_tail a false e1 (.ref kS) st) P E s
  have pz : (keys.zip vs.toArray).toList = keys.toList.zip vs := ksk_zip keys vs
  by_cases h2 : vs.toArray.size < 2
  · rw [if_pos h2, if_pos h2]
    refine wpAny_bind (wpAny_pure ?_)
    try dsimp only
    rw [StateT.run_pure]
    refine wpAny_bind (wpAny_pure ?_)
    try dsimp only
    refine last (SortSt.mk' general' (keys.zip vs.toArray) #[] 7 none) rfl ?_ ?_
    · show Srtd (lt2 ltv) (keys.zip vs.toArray).toList
      rw [List.size_toArray] at h2
      have l2 : (keys.zip vs.toArray).toList.length < 2 := by
        rw [Array.length_toList, zl]
        exact h2
      match (keys.zip vs.toArray).toList, l2 with
      | [], _ => exact List.Pairwise.nil
      | [x], _ => exact List.pairwise_singleton _ _
    · show (keys.zip vs.toArray).toList.Perm _
      rw [pz]
  · rw [if_neg h2, if_neg h2]
    rw [List.size_toArray] at h2
    obtain ⟨κ, hkind, hT⟩ := hS (by omega)
    refine wpAny_bind (hkind _ _ ?_)
    try dsimp only
    have hall : AllL (fun p : Keyed => p.1 ∈ keys.toList) (keys.zip vs.toArray).toList := fun p hm => by
      rw [pz] at hm
      obtain ⟨x, y⟩ := p
      exact (List.of_mem_zip hm).1
    refine wpAny_bind (wpAny_mono (wpS_sortO (st0 := SortSt.mk' κ (keys.zip vs.toArray) #[] 7 none)
      (Q := fun _ st' => Srtd (lt2 ltv) (arrOf st').toList ∧ (arrOf st').toList.Perm (keys.toList.zip vs) ∧ failedOf st' = none) (swo2 O) hT rfl hall rfl rfl fun st' z1 z2 z3 => ⟨z1, by rw [← pz]; exact z2.perm, z3⟩) ?_ fun _ _ e => e)
    rintro ⟨⟨⟩, st'⟩ s' ⟨rfl, q1, q2, q3⟩
    try dsimp only
    exact last st' q3 q1 q2
end
/-- f called with one value from within a built-in that the code calls -/
def KeyC (X : Cx) (f : Value) (kp : V → Hp → VK → Prop) : Prop := ∀ (pins : List (Addr × Obj)) (s : Shared) (σ : L2.St) (H : Hp) (v : V) (u : Value) (Q : VK), Inv X pins σ H s → RelV v u → kp v H Q →
  wpAny (model X.prog X.w) X.A.in1.in1 (call f [u]) (EP X pins σ Q) (fun _ _ => False) s
/-- the keys of all items, one after another -/
def tKeys (kp : V → Hp → VK → Prop) : List V → Hp → (List V → Hp → Prop) → Prop
  | [], H, Q => Q [] H
  | v :: vs, H, Q => kp v H fun k H1 => tKeys kp vs H1 fun ks H2 => Q (k :: ks) H2
/-- sorted(x, key=f) -/
def rSortK (K : PySem.W.Frag) (kp : Addr → V → Hp → VK → Prop) : List V → List V → Hp → VK → Prop := fun vs zs H Q => ∃ (a fa : Addr) (xs : List V), vs = [.ref a] ∧ zs = [.ref fa] ∧ (SqL K H a xs ∨ SqT K H a xs) ∧
  tKeys (kp fa) xs H fun ks H1 => ∃ (k : V → KD) (sh : Shp), (∀ x ∈ ks, KDV K H1 x (k x) ∧ fitS sh (k x)) ∧
    ∀ (ps : List (V × V)) (p : Addr), Srtd (fun x y => ltKD (k x.1) (k y.1)) ps → ps.Perm (ks.zip xs) → H1 p = none → Q (.ref p) (upd H1 p (.lst (ps.map Prod.snd)))
section
variable {X : Cx} {pins : List (Addr × Obj)} {σ : L2.St} {H : Hp} {s : Shared}
theorem pins_drop {more : List (Addr × Obj)} (I : Inv X (pins ++ more) σ H s) : Inv X pins σ H s := I.pins_of fun p hp => I.pin p (List.mem_append_right _ (List.mem_append_left _ hp))
/-- an object of ours that nobody tracks is changed -/
theorem repin {kS a : Addr} {oa ok o' : Obj} {h' : Heap} {tk : Nat} (I : Inv X (pins ++ [(a, oa), (kS, ok)]) σ H s) (hka : kS ≠ a) (h0 : X.s_0.heap.objs.size ≤ kS) (hc : ∀ x c, X.env.cells.lookup x = some c → c ≠ kS) (hp : ∀ p ∈ X.pn ++ pins, p.1 ≠ kS)
    (sb : Heap.SameBut kS s.heap h') (hk : h'.get? kS = some o') (hd : ∀ v, o'.data ≠ .cell v) : Inv X (pins ++ [(a, oa), (kS, o')]) σ H { s with heap := h', toks := tk } := by
  have pa := I.pin (a, oa) (List.mem_append_right _ (List.mem_append_right _ List.mem_cons_self))
  have pk := I.pin (kS, ok) (List.mem_append_right _ (List.mem_append_right _ (List.mem_cons_of_mem _ List.mem_cons_self)))
  have J : Inv X (pins ++ [(a, oa)]) σ H s := I.pins_of fun p hp => I.pin p (List.mem_append_right _ (by
    rcases List.mem_append.mp hp with z | z
    · exact List.mem_append_left _ z
    · exact List.mem_append_right _ (by rw [List.mem_singleton.mp z]; exact List.mem_cons_self)))
  have J2 : Inv X (pins ++ [(a, oa)]) σ H { s with heap := h', toks := tk } := J.turned (fun b o hb e => (sb.2 b hb).trans e) pk.2.1 pk.2.2.1 (.inr h0) hc fun p hp' => by
    rcases List.mem_append.mp hp' with z | z
    · exact hp p (List.mem_append_left _ z)
    · rcases List.mem_append.mp z with z | z
      · exact hp p (List.mem_append_right _ z)
      · rw [List.mem_singleton.mp z]
        exact Ne.symm hka
  refine J2.pins_of fun p hp' => ?_
  rcases List.mem_append.mp hp' with z | z
  · exact J2.pin p (List.mem_append_right _ (List.mem_append_left _ z))
  · rcases List.mem_cons.mp z with z | z
    · rw [z]
      exact J2.pin (a, oa) (List.mem_append_right _ (List.mem_append_right _ List.mem_cons_self))
    · rw [List.mem_singleton.mp z]
      exact ⟨hk, pk.2.1, pk.2.2.1, pk.2.2.2.1, hd⟩
end
end L2.Sr
set_option maxRecDepth 100000
set_option maxHeartbeats 4000000
namespace L2.Sr
open PySem PySem.Spec PyProof.Rows L2 Srt SrtO
section
variable {X : Cx} {pins : List (Addr × Obj)} {σ : L2.St} {H : Hp} {s : Shared}
/-- two objects of ours, not tracked so far: one is a list that is told from now on -/
theorem laid_two {D kS : Addr} {xs : List V} {h' : Heap} (I : Inv X pins σ H s) (hD : H D = none) (hK : H kS = none) (hch : ∀ b, b = D ∨ b = kS → X.s_0.heap.objs.size ≤ b ∧ b ≠ X.env.locals ∧ (∀ x c, X.env.cells.lookup x = some c → c ≠ b) ∧ ∀ p ∈ X.pn ++ pins, p.1 ≠ b)
    (k : ∀ b o, b ≠ kS → b ≠ D → s.heap.get? b = some o → h'.get? b = some o) (there : ∀ b, b = D ∨ b = kS → ∃ o, h'.get? b = some o) (new : ObjOk X.prog X.w (upd H D (.lst xs)) h' D (.lst xs)) : Inv X pins σ (upd H D (.lst xs)) { s with heap := h' } := by
  have nD : ∀ {b u}, H b = some u → b ≠ D := fun {b u} e z => by rw [z, hD] at e; cases e
  have nK : ∀ {b u}, H b = some u → b ≠ kS := fun {b u} e z => by rw [z, hK] at e; cases e
  have out : ∀ {b : Addr}, b ∉ [D, kS] → b ≠ kS ∧ b ≠ D := fun {b} hb => ⟨fun z => hb (by rw [z]; simp), fun z => hb (by rw [z]; simp)⟩
  refine I.step (g' := s.gens) (d' := s.drawn) (t' := s.toks) (ch := [D, kS]) (fun b hb => ?_) (fun b o _ _ hc e _ => k b o (out hc).1 (out hc).2 e) (fun b o _ _ hc e _ => ⟨o.slots, k b o (out hc).1 (out hc).2 e⟩)
    (fun b o hc _ n => ?_) (fun b o hc e => ⟨o, k b o (out hc).1 (out hc).2 e⟩) (fun b xs e => ?_) (fun b o u e => ?_) (fun b ps e => ⟨#[], ?_⟩) (fun m hm => ?_) (fun b u e => ?_) I.bare
  · obtain ⟨h1, h2, h3, h4⟩ := hch b (by simpa using hb)
    exact ⟨.inr h1, h2, h3, h4⟩
  · exact (upd_ne (out hc).2).trans n
  · exact (upd_ne (nD e)).trans e
  · exact (upd_ne (nD e)).trans e
  · rw [upd_ne (nD e), e]
    simp
  · obtain ⟨o, es, ep, ho, r⟩ := hm
    have l1 := (hch D (.inl rfl)).2.1
    have l2 := (hch kS (.inr rfl)).2.1
    exact ⟨o, es, ep, k _ o (Ne.symm l2) (Ne.symm l1) ho, r⟩
  · by_cases hb : b = D
    · subst hb
      rw [upd_same] at e
      cases e
      exact new
    · rw [upd_ne hb] at e
      refine (I.hok b u e).stay (fun c v hc q => ?_) (fun c q => (upd_ne (nD q)).trans q) fun c ys q => (upd_ne (nD q)).trans q
      rcases hc with z | z
      · subst z
        exact k c v (nK e) hb q
      · exact k c v (nK z) (nD z) q
theorem drop_get {α : Type} {l : List α} {j : Nat} {x : α} (h : l[j]? = some x) : l.drop j = x :: l.drop (j + 1) := by
  obtain ⟨hj, e⟩ := List.getElem?_eq_some_iff.mp h
  rw [← e]
  exact List.drop_eq_getElem_cons hj
theorem vals_snoc : ∀ {vs : List V} {us : List Value} {v : V} {u : Value}, Vals vs us → RelV v u → Vals (vs ++ [v]) (us ++ [u])
  | _, _, _, _, .nil, r => .cons r .nil
  | _, _, _, _, .cons a t, r => .cons a (vals_snoc t r)
/-- sorted(x, key=f) -/
theorem cr_sortK {kp : Addr → V → Hp → VK → Prop} (hk : ∀ fa, KeyC X (.ref fa) (kp fa)) (hu : X.A.in1.in1.units < cLine) : CallRK X (.builtin "sorted") [Str.ofString "key"] (rSortK X.K kp) := by
  intro pins s σ H vs zs us ws Q I r rz h
  obtain ⟨a, fa, xs, rfl, rfl, hs, hq⟩ := h
  obtain ⟨its, rv, hl, hz⟩ := Inv.sq I hs
  rw [Vals.ref1 r, Vals.ref1 rz]
  have hz' : its.length ≤ sizeLine := by rw [← rv.length]; exact hz
  show wpAny (model X.prog X.w) X.A (call (.builtin "sorted") [.ref a] [(Str.ofString "key", .ref fa)]) (EP X pins σ Q) X.xe s
  refine call_function_entry_kw kind_sorted plain_sorted entry_sorted (ksk_s1 _ _) ?_
  unfold Builtin.«sorted»
  refine wpAny_bind (m := checkCount "sorted" 1 1 _) (wpAny_pure ?_)
  refine wpAny_bind (collect_sq hl ?_ hz')
  refine wpAny_bind (wpAny_newList ?_ hz')
  show wpAny _ _ _ _ _ { s with heap := cpy s.heap its }
  rw [chp_size]
  refine wpAny_bind (wpAny_holding (wpAny_call_entry_kw slot_list_sort ⟨_, cpy_at s.heap its, rfl⟩ entry_list_sort ?body (ksk_l1 _ _)))
  show wpAny (model X.prog X.w) X.A.in1.in1 (Builtin.«list.sort» ⟨[.ref (s.heap.objs.size + 1)], [(Str.ofString "key", .ref fa)]⟩) _ _ _
  rw [ksk_t1]
  have ho := cpy_at s.heap its
  obtain ⟨e1, ho1⟩ : ∃ e1, ((cpy s.heap its).update (s.heap.objs.size + 1) (Obj.mapSeq fun _ => (#[] : Array Value))).get? (s.heap.objs.size + 1) = some (seqObj "list" #[] e1) := ⟨_, get?_update_seq ho fun _ => #[]⟩
  have sz1 : ((cpy s.heap its).update (s.heap.objs.size + 1) (Obj.mapSeq fun _ => (#[] : Array Value))).objs.size = s.heap.objs.size + 2 := by
    rw [Heap.size_update, size_push', chp_size]
  have sz2 : (((cpy s.heap its).update (s.heap.objs.size + 1) (Obj.mapSeq fun _ => (#[] : Array Value))).push (seqObj "tuple" its.toArray 0)).objs.size = s.heap.objs.size + 3 := by
    rw [size_push', sz1]
  unfold ksk_tree
  refine wpAny_bind (listItems_at ho rfl ?_)
  refine wpAny_bind (listUpdate_at ho rfl ?_ (by rw [List.size_toArray]; exact hz') (Nat.zero_le _))
  refine wpAny_bind (seqEpoch_at ho1 rfl ?_)
  refine wpAny_bind (wpAny_newTuple ?_ (by show its.length ≤ _; exact hz'))
  refine wpAny_bind (wpAny_newList ?_ (Nat.zero_le _))
  refine wpAny_holding ?_
  generalize hh3 : (((cpy s.heap its).update (s.heap.objs.size + 1) (Obj.mapSeq fun _ => (#[] : Array Value))).push (seqObj "tuple" its.toArray 0)).push (seqObj "list" #[] 0) = h3
  have eK : (((cpy s.heap its).update (s.heap.objs.size + 1) (Obj.mapSeq fun _ => (#[] : Array Value))).push (seqObj "tuple" its.toArray 0)).objs.size = s.heap.objs.size + 3 := sz2
  have hD3 : h3.get? (s.heap.objs.size + 1) = some (seqObj "list" #[] e1) := by
    rw [← hh3]
    exact Heap.get?_push_of_some _ (Heap.get?_push_of_some _ ho1)
  have hK3 : h3.get? (s.heap.objs.size + 3) = some (seqObj "list" #[] 0) := by
    rw [← hh3, ← sz2]
    exact Heap.get?_push_size _ rfl
  have old3 : ∀ b o, s.heap.get? b = some o → h3.get? b = some o := fun b o q => by
    have z := cpy_old s.heap its b o q
    rw [← hh3]
    refine Heap.get?_push_of_some _ (Heap.get?_push_of_some _ ?_)
    rw [Heap.get?_update_ne _ _ _ _ z.1]
    exact z.2
  show wpAny (model X.prog X.w) X.A.in1.in1 (ksk_rest (s.heap.objs.size + 1) (.ref fa) false its.toArray e1 (.ref (((cpy s.heap its).update (s.heap.objs.size + 1) (Obj.mapSeq fun _ => (#[] : Array Value))).push (seqObj "tuple" its.toArray 0)).objs.size)) _ _ { s with heap := h3 }
  rw [sz2]
  generalize hDn : s.heap.objs.size + 1 = D at hD3 ⊢
  generalize hKn : s.heap.objs.size + 3 = kS at hK3 ⊢
  have hKD : kS ≠ D := by omega
  have geD : s.heap.objs.size ≤ D := by omega
  have geK : s.heap.objs.size ≤ kS := by omega
  -- both are ours
  have ours : ∀ b, b = D ∨ b = kS → X.s_0.heap.objs.size ≤ b ∧ b ≠ X.env.locals ∧ (∀ x c, X.env.cells.lookup x = some c → c ≠ b) ∧ ∀ p ∈ X.pn ++ pins, p.1 ≠ b := fun b hb => by
    have ge : s.heap.objs.size ≤ b := by rcases hb with z | z <;> omega
    have no : ∀ c : Addr, c < s.heap.objs.size → c ≠ b := fun c lt z => Nat.lt_irrefl _ (Nat.lt_of_lt_of_le (by rw [z] at lt; exact lt) ge)
    refine ⟨Nat.le_trans I.sz ge, fun z => no _ I.lt z.symm, fun x c e => ?_, fun p hp => no _ (Heap.lt_size (I.pin p hp).1)⟩
    obtain ⟨v, o, hc, _⟩ := I.cell x c e
    exact no _ (Heap.lt_size hc)
  have I0 : Inv X (pins ++ [(D, seqObj "list" #[] e1), (kS, seqObj "list" #[] 0)]) σ H { s with heap := h3 } := (I.kept (t' := s.toks) old3).pins_of fun p hp => by
    rcases List.mem_append.mp hp with z | z
    · exact (I.kept (t' := s.toks) old3).pin p (List.mem_append_right _ z)
    · rcases List.mem_cons.mp z with z | z
      · rw [z]
        exact ⟨hD3, I.hok.fresh geD, (ours D (.inl rfl)).2.1, I.nofs geD, fun v z => by cases z⟩
      · rw [List.mem_singleton.mp z]
        exact ⟨hK3, I.hok.fresh geK, (ours kS (.inr rfl)).2.1, I.nofs geK, fun v z => by cases z⟩
  unfold ksk_rest
  refine wpAny_bind (wpAny_rule ?_)
  first
    | rw [List.forIn_toArray]
    | (rw [← Array.forIn_toList]; simp only [List.toList_toArray])
    | rw [← Array.forIn_toList]
  refine wpAny_bind (ksk_fold (fun i s' => ∃ (H' : Hp) (kA : Array Value) (e : Nat) (ks0 : List V), Inv X (pins ++ [(D, seqObj "list" #[] e1), (kS, seqObj "list" kA e)]) σ H' s' ∧ Vals ks0 kA.toList ∧ ks0.length = i ∧
    tKeys (kp fa) (xs.drop i) H' fun ks H1 => ∃ (k : V → KD) (sh : Shp), (∀ x ∈ ks0 ++ ks, KDV X.K H1 x (k x) ∧ fitS sh (k x)) ∧ ∀ (ps : List (V × V)) (p : Addr), Srtd (fun x y => ltKD (k x.1) (k y.1)) ps → ps.Perm ((ks0 ++ ks).zip xs) → H1 p = none → Q (.ref p) (upd H1 p (.lst (ps.map Prod.snd)))) its 0 _
    ⟨H, #[], 0, [], I0, .nil, rfl, hq⟩ ?step ?done)
  case step =>
    rintro j x s' hx ⟨H', kA, e, ks0, J, vk, lk, tk⟩
    simp only [Nat.zero_add] at lk tk ⊢
    have hj : j < its.length := (List.getElem?_eq_some_iff.mp hx).1
    have lx : xs.length = its.length := rv.length
    obtain ⟨v, hv⟩ : ∃ v, xs[j]? = some v := ⟨_, List.getElem?_eq_getElem (by omega)⟩
    obtain ⟨u, hu', rvu⟩ := rv.get hv
    rw [hx] at hu'
    cases hu'
    rw [drop_get hv] at tk
    have kz : kA.size ≤ sizeLine := by
      have z : ks0.length = kA.size := vk.length.trans Array.length_toList
      omega
    refine wpAny_bind (wpAny_attempt (wpAny_mono (hk fa _ s' σ H' v x _ J rvu tk) (fun w s'' he => ?_) fun _ _ hF => hF.elim))
    obtain ⟨kv, H1, J1, rk, tk1⟩ := he
    try dsimp only
    have nk := (J1.pin (kS, seqObj "list" kA e) (List.mem_append_right _ (List.mem_append_right _ (List.mem_cons_of_mem _ List.mem_cons_self)))).1
    have sb := Heap.SameBut.update s''.heap kS (Obj.mapSeq (·.push w))
    obtain ⟨c2, hc2⟩ : ∃ c2, (s''.heap.update kS (Obj.mapSeq (·.push w))).get? kS = some (seqObj "list" (kA.push w) c2) := ⟨_, get?_update_seq nk (·.push w)⟩
    have kz2 : kA.size < its.length := by
      have z : ks0.length = kA.size := vk.length.trans Array.length_toList
      omega
    refine wpAny_bind (listUpdate_at nk rfl ?_ kz (Nat.le_trans (Nat.le_of_eq (Array.size_push ..)) (Nat.succ_le_succ kz)))
    refine wpAny_pure ⟨rfl, H1, kA.push w, c2, ks0 ++ [kv], ?_, ?_, ?_, ?_⟩
    · obtain ⟨g1, g2, g3, g4⟩ := ours kS (.inr rfl)
      exact repin (tk := s''.toks) J1 hKD g1 g3 g4 sb hc2 fun v z => by cases z
    · rw [Array.toList_push]
      exact vals_snoc vk rk
    · rw [List.length_append, lk]
      rfl
    · have e : ∀ ks : List V, ks0 ++ [kv] ++ ks = ks0 ++ kv :: ks := fun ks => by rw [List.append_assoc]; rfl
      simp only [e]
      exact tk1
  case done =>
    rintro s' ⟨H', kA, e, ks0, J, vk, lk, tk⟩
    simp only [Nat.zero_add] at lk tk
    have lx : xs.length = its.length := rv.length
    rw [List.drop_of_length_le (by omega)] at tk
    obtain ⟨k, sh, hk', q⟩ := tk
    rw [List.append_nil] at hk' q
    have nD := J.pin (D, seqObj "list" #[] e1) (List.mem_append_right _ (List.mem_append_right _ List.mem_cons_self))
    have nk := J.pin (kS, seqObj "list" kA e) (List.mem_append_right _ (List.mem_append_right _ (List.mem_cons_of_mem _ List.mem_cons_self)))
    try dsimp only
    refine wpAny_bind (listItems_at nk.1 rfl ?_)
    have ks : kA.size = its.length := by
      have z : ks0.length = kA.size := vk.length.trans Array.length_toList
      omega
    have all : ∀ v ∈ kA.toList, RV s'.heap v (k (bk v)) ∧ fitS sh (k (bk v)) := fun v hv => by
      obtain ⟨x, hx, rx⟩ := vals_mem vk v hv
      rw [bk_of rx]
      exact ⟨rv_of J (hk' x hx).1 rx, (hk' x hx).2⟩
    have O : Swo fun v u : Value => ltKD (k (bk v)) (k (bk u)) := ⟨fun x y => lin_KD.swo.asym _ _, fun x y z => lin_KD.swo.tr _ _ _⟩
    refine key_end (ltv := fun v u => ltKD (k (bk v)) (k (bk u))) O nk.1 nD.1 hKD ks hz' (fun h2 => ?_) fun ps h' p1 p2 p3 p4 p5 => ⟨_, rfl, ?_⟩
    · have z := sortable (A := X.A.in1.in1) (prog := X.prog) (w := X.w) (s := s') (vs := kA.toList) (k := fun v => k (bk v)) (sh := sh) hu (by rw [Array.length_toList, ks]; exact h2) all
      rw [Array.toArray_toList] at z
      exact z
    · have lsz : (ps.map fun p : Keyed => p.2).length ≤ sizeLine := by
        rw [List.length_map, p2.length_eq, List.length_zip, Array.length_toList]
        omega
      have hmem : ∀ p ∈ ps, (∃ v, RelV v p.1) ∧ ∃ v, RelV v p.2 := fun p hp => by
        obtain ⟨x, y⟩ := p
        have z := List.of_mem_zip (p2.subset hp)
        obtain ⟨v1, _, r1⟩ := vals_mem vk x z.1
        obtain ⟨v2, _, r2⟩ := vals_mem rv y z.2
        exact ⟨⟨v1, r1⟩, ⟨v2, r2⟩⟩
      have vo : Vals ((ps.map fun p : Keyed => p.2).map bk) (ps.map fun p : Keyed => p.2) := bk_vals fun u hu => by
        obtain ⟨p, hp, rfl⟩ := List.mem_map.mp hu
        exact (hmem p hp).2
      obtain ⟨c, hc⟩ := p4
      have em : (ps.map fun p : Keyed => (bk p.1, bk p.2)).map Prod.snd = (ps.map fun p : Keyed => p.2).map bk := by
        rw [List.map_map, List.map_map]
        rfl
      have pm : (ps.map fun p : Keyed => (bk p.1, bk p.2)).Perm (ks0.zip xs) := by
        have z := p2.map fun p : Keyed => (bk p.1, bk p.2)
        rw [show (kA.toList.zip its).map (fun p : Keyed => (bk p.1, bk p.2)) = ks0.zip xs from by
          rw [← bk_map vk, ← bk_map rv, List.zip_map]
          rfl] at z
        exact z
      refine wpAny_pure ⟨_, rfl, ?_⟩
      refine ⟨.ref D, upd H' D (.lst ((ps.map fun p : Keyed => (bk p.1, bk p.2)).map Prod.snd)), laid_two (kS := kS) (pins_drop J) nD.2.1 nk.2.1 ours p3 (fun b hb => ?_) ⟨?_, _, c, ?_, hc⟩, rfl, q _ D ?_ pm nD.2.1⟩
      · rcases hb with rfl | rfl
        · exact ⟨_, hc⟩
        · exact p5
      · rw [em, List.length_map]
        exact lsz
      · rw [em]
        exact vo
      · exact List.pairwise_map.mpr p1
end
end L2.Sr
set_option maxRecDepth 100000
set_option maxHeartbeats 4000000
namespace L2.Mb
open PySem PySem.Spec PyProof.Rows Mx
section
variable {P : Program} {w : World} {K : W.Frag} {mg mb : Str → Option Value} {CX : CXT} {k : Nat} {fa a : Addr} {fd : FuncData} {x : Str} {sp : Sp} {s1 : Shared} {vs : List Value} {ns : List Int}
/-- what the law's call leaves -/
abbrev LawEnd (s1 : Shared) : Result → Shared → Prop := fun r s' => r = .ok (.ret (.bool true)) ∧ OldK s1.heap s'.heap ∧ s'.os = s1.os ∧ AllBare s'.gens
theorem lawG_core {H : Hp} {V0 : Array Value} (KX : K.In s1.heap) (hns : s1.heap.Ns mainGlobals mg) (hb : s1.heap.Ns builtinsNs mb) (hbb : ∀ x : Str, x ≠ "__name__" → mb x = bootBuiltins x) (hlim : s1.heap.NoLimit) (hg : s1.gens = #[])
    (hr : Room k callerA) (F : ∀ base : Heap, K.In base → base.Ns mainGlobals mg → FnG P w K mg base CX k fa fd [x] sp) (hbind : ∀ (s : Shared) (u : Value), BindsTo s fd ⟨[u], []⟩ [(x, u)])
    (ha : s1.heap.get? a = some { cls := .type "list", data := .seq V0 }) (hO : Only H) (hok : HOk P w H s1.heap) (hA : ∀ c, c ≠ a → H c = none) (hK : H a ≠ none → K.lookup a = none)
    (hsp : sp [.ref a] H (fun v _ => v = .bl true) fun _ _ _ => False) (hCX : ∀ e s', CX [] H s1 (fun _ _ _ => False) e s' → False) :
    codeAny (model P w) callerA (.call (.ref fa) ⟨[.ref a], []⟩) (LawEnd s1) s1 := by
  have keepD : ∀ {c : Addr} {o : Obj} {es : Array DictEntry} {ep : Nat}, s1.heap.get? c = some o → o.data = .dict es ep → H c = none := fun {c o es ep} e d => by
    by_cases q : c = a
    · rw [q, ha] at e
      cases e
      cases d
    · exact hA c q
  have nsH : ∀ {c : Addr} {m : Str → Option Value}, s1.heap.Ns c m → (hidT s1.heap H).Ns c m := fun {c m} z => by
    obtain ⟨o, es, ep, e, d, r⟩ := z
    exact ⟨o, es, ep, hidT_get e (keepD e d), d, r⟩
  have KH : K.In (hidT s1.heap H) := fun c o e => by
    refine hidT_get (KX c o e) ?_
    by_cases q : c = a
    · cases z : H c with
      | none => rfl
      | some u =>
        have y := hK (by rw [← q, z]; exact fun t => nomatch t)
        rw [q, y] at e
        cases e
    · exact hA c q
  obtain ⟨mc, l1, l2⟩ := hlim
  have M : Mod K mg (hidT s1.heap H) := { kin := KH, glob := nsH hns, blt := ⟨mb, nsH hb, hbb⟩, nolimit := ⟨mc, nsH l1, l2⟩ }
  have e0 : Env0 P w K mg (hidT s1.heap H) callerA [] s1 H := ⟨rfl, M, fun c o e => of_hidT e, Nat.le_of_eq (hidT_size _ _), trivial, (fun c hc => absurd (show c ∈ ([] : List Addr) from hc) (by simp)), hok, .of_eq hg⟩
  have run := (F _ KH (nsH hns)).run callerA [] s1 H ⟨[.ref a], []⟩ [.ref a] [.ref a] _ _ rfl hr e0 (hbind s1 (.ref a)) (.cons rfl .nil) hsp
  refine codeAny_mono run fun r s' h => ?_
  cases r with
  | error e => exact ((hCX e s' h).elim)
  | ok fl =>
    cases fl with
    | next => exact (False.elim h)
    | brk => exact (False.elim h)
    | cont => exact (False.elim h)
    | ret u =>
      obtain ⟨v, H', os, bare, un, hok', rv, q⟩ := h
      have q' : v = .bl true := q
      subst q'
      obtain rfl : u = Value.bool true := rv
      refine ⟨rfl, OldK.of_keep fun c o e => ?_, os, bare⟩
      cases z : H c with
      | none => exact un.keep c o e z (fun y => absurd (show c ∈ ([] : List Addr) from y) (by simp)) (by simp)
      | some u =>
        rcases hO c with y | ⟨ob, xs, y⟩
        · rw [z] at y
          cases y
        · obtain ⟨e1, _⟩ := hok c _ y
          obtain ⟨e2, _⟩ := hok' c _ (un.frzs c ob _ y)
          rw [e] at e1
          cases e1
          exact e2
theorem lawG_call (KX : K.In s1.heap) (hns : s1.heap.Ns mainGlobals mg) (hb : s1.heap.Ns builtinsNs mb) (hbb : ∀ x : Str, x ≠ "__name__" → mb x = bootBuiltins x) (hlim : s1.heap.NoLimit) (hg : s1.gens = #[])
    (ha : s1.heap.get? a = some { cls := .type "list", data := .seq vs.toArray }) (hi : IntsAre vs ns) (hl : ns.length ≤ sizeLine) (hr : Room k callerA)
    (F : ∀ base : Heap, K.In base → base.Ns mainGlobals mg → FnG P w K mg base CX k fa fd [x] sp) (hbind : ∀ (s : Shared) (u : Value), BindsTo s fd ⟨[u], []⟩ [(x, u)])
    (hsp : ∀ H : Hp, Only H → SqL K H a (ns.map V.int) → sp [.ref a] H (fun v _ => v = .bl true) fun _ _ _ => False) (hCX : ∀ H e s', CX [] H s1 (fun _ _ _ => False) e s' → False) :
    codeAny (model P w) callerA (.call (.ref fa) ⟨[.ref a], []⟩) (LawEnd s1) s1 := by
  have rv := vals_ints hi
  have hlen := hi.length
  cases hk : K.lookup a with
  | some o =>
    have e := KX a o hk
    rw [ha] at e
    cases e
    have hO : Only (fun _ => none) := fun _ => .inl rfl
    have hS : SqL K (fun _ => none) a (ns.map V.int) := .inr ⟨_, vs.toArray, _, hk, rfl, rfl, rfl, by rw [List.size_toArray, hlen]; exact hl, by simpa using rv⟩
    exact lawG_core KX hns hb hbb hlim hg hr F hbind ha hO (fun c u z => by cases (show (none : Option HO) = some u from z)) (fun _ _ => rfl) (fun z => absurd rfl z) (hsp _ hO hS) (hCX _)
  | none =>
    let H : Hp := fun c => if c = a then some (.frz { cls := .type "list", data := .seq vs.toArray } (.lst (ns.map V.int))) else none
    have Ha : H a = some (.frz { cls := .type "list", data := .seq vs.toArray } (.lst (ns.map V.int))) := if_pos rfl
    have Hn : ∀ c, c ≠ a → H c = none := fun c hc => if_neg hc
    have hO : Only H := fun c => by
      by_cases hc : c = a
      · exact .inr ⟨_, _, by rw [hc]; exact Ha⟩
      · exact .inl (Hn c hc)
    have hS : SqL K H a (ns.map V.int) := .inl (.inr ⟨_, Ha⟩)
    refine lawG_core KX hns hb hbb hlim hg hr F hbind ha hO (fun c u z => ?_) Hn (fun _ => hk) (hsp _ hO hS) (hCX _)
    by_cases hc : c = a
    · rw [hc, Ha] at z
      cases z
      rw [hc]
      exact ⟨ha, by rw [List.length_map]; exact hl, vs, _, rv, ha⟩
    · rw [Hn c hc] at z
      cases z
end
/-- the law's end over a head that reads facts -/
theorem walkG {l : W.OpenLaw} {n k : Nat} {q : Program} {loose : List Str} {XP : (Str → Option Value) → Heap → Prop} {YP : World → Heap → Prop} {d : DefRec} {CX : CXT} {x : Str}
    (hn : l.most = some n) (hn2 : n ≤ sizeLine) (hdf : d.params.defaults = []) (hr : Room k callerA)
    (F : ∀ (w : World) (mg : Str → Option Value) (fa : Addr) (h : Heap), YP w h → h.Ns mainGlobals mg → mg d.name = some (.ref fa) →
      ∃ (K : W.Frag) (fd : FuncData) (sp : Sp), K.In h ∧ (∀ (s : Shared) (u : Value), BindsTo s fd ⟨[u], []⟩ [(x, u)]) ∧
        (∀ (H : Hp) (a : Addr) (ns : List Int), ns.length ≤ n → Only H → SqL K H a (ns.map V.int) → sp [.ref a] H (fun v _ => v = .bl true) fun _ _ _ => False) ∧
        ∀ base : Heap, K.In base → base.Ns mainGlobals mg → FnG l.prog w K mg base CX k fa fd [x] sp)
    (hCX : ∀ (H : Hp) (s : Shared) (e : Value) (s' : Shared), CX [] H s (fun _ _ _ => False) e s' → False) :
    W.WalkO q loose XP YP l.row.toRowW d [] (fun f vs => PySem.call f vs) := by
  refine Att.attach_call hn hdf fun w s0 s1 mg mb fa o pm cd doc a vs ns G Y ho hd hcd hmg hobj hints hlen hg => ?_
  obtain ⟨K, fd, sp, KX, hb, hsp, hF⟩ := F w mg fa _ Y G.T.g hmg
  exact lawG_call KX G.T.g G.T.b G.T.builtins G.T.nolimit hg hobj hints (Nat.le_trans hlen hn2) hr hF hb (fun H hO hS => hsp H a ns hlen hO hS) fun H e s' => hCX H s1 e s'
end L2.Mb
set_option maxRecDepth 100000
set_option maxHeartbeats 4000000
namespace L2.Mb
open PySem PySem.Spec PyProof.Rows Mx LamX
/-! ### the law's end where lambdas run: tables of code objects, no repr under way -/
/-- an empty table stands at t -/
def Bare (h : Heap) (t : Addr) : Prop := h.get? t = some { cls := .none, data := .fields #[] }
/-- what is known of the module of built-ins -/
def BltMod (mg : Str → Option Value) (h : Heap) : Prop := ∃ (bm : Addr) (ob : Obj), mg "__builtins__" = some (.ref bm) ∧ bm ≠ builtinsNs ∧ h.get? bm = some ob ∧ ob.cls = .type "module" ∧ ob.dict = some builtinsNs ∧ ob.data = .plain
/-- what is tracked at first: the tables, perhaps the script -/
def hpT (a : Addr) (ts : List Addr) (fr : Option HO) : Hp := fun c => if c ∈ ts then some (.tbl #[]) else if c = a then fr else none
section
variable {a : Addr} {ts : List Addr} {fr : Option HO}
theorem hpT_t {c : Addr} (h : c ∈ ts) : hpT a ts fr c = some (.tbl #[]) := if_pos h
theorem hpT_a (h : a ∉ ts) : hpT a ts fr a = fr := (if_neg h).trans (if_pos rfl)
theorem hpT_n {c : Addr} (h : c ∉ ts) (n : c ≠ a) : hpT a ts fr c = none := (if_neg h).trans (if_neg n)
theorem hpT_cases {c : Addr} {u : HO} (h : hpT a ts fr c = some u) : (c ∈ ts ∧ u = .tbl #[]) ∨ (c ∉ ts ∧ c = a ∧ fr = some u) := by
  by_cases m : c ∈ ts
  · rw [hpT_t m] at h
    cases h
    exact .inl ⟨m, rfl⟩
  · by_cases e : c = a
    · subst e
      rw [hpT_a m] at h
      exact .inr ⟨m, rfl, h⟩
    · rw [hpT_n m e] at h
      cases h
end
section
variable {P : Program} {w : World} {K : W.Frag} {mg mb : Str → Option Value} {CX : CXT} {k : Nat} {fa a : Addr} {fd : FuncData} {x : Str} {sp : Sp} {s1 : Shared} {vs : List Value} {ns : List Int} {cs : List (Addr × Addr)}
theorem lawT_core {fr : Option HO} {V0 : Array Value} (KX : K.In s1.heap) (hns : s1.heap.Ns mainGlobals mg) (hb : s1.heap.Ns builtinsNs mb) (hbb : ∀ x : Str, x ≠ "__name__" → mb x = bootBuiltins x) (hlim : s1.heap.NoLimit) (hg : s1.gens = #[])
    (bt : ∀ p ∈ cs, Bare s1.heap p.2) (nk : ∀ p ∈ cs, K.lookup p.2 = none) (cd : ∀ p ∈ cs, W.CodeHd s1.heap p.1 p.2) (bm : BltMod mg s1.heap) (hr : Room k callerA)
    (F : ∀ base : Heap, K.In base → base.Ns mainGlobals mg → (∀ p ∈ cs, TabB base mg p.1 p.2) → FnG P w K mg base CX k fa fd [x] sp) (hbind : ∀ (s : Shared) (u : Value), BindsTo s fd ⟨[u], []⟩ [(x, u)])
    (ha : s1.heap.get? a = some { cls := .type "list", data := .seq V0 }) (hfr : fr = none ∨ (∃ o xs, fr = some (.frz o (.lst xs))) ∧ K.lookup a = none) (hfo : ∀ u, fr = some u → ∀ H : Hp, ObjOk P w H s1.heap a u)
    (hsp : sp [.ref a] (hpT a (cs.map Prod.snd) fr) (fun v _ => v = .bl true) fun _ _ _ => False) (hCX : ∀ e s', CX [] (hpT a (cs.map Prod.snd) fr) s1 (fun _ _ _ => False) e s' → False) :
    codeAny (model P w) callerA (.call (.ref fa) ⟨[.ref a], []⟩) (LawEnd s1) s1 := by
  generalize hts : cs.map Prod.snd = ts at hsp hCX
  have isT : ∀ c ∈ ts, Bare s1.heap c := fun c hc => by
    rw [← hts] at hc
    obtain ⟨p, hp, rfl⟩ := List.mem_map.mp hc
    exact bt p hp
  have notK : ∀ c ∈ ts, K.lookup c = none := fun c hc => by
    rw [← hts] at hc
    obtain ⟨p, hp, rfl⟩ := List.mem_map.mp hc
    exact nk p hp
  have aT : a ∉ ts := fun z => by
    have q := (isT a z).symm.trans ha
    have q2 : Data.fields #[] = Data.seq V0 _ := congrArg Obj.data (Option.some.inj q)
    cases q2
  -- what is neither a list nor an empty table is not tracked
  have free : ∀ {c : Addr} {o : Obj}, s1.heap.get? c = some o → (∀ v n, o.data ≠ .seq v n) → o.data ≠ .fields #[] → hpT a ts fr c = none := fun {c o} e d1 d2 => by
    refine hpT_n (fun m => ?_) fun z => ?_
    · have q := Option.some.inj ((isT c m).symm.trans e)
      exact d2 (by rw [← q])
    · rw [z] at e
      have q := Option.some.inj (ha.symm.trans e)
      exact d1 V0 _ (by rw [← q])
  have nsT : ∀ {c : Addr} {m : Str → Option Value}, s1.heap.Ns c m → (hidT s1.heap (hpT a ts fr)).Ns c m := fun {c m} z => by
    obtain ⟨o, es, ep, e, d, r⟩ := z
    exact ⟨o, es, ep, hidT_get e (free e (fun v n y => by rw [d] at y; cases y) fun y => by rw [d] at y; cases y), d, r⟩
  have KT : K.In (hidT s1.heap (hpT a ts fr)) := fun c o e => by
    refine hidT_get (KX c o e) ?_
    cases z : hpT a ts fr c with
    | none => rfl
    | some u =>
      rcases hpT_cases z with ⟨m, _⟩ | ⟨_, m, hu⟩
      · rw [notK c m] at e
        cases e
      · rcases hfr with y | ⟨_, y⟩
        · rw [y] at hu
          cases hu
        · rw [m, y] at e
          cases e
  have tb : ∀ p ∈ cs, TabB (hidT s1.heap (hpT a ts fr)) mg p.1 p.2 := fun p hp => by
    have b0 := bt p hp
    obtain ⟨go, ge, gp, g1, g2, g3⟩ := hns
    have gT : mainGlobals ≠ p.2 := fun z => by
      rw [z] at g1
      have q := Option.some.inj (b0.symm.trans g1)
      rw [← q] at g2
      cases g2
    refine ⟨?_, ?_, gT⟩
    · obtain ⟨o, us, file, tf, flags, tg, inF, text, tt, e1, c1, c2, c3, rest⟩ := cd p hp
      exact ⟨o, us, file, tf, flags, tg, inF, text, tt, hidT_get e1 (free e1 (fun v n y => by rw [c2] at y; cases y) fun y => by
        rw [c2] at y
        cases y
        simp at c3), c1, c2, c3, rest⟩
    · obtain ⟨m, ob, m1, m2, m3, m4, m5, m6⟩ := bm
      refine ⟨m, ob, m1, m2, fun z => ?_, fun z => ?_, hidT_get m3 (free m3 (fun v n y => by rw [m6] at y; cases y) fun y => by rw [m6] at y; cases y), m4, m5, m6⟩
      · rw [z] at m3
        have q := Option.some.inj (m3.symm.trans g1)
        rw [q, g2] at m6
        cases m6
      · rw [z] at m3
        have q := Option.some.inj (m3.symm.trans b0)
        rw [q] at m6
        cases m6
  have ok : HOk P w (hpT a ts fr) s1.heap := fun c u z => by
    rcases hpT_cases z with ⟨m, rfl⟩ | ⟨_, rfl, hu⟩
    · exact isT c m
    · exact hfo u hu _
  obtain ⟨mc, l1, l2⟩ := hlim
  have M : Mod K mg (hidT s1.heap (hpT a ts fr)) := { kin := KT, glob := nsT hns, blt := ⟨mb, nsT hb, hbb⟩, nolimit := ⟨mc, nsT l1, l2⟩ }
  have e0 : Env0 P w K mg (hidT s1.heap (hpT a ts fr)) callerA [] s1 (hpT a ts fr) := ⟨rfl, M, fun c o e => of_hidT e, Nat.le_of_eq (hidT_size _ _), True.intro, (fun c hc => absurd (show c ∈ ([] : List Addr) from hc) (by simp)), ok, .of_eq hg⟩
  have run := (F _ KT (nsT hns) tb).run callerA [] s1 (hpT a ts fr) ⟨[.ref a], []⟩ [.ref a] [.ref a] _ _ rfl hr e0 (hbind s1 (.ref a)) (.cons rfl .nil) hsp
  refine codeAny_mono run fun r s' h => ?_
  cases r with
  | error e => exact ((hCX e s' h).elim)
  | ok fl =>
    cases fl with
    | next => exact (False.elim h)
    | brk => exact (False.elim h)
    | cont => exact (False.elim h)
    | ret u =>
      obtain ⟨v, H', os, bare, un, hok', rv, q⟩ := h
      have q' : v = .bl true := q
      subst q'
      obtain rfl : u = Value.bool true := rv
      have keep : ∀ c o, c ∉ ts → s1.heap.get? c = some o → s'.heap.get? c = some o := fun c o nt e => by
        cases z : hpT a ts fr c with
        | none => exact un.keep c o e z (fun y => absurd (show c ∈ ([] : List Addr) from y) (by simp)) (by simp)
        | some u =>
          rcases hpT_cases z with ⟨m, _⟩ | ⟨_, rfl, hu⟩
          · exact absurd m nt
          · rcases hfr with y | ⟨⟨ob, xs, y⟩, _⟩
            · rw [y] at hu
              cases hu
            · rw [y] at hu
              cases hu
              obtain ⟨e1, _⟩ := ok c _ z
              obtain ⟨e2, _⟩ := hok' c _ (un.frzs c ob _ z)
              rw [e] at e1
              cases e1
              exact e2
      have more : ∀ p ∈ cs, ∃ us : Array Value, s'.heap.get? p.2 = some { cls := .none, data := .fields us } := fun p hp => by
        obtain ⟨us, z⟩ := un.tbls p.2 #[] (hpT_t (by rw [← hts]; exact List.mem_map.mpr ⟨p, hp, rfl⟩))
        exact ⟨_, hok' p.2 _ z⟩
      refine ⟨rfl, { old := fun c o e => ?_, there := fun c o e => ?_ }, os, bare⟩
      · by_cases m : c ∈ ts
        · rw [← hts] at m
          obtain ⟨p, hp, rfl⟩ := List.mem_map.mp m
          obtain ⟨us, hus⟩ := more p hp
          have b0 := bt p hp
          obtain rfl := Option.some.inj (b0.symm.trans e)
          exact .inr (.inl ⟨((cd p hp).tab b0).isCodeTable, rfl, #[], us, rfl, hus.trans (by rw [Array.empty_append])⟩)
        · exact .inl (keep c o m e)
      · by_cases m : c ∈ ts
        · rw [← hts] at m
          obtain ⟨p, hp, rfl⟩ := List.mem_map.mp m
          obtain ⟨us, hus⟩ := more p hp
          exact ⟨_, hus⟩
        · exact ⟨o, keep c o m e⟩
theorem lawT_call (KX : K.In s1.heap) (hns : s1.heap.Ns mainGlobals mg) (hb : s1.heap.Ns builtinsNs mb) (hbb : ∀ x : Str, x ≠ "__name__" → mb x = bootBuiltins x) (hlim : s1.heap.NoLimit) (hg : s1.gens = #[])
    (bt : ∀ p ∈ cs, Bare s1.heap p.2) (nk : ∀ p ∈ cs, K.lookup p.2 = none) (cd : ∀ p ∈ cs, W.CodeHd s1.heap p.1 p.2) (bm : BltMod mg s1.heap)
    (ha : s1.heap.get? a = some { cls := .type "list", data := .seq vs.toArray }) (hi : IntsAre vs ns) (hl : ns.length ≤ sizeLine) (hr : Room k callerA)
    (F : ∀ base : Heap, K.In base → base.Ns mainGlobals mg → (∀ p ∈ cs, TabB base mg p.1 p.2) → FnG P w K mg base CX k fa fd [x] sp) (hbind : ∀ (s : Shared) (u : Value), BindsTo s fd ⟨[u], []⟩ [(x, u)])
    (hsp : ∀ H : Hp, (∀ p ∈ cs, H p.2 = some (.tbl #[])) → SqL K H a (ns.map V.int) → sp [.ref a] H (fun v _ => v = .bl true) fun _ _ _ => False) (hCX : ∀ H e s', CX [] H s1 (fun _ _ _ => False) e s' → False) :
    codeAny (model P w) callerA (.call (.ref fa) ⟨[.ref a], []⟩) (LawEnd s1) s1 := by
  have rv := vals_ints hi
  have hlen := hi.length
  have aT : a ∉ cs.map Prod.snd := fun z => by
    obtain ⟨p, hp, e⟩ := List.mem_map.mp z
    have q := bt p hp
    rw [e] at q
    have q2 := (q.symm.trans ha)
    have q3 : Data.fields #[] = Data.seq vs.toArray _ := congrArg Obj.data (Option.some.inj q2)
    cases q3
  have ht : ∀ (fr : Option HO) (p), p ∈ cs → hpT a (cs.map Prod.snd) fr p.2 = some (.tbl #[]) := fun fr p hp => hpT_t (List.mem_map.mpr ⟨p, hp, rfl⟩)
  cases hk : K.lookup a with
  | some o =>
    have e := KX a o hk
    rw [ha] at e
    cases e
    have hS : SqL K (hpT a (cs.map Prod.snd) none) a (ns.map V.int) := .inr ⟨_, vs.toArray, _, hk, rfl, rfl, rfl, by rw [List.size_toArray, hlen]; exact hl, by simpa using rv⟩
    exact lawT_core (fr := none) KX hns hb hbb hlim hg bt nk cd bm hr F hbind ha (.inl rfl) (fun u z => by cases z) (hsp _ (ht _) hS) (hCX _)
  | none =>
    have hS : SqL K (hpT a (cs.map Prod.snd) (some (.frz { cls := .type "list", data := .seq vs.toArray } (.lst (ns.map V.int))))) a (ns.map V.int) := .inl (.inr ⟨_, hpT_a aT⟩)
    refine lawT_core KX hns hb hbb hlim hg bt nk cd bm hr F hbind ha (.inr ⟨⟨_, _, rfl⟩, hk⟩) (fun u z => ?_) (hsp _ (ht _) hS) (hCX _)
    cases z
    exact fun H => ⟨ha, by rw [List.length_map]; exact hl, vs, _, rv, ha⟩
end
/-- the law's end over a head that reads facts, with tables -/
theorem walkT {l : W.OpenLaw} {n k : Nat} {q : Program} {loose : List Str} {XP : (Str → Option Value) → Heap → Prop} {YP : World → Heap → Prop} {d : DefRec} {CX : CXT} {x : Str}
    (hn : l.most = some n) (hn2 : n ≤ sizeLine) (hdf : d.params.defaults = []) (hr : Room k callerA)
    (F : ∀ (w : World) (mg : Str → Option Value) (fa : Addr) (h : Heap), YP w h → h.Ns mainGlobals mg → mg d.name = some (.ref fa) →
      ∃ (K : W.Frag) (fd : FuncData) (sp : Sp) (cs : List (Addr × Addr)), K.In h ∧ (∀ p ∈ cs, Bare h p.2) ∧ (∀ p ∈ cs, K.lookup p.2 = none) ∧ (∀ p ∈ cs, W.CodeHd h p.1 p.2) ∧ (∀ (s : Shared) (u : Value), BindsTo s fd ⟨[u], []⟩ [(x, u)]) ∧
        (∀ (H : Hp) (a : Addr) (ns : List Int), ns.length ≤ n → (∀ p ∈ cs, H p.2 = some (.tbl #[])) → SqL K H a (ns.map V.int) → sp [.ref a] H (fun v _ => v = .bl true) fun _ _ _ => False) ∧
        ∀ base : Heap, K.In base → base.Ns mainGlobals mg → (∀ p ∈ cs, TabB base mg p.1 p.2) → FnG l.prog w K mg base CX k fa fd [x] sp)
    (hCX : ∀ (H : Hp) (s : Shared) (e : Value) (s' : Shared), CX [] H s (fun _ _ _ => False) e s' → False) :
    W.WalkO q loose XP YP l.row.toRowW d [] (fun f vs => PySem.call f vs) := by
  refine Att.attach_call hn hdf fun w s0 s1 mg mb fa o pm cd doc a vs ns G Y ho hd hcd hmg hobj hints hlen hg => ?_
  obtain ⟨K, fd, sp, cs, KX, bt, nk, ch, hb, hsp, hF⟩ := F w mg fa _ Y G.T.g hmg
  exact lawT_call KX G.T.g G.T.b G.T.builtins G.T.nolimit hg bt nk ch G.T.bmain hobj hints (Nat.le_trans hlen hn2) hr hF hb (fun H hT hS => hsp H a ns hlen hT hS) fun H e s' => hCX H s1 e s'
end L2.Mb
set_option maxRecDepth 100000
set_option maxHeartbeats 4000000
namespace L2.Sr
open PySem PySem.Spec PyProof.Rows L2 LamX NdefX Srt SrtO
/-! ### lambdas of parameters of their own, as values -/
/-- the object at f is such a lambda, made with these cells -/
def LamO (f : Addr) (q : Str) (params : Arguments) (body : Expr) (scope : Scope) (cl : List (Str × Addr)) (c' : Addr) : HO := .ext fun h => ∃ pm ctv : Value, h.get? f = some (PySem.W.kla_obj "<lambda>" q params body scope cl pm c' ctv)
theorem lamO_at {P : Program} {w : World} {H : Hp} {h : Heap} {f : Addr} {q : Str} {params : Arguments} {body : Expr} {scope : Scope} {cl : List (Str × Addr)} {c' : Addr} (hok : HOk P w H h) (e : H f = some (LamO f q params body scope cl c')) : ∃ pm ctv : Value, h.get? f = some (PySem.W.kla_obj "<lambda>" q params body scope cl pm c' ctv) := by
  obtain ⟨z, _, _⟩ := hok f _ e
  exact z
section
variable {X : Cx} {pins : List (Addr × Obj)} {σ : L2.St} {H : Hp} {s : Shared}
theorem inv_lam {q : Str} {params : Arguments} {body : Expr} {scope : Scope} {cl : List (Str × Addr)} {c' : Addr} {pm ctv : Value} {t' : Nat} (I : Inv X pins σ H s) :
    Inv X pins σ (upd H s.heap.objs.size (LamO s.heap.objs.size q params body scope cl c')) { s with heap := s.heap.push (PySem.W.kla_obj "<lambda>" q params body scope cl pm c' ctv), toks := t' } := by
  refine I.laid (a := s.heap.objs.size) (fun b u e => Heap.get?_push_of_some _ e) (Nat.le_refl _) ?_
  have e : (s.heap.push (PySem.W.kla_obj "<lambda>" q params body scope cl pm c' ctv)).get? s.heap.objs.size = some (PySem.W.kla_obj "<lambda>" q params body scope cl pm c' ctv) := Heap.get?_push_size _ rfl
  exact ⟨⟨pm, ctv, e⟩, ⟨_, e⟩, fun h1 h2 ⟨p, t, z⟩ st => ⟨p, t, st _ z⟩⟩
/-- the lambda is made: its code object is new, or found in the table -/
theorem lam_makeT {T : List NTab} {nm : Nat → Nat → Str} {c P : Addr} {params : Arguments} {body : Expr} {scope : Scope} {pos : Pos} {E : Value → Shared → Prop} {Q : Value → Shared → Prop} (I : Inv X pins σ H s) (TB : TabB X.base X.mg c P) (hcode : X.env.code = .ref c)
    (hm : (P, nm) ∈ T) (hn : nm pos.line pos.col = X.env.qual ++ "<lambda>") (hu : ∀ p ∈ T, p.1 = P → p.2 = nm) (hT : TabsN T H) (hdef : defaultsOf params X.env = ([], [])) (hfree : ∀ y ∈ scope.names, y.2 = .free → ∃ c, X.env.cells.lookup y.1 = some c)
    (h : ∀ (f c' : Addr) (H1 : Hp) (s' : Shared), Inv X pins σ H1 s' → ExtN H H1 → (∀ b, H1 b = Option.none → H b = Option.none) → TabsN T H1 → H f = none → H1 f = some (LamO f (X.env.qual ++ "<lambda>") params body scope (cloFrom X.env.cells scope.names []) c') → H1 c' = some (CodeO c' (X.env.qual ++ "<lambda>")) → Q (.ref f) s') :
    wpAny (model X.prog X.w) X.A (eval (.Lambda params body scope pos) X.env) Q E s := by
  obtain ⟨ps, hP, ht, ha⟩ := (show TabN H P nm from hT _ hm)
  refine PySem.W.kla_eval hdef ?_
  have bP : s.heap.BuiltinsAt X.mg P := TB.bm.keeps I.bk
  have hP' : s.heap.get? P = some { cls := .none, data := .fields ps } := I.hok P _ hP
  cases hc : codeAmong pos ps.toList with
  | none =>
    refine PySem.W.kla_makeFunction (mg := X.mg) (c := c) (P := P) (ps := ps) (closure_ok hfree) I.ok.glob (I.mod.glob.keeps I.bk) hcode (TB.code.keeps I.bk) hP' ht hc TB.gP bP fun c' ctv h' tk hx hge hlt hrec htb => ?_
    obtain ⟨c2, oc, vs, t, e2, hoc, hd, hv⟩ := hrec
    cases e2
    have nC : H c' = none := I.hok.fresh hge
    have I1 := inv_table (t' := tk) (more := #[rawInt pos.line, rawInt pos.col, .ref c']) (h' := h') I hP (fun b o hb e => hx b o hb e) htb hge ⟨oc, vs, t, hoc, hd, hv⟩
    generalize hH1 : upd (upd H P (.tbl (ps ++ #[rawInt pos.line, rawInt pos.col, .ref c']))) c' (CodeO c' (X.env.qual ++ "<lambda>")) = H1 at I1
    have eC : H1 c' = some (CodeO c' (X.env.qual ++ "<lambda>")) := by rw [← hH1]; exact upd_same
    have eP : H1 P = some (.tbl (ps ++ #[rawInt pos.line, rawInt pos.col, .ref c'])) := by
      rw [← hH1, upd_ne (ne_of_none hP nC)]
      exact upd_same
    have eB : ∀ b, b ≠ P → H b ≠ none → H1 b = H b := fun b hb hn => by
      rw [← hH1, upd_ne fun z => hn (by rw [z]; exact nC), upd_ne hb]
    have hE : ExtN H H1 := fun b o e n => (eB b (fun z => n ps (Option.some.inj (e.symm.trans (by rw [z]; exact hP)))) (by rw [e]; exact fun z => by cases z)).trans e
    have eL : (ps ++ #[rawInt pos.line, rawInt pos.col, .ref c']).toList = ps.toList ++ [rawInt pos.line, rawInt pos.col, .ref c'] := by simp
    have T1 : TabsN T H1 := fun p hp => by
      by_cases hb : p.1 = P
      · rw [hu p hp hb, hb]
        refine ⟨_, eP, by rw [eL]; exact PySem.TriplesOk_snoc _ _ _ _ ht, fun p' cv hcv => ?_⟩
        rw [eL] at hcv
        rcases among_app2 _ ht hcv with z | ⟨z, z1, z2⟩
        · obtain ⟨c0, e1, e2⟩ := ha p' cv z
          exact ⟨c0, e1, hE _ _ e2 codeO_ne⟩
        · refine ⟨c', z, ?_⟩
          rw [← z1, ← z2, hn]
          exact eC
      · obtain ⟨ps', a1, a2, a3⟩ := hT p hp
        refine ⟨ps', (eB _ hb (by rw [a1]; exact fun z => by cases z)).trans a1, a2, fun p' cv hcv => ?_⟩
        obtain ⟨c0, e1, e2⟩ := a3 p' cv hcv
        exact ⟨c0, e1, hE _ _ e2 codeO_ne⟩
    have nF := I1.hok.fresh (Nat.le_refl _)
    have I2 := inv_lam (q := X.env.qual ++ "<lambda>") (params := params) (body := body) (scope := scope) (cl := cloFrom X.env.cells scope.names []) (c' := c') (pm := (X.mg "__name__").getD .none) (ctv := ctv) (t' := tk) I1
    refine h h'.objs.size c' _ _ I2 (fun b o e n => ?_) (fun b e => ?_) (T1.ext fun b o e => ?_) (I.hok.fresh (Nat.le_trans hge (Nat.le_of_lt hlt))) upd_same ?_
    · have e1 := hE b o e n
      exact (upd_ne (ne_of_none e1 nF)).trans e1
    · have z := upd_none e
      rw [← hH1] at z
      exact upd_none (upd_none z)
    · exact (upd_ne (ne_of_none e nF)).trans e
    · exact (upd_ne (ne_of_none eC nF)).trans eC
  | some cv =>
    obtain ⟨c', e, hco⟩ := ha pos cv hc
    subst e
    rw [hn] at hco
    refine PySem.W.kla_makeFunctionHit (mg := X.mg) (c := c) (P := P) (ps := ps) (closure_ok hfree) I.ok.glob (I.mod.glob.keeps I.bk) hcode (TB.code.keeps I.bk) hP' ht hc bP fun ctv h' tk hx hsz => ?_
    have I1 : Inv X pins σ H { s with heap := h', toks := tk } := I.kept hx
    have nF : H h'.objs.size = none := I1.hok.fresh (Nat.le_refl _)
    have I2 := inv_lam (q := X.env.qual ++ "<lambda>") (params := params) (body := body) (scope := scope) (cl := cloFrom X.env.cells scope.names []) (c' := c') (pm := (X.mg "__name__").getD .none) (ctv := ctv) (t' := tk) I1
    refine h h'.objs.size c' _ _ I2 (fun b o e n => ?_) (fun b e => upd_none e) (hT.ext fun b o e => ?_) nF upd_same ?_
    · exact (upd_ne (ne_of_none e nF)).trans e
    · exact (upd_ne (ne_of_none e nF)).trans e
    · exact (upd_ne (ne_of_none hco nF)).trans hco
end
/-- the reading of a lambda as a value -/
def tLamV (T : List NTab) (q : Str) (params : Arguments) (body : Expr) (scope : Scope) (cl : List (Str × Addr)) : TE := fun _ H Q => TabsN T H ∧ ∀ (f c' : Addr) (H1 : Hp), ExtN H H1 → (∀ b, H1 b = Option.none → H b = Option.none) → TabsN T H1 → H f = none →
  H1 f = some (LamO f q params body scope cl c') → H1 c' = some (CodeO c' q) → Q (.ref f) H1
theorem pe_lamV {X : Cx} {T : List NTab} {nm : Nat → Nat → Str} {c P : Addr} {params : Arguments} {body : Expr} {scope : Scope} {pos : Pos} (TB : TabB X.base X.mg c P) (hcode : X.env.code = .ref c) (hm : (P, nm) ∈ T) (hn : nm pos.line pos.col = X.env.qual ++ "<lambda>") (hu : ∀ p ∈ T, p.1 = P → p.2 = nm)
    (hdef : defaultsOf params X.env = ([], [])) (hfree : ∀ y ∈ scope.names, y.2 = .free → X.env.scope.names.lookup y.1 = some .cell ∨ X.env.scope.names.lookup y.1 = some .free) :
    PE X (.Lambda params body scope pos) (tLamV T (X.env.qual ++ "<lambda>") params body scope (cloFrom X.env.cells scope.names [])) := by
  refine ⟨fun pins s σ H Q I h => ?_⟩
  obtain ⟨hT, h⟩ := h
  have hf : ∀ y ∈ scope.names, y.2 = .free → ∃ c, X.env.cells.lookup y.1 = some c := fun y hy e => (hfree y hy e).elim (fun z => I.ok.has _ (.inl z)) fun z => I.ok.has _ (.inr z)
  exact lam_makeT I TB hcode hm hn hu hT hdef hf fun f c' H1 s' I1 eN nn T1 f0 f1 c1 => ⟨.ref f, H1, I1, rfl, h f c' H1 eN nn T1 f0 f1 c1⟩
theorem clo_nil {cells : List (Str × Addr)} {names : List (Str × NameKind)} (h : ∀ y ∈ names, y.2 ≠ .free) : cloFrom cells names [] = [] := by
  cases e : cloFrom cells names [] with
  | nil => rfl
  | cons p r =>
    have m : p ∈ cloFrom cells names [] := by rw [e]; exact List.mem_cons_self
    obtain ⟨x, c⟩ := p
    rcases cloFrom_mem m with z | ⟨z, _⟩
    · cases z
    · exact absurd rfl (h _ z)
/-! ### a lambda called from within a built-in -/
/-- its words as those of a nested def without a body -/
abbrev lamF (q : Str) (params : Arguments) (scope : Scope) (c' : Addr) : NF := ⟨"<lambda>", q, params, [], scope, [], c'⟩
theorem cells_nil {h : Heap} {H : Hp} : CellsAt [] [] [] h H := ⟨rfl, fun y c e => (by cases e), fun x y c e => (by cases e), fun i y e => (by simp at e)⟩
section
variable {X : Cx}
def kLam (q : Str) (params : Arguments) (body : Expr) (scope : Scope) (tb : TE) (N : List Str) (fa : Addr) : V → Hp → VK → Prop := fun v H Q => ∃ c', H fa = some (LamO fa q params body scope [] c') ∧ H c' = some (CodeO c' q) ∧ tb (startF N [v] []) H Q
theorem keyC_lam {k : Nat} {N ps : List Str} {q : Str} {params : Arguments} {body : Expr} {scope : Scope} {tb : TE} {x : Str} (S : NScope N [x] [] scope) (hr : Room (k + 1) X.A.in1.in1)
    (hbind : ∀ (cl : List (Str × Addr)) (pm cv ctv u : Value), bindArgs (PySem.W.kla_fn "<lambda>" q params body scope cl pm cv ctv) ⟨[u], []⟩ = pure [(x, u)])
    (hbody : ∀ (f c' : Addr) (A : Around) (outer : List Env) (s : Shared) (H : Hp), Room k (A.deeper (envF (lamF q params scope c') f s.heap.objs.size)) → PE (ncx L2.CX0 X.prog X.w X.K X.mg X.base N (lamF q params scope c') f A outer s H E0) body tb) (fa : Addr) :
    KeyC X (.ref fa) (kLam q params body scope tb N fa) := by
  intro pins s σ H v u Q I r h
  obtain ⟨c', hf, hc, ht⟩ := h
  obtain ⟨pm, ctv, ho⟩ := lamO_at I.hok hf
  have e0 : Env0 X.prog X.w X.K X.mg X.base X.A.in1.in1 X.stack s H := I.env0.in1.in1
  have lim : s.heap.NoLimit := I.nolimit
  have rc : codeAny (model X.prog X.w) X.A.in1.in1 (.call (.ref fa) ⟨[u], []⟩) (CR L2.CX0 X.stack X.prog X.w H s Q E0) s := by
    refine PySem.W.kla_callFunE hr.depth ho rfl S.co S.gen rfl (codeO_at I.hok hc) ?_
    rw [hbind]
    refine wpAny_pure (wpAny_newFunctionEnv S.nocell (fun y hy => S.par y.1 (by rw [List.mem_singleton.mp hy]; exact List.mem_singleton.mpr rfl)) (fun h₁ hns hsb => ⟨lim.fresh _ hsb, ?_⟩) S.kind)
    show codeAny _ _ (.expr body (envF (lamF q params scope c') fa s.heap.objs.size)) _ _
    have kp : ∀ b o, s.heap.get? b = some o → h₁.get? b = some o := fun b o e => hsb.extBut b o (Nat.ne_of_lt (Heap.lt_size e)) (Heap.get?_push_of_some _ e)
    have J : Inv (ncx L2.CX0 X.prog X.w X.K X.mg X.base N (lamF q params scope c') fa X.A.in1.in1 X.stack s H E0) [] (startF N [v] []) H { s with heap := h₁, toks := s.toks + ([(x, u)] : List (Str × Value)).length } :=
      inv_startN (ps := [x]) (fr := []) (us := [u]) S hr.hd e0 rfl (.cons r .nil) cells_nil hns kp
    refine PySem.W.kla_codeExpr (wpAny_mono ((hbody fa c' _ _ s H (hr.deeper _)).run [] _ _ H Q J ht) (fun v' s' hq => ?_) fun e s' hq => hq)
    obtain ⟨w', H', J', rv, q'⟩ := hq
    exact ⟨w', H', J'.os, J'.bare, J'.base, J'.hok, rv, q'⟩
  refine wpAny_call (codeAny_mono rc fun r' s' hq => ?_)
  cases r' with
  | error e => exact (show False from hq).elim
  | ok fl =>
    cases fl with
    | ret u' => exact I.after hq
    | next => exact False.elim hq
    | brk => exact False.elim hq
    | cont => exact False.elim hq
/-- an own def as the key -/
def kFn (sp : Sp) : V → Hp → VK → Prop := fun v H Q => sp [v] H Q E0
theorem keyC_fn {k : Nat} {f : Addr} {fd : FuncData} {x : Str} {sp : Sp} (F : FnOk X.prog X.w X.K X.mg X.base L2.CX0 k f fd [x] sp) (hr : Room k X.A.in1.in1) (hb : Binds X.K fd [x] []) : KeyC X (.ref f) (kFn sp) := by
  intro pins s σ H v u Q I r h
  have e0 : Env0 X.prog X.w X.K X.mg X.base X.A.in1.in1 X.stack s H := I.env0.in1.in1
  refine wpAny_call (codeAny_mono (F.run X.A.in1.in1 X.stack s H ⟨[u], []⟩ [u] [v] Q E0 hr e0 (by
    have z := hb s [u] I.kIn rfl
    simpa using z) (.cons r .nil) h) fun r' s' hq => ?_)
  cases r' with
  | error e => exact (show False from hq).elim
  | ok fl =>
    cases fl with
    | ret u' => exact I.after hq
    | next => exact False.elim hq
    | brk => exact False.elim hq
    | cont => exact False.elim hq
end
end L2.Sr
set_option maxRecDepth 100000
set_option maxHeartbeats 4000000
namespace L2.Sr
open PySem PySem.Spec PyProof.Rows L2
/-! ### enumerate(tuple) -/
theorem enumT_new (l : Addr) (items : Array Value) (n : Nat) (dct : Option Addr) (sl : Array (Option Value)) :
    Meets (Builtin.«enumerate.__new__» ⟨[.type "enumerate", .ref l], []⟩)
      (fun _ R s => s.heap.get? l = some { cls := .type "tuple", dict := dct, data := .seq items n, slots := sl } ∧ R (.ok (.ret (.ref (s.heap.push { cls := .type "tuple_iterator", data := .fields #[.ref l, .int 0 0] }).objs.size)))
        { s with heap := (s.heap.push { cls := .type "tuple_iterator", data := .fields #[.ref l, .int 0 0] }).push { cls := .type "enumerate", data := .fields #[.none, .bool false, .ref s.heap.objs.size, rawInt 0, .none, .none] } }) :=
  .of_wp fun prog w A R s h => by
    obtain ⟨hp, g, d, tk, os⟩ := s
    obtain ⟨hl, h⟩ := h
    have ht : Heap.IsTuple hp l items := ⟨_, hl, rfl, n, rfl⟩
    have hsub := sub_enumerate
    have q1 : ∀ {A : Around} {E : Value → Shared → Prop} {Q : Value → Shared → Prop}, Q (.ref hp.objs.size) ⟨hp.push { cls := .type "tuple_iterator", data := .fields #[.ref l, .int 0 0] }, g, d, tk, os⟩ → wpAny (model prog w) A (pyIter (.ref l)) Q E ⟨hp, g, d, tk, os⟩ := fun h => wpAny_pyIter_tuple (s := ⟨hp, g, d, tk, os⟩) ht h
    wp_walk
    refine wpAny_stack_any fun st => wpAny_pure ?_
    split
    · rename_i c _ _ _ _ _
      cases (c == Value.type "enumerate")
      · wp_walk using q1
        exact ⟨_, rfl, h⟩
      · wp_walk using q1
        exact ⟨_, rfl, h⟩
    · wp_walk using q1
      exact ⟨_, rfl, h⟩
section
variable {prog : Program} {w : World} {A : Around} {E : Value → Shared → Prop} {s : Shared}
theorem call_enumT {l : Addr} {items : Array Value} {Q : Value → Shared → Prop} (hL : s.heap.IsTuple l items)
    (h : ∀ h', IsEnum h' (s.heap.objs.size + 1) s.heap.objs.size 0 .none → h'.IsTupleIter s.heap.objs.size l 0 → (∀ b o, s.heap.get? b = some o → h'.get? b = some o) → Q (.ref (s.heap.objs.size + 1)) { s with heap := h' }) :
    wpAny (model prog w) A (call (.type "enumerate") [.ref l]) Q E s := by
  obtain ⟨⟨c, dct, dt, sl⟩, hl, hc, n, hd⟩ := hL
  replace hc : c = .type "tuple" := hc
  replace hd : dt = .seq items n := hd
  subst hc hd
  refine callType_new F.called_enumerate (by decide) (F.typeCall_enumerate_1 _) (F.newCall_enumerate_1 _) (fun obj => F.args_object_init_2 obj _) F.entry_enumerate_new (enumT_new l items n dct sl) ⟨hl, ?_⟩
  have hz : (s.heap.push { cls := .type "tuple_iterator", data := .fields #[.ref l, .int 0 0] }).objs.size = s.heap.objs.size + 1 := Heap.size_push ..
  have he : IsEnum ((s.heap.push { cls := .type "tuple_iterator", data := .fields #[.ref l, .int 0 0] }).push { cls := .type "enumerate", data := .fields #[.none, .bool false, .ref s.heap.objs.size, rawInt 0, .none, .none] }) (s.heap.objs.size + 1) s.heap.objs.size 0 .none := by
    rw [← hz]
    exact Heap.get?_push_size _ rfl
  show _ ∧ _
  rw [hz]
  exact ⟨⟨_, he, rfl⟩, h _ he ⟨_, Heap.get?_push_of_some _ (Heap.get?_push_size _ rfl), rfl, rfl⟩ fun b o x => Heap.get?_push_of_some _ (Heap.get?_push_of_some _ x)⟩
end
/-- the tuple at a, each item in a new pair -/
def ItE (K : PySem.W.Frag) (a : Addr) : It :=
  ⟨fun i H => ∃ (xs : List V) (x : V), SqT K H a xs ∧ xs[i]? = some x, fun i H v H' => ∃ T x, v = .ref T ∧ H T = none ∧ H' = upd H T (.tup [.int (i : Nat), x]) ∧ ∀ xs, SqT K H a xs → xs[i]? = some x, fun i H => ∃ xs : List V, SqT K H a xs ∧ xs.length ≤ i⟩
theorem turn_enumT {P : Program} {w : World} {K : PySem.W.Frag} {elts : List Expr} {kk : Nat} {tpos : Pos} (a e it : Addr) :
    Turn P w K (.Tuple elts kk tpos) (ItE K a) [e, it] e (fun i h => (∃ old, IsEnum h e it ((i : Nat) : Int) old) ∧ h.IsTupleIter it a i ∧ e ≠ it ∧ a ≠ it ∧ e ≠ a) where
  mem := by simp
  obj := fun i h st b hb => by
    obtain ⟨⟨old, he⟩, ⟨o, ho, hc, hd⟩, _⟩ := st
    rcases (show b = e ∨ b = it by simpa using hb) with z | z
    · rw [z]
      exact ⟨_, he, fun v q => nomatch q⟩
    · rw [z]
      exact ⟨o, ho, fun v q => by rw [hd] at q; cases q⟩
  keep := fun i h h' st k => by
    obtain ⟨⟨old, he⟩, hi, hne⟩ := st
    exact ⟨⟨old, k e (by simp) _ he⟩, hi.at fun o q => k it (by simp) o q, hne⟩
  item := by
    intro X hP hw hK hc i pins s σ H E I hf st hg
    subst hP hw hK
    obtain ⟨⟨old, he⟩, hit, hne, hai, hea⟩ := st
    obtain ⟨xs, x, hq, hx⟩ := hg
    obtain ⟨its, rv, p, hz⟩ := I.tuple hq
    obtain ⟨u, hu, ru⟩ := rv.get hx
    have hel : e < s.heap.objs.size := Heap.lt_size he
    have hil : it < s.heap.objs.size := by
      obtain ⟨_, q, _⟩ := hit
      exact Heap.lt_size q
    have hlt : i < its.toArray.size := by
      have z := (List.getElem?_eq_some_iff.mp hu).1
      simpa using z
    refine wpAny_pyNext_enum_itemD (Draws.tuple (A := X.A.in1) (I.ok.hd hc) it a hai its.toArray) he ⟨hit, p⟩ hlt hne (by simp [hne, hea]) fun y h' tk hy ho hst hT hsz hk => ?_
    have ey : y = u := by
      rw [List.getElem?_toArray] at hy
      exact Option.some.inj (hy.symm.trans hu)
    subst ey
    refine ⟨_, rfl, wpAny_letOwnedTupleGo_enum (s := { s with heap := h', toks := tk + 1 }) ho fun h'' he' sb => ?_⟩
    have hT2 : h''.get? s.heap.objs.size = some { cls := .type "tuple", data := .seq #[.int i tk, y] } := (sb.2 _ (Nat.ne_of_gt hel)).trans hT
    have new : ObjOk X.prog X.w (upd H s.heap.objs.size (.tup [.int (i : Nat), x])) h'' s.heap.objs.size (.tup [.int (i : Nat), x]) :=
      ⟨by show 2 ≤ sizeLine; decide, [.int i tk, y], .cons ⟨_, rfl⟩ (.cons ru .nil), ⟨_, hT2, rfl, _, rfl⟩⟩
    have I1 : Inv X pins σ (upd H s.heap.objs.size (.tup [.int (i : Nat), x])) { s with heap := h'', toks := tk + 1 } :=
      I.turnedNew (ch := [e, it]) (fun b ob hb q => (sb.2 b (fun z => hb (by simp [z]))).trans (hk b ob (fun z => hb (by simp [z])) (fun z => hb (by simp [z])) q)) hf (Nat.le_refl _) new
    refine ⟨.ref s.heap.objs.size, _, I1, rfl, ⟨_, x, rfl, I.hok.fresh (Nat.le_refl _), rfl, fun ys hy => by rw [I.tuple_inj hy hq]; exact hx⟩, ⟨⟨y, ?_⟩, hst.1.at fun o q => (sb.2 it (Ne.symm hne)).trans q, hne, hai, hea⟩, fun b hb => ?_⟩
    · have e1 : ((i + 1 : Nat) : Int) = (i : Int) + 1 := by omega
      rw [e1]
      exact he'
    · have hb' : b < s.heap.objs.size := by
        rcases (show b = e ∨ b = it by simpa using hb) with z | z
        · rw [z]; exact hel
        · rw [z]; exact hil
      rw [upd_ne (Nat.ne_of_lt hb')]
      exact (hf b hb).1
  done := by
    intro X hP hw hK hc i pins s σ H E I hf st hg
    subst hP hw hK
    obtain ⟨⟨old, he⟩, hit, hne, hai, hea⟩ := st
    obtain ⟨xs, hq, hx⟩ := hg
    obtain ⟨its, rv, p, hz⟩ := I.tuple hq
    obtain ⟨f0, f1, f2, f3, f4, f5⟩ := hf it (by simp)
    have hl : xs.length = its.length := rv.length
    unfold pyNext
    refine wpAny_bind (wpAny_attempt (wpAny_callSpecial?_slot (name := Str.ofString "__next__") ⟨_, he, rfl⟩ F.slot_enumerate_next
      (wpAny_call_entry F.slot_enumerate_next ⟨_, he, rfl⟩ F.entry_enumerate_next ?_ (F.args_enumerate_next_1 _))))
    show wpAny _ _ (field (.ref e) 2 >>= _) _ _ _
    refine wpAny_bind (wpAny_field he rfl (x := .ref it) rfl ?_)
    refine wpAny_bind (wpAny_nextOf_tuple_end (I.ok.hd hc) hit p (by simp; omega) fun h' x he' hx' => ?_)
    obtain ⟨o, ho, hcl⟩ := hx'
    refine wpAny_bind (wpAny_isInstance (T := "StopIteration") (b := true) ⟨o, ho, hcl⟩ isSubtype_stop ?_)
    exact wpAny_pure ⟨rfl, I.turned (t' := s.toks) (fun b o hb q => he' b o hb q) f0 f1 f3 f4 f5⟩
  self := fun A i s Q E st h => by
    obtain ⟨⟨_, he⟩, _⟩ := st
    exact wpAny_pyIter_enum he h
def iEnumT (K : PySem.W.Frag) (ta : TA) : TI := fun σ H R => ta σ H fun vs H1 => ∃ a xs, vs = [.ref a] ∧ SqT K H1 a xs ∧ R (ItE K a) H1
theorem pi_enumT {X : Cx} {e : Expr} {ta : TA} {p pos tpos : Pos} {elts : List Expr} {kk : Nat} (hg : Gl X "enumerate") (hm : X.mg "enumerate" = none) (ha : PA X [e] ta) (hs : starEach [e] X.env = [(false, eval e X.env)] := by rfl) :
    PI X (.Tuple elts kk tpos) (.Call (.Name "enumerate" p) [e] [] pos) (iEnumT X.K ta) := by
  refine ⟨fun pins s σ H R I h => ?_⟩
  refine Call_ (ld_blt I hg hm boot_enumerate (PyProof.Rows.callWith_type1 (thn (ha.run pos pins s σ H _ I h) fun us s1 ⟨vs, H1, I1, r1, q1⟩ => ?_) hs rfl))
  obtain ⟨a, xs, ex, hq, q⟩ := q1
  subst ex
  obtain rfl := Vals.ref1 r1
  obtain ⟨its, rv, p', hz⟩ := I1.tuple hq
  refine call_enumT p' fun h' he hit hk => wpAny_pyIter_enum he ?_
  have I2 : Inv X pins σ H1 { s1 with heap := h' } := I1.kept (t' := s1.toks) hk
  have al : a < s1.heap.objs.size := p'.lt
  refine ⟨s1.heap.objs.size + 1, [s1.heap.objs.size + 1, s1.heap.objs.size], _, _, H1, rfl, I2, turn_enumT a (s1.heap.objs.size + 1) s1.heap.objs.size, ⟨⟨.none, he⟩, hit, Nat.succ_ne_self _, Nat.ne_of_lt al, Nat.ne_of_gt (Nat.lt_succ_of_lt al)⟩, fun b hb => ?_, q⟩
  have hle : s1.heap.objs.size ≤ b := by
    rcases (show b = s1.heap.objs.size + 1 ∨ b = s1.heap.objs.size by simpa using hb) with z | z
    · rw [z]; exact Nat.le_add_right _ _
    · rw [z]; exact Nat.le_refl _
  exact I1.fpOk hle (I1.hok.fresh hle)
theorem walk_enumT {K : PySem.W.Frag} {a : Addr} {xs : List V} : Walk (ItE K a) xs.length (fun H => SqT K H a xs) (YPair (fun i => some (.int (i : Nat))) (fun i => xs[i]?)) := by
  refine ⟨fun i _ hi q => ⟨xs, xs[i], q, by simp [hi]⟩, fun _ q => ⟨xs, q, Nat.le_refl _⟩, fun i H v H' _ q y => ?_⟩
  obtain ⟨T, x, h1, h2, h3, h4⟩ := y
  exact ⟨T, .int (i : Nat), x, h1, h2, h3, rfl, h4 xs q⟩
end L2.Sr
set_option maxRecDepth 100000
set_option maxHeartbeats 4000000
namespace L2.Mb
open PySem PySem.Spec PyProof.Rows Mx
/-! ### str(x), repr(x) of an own instance -/
/-- the own method is asked -/
def rOwn (C : Addr) (sp : Sp) : List V → Hp → VK → Prop := fun xs H Q => ∃ (a dx : Addr) (fs : List (Str × V)), xs = [.ref a] ∧ H a = some (.ins C dx fs) ∧ sp [.ref a] H (fun v H' => (∃ y, v = .str y) ∧ Q v H') (fun _ _ _ => False)
section
variable {X : Cx} {CX : CXT} {k : Nat} {C f : Addr} {fd : FuncData} {p0 : Str} {sp : Sp}
theorem back_str {pins : List (Addr × Obj)} {σ : St} {H : Hp} {s : Shared} {Q : VK} {a : Addr} {A2 : Around} (F : FnOk X.prog X.w X.K X.mg X.base CX k f fd [p0] sp) (hr : Room k A2) (e0 : Env0 X.prog X.w X.K X.mg X.base A2 X.stack s H) (hb : Binds X.K fd [p0] [])
    (hx : Passes CX X (fun _ _ _ => False)) (I : Inv X pins σ H s) (h : sp [.ref a] H (fun v H' => (∃ y, v = .str y) ∧ Q v H') (fun _ _ _ => False)) :
    wpAny (model X.prog X.w) A2 (call (.ref f) [.ref a]) (W.StrBack (EP X pins σ Q)) X.xe s := by
  refine wpAny_call (codeAny_mono (F.run A2 X.stack s H ⟨[.ref a], []⟩ [.ref a] [.ref a] _ _ hr e0 (by
    have z := hb s [.ref a] I.kIn rfl
    simpa using z) (.cons rfl .nil) h) fun r s' hq => ?_)
  cases r with
  | error e => exact hx pins σ H s e s' I hq
  | ok fl =>
    cases fl with
    | ret u =>
      obtain ⟨v, H', J, rv, ⟨y, ey⟩, q⟩ := I.after hq
      subst ey
      obtain ⟨t, et⟩ := rv
      subst et
      exact ⟨.str y, H', J, ⟨t, rfl⟩, q⟩
    | next => exact False.elim hq
    | brk => exact False.elim hq
    | cont => exact False.elim hq
theorem call_strO (F : FnOk X.prog X.w X.K X.mg X.base CX k f fd [p0] sp) (hs : W.findIn X.K (.ref C) "__str__" = some (some (.ref f))) (hf : W.isFn X.K (.ref f) = true) (hb : Binds X.K fd [p0] []) (hx : Passes CX X (fun _ _ _ => False)) (hr : Room (k + 2) X.A) :
    CallR X (.type "str") (rOwn C sp) := by
  intro pins s σ H xs us Q I r h
  obtain ⟨a, dx, fs, rfl, ea, q⟩ := h
  cases r with
  | cons r1 r2 =>
    cases r2
    cases r1
    obtain ⟨mA, O, _⟩ := ins_get I.hok ea
    obtain ⟨od, J, _⟩ := O.look
    exact W.kso_call hr.in1.in1.units0 I.kIn J hs hf (back_str F hr.in1.in1 I.env0.in1.in1 hb hx I q)
theorem call_reprO (F : FnOk X.prog X.w X.K X.mg X.base CX k f fd [p0] sp) (hs : W.findIn X.K (.ref C) "__repr__" = some (some (.ref f))) (hf : W.isFn X.K (.ref f) = true) (hb : Binds X.K fd [p0] []) (hx : Passes CX X (fun _ _ _ => False)) (hr : Room (k + 1) X.A) :
    CallR X (.builtin "repr") (rOwn C sp) := by
  intro pins s σ H xs us Q I r h
  obtain ⟨a, dx, fs, rfl, ea, q⟩ := h
  cases r with
  | cons r1 r2 =>
    cases r2
    cases r1
    obtain ⟨mA, O, _⟩ := ins_get I.hok ea
    obtain ⟨od, J, _⟩ := O.look
    obtain ⟨m, fr⟩ := I.fr
    exact W.repr_K hr.in1.units0 fr I.ok.mod.kin J hs hf (back_str F hr.in1 I.env0.in1 hb hx I q)
end
/-! ### C.m(k = v), a classmethod -/
section
variable {X : Cx} {CX : CXT} {k : Nat} {C p g : Addr} {mc : Value} {fd : FuncData} {ps ks : List Str} {sp : Sp} {E : XK} {o : Expr} {kws : List Keyword} {m : Str} {pos apos : Pos} {ta : TE} {t : TA} {pl : Sem Bool} {gg : List Value → List Value} {gV : List V → List V}
def tCMethK (C : Addr) (sp : Sp) (n : Nat) (gV : List V → List V) (E : XK) (ta : TE) (t : TA) : TE := fun σ H Q => ta σ H fun x H1 => x = .ref C ∧ t σ H1 fun vs H2 => vs.length = n ∧ sp (.ref C :: gV vs) H2 Q E
theorem pe_cmethK (he : PE X o ta) (r : ClX.CRead X.K C mc) (c : ClX.CMet X.K C mc m p g) (F : FnOk X.prog X.w X.K X.mg X.base CX k g fd ps sp) (hb : KwB X.K fd ps ks gg gV) (hr : Room k X.A) (hx : Passes CX X E) (ha : PK X kws t)
    (hall : (backToKw pos (keywordEach kws X.env)).all (·.1.isSome) = true := by rfl) (hks : (backToKw pos (keywordEach kws X.env)).filterMap (·.1) = ks := by rfl)
    (hpl : ((backTo pos (starEach [] X.env)).any (·.1) || (backToKw pos (keywordEach kws X.env)).any (·.1.isNone)) = false := by rfl)
    (ht : eval (.Call (.Attribute o m apos) [] kws pos) X.env = (do
      let ov ← eval o X.env
      standAt apos.atName
      let (f, first) ← holding [ov] (getMethod ov m pl)
      callWith pos f first (backTo pos (starEach [] X.env)) (backToKw pos (keywordEach kws X.env))) := by rfl) :
    PE X (.Call (.Attribute o m apos) [] kws pos) (tCMethK C sp ks.length gV E ta t) := by
  refine ⟨fun pins s σ H Q I h => ?_⟩
  refine W.methodCall_KW (pl := pl) (thn (he.run pins s σ H _ I h) fun u s1 ⟨x, H1, I1, rx, ex, q⟩ => ?_) ht
  subst ex
  obtain rfl : u = Value.ref C := rx
  refine ClX.getmethcm_ok I1 r c fun s2 I2 => ?_
  refine W.callWith_of hpl (W.keeps_M (self := .ref C) c.fi) (evalArgs_kw2_nil hall (thn (ha.run pos _ s2 σ H1 _ I2 q) fun ws s3 ⟨zs, H2, I3, rz, l2, q2⟩ => ⟨⟨ClX.pin_at I3, I3.kIn⟩, ?_⟩))
  rw [hks]
  have hq := q2
  have e0 := I3.env0
  have z : wpAny (model X.prog X.w) X.A (call (.ref s1.heap.objs.size) [] (ks.zip ws)) (EP X ((s1.heap.objs.size, W.methodObj (.ref g) (.ref C)) :: _) σ Q) X.xe s3 :=
    wpAny_call (W.method_call (ClX.pin_at I3) (codeAny_mono (F.run X.A X.stack s3 H2 ⟨[.ref C], ks.zip ws⟩ (.ref C :: gg ws) (.ref C :: gV zs) Q E hr e0 (hb.to s3 C ws I3.kIn (rz.length.symm.trans l2)) (.cons rfl (hb.rel rz)) hq) fun r s' hq' => by
      cases r with
      | error e => exact hx _ σ H2 s3 e s' I3 hq'
      | ok fl =>
        cases fl with
        | ret u => exact I3.after hq'
        | next => exact False.elim hq'
        | brk => exact False.elim hq'
        | cont => exact False.elim hq'))
  exact thn z fun _ _ y => ClX.unpinE y
end
end L2.Mb
set_option maxRecDepth 100000
set_option maxHeartbeats 4000000
namespace Mv
open PySem PySem.Spec PyProof.Rows L2 Evl
/-! ### more of what a reading evaluates to -/
section
variable {K : W.Frag} {σ : L2.St} {H H' : Hp} {te ta tb tc tl : TE} {t : TT} {v x y z : V}
theorem ev_chain {r r' : R2} {a b : Bool} (ha : Ev ta σ H x) (hb : Ev tb σ H y) (hr : RV r x y H (.bl a)) (hc : a = true → Ev tc σ H z) (hr2 : a = true → RV r' y z H (.bl b)) : Ev (tChain r r' ta tb tc) σ H (.bl (a && b)) := fun H1 e Q q =>
  ha H1 e _ fun H2 e2 => hb H2 (e.trans e2) _ fun H3 e3 => hr H3 ((e.trans e2).trans e3) _ fun H4 e4 => ⟨a, rfl, by
    have e14 := (e2.trans e3).trans e4
    cases a with
    | true => exact hc rfl H4 (e.trans e14) _ fun H5 e5 => hr2 rfl H5 ((e.trans e14).trans e5) _ fun H6 e6 => q H6 ((e14.trans e5).trans e6)
    | false => exact q H4 e14⟩
theorem et_chain {r r' : R2} {a b : Bool} (h : Ev (tChain r r' ta tb tc) σ H (.bl (a && b))) : EvT (tTest (tChain r r' ta tb tc)) σ H (a && b) := et_test h
theorem rv_int {g : Int → Int → V} {i j : Int} : RV (rI0 g) (.int i) (.int j) H (g i j) := rv_I0
/-- s + t -/
def rCatS : R2 := fun x y H Q => ∃ i j : Str, x = .str i ∧ y = .str j ∧ i.length + j.length ≤ sizeLine ∧ Q (.str (i ++ j)) H
theorem rv_catS {i j : Str} (h : i.length + j.length ≤ 100000) : RV rCatS (.str i) (.str j) H (.str (i ++ j)) := fun H1 _ _ q => ⟨i, j, rfl, rfl, sz_of h, q H1 (Ex.refl H1)⟩
/-- c in s, c one sign -/
def rInSg : R2 := fun x y H Q => ∃ (c : Nat) (z : Str), x = .str ⟨#[c]⟩ ∧ y = .str z ∧ Q (.bl (decide (c ∈ z.cps.toList))) H
theorem rv_inSg {c : Nat} {z : Str} : RV rInSg (.str ⟨#[c]⟩) (.str z) H (.bl (decide (c ∈ z.cps.toList))) := fun H1 _ _ q => ⟨c, z, rfl, rfl, q H1 (Ex.refl H1)⟩
def rNiSg : R2 := fun x y H Q => ∃ (c : Nat) (z : Str), x = .str ⟨#[c]⟩ ∧ y = .str z ∧ Q (.bl (!decide (c ∈ z.cps.toList))) H
theorem rv_niSg {c : Nat} {z : Str} : RV rNiSg (.str ⟨#[c]⟩) (.str z) H (.bl (!decide (c ∈ z.cps.toList))) := fun H1 _ _ q => ⟨c, z, rfl, rfl, q H1 (Ex.refl H1)⟩
/-- len(s), int(s), str(n) -/
def rLenT : List V → Hp → VK → Prop := fun xs H Q => ∃ z : Str, xs = [.str z] ∧ z.length ≤ sizeLine ∧ Q (.int z.length) H
theorem rc_lenT {w : Str} (h : w.length ≤ 100000) : RC rLenT [.str w] H (.int (w.length : Int)) := fun H1 _ _ q => ⟨w, rfl, sz_of h, q H1 (Ex.refl H1)⟩
def rIntT : List V → Hp → VK → Prop := fun xs H Q => ∃ (a : Str) (n : Int), xs = [.str a] ∧ PySem.intText? a = some n ∧ a.length ≤ 640 ∧ Q (.int n) H
theorem rc_intT {w : Str} {n : Int} (h : PySem.intText? w = some n) (l : w.length ≤ 640) : RC rIntT [.str w] H (.int n) := fun H1 _ _ q => ⟨w, n, rfl, h, l, q H1 (Ex.refl H1)⟩
def rStrI : List V → Hp → VK → Prop := fun xs H Q => ∃ i : Int, xs = [.int i] ∧ i.natAbs.log2 < 1920 ∧ Q (.str (toString i)) H
theorem rc_strI {i : Int} (h : i.natAbs.log2 < 1920) : RC rStrI [.int i] H (.str (toString i)) := fun H1 _ _ q => ⟨i, rfl, h, q H1 (Ex.refl H1)⟩
theorem rc_isi {x c : V} {t u : Value} {b : Bool} (k : ClsV c u) (ty : ∀ H1, Ex H H1 → TyX K H1 x t) (e : W.kitOne K t u = some b) : RC (rIsi K) [x, c] H (.bl b) := fun H1 e1 _ q => ⟨x, c, t, u, b, rfl, k, ty H1 e1, e, q H1 (Ex.refl H1)⟩
/-- a text's slice -/
theorem ev_slS {tl th : TO} {w : Str} {lo hi : Option Int} (h : Ev te σ H (.str w)) (h1 : EvO tl σ H lo) (h2 : EvO th σ H hi) (hs : w.length ≤ 100000) : Ev (tSl rSlS te tl th) σ H (.str (cutS w lo hi)) := fun H1 e _ q =>
  h H1 e _ fun H2 e2 => h1 H2 (e.trans e2) _ fun H3 e3 => h2 H3 ((e.trans e2).trans e3) _ fun H4 e4 => ⟨w, rfl, sz_of hs, q H4 ((e2.trans e3).trans e4)⟩
/-- a comprehension over a text -/
theorem el_lcS {w : Str} {j : Nat} {vs : List Nat} (f : Nat → Bool) (g : Nat → V) (h : Ev tl σ H (.str w)) (hz : w.cps.size ≤ 40000) (hw : ∀ x, wipe ((wipe σ vs).set j (some x)) vs = wipe σ vs)
    (ht : ∀ (i c : Nat) H1, Ex H H1 → w.cps[i]? = some c → EvT t ((wipe σ vs).set j (some (.str ⟨#[c]⟩))) H1 (f i)) (he : ∀ (i c : Nat) H1, Ex H H1 → w.cps[i]? = some c → f i = true → Ev te ((wipe σ vs).set j (some (.str ⟨#[c]⟩))) H1 (g i)) :
    EvL (tLc (iStr tl) (gName j) t te vs) σ H (given w.cps.size f g) := fun H0 e Q q => h H0 e _ fun H1 e1 => ⟨w, rfl, fun Dl hD =>
  lc_it walk_str (Cw H1 f g Dl) ⟨hD, Ex.new hD, upd_same⟩ (fun _ _ _ _ => trivial) (fun i x H2 H3 hi p y => by
    obtain ⟨rfl, c, hc, rfl⟩ := y
    exact ⟨hw _, cw_turn p (by omega) (ht i c H1 (e.trans e1) hc) (fun hf => he i c H1 (e.trans e1) hc hf)⟩) (fun H' p => q Dl H' (fresh_back e1 p.1) (e1.trans p.2.1) p.2.2)⟩
/-- over a new tuple -/
theorem el_lcNT {xs : List V} {j : Nat} {vs : List Nat} (f : Nat → Bool) (g : Nat → V) (h : EvU tl σ H xs) (hz : xs.length ≤ 40000) (hw : ∀ x, wipe ((wipe σ vs).set j (some x)) vs = wipe σ vs)
    (ht : ∀ (i : Nat) (x : V) H1, Ex H H1 → xs[i]? = some x → EvT t ((wipe σ vs).set j (some x)) H1 (f i)) (he : ∀ (i : Nat) (x : V) H1, Ex H H1 → xs[i]? = some x → f i = true → Ev te ((wipe σ vs).set j (some x)) H1 (g i)) :
    EvL (tLc (iTup K tl) (gName j) t te vs) σ H (given xs.length f g) := fun H0 e Q q => h H0 e _ fun a H1 ha e1 hx => ⟨a, rfl, ⟨xs, st_of hx⟩, fun Dl hD =>
  lc_it (walk_tup (K := K) (xs := xs)) (Cw H1 f g Dl) ⟨hD, Ex.new hD, upd_same⟩ (fun _ H' _ p => st_of (p.2.1 a _ hx)) (fun i x H2 H3 hi p y => by
    obtain ⟨rfl, hc⟩ := y
    exact ⟨hw x, cw_turn p (by omega) (ht i x H1 (e.trans e1) hc) (fun hf => he i x H1 (e.trans e1) hc hf)⟩) (fun H' p => q Dl H' (fresh_back e1 p.1) (e1.trans p.2.1) p.2.2)⟩
/-- all(a new list of truths) -/
theorem ev_allN {bs : List Bool} (ha : EvL ta σ H (bs.map V.bl)) : Ev (tCB (rAll K) (tCons ta tNil)) σ H (.bl (bs.all id)) := fun H1 e Q q => ha H1 e _ fun p H2 _ e2 hp => ⟨p, bs, rfl, sq_of hp, q H2 e2⟩
/-- s.split(t), s.partition(t), s.join(xs) -/
theorem el_split {a b : Str} {r : V → List V → Hp → VK → Prop} (h : Ev ta σ H (.str a)) (h2 : Ev tb σ H (.str b)) (hr : r = fun x xs H Q => ∃ a b, x = .str a ∧ xs = [.str b] ∧ (b.length == 0) = false ∧ a.length + 2 ≤ sizeLine ∧ rNewStrs (Txt.split a b) H Q)
    (hb : (b.length == 0) = false) (hz : a.length ≤ 99000) : EvL (tM1 r ta tb) σ H ((Txt.split a b).map V.str) := fun H1 e Q q => h H1 e _ fun H2 e2 => ⟨⟨a, rfl⟩, h2 H2 (e.trans e2) _ fun H3 e3 => by
    subst hr
    exact ⟨a, b, rfl, rfl, hb, Nat.le_trans (show a.length + 2 ≤ 100000 by omega) (by decide), fun p hp => q p _ (fresh_back (e2.trans e3) hp) ((e2.trans e3).trans (Ex.new hp)) upd_same⟩⟩
end
end Mv
set_option maxRecDepth 100000
set_option maxHeartbeats 4000000
namespace Mv
open PySem PySem.Spec PyProof.Rows L2 L2.Mb Evl
section
variable {K : W.Frag} {σ : L2.St} {H H' : Hp} {te ta tb tc tl : TE} {t : TT} {v x y z : V}
/-! ### lists of texts -/
theorem dp_strs : ∀ l : List Str, DpAll K H (l.map V.str) (l.map PyData.str)
  | [] => .nil
  | b :: r => .cons (.str b) (dp_strs r)
abbrev okS (l : List Str) : Prop := l.all PyData.strOk = true
theorem strs_lay : ∀ l : List Str, okS l → PyData.canLayAll0 (l.map PyData.str) = true ∧ PyData.depthAll (l.map PyData.str) = 0
  | [], _ => ⟨by simp [PyData.canLayAll0], by simp [PyData.depthAll]⟩
  | b :: r, h => by
    have h0 : (PyData.strOk b && r.all PyData.strOk) = true := by simpa [okS] using h
    obtain ⟨hb, hr⟩ := Bool.and_eq_true_iff.mp h0
    obtain ⟨h1, h2⟩ := strs_lay r hr
    refine ⟨?_, ?_⟩
    · simp only [List.map_cons, PyData.canLayAll0, PyData.canLay0, h1, hb, Bool.and_self]
    · simp only [List.map_cons, PyData.depthAll, PyData.depth, h2, Nat.max_self]
theorem strs_shaped (l : List Str) (h : okS l) : SeqAt.shaped (.list (l.map PyData.str)) = true := by
  obtain ⟨h1, h2⟩ := strs_lay l h
  show (PyData.canLay0 (.list (l.map PyData.str)) && decide (PyData.depth (.list (l.map PyData.str)) ≤ 64)) = true
  simp only [PyData.canLay0, PyData.depth, h1, h2]
  decide
theorem eqv_strs : ∀ l m : List Str, PyData.eqvAll (l.map PyData.str) (m.map PyData.str) = decide (l = m)
  | [], [] => by simp [PyData.eqvAll]
  | [], b :: r => by simp [PyData.eqvAll]
  | a :: l, [] => by simp [PyData.eqvAll]
  | a :: l, b :: r => by
    simp only [List.map_cons, PyData.eqvAll, PyData.eqv, eqv_strs l r, List.cons.injEq, Bool.decide_and]
    by_cases h : a = b <;> simp [h]
theorem rv_eqStrs {r q : Addr} {l m : List Str} (hr : SqL K H r (l.map V.str)) (hq : SqL K H q (m.map V.str)) (ol : okS l) (om : okS m) : RV (rEqD K) (.ref r) (.ref q) H (.bl (decide (l = m))) := fun H1 e Q k => by
  refine ⟨_, _, .lst (ex_l e hr) (dp_strs l), .lst (ex_l e hq) (dp_strs m), strs_shaped l ol, strs_shaped m om, ?_⟩
  have z : PyData.eqv (.list (l.map PyData.str)) (.list (m.map PyData.str)) = decide (l = m) := by simp only [PyData.eqv, eqv_strs]
  rw [z]
  exact k H1 (Ex.refl H1)
/-- the piece of one item -/
def one1 (l : List Str) (k : Nat) : List Str := match l[k]? with
  | some x => [x]
  | none => []
theorem cut_one (l : List Str) (k : Nat) : cutV (l.map V.str) (some (k : Int)) (some ((k : Int) + 1)) = (one1 l k).map V.str := by
  unfold cutV one1
  rw [show ((k : Int) + 1) = ((k + 1 : Nat) : Int) by omega, HT.sIx_nat, HT.sIx_nat, List.length_map]
  cases h : l[k]? with
  | none =>
    have hk := List.getElem?_eq_none_iff.mp h
    have e : min (k + 1) l.length - min k l.length = 0 := by omega
    rw [e]
    rfl
  | some x =>
    obtain ⟨hk, hx⟩ := List.getElem?_eq_some_iff.mp h
    rw [show min k l.length = k by omega, show min (k + 1) l.length = k + 1 by omega, show k + 1 - k = 1 by omega, ← List.map_drop, List.drop_eq_getElem_cons hk, hx]
    rfl
theorem one_eq (l : List Str) (k : Nat) (x : Str) : decide (one1 l k = [x]) = decide (l[k]? = some x) := by
  unfold one1
  cases l[k]? with
  | none => simp
  | some y => simp
/-- s.partition(t) -/
theorem eu_part {a b : Str} {r : V → List V → Hp → VK → Prop} (h : Ev ta σ H (.str a)) (h2 : Ev tb σ H (.str b)) (hr : r = fun x xs H Q => ∃ a b, x = .str a ∧ xs = [.str b] ∧ (b.length == 0) = false ∧ a.length ≤ sizeLine ∧
      ∀ p, H p = none → Q (.ref p) (upd H p (.tup [.str (Txt.partition a b).1, .str (Txt.partition a b).2.1, .str (Txt.partition a b).2.2])))
    (hb : (b.length == 0) = false) (hz : a.length ≤ 100000) : EvU (tM1 r ta tb) σ H [.str (Txt.partition a b).1, .str (Txt.partition a b).2.1, .str (Txt.partition a b).2.2] := fun H1 e Q q => h H1 e _ fun H2 e2 => ⟨⟨a, rfl⟩, h2 H2 (e.trans e2) _ fun H3 e3 => by
    subst hr
    exact ⟨a, b, rfl, rfl, hb, sz_of hz, fun p hp => q p _ (fresh_back (e2.trans e3) hp) ((e2.trans e3).trans (Ex.new hp)) upd_same⟩⟩
/-- s.join(xs), xs known -/
theorem ev_join {a : Str} {p : Addr} {ys : List Str} {r : V → List V → Hp → VK → Prop} (h : Ev ta σ H (.str a)) (h2 : Ev tb σ H (.ref p)) (hr : r = fun x xs H Q => ∃ a p, ∃ ys : List Str, x = .str a ∧ xs = [.ref p] ∧ (SqL K H p (ys.map V.str) ∨ SqT K H p (ys.map V.str)) ∧
      (ys.map (·.length)).sum + ys.length * a.length ≤ 16777216 ∧ Q (.str (Txt.join a ys)) H) (hp : SqL K H p (ys.map V.str)) (hz : (ys.map (·.length)).sum + ys.length * a.length ≤ 16777216) : Ev (tM1 r ta tb) σ H (.str (Txt.join a ys)) := fun H1 e Q q =>
  h H1 e _ fun H2 e2 => ⟨⟨a, rfl⟩, h2 H2 (e.trans e2) _ fun H3 e3 => by
    subst hr
    exact ⟨a, p, ys, rfl, rfl, .inl (ex_l ((e.trans e2).trans e3) hp), hz, q H3 (e2.trans e3)⟩⟩
/-- a, b, c = e, e a new tuple -/
theorem s_unp3 {D : Ends} {i j k : Nat} {a b c : V} (h : EvU te σ H [a, b, c]) (kk : ∀ H1, Ex H H1 → D.nx (((σ.set i (some a)).set j (some b)).set k (some c)) H1) :
    tAsg te (gTup K 3 (gCons (gName i) (gCons (gName j) (gCons (gName k) gNil)))) D σ H := h H (Ex.refl H) _ fun p H1 _ e hp => ⟨p, [a, b, c], rfl, st_of hp, rfl, a, [b, c], rfl, b, [c], rfl, c, [], rfl, rfl, kk H1 e⟩
end
end Mv
set_option maxRecDepth 100000
set_option maxHeartbeats 4000000
namespace L2.Mb
open PySem PySem.Spec PyProof.Rows Mx PySem.W
/-! ### x | y, x & y by an own method, both of one own class -/
section
variable {prog : Program} {w : World} {A : Around} {E : Value → Shared → Prop} {s : Shared} {K : W.Frag} {x y C f : Addr} {ox oy : Obj} {od oe : Option Obj} {nm : String} {name : Str} {cd : ClassData} {r : List Value}
theorem fills_own {M : Model} {h : Heap} (X : K.In h) (hc : clsIn K C = some cd) (hm : cd.mro = .ref C :: r) (hs : findIn K (.ref C) (dunder nm) = some (some (.ref f))) : Looks M h (fillsNumberSlot (.ref C) nm) true := by
  have L : Looks M h (mroOf (.ref C)) cd.mro := (looks_clsIn X hc).andThen .now
  have L2 : Looks M h (typeLookup (.ref C) (dunder nm)) (some (.ref f)) := looks_findIn X hs
  unfold fillsNumberSlot
  refine L.andThen ?_
  rw [hm]
  intro A Q E s k q
  simp only [List.anyM]
  refine wpAny_bind (wpAny_bind (wpAny_bind (L2 A _ E s k ?_)))
  exact wpAny_pure (wpAny_pure (wpAny_pure q))
theorem special_own {M : Model} {args : List Value} {Q : Option Value → Shared → Prop} (X : K.In s.heap) (I : InstAt s.heap x ox C od) (hs : findIn K (.ref C) name = some (some (.ref f))) (hf : isFn K (.ref f) = true)
    (h : wpAny M A (call (.ref f) (.ref x :: args)) (fun v => Q (some v)) E s) : wpAny M A (callSpecial? (.ref x) name args) Q E s := by
  unfold callSpecial?
  refine wpAny_bind (wpAny_bind (I.type.here ((looks_findIn X hs).here ?_)))
  refine wpAny_holding (wpAny_bind ((bind_fn X _ (beq_iff_eq.mp hf)).here ?_))
  exact wpAny_bind (wpAny_mono h (fun v s' h' => wpAny_pure h') fun _ _ h' => h')
theorem or_one {Q : Value → Shared → Prop} (nm : String) (X : K.In s.heap) (I : InstAt s.heap x ox C od) (J : InstAt s.heap y oy C oe) (hc : clsIn K C = some cd) (hm : cd.mro = .ref C :: r) (hs : findIn K (.ref C) (dunder nm) = some (some (.ref f))) (hf : isFn K (.ref f) = true)
    (h : wpAny (model prog w) A (call (.ref f) [.ref x, .ref y]) (W.CmpBack Q) E s) : wpAny (model prog w) A (binaryOp1 nm (.ref x) (.ref y)) (fun r s' => ∃ v, r = some v ∧ Q v s') E s := by
  have one : wpAny (model prog w) A (tryMethod (.ref x) (dunder nm) (.ref y)) (fun r s' => ∃ v, r = some v ∧ Q v s') E s := by
    unfold tryMethod
    refine wpAny_bind (special_own X I hs hf (wpAny_mono h (fun v s' hv => ?_) fun _ _ e => e))
    cases v <;> first | exact hv.elim | exact wpAny_pure ⟨_, rfl, hv⟩
  unfold binaryOp1
  refine wpAny_bind (I.type.here (wpAny_bind (J.type.here (wpAny_bind ((fills_own X hc hm hs).here ?_)))))
  have e : (Value.ref C == Value.ref C) = true := beq_self_eq_true _
  simp only [e, if_true, Bool.and_false, Bool.false_eq_true, if_false, Bool.true_and, Bool.not_false]
  refine wpAny_bind (wpAny_pure ?_)
  simp only [Bool.false_eq_true, if_false, if_true, Bool.false_and]
  refine wpAny_bind (wpAny_pure ?_)
  simp only [Bool.false_eq_true, if_false, if_true, Bool.false_and]
  refine wpAny_bind (wpAny_mono one (fun v s' z => ?_) fun _ _ e => e)
  obtain ⟨u, rfl, hq⟩ := z
  exact wpAny_pure ⟨u, rfl, hq⟩
theorem bor_own {Q : Value → Shared → Prop} (X : K.In s.heap) (I : InstAt s.heap x ox C od) (J : InstAt s.heap y oy C oe) (hc : clsIn K C = some cd) (hm : cd.mro = .ref C :: r) (hs : findIn K (.ref C) "__or__" = some (some (.ref f))) (hf : isFn K (.ref f) = true)
    (h : wpAny (model prog w) A (call (.ref f) [.ref x, .ref y]) (W.CmpBack Q) E s) : wpAny (model prog w) A (binaryOp .BitOr (.ref x) (.ref y)) Q E s := by
  unfold binaryOp
  refine wpAny_holding ?_
  refine wpAny_bind (wpAny_mono (or_one (Q := Q) "or" X I J hc hm hs hf h) (fun v s' z => ?_) fun _ _ e => e)
  obtain ⟨u, rfl, hq⟩ := z
  exact wpAny_pure hq
theorem band_own {Q : Value → Shared → Prop} (X : K.In s.heap) (I : InstAt s.heap x ox C od) (J : InstAt s.heap y oy C oe) (hc : clsIn K C = some cd) (hm : cd.mro = .ref C :: r) (hs : findIn K (.ref C) "__and__" = some (some (.ref f))) (hf : isFn K (.ref f) = true)
    (h : wpAny (model prog w) A (call (.ref f) [.ref x, .ref y]) (W.CmpBack Q) E s) : wpAny (model prog w) A (binaryOp .BitAnd (.ref x) (.ref y)) Q E s := by
  unfold binaryOp
  refine wpAny_holding ?_
  refine wpAny_bind (wpAny_mono (or_one (Q := Q) "and" X I J hc hm hs hf h) (fun v s' z => ?_) fun _ _ e => e)
  obtain ⟨u, rfl, hq⟩ := z
  exact wpAny_pure hq
end
/-- the own method is asked of both -/
def rOwn2 (C : Addr) (sp : Sp) : R2 := fun a b H Q => ∃ (x y dx dy : Addr) (fs gs : List (Str × V)), a = .ref x ∧ b = .ref y ∧ H x = some (.ins C dx fs) ∧ H y = some (.ins C dy gs) ∧ sp [.ref x, .ref y] H (fun v H' => (∃ p, v = .ref p) ∧ Q v H') (fun _ _ _ => False)
/-- the class stands first in its own order -/
def Mro1 (K : W.Frag) (C : Addr) : Prop := ∃ cd r, clsIn K C = some cd ∧ cd.mro = .ref C :: r
section
variable {X : Cx} {CX : CXT} {k : Nat} {C f : Addr} {fd : FuncData} {ps : List Str} {sp : Sp}
theorem back_ref {pins : List (Addr × Obj)} {σ : L2.St} {H : Hp} {s : Shared} {Q : VK} {x y : Addr} (F : FnOk X.prog X.w X.K X.mg X.base CX k f fd ps sp) (hr : Room k X.A) (hb : Binds X.K fd ps []) (hx : Passes CX X (fun _ _ _ => False)) (I : Inv X pins σ H s)
    (h : sp [.ref x, .ref y] H (fun v H' => (∃ p, v = .ref p) ∧ Q v H') (fun _ _ _ => False)) :
    wpAny (model X.prog X.w) X.A (call (.ref f) [.ref x, .ref y]) (W.CmpBack (EP X pins σ Q)) X.xe s := by
  have hl := F.len _ _ _ _ h
  refine wpAny_call (codeAny_mono (F.run X.A X.stack s H ⟨[.ref x, .ref y], []⟩ [.ref x, .ref y] [.ref x, .ref y] _ _ hr I.env0 (by
    have z := hb s [.ref x, .ref y] I.kIn (by simpa using hl)
    simpa using z) (.cons rfl (.cons rfl .nil)) h) fun r s' hq => ?_)
  cases r with
  | error e => exact hx pins σ H s e s' I hq
  | ok fl =>
    cases fl with
    | ret u =>
      obtain ⟨v, H', J, rv, ⟨p, ep⟩, q⟩ := I.after hq
      subst ep
      obtain rfl : u = Value.ref p := rv
      exact ⟨.ref p, H', J, rfl, q⟩
    | next => exact False.elim hq
    | brk => exact False.elim hq
    | cont => exact False.elim hq
theorem op_borO (F : FnOk X.prog X.w X.K X.mg X.base CX k f fd ps sp) (hr : Room k X.A) (hb : Binds X.K fd ps []) (hx : Passes CX X (fun _ _ _ => False)) (hm : Mro1 X.K C) (hs : findIn X.K (.ref C) "__or__" = some (some (.ref f))) (hf : isFn X.K (.ref f) = true) :
    OpR X (binaryOp .BitOr) (rOwn2 C sp) := by
  intro pins s σ H a b u v Q I ra rb h
  obtain ⟨x, y, dx, dy, fs, gs, rfl, rfl, e1, e2, q⟩ := h
  cases ra
  cases rb
  obtain ⟨cd, r, h1, h2⟩ := hm
  obtain ⟨_, O1, _⟩ := ins_get I.hok e1
  obtain ⟨_, O2, _⟩ := ins_get I.hok e2
  obtain ⟨_, J1, _⟩ := O1.look
  obtain ⟨_, J2, _⟩ := O2.look
  exact bor_own I.kIn J1 J2 h1 h2 hs hf (back_ref F hr hb hx I q)
theorem op_bandO (F : FnOk X.prog X.w X.K X.mg X.base CX k f fd ps sp) (hr : Room k X.A) (hb : Binds X.K fd ps []) (hx : Passes CX X (fun _ _ _ => False)) (hm : Mro1 X.K C) (hs : findIn X.K (.ref C) "__and__" = some (some (.ref f))) (hf : isFn X.K (.ref f) = true) :
    OpR X (binaryOp .BitAnd) (rOwn2 C sp) := by
  intro pins s σ H a b u v Q I ra rb h
  obtain ⟨x, y, dx, dy, fs, gs, rfl, rfl, e1, e2, q⟩ := h
  cases ra
  cases rb
  obtain ⟨cd, r, h1, h2⟩ := hm
  obtain ⟨_, O1, _⟩ := ins_get I.hok e1
  obtain ⟨_, O2, _⟩ := ins_get I.hok e2
  obtain ⟨_, J1, _⟩ := O1.look
  obtain ⟨_, J2, _⟩ := O2.look
  exact band_own I.kIn J1 J2 h1 h2 hs hf (back_ref F hr hb hx I q)
end
end L2.Mb
set_option maxRecDepth 100000
set_option maxHeartbeats 4000000
namespace L2.Mb
open PySem PySem.Spec PyProof.Rows Mx
open PySem.SeqAt PySem.MeetsSeq
/-! ### a text beside a dict -/
theorem strDict1 (z : Str) (t : Tok) (a : Addr) (c : Value) (es : Array DictEntry) (k : Nat) (dd : Option Addr) (sl : Array (Option Value)) :
    Meets (Builtin.«str.__eq__» ⟨[.str z t, .ref a], []⟩) (fun _ R s => s.heap.get? a = some { cls := c, dict := dd, data := .dict es k, slots := sl } ∧ R (.ok (.ret .notImplemented)) s) := by
  refine .of_wp fun p w A R s q => ?_
  obtain ⟨hp, g, d, tk, os⟩ := s
  obtain ⟨hl, q⟩ := q
  wp_walk using wpAny_loadPart' hl, wpAny_load hl
  exact ⟨_, rfl, q⟩
theorem strDict2 (z : Str) (t : Tok) (a : Addr) (es : Array DictEntry) (k : Nat) (dd : Option Addr) (sl : Array (Option Value)) :
    Meets (Builtin.«dict.__eq__» ⟨[.ref a, .str z t], []⟩) (fun _ R s => s.heap.get? a = some { cls := .type "dict", dict := dd, data := .dict es k, slots := sl } ∧ R (.ok (.ret .notImplemented)) s) := by
  refine .of_wp fun p w A R s q => ?_
  obtain ⟨hp, g, d, tk, os⟩ := s
  obtain ⟨hl, q⟩ := q
  have f1 := F.sub_str_dict
  wp_walk using wpAny_loadPart' hl, wpAny_load hl
  exact ⟨_, rfl, q⟩
theorem eqAt_strDict {A : Around} {s : Shared} {a : Addr} {o : Obj} {es : Array DictEntry} {k : Nat} (z : Str) (t : Tok) (ho : s.heap.get? a = some o) (hc : o.cls = .type "dict") (hd : o.data = .dict es k) (hu : A.units < cLine) : EqAt A s (.str z t) (.ref a) false := fun prog w E Q h => by
  obtain ⟨oc, dd, data, sl⟩ := o
  simp only at hc hd
  subst hc hd
  unfold eqBool
  refine wpAny_holding (wpAny_ite_split (fun q => absurd (eq_of_beq q) nofun) (fun _ => wpAny_bind ?_))
  refine rc_eq_decline_or (k := false) (typeIs_str s z t) ⟨_, ho, rfl⟩ (by decide) F.sub_dict_str F.slot_str_eq F.slot_dict_eq_refl
    (fun _ q => call_meets F.slot_str_eq (typeIs_str s z t) F.entry_str_eq (F.args_str_eq_2 _ _) (strDict1 z t a (.type "dict") es k dd sl) ⟨ho, q⟩)
    (fun _ q => call_meets F.slot_dict_eq_refl ⟨_, ho, rfl⟩ F.entry_dict_eq (F.args_dict_eq_2 _ _) (strDict2 z t a es k dd sl) ⟨ho, q⟩)
    (fun _ q => wpAny_of_eq (rfl : isSame (.str z t) (.ref a) = pure false) q) (.inr hu) (wpAny_truthy_bool h)
/-! ### any value that was written or laid on the way -/
inductive AnyV (H : Hp) : V → Prop
  | non : AnyV H .non
  | bl (b : Bool) : AnyV H (.bl b)
  | int (n : Int) : AnyV H (.int n)
  | str (z : Str) : AnyV H (.str z)
  | lst {a : Addr} {xs : List V} : H a = some (.lst xs) → AnyV H (.ref a)
  | tup {a : Addr} {xs : List V} : H a = some (.tup xs) → AnyV H (.ref a)
  | dct {a : Addr} {kvs : List (Key × V)} : H a = some (.dK kvs) → AnyV H (.ref a)
theorem AnyV.mono {H H' : Hp} {v : V} (h : AnyV H v) (e : ∀ a o, H a = some o → (∀ ps, o ≠ .tbl ps) → H' a = some o) : AnyV H' v := by
  cases h with
  | non => exact .non
  | bl b => exact .bl b
  | int n => exact .int n
  | str z => exact .str z
  | lst h => exact .lst (e _ _ h fun ps z => by cases z)
  | tup h => exact .tup (e _ _ h fun ps z => by cases z)
  | dct h => exact .dct (e _ _ h fun ps z => by cases z)
def inS : V → List Str → Bool
  | .str z, ws => ws.any fun w => w == z
  | _, _ => false
def eS (x : V) (y : Value) : Bool := match x, y with
  | .str z, .str w _ => w == z
  | _, _ => false
theorem any_strs (x : V) : ∀ (ws : List Str) (its : List Value), Vals (ws.map V.str) its → its.any (eS x) = inS x ws
  | [], its, r => by
    cases r
    cases x <;> rfl
  | w :: ws, its, r => by
    cases r with
    | cons r1 r2 =>
      obtain ⟨t, rfl⟩ := r1
      have ih := any_strs x ws _ r2
      rw [List.any_cons, ih]
      cases x <;> simp [eS, inS]
def rNotW (K : W.Frag) : R2 := fun x y H Q => ∃ (p : Addr) (ws : List Str), y = .ref p ∧ SqT K H p (ws.map V.str) ∧ AnyV H x ∧ Q (.bl (!inS x ws)) H
theorem item_str : ∀ {ws : List Str} {its : List Value}, Vals (ws.map V.str) its → ∀ {y : Value}, y ∈ its → ∃ w t, y = .str w t
  | [], its, r, y, hy => by
    cases r
    cases hy
  | w :: ws, its, r, y, hy => by
    cases r with
    | cons r1 r2 =>
      rcases List.mem_cons.mp hy with e | h
      · obtain ⟨t, q⟩ := r1
        exact ⟨w, t, e.trans q⟩
      · exact item_str r2 h
theorem op_notInW {X : Cx} (hu : X.A.units + 64 < cLine) : OpR X (compareOp .NotIn) (rNotW X.K) := by
  intro pins s σ H x y v u Q I rx ry h
  obtain ⟨p, ws, rfl, ht, hx, q⟩ := h
  cases ry
  obtain ⟨its, rv, ⟨o, ho, hc, n, hd⟩, _⟩ := I.tuple ht
  have hu1 : X.A.in1.units < cLine := by
    show X.A.units + 1 < cLine
    omega
  refine notIn_tupleAt (eS x) ⟨o, ho, hc, n, hd⟩ (fun y hy => ?_) ?_
  · obtain ⟨w, t, rfl⟩ := item_str rv (by simpa using hy)
    cases hx with
    | non =>
      cases rx
      exact EqAt.str_none w t
    | bl b =>
      cases rx
      exact EqAt.str_bool w t b
    | int n =>
      obtain ⟨t2, rfl⟩ := rx
      exact EqAt.str_int w t n t2
    | str z =>
      obtain ⟨t2, rfl⟩ := rx
      exact EqAt.str_str w t z t2
    | lst h =>
      cases rx
      obtain ⟨its2, _, ⟨o2, n2, ho2, hc2, _, hd2⟩, _⟩ := I.list (SqL.of h)
      exact EqAt.str_list w t ⟨o2, ho2, hc2, n2, hd2⟩ hu1
    | tup h =>
      cases rx
      obtain ⟨its2, _, ⟨o2, ho2, hc2, n2, hd2⟩, _⟩ := I.tuple (.inl (.inl h))
      exact EqAt.str_tuple w t ⟨o2, ho2, hc2, n2, hd2⟩ hu1
    | dct h =>
      cases rx
      obtain ⟨_, ya, vs, ra, o2, es, ep, ho2, hex, hd2, _⟩ := (show ObjOk X.prog X.w H s.heap _ (.dK _) from I.hok _ _ h)
      exact eqAt_strDict w t ho2 hex.1 hd2 hu1
  · rw [show its.toArray.any (eS x) = inS x ws from (List.any_toArray).trans (any_strs x ws its rv)]
    exact ⟨.bl _, H, I, rfl, q⟩
end L2.Mb
set_option maxRecDepth 100000
set_option maxHeartbeats 4000000
namespace L2.Mb
open PySem PySem.Spec PyProof.Rows Mx PySem.W
/-! ### x != y where the class has an own == alone -/
theorem neSlot : Slot "object" (Str.ofString "__ne__") "object.__ne__" :=
  Slot.of (owner := "object") (n := "__ne__") (by rw [typeLookup_type, builtinLookup_eq_fast]; kernel_rfl) (by decide +kernel) (by decide +kernel) (by decide +kernel) (.inl (by decide +kernel)) (by rw [isSubtype_type]; kernel_rfl)
section
variable {prog : Program} {w : World} {A : Around} {E : Value → Shared → Prop} {s : Shared} {K : W.Frag} {x C f : Addr} {ox : Obj} {od : Option Obj} {b tb : Value}
theorem objNe_own {Q : Fin → Shared → Prop} (X : K.In s.heap) (I : InstAt s.heap x ox C od) (hs : findIn K (.ref C) "__eq__" = some (some (.ref f))) (hf : isFn K (.ref f) = true) (hu : A.units < cLine)
    (h : wpAny (model prog w) A (call (.ref f) [.ref x, b]) (fun v s' => ∃ k, v = .bool k ∧ Q (.done (.ret (.bool (!k)))) s') E s) : wpAny (model prog w) A (Builtin.«object.__ne__» ⟨[.ref x, b], []⟩) Q E s := by
  unfold Builtin.«object.__ne__»
  repeat (first
    | with_reducible refine wpAny_cRoomFor hu ?_
    | (refine wpAny_bind (m := callSpecialIfBound? (.ref x) (Str.ofString "__eq__") [b]) (ifBound_K X I hs hf (wpAny_mono h (fun r s' hr => by
          obtain ⟨k, rfl, hq⟩ := hr
          repeat (first | exact hq | exact wpAny_pure hq | exact wpAny_truthy_bool hq | (refine wpAny_bind (m := truthy (.bool _)) (wpAny_truthy_bool ?_)) | wp_step)) fun _ _ e => e)))
    | wp_step)
theorem tryNe_own {Q : Value → Shared → Prop} (X : K.In s.heap) (I : InstAt s.heap x ox C od) (hs : findIn K (.ref C) "__eq__" = some (some (.ref f))) (hf : isFn K (.ref f) = true) (hn : findIn K (.ref C) "__ne__" = some (some (.builtin "object.__ne__")))
    (ho : mroIn K C (.type "object") = some true) (hu : A.units + 1 < cLine) (h : wpAny (model prog w) A.in1 (call (.ref f) [.ref x, b]) (fun v s' => ∃ k, v = .bool k ∧ Q (.bool (!k)) s') E s) :
    wpAny (model prog w) A (tryCompare (.ref x) (Str.ofString "__ne__") b) (fun r s' => ∃ v, r = some v ∧ Q v s') E s := by
  have hi : Looks (model prog w) s.heap (isInstance (.ref x) (.type "object")) true := I.type.andThen (looks_mroIn X ho)
  have run : wpAny (model prog w) A (call (.builtin "object.__ne__") [.ref x, b]) (fun v s' => ∃ k, v = .bool (!k) ∧ Q (.bool (!k)) s') E s :=
    wpAny_call (codeAny_call_builtin neSlot.plain F.cmpEntry_ne (@check_slot (model prog w) _ _ s "object.__ne__" "object" "__ne__" (.ref x) [b] [] _ F.cmpKind_ne F.cmpSplit_ne hi (F.cmpArgs_ne _ _)
      (objNe_own (A := A.in1) X I hs hf hu (wpAny_mono h (fun v s' hv => by
        obtain ⟨k, e, q⟩ := hv
        exact ⟨k, e, k, rfl, q⟩) fun _ _ e => e))))
  have one : wpAny (model prog w) A (callSpecialIfBound? (.ref x) (Str.ofString "__ne__") [b]) (fun r s' => ∃ k, r = some (.bool k) ∧ Q (.bool k) s') E s := by
    have fin2 : wpAny (model prog w) A (call (.builtin "object.__ne__") ([.ref x] ++ [b]) >>= fun v => pure (some v)) (fun r s' => ∃ k, r = some (.bool k) ∧ Q (.bool k) s') E s :=
      wpAny_bind (wpAny_mono run (fun v s' hv => by
        obtain ⟨k, rfl, q⟩ := hv
        exact wpAny_pure ⟨_, rfl, q⟩) fun _ _ e => e)
    simp only [callSpecialIfBound?, bindSpecialIfBound?]
    refine wpAny_holding (wpAny_bind (wpAny_bind (wpAny_bind (I.type.here ((looks_findIn X hn).here ?_)))))
    refine wpAny_bind (wpAny_askSetting (wpAny_ite ?_))
    split
    · exact wpAny_bind (wpAny_of_eq (neSlot.bind _) (wpAny_pure (by exact fin2)))
    · exact wpAny_tryCatch (wpAny_bind (wpAny_of_eq (neSlot.bind _) (wpAny_pure (by exact fin2))))
  unfold tryCompare
  refine wpAny_bind (wpAny_mono one (fun r s' z => ?_) fun _ _ e => e)
  obtain ⟨k, rfl, q⟩ := z
  exact wpAny_pure ⟨_, rfl, q⟩
theorem ne_own {Q : Value → Shared → Prop} (X : K.In s.heap) (I : InstAt s.heap x ox C od) (hb : Looks (model prog w) s.heap (typeOf b) tb) (nf : notFirst K C tb = true) (hs : findIn K (.ref C) "__eq__" = some (some (.ref f))) (hf : isFn K (.ref f) = true)
    (hn : findIn K (.ref C) "__ne__" = some (some (.builtin "object.__ne__"))) (ho : mroIn K C (.type "object") = some true) (hu : A.units + 1 < cLine)
    (h : wpAny (model prog w) A.in1 (call (.ref f) [.ref x, b]) (fun v s' => ∃ k, v = .bool k ∧ Q (.bool (!k)) s') E s) : wpAny (model prog w) A (richCompare .NotEq (.ref x) b) Q E s := by
  have one := tryNe_own (Q := Q) X I hs hf hn ho hu h
  unfold richCompare
  simp only [oneThing_ref]
  refine wpAny_holding (wpAny_bind (wpAny_cRoomFor (Nat.lt_of_succ_lt hu) ?_))
  refine wpAny_bind (I.type.here (wpAny_bind (hb.here ?_)))
  split
  · rename_i q
    have e : subIn K tb (.ref C) = some false := (Bool.or_eq_true_iff.mp nf).elim (fun e => by rw [beq_iff_eq.mp e] at q; simp at q) beq_iff_eq.mp
    refine wpAny_bind ((looks_subIn X e).here ?_)
    simp only [Bool.false_eq_true, if_false]
    refine wpAny_bind (wpAny_mono one (fun r s' z => ?_) fun _ _ e => e)
    obtain ⟨v, rfl, hq⟩ := z
    exact wpAny_pure hq
  · refine wpAny_bind (wpAny_pure ?_)
    simp only [Bool.false_eq_true, if_false]
    refine wpAny_bind (wpAny_mono one (fun r s' z => ?_) fun _ _ e => e)
    obtain ⟨v, rfl, hq⟩ := z
    exact wpAny_pure hq
end
end L2.Mb
set_option maxRecDepth 100000
set_option maxHeartbeats 4000000
namespace L2.Mb
open PySem PySem.Spec PyProof.Rows Mx PySem.W
/-! ### x == y, x != y by an own ==, y an instance of the same class or any other value -/
def CmpV (C : Addr) (H : Hp) (y : V) : Prop := (∃ b dy gs, y = .ref b ∧ H b = some (.ins C dy gs)) ∨ AnyV H y
section
variable {X : Cx} {CX : CXT} {k : Nat} {C f : Addr} {fd : FuncData} {ps : List Str} {sp : Sp} {pins : List (Addr × Obj)} {σ : L2.St} {H : Hp} {s : Shared}
theorem looks_obj {M : Model} {h : Heap} {a : Addr} {o : Obj} {t : Value} (e : h.get? a = some o) (c : o.cls = t) : Looks M h (typeOf (.ref a)) t := c ▸ (Looks.ld e).andThen .now
theorem cmp_type {y : V} {u : Value} {M : Model} (I : Inv X pins σ H s) (ry : RelV y u) (hy : CmpV C H y) : ∃ tb, Looks M s.heap (typeOf u) tb ∧ notFirst X.K C tb = true := by
  rcases hy with ⟨b, dy, gs, rfl, hb⟩ | hy
  · cases ry
    obtain ⟨_, O, _⟩ := ins_get I.hok hb
    obtain ⟨_, J, _⟩ := O.look
    exact ⟨.ref C, J.type, by simp [notFirst]⟩
  · cases hy with
    | non =>
      cases ry
      exact ⟨.type "NoneType", looks_typeIn I.kIn rfl, by kernel_rfl⟩
    | bl b =>
      cases ry
      exact ⟨.type "bool", looks_typeIn I.kIn rfl, by kernel_rfl⟩
    | int n =>
      obtain ⟨t, rfl⟩ := ry
      exact ⟨.type "int", looks_typeIn I.kIn rfl, by kernel_rfl⟩
    | str z =>
      obtain ⟨t, rfl⟩ := ry
      exact ⟨.type "str", looks_typeIn I.kIn rfl, by kernel_rfl⟩
    | lst h =>
      cases ry
      obtain ⟨_, _, ⟨o, n, ho, hc, _⟩, _⟩ := I.list (SqL.of h)
      exact ⟨.type "list", looks_obj ho hc, by kernel_rfl⟩
    | tup h =>
      cases ry
      obtain ⟨_, _, ⟨o, ho, hc, _⟩, _⟩ := I.tuple (.inl (.inl h))
      exact ⟨.type "tuple", looks_obj ho hc, by kernel_rfl⟩
    | dct h =>
      cases ry
      obtain ⟨_, ya, vs, ra, o, es, ep, ho, hex, hd, _⟩ := (show ObjOk X.prog X.w H s.heap _ (.dK _) from I.hok _ _ h)
      exact ⟨.type "dict", looks_obj ho hex.1, by kernel_rfl⟩
theorem back_bool {R : Bool → Hp → Prop} {a : Addr} {y : V} {u : Value} {A2 : Around} (F : FnOk X.prog X.w X.K X.mg X.base CX k f fd ps sp) (hr : Room k A2) (e0 : Env0 X.prog X.w X.K X.mg X.base A2 X.stack s H) (hb : Binds X.K fd ps []) (hx : Passes CX X (fun _ _ _ => False))
    (I : Inv X pins σ H s) (ry : RelV y u) (h : sp [.ref a, y] H (fun v H' => ∃ c, v = .bl c ∧ R c H') (fun _ _ _ => False)) :
    wpAny (model X.prog X.w) A2 (call (.ref f) [.ref a, u]) (fun v s' => ∃ c H', v = .bool c ∧ Inv X pins σ H' s' ∧ R c H') X.xe s := by
  have hl := F.len _ _ _ _ h
  refine wpAny_call (codeAny_mono (F.run A2 X.stack s H ⟨[.ref a, u], []⟩ [.ref a, u] [.ref a, y] _ _ hr e0 (by
    have z := hb s [.ref a, u] I.kIn (by simpa using hl)
    simpa using z) (.cons rfl (.cons ry .nil)) h) fun r s' hq => ?_)
  cases r with
  | error e => exact hx pins σ H s e s' I hq
  | ok fl =>
    cases fl with
    | ret v =>
      obtain ⟨v, H', J, rv, ⟨c, ec, q⟩⟩ := I.after hq
      subst ec
      cases rv
      exact ⟨c, H', rfl, J, q⟩
    | next => exact False.elim hq
    | brk => exact False.elim hq
    | cont => exact False.elim hq
def rCmpO (C : Addr) (sp : Sp) (neg : Bool) : R2 := fun x y H Q => ∃ a dx fs, x = .ref a ∧ H a = some (.ins C dx fs) ∧ CmpV C H y ∧ sp [.ref a, y] H (fun v H' => ∃ c, v = .bl c ∧ Q (.bl (if neg then !c else c)) H') (fun _ _ _ => False)
theorem op_eqO (F : FnOk X.prog X.w X.K X.mg X.base CX k f fd ps sp) (hr : Room k X.A) (hb : Binds X.K fd ps []) (hx : Passes CX X (fun _ _ _ => False)) (hs : findIn X.K (.ref C) "__eq__" = some (some (.ref f))) (hf : isFn X.K (.ref f) = true) : OpR X (compareOp .Eq) (rCmpO C sp false) := by
  intro pins s σ H x y v u Q I rx ry h
  obtain ⟨a, dx, fs, rfl, ea, hy, q⟩ := h
  cases rx
  obtain ⟨tb, L, nf⟩ := cmp_type (C := C) (M := model X.prog X.w) I ry hy
  obtain ⟨_, O, _⟩ := ins_get I.hok ea
  obtain ⟨_, J, _⟩ := O.look
  obtain ⟨m, hF⟩ := I.fr
  refine cmp_K (op := .Eq) (tb := tb) hr.units0 hF I.ok.mod.kin J L nf hs hf (wpAny_mono (back_bool (R := fun c H' => Q (.bl c) H') F hr I.env0 hb hx I ry q) (fun r s' z => ?_) fun _ _ e => e)
  obtain ⟨c, H', rfl, J, z⟩ := z
  exact ⟨.bl c, H', J, rfl, z⟩
theorem op_neO (F : FnOk X.prog X.w X.K X.mg X.base CX k f fd ps sp) (hr : Room (k + 1) X.A) (hb : Binds X.K fd ps []) (hx : Passes CX X (fun _ _ _ => False)) (hs : findIn X.K (.ref C) "__eq__" = some (some (.ref f))) (hf : isFn X.K (.ref f) = true)
    (hn : findIn X.K (.ref C) "__ne__" = some (some (.builtin "object.__ne__"))) (ho : mroIn X.K C (.type "object") = some true) : OpR X (compareOp .NotEq) (rCmpO C sp true) := by
  intro pins s σ H x y v u Q I rx ry h
  obtain ⟨a, dx, fs, rfl, ea, hy, q⟩ := h
  cases rx
  obtain ⟨tb, L, nf⟩ := cmp_type (C := C) (M := model X.prog X.w) I ry hy
  obtain ⟨_, O, _⟩ := ins_get I.hok ea
  obtain ⟨_, J, _⟩ := O.look
  have hun := hr.units
  refine ne_own (tb := tb) I.kIn J L nf hs hf hn ho (by omega) (wpAny_mono (back_bool (R := fun c H' => Q (.bl (!c)) H') F hr.in1 I.env0.in1 hb hx I ry q) (fun r s' z => ?_) fun _ _ e => e)
  obtain ⟨c, H', rfl, J, z⟩ := z
  exact ⟨c, rfl, .bl (!c), H', J, rfl, z⟩
end
end L2.Mb
set_option maxRecDepth 100000
set_option maxHeartbeats 4000000
namespace L2.Mb
open PySem PySem.Spec PyProof.Rows Mx Evl
/-! ### a list over zip of two lists -/
section
variable {K : W.Frag} {σ : L2.St} {H : Hp} {te : TE}
/-- two lists, one after the other -/
def EvLL (ta : TA) (σ : L2.St) (H : Hp) (xs ys : List V) : Prop := ∀ H1, Ex H H1 → ∀ Q : List V → Hp → Prop, (∀ a b H2, Ex H1 H2 → H2 a = some (.lst xs) → H2 b = some (.lst ys) → Q [.ref a, .ref b] H2) → ta σ H1 Q
theorem ell_cons {ta tb : TE} {xs ys : List V} (h1 : EvL ta σ H xs) (h2 : EvL tb σ H ys) : EvLL (tCons ta (tCons tb tNil)) σ H xs ys := fun H1 e Q q => h1 H1 e _ fun a H2 _ e2 ha => h2 H2 (e.trans e2) _ fun b H3 _ e3 hb => q a b H3 (e2.trans e3) (e3 _ _ ha) hb
theorem el_lcZ {ta : TA} {i j : Nat} {vs : List Nat} {xs ys : List V} (v : Nat → V) (h : EvLL ta σ H xs ys) (hl : xs.length = ys.length) (hz : xs.length ≤ 40000) (hw : ∀ x y, wipe (((wipe σ vs).set i (some x)).set j (some y)) vs = wipe σ vs)
    (he : ∀ (k : Nat) (x y : V) H1, Ex H H1 → xs[k]? = some x → ys[k]? = some y → Ev te (((wipe σ vs).set i (some x)).set j (some y)) H1 (v k)) :
    EvL (tLc (iZip K ta) (gTup K 2 (gCons (gName i) (gCons (gName j) gNil))) tYes te vs) σ H (given xs.length (fun _ => true) v) := fun H0 e Q q => h H0 e _ fun a b H1 e1 ha hb =>
  ⟨a, b, xs, ys, rfl, sq_of ha, sq_of hb, fun Dl hD => lc_it (walk_zip (n := xs.length) (by omega)) (Cw H1 (fun _ => true) v Dl) ⟨hD, Ex.new hD, upd_same⟩ (fun k H' _ p => ⟨sq_of (p.2.1 a _ ha), sq_of (p.2.1 b _ hb)⟩) (fun k x H2 H3 hk p y => by
    obtain ⟨T, x', y', rfl, hT, rfl, f1, f2⟩ := y
    refine ⟨T, [x', y'], rfl, st_of upd_same, rfl, x', [y'], rfl, y', [], rfl, rfl, hw x' y', ?_⟩
    have p2 : Cw H1 (fun _ => true) v Dl k (upd H2 T (.tup [x', y'])) := ⟨p.1, p.2.1.trans (Ex.new hT), by rw [upd_ne (ne_of_none p.2.2 hT)]; exact p.2.2⟩
    exact cw_turn p2 (by omega) (fun H4 _ Q q => q H4 (Ex.refl H4)) (fun _ => he k x' y' H1 (e.trans e1) f1 f2)) (fun H' p => q Dl H' (fresh_back e1 p.1) (e1.trans p.2.1) p.2.2)⟩
end
end L2.Mb
set_option maxRecDepth 100000
set_option maxHeartbeats 4000000
namespace L2.Mb
open PySem PySem.Spec PyProof.Rows Mx
/-! ### o.m(k = v), an own method -/
section
variable {X : Cx} {CX : CXT} {k : Nat} {C f : Addr} {fd : FuncData} {ps ks : List Str} {sp : Sp} {E : XK} {o : Expr} {kws : List Keyword} {m : Str} {pos apos : Pos} {ta : TE} {t : TA} {pl : Sem Bool} {gg : List Value → List Value} {gV : List V → List V}
def tMethK (C : Addr) (m : Str) (sp : Sp) (n : Nat) (gV : List V → List V) (E : XK) (ta : TE) (t : TA) : TE := fun σ H Q => ta σ H fun x H1 => ∃ a dx fs, x = .ref a ∧ H1 a = some (.ins C dx fs) ∧ fs.lookup m = none ∧ t σ H1 fun vs H2 => vs.length = n ∧ sp (.ref a :: gV vs) H2 Q E
theorem pe_methK (he : PE X o ta) (c : Cls X.K C) (hm : Meth X.K C m f) (F : FnOk X.prog X.w X.K X.mg X.base CX k f fd ps sp) (hb : KwB X.K fd ps ks gg gV) (hr : Room k X.A) (hx : Passes CX X E) (ha : PK X kws t)
    (hall : (backToKw pos (keywordEach kws X.env)).all (·.1.isSome) = true := by rfl) (hks : (backToKw pos (keywordEach kws X.env)).filterMap (·.1) = ks := by rfl)
    (hpl : ((backTo pos (starEach [] X.env)).any (·.1) || (backToKw pos (keywordEach kws X.env)).any (·.1.isNone)) = false := by rfl)
    (ht : eval (.Call (.Attribute o m apos) [] kws pos) X.env = (do
      let ov ← eval o X.env
      standAt apos.atName
      let (f, first) ← holding [ov] (getMethod ov m pl)
      callWith pos f first (backTo pos (starEach [] X.env)) (backToKw pos (keywordEach kws X.env))) := by rfl) :
    PE X (.Call (.Attribute o m apos) [] kws pos) (tMethK C m sp ks.length gV E ta t) := by
  refine ⟨fun pins s σ H Q I h => ?_⟩
  refine W.methodCall_KW (pl := pl) (thn (he.run pins s σ H _ I h) fun u s1 ⟨x, H1, I1, rx, a, dx, fs, ex, ea, l, q⟩ => ?_) ht
  subst ex
  obtain rfl : u = Value.ref a := rx
  refine getmeth_ok I1 ea c hm l ?_
  refine W.callWith_of hpl (W.keeps_K hm.kp) (evalArgs_kw2_nil hall (thn (ha.run pos _ s1 σ H1 _ I1 q) fun ws s3 ⟨zs, H2, I3, rz, l2, q2⟩ => ⟨I3.kIn, ?_⟩))
  rw [hks]
  exact wpAny_call (codeAny_mono (F.run X.A X.stack s3 H2 ⟨[.ref a], ks.zip ws⟩ (.ref a :: gg ws) (.ref a :: gV zs) Q E hr I3.env0 (hb.to s3 a ws I3.kIn (rz.length.symm.trans l2)) (.cons rfl (hb.rel rz)) q2) fun r s' hq' => by
    cases r with
    | error e => exact hx _ σ H2 s3 e s' I3 hq'
    | ok fl =>
      cases fl with
      | ret u => exact I3.after hq'
      | next => exact False.elim hq'
      | brk => exact False.elim hq'
      | cont => exact False.elim hq')
end
end L2.Mb
set_option maxRecDepth 100000
set_option maxHeartbeats 4000000
namespace L2.Mb
open PySem PySem.Spec PyProof.Rows Mx PySem.W
/-! ### y in x, y not in x by an own __contains__ -/
section
variable {X : Cx} {CX : CXT} {k : Nat} {C f : Addr} {fd : FuncData} {ps : List Str} {sp : Sp}
def rInO (C : Addr) (sp : Sp) (neg : Bool) : R2 := fun y x H Q => ∃ a dx fs, x = .ref a ∧ H a = some (.ins C dx fs) ∧ sp [.ref a, y] H (fun v H' => ∃ c, v = .bl c ∧ Q (.bl (if neg then !c else c)) H') (fun _ _ _ => False)
theorem op_inO (F : FnOk X.prog X.w X.K X.mg X.base CX k f fd ps sp) (hr : Room k X.A) (hb : Binds X.K fd ps []) (hx : Passes CX X (fun _ _ _ => False)) (hs : findIn X.K (.ref C) "__contains__" = some (some (.ref f))) (hf : isFn X.K (.ref f) = true) : OpR X (compareOp .In) (rInO C sp false) := by
  intro pins s σ H y x u v Q I ry rx h
  obtain ⟨a, dx, fs, rfl, ea, q⟩ := h
  cases rx
  obtain ⟨_, O, _⟩ := ins_get I.hok ea
  obtain ⟨_, J, _⟩ := O.look
  obtain ⟨m, hF⟩ := I.fr
  refine in_K hF I.ok.mod.kin J hs hf (wpAny_mono (back_bool (R := fun c H' => Q (.bl c) H') F hr I.env0 hb hx I ry q) (fun r s' z => ?_) fun _ _ e => e)
  obtain ⟨c, H', rfl, J, z⟩ := z
  exact wpAny_truthy_bool ⟨.bl c, H', J, rfl, z⟩
theorem op_notInO (F : FnOk X.prog X.w X.K X.mg X.base CX k f fd ps sp) (hr : Room k X.A) (hb : Binds X.K fd ps []) (hx : Passes CX X (fun _ _ _ => False)) (hs : findIn X.K (.ref C) "__contains__" = some (some (.ref f))) (hf : isFn X.K (.ref f) = true) : OpR X (compareOp .NotIn) (rInO C sp true) := by
  intro pins s σ H y x u v Q I ry rx h
  obtain ⟨a, dx, fs, rfl, ea, q⟩ := h
  cases rx
  obtain ⟨_, O, _⟩ := ins_get I.hok ea
  obtain ⟨_, J, _⟩ := O.look
  obtain ⟨m, hF⟩ := I.fr
  refine notIn_K hF I.ok.mod.kin J hs hf (wpAny_mono (back_bool (R := fun c H' => Q (.bl (!c)) H') F hr I.env0 hb hx I ry q) (fun r s' z => ?_) fun _ _ e => e)
  obtain ⟨c, H', rfl, J, z⟩ := z
  exact wpAny_truthy_bool ⟨.bl (!c), H', J, rfl, z⟩
end
end L2.Mb
set_option maxRecDepth 100000
set_option maxHeartbeats 4000000
namespace L2.Mj
open PySem PySem.Spec PyProof.Rows L2 Mx L2.Mb
def top (i : Nat) : Stmt := PySem.Challenge.pw_meetbehind_k90_gates_joined.main.body.getD i (.Pass ⟨0, 0, 0, 0⟩)
abbrev FnP (K : W.Frag) (x : Str) (st : Stmt) (f : Addr) (fd : FuncData) : Prop := FunD K x x (defArgs st) (defBody st) (defScope st) [] [] f fd
/-- a def of a class: m its name, q the qualified one -/
abbrev FnC (K : W.Frag) (m q : Str) (st : Stmt) (kws : List (Str × V)) (f : Addr) (fd : FuncData) : Prop := FunD K m q (defArgs st) (defBody st) (defScope st) [] kws f fd
/-- the built-in names that nobody has taken -/
structure Bt (mg : Str → Option Value) : Prop where
  IndexError : mg "IndexError" = none
  KeyError : mg "KeyError" = none
  LookupError : mg "LookupError" = none
  NotImplemented : mg "NotImplemented" = none
  OverflowError : mg "OverflowError" = none
  RuntimeError : mg "RuntimeError" = none
  ValueError : mg "ValueError" = none
  abs : mg "abs" = none
  all : mg "all" = none
  bool : mg "bool" = none
  classmethod : mg "classmethod" = none
  enumerate : mg "enumerate" = none
  int : mg "int" = none
  isinstance : mg "isinstance" = none
  len : mg "len" = none
  list : mg "list" = none
  max : mg "max" = none
  min : mg "min" = none
  property : mg "property" = none
  range : mg "range" = none
  repr : mg "repr" = none
  sorted : mg "sorted" = none
  str : mg "str" = none
  tuple : mg "tuple" = none
  zip : mg "zip" = none
abbrev s_wall : Stmt := top 0
abbrev n_wall : List Str := ["k"]
abbrev p_wall : List Str := ["k"]
theorem sc_wall : FnScope n_wall p_wall (defScope s_wall) := ⟨rfl, rfl, rfl, by decide +kernel, rfl, by decide +kernel, by decide +kernel⟩
abbrev s_is_integer : Stmt := top 5
abbrev n_is_integer : List Str := ["value", "least", "most"]
abbrev p_is_integer : List Str := ["value", "least", "most"]
theorem sc_is_integer : FnScope n_is_integer p_is_integer (defScope s_is_integer) := ⟨rfl, rfl, rfl, by decide +kernel, rfl, by decide +kernel, by decide +kernel⟩
abbrev s_is_address : Stmt := top 6
abbrev n_is_address : List Str := ["value"]
abbrev p_is_address : List Str := ["value"]
theorem sc_is_address : FnScope n_is_address p_is_address (defScope s_is_address) := ⟨rfl, rfl, rfl, by decide +kernel, rfl, by decide +kernel, by decide +kernel⟩
abbrev s_is_word : Stmt := top 7
abbrev n_is_word : List Str := ["value"]
abbrev p_is_word : List Str := ["value"]
theorem sc_is_word : FnScope n_is_word p_is_word (defScope s_is_word) := ⟨rfl, rfl, rfl, by decide +kernel, rfl, by decide +kernel, by decide +kernel⟩
abbrev s_InvalidKind_init : Stmt := inClass (top 10) 0
abbrev n_InvalidKind_init : List Str := ["self", "place"]
abbrev p_InvalidKind_init : List Str := ["self", "place"]
theorem sc_InvalidKind_init : FnScope n_InvalidKind_init p_InvalidKind_init (defScope s_InvalidKind_init) := ⟨rfl, rfl, rfl, by decide +kernel, rfl, by decide +kernel, by decide +kernel⟩
abbrev s_InvalidPart_init : Stmt := inClass (top 11) 0
abbrev n_InvalidPart_init : List Str := ["self", "index"]
abbrev p_InvalidPart_init : List Str := ["self", "index"]
theorem sc_InvalidPart_init : FnScope n_InvalidPart_init p_InvalidPart_init (defScope s_InvalidPart_init) := ⟨rfl, rfl, rfl, by decide +kernel, rfl, by decide +kernel, by decide +kernel⟩
abbrev s_NoRealm_init : Stmt := inClass (top 12) 0
abbrev n_NoRealm_init : List Str := ["self", "index"]
abbrev p_NoRealm_init : List Str := ["self", "index"]
theorem sc_NoRealm_init : FnScope n_NoRealm_init p_NoRealm_init (defScope s_NoRealm_init) := ⟨rfl, rfl, rfl, by decide +kernel, rfl, by decide +kernel, by decide +kernel⟩
abbrev s_Taken_init : Stmt := inClass (top 13) 0
abbrev n_Taken_init : List Str := ["self", "index"]
abbrev p_Taken_init : List Str := ["self", "index"]
theorem sc_Taken_init : FnScope n_Taken_init p_Taken_init (defScope s_Taken_init) := ⟨rfl, rfl, rfl, by decide +kernel, rfl, by decide +kernel, by decide +kernel⟩
abbrev s_TooDeep_init : Stmt := inClass (top 14) 0
abbrev n_TooDeep_init : List Str := ["self", "index"]
abbrev p_TooDeep_init : List Str := ["self", "index"]
theorem sc_TooDeep_init : FnScope n_TooDeep_init p_TooDeep_init (defScope s_TooDeep_init) := ⟨rfl, rfl, rfl, by decide +kernel, rfl, by decide +kernel, by decide +kernel⟩
abbrev s_Needed_init : Stmt := inClass (top 15) 0
abbrev n_Needed_init : List Str := ["self", "name"]
abbrev p_Needed_init : List Str := ["self", "name"]
theorem sc_Needed_init : FnScope n_Needed_init p_Needed_init (defScope s_Needed_init) := ⟨rfl, rfl, rfl, by decide +kernel, rfl, by decide +kernel, by decide +kernel⟩
abbrev s_InvalidTarget_init : Stmt := inClass (top 16) 0
abbrev n_InvalidTarget_init : List Str := ["self", "target"]
abbrev p_InvalidTarget_init : List Str := ["self", "target"]
theorem sc_InvalidTarget_init : FnScope n_InvalidTarget_init p_InvalidTarget_init (defScope s_InvalidTarget_init) := ⟨rfl, rfl, rfl, by decide +kernel, rfl, by decide +kernel, by decide +kernel⟩
abbrev s_InvalidPort_init : Stmt := inClass (top 17) 0
abbrev n_InvalidPort_init : List Str := ["self", "port"]
abbrev p_InvalidPort_init : List Str := ["self", "port"]
theorem sc_InvalidPort_init : FnScope n_InvalidPort_init p_InvalidPort_init (defScope s_InvalidPort_init) := ⟨rfl, rfl, rfl, by decide +kernel, rfl, by decide +kernel, by decide +kernel⟩
abbrev s_InvalidName_init : Stmt := inClass (top 18) 0
abbrev n_InvalidName_init : List Str := ["self", "name"]
abbrev p_InvalidName_init : List Str := ["self", "name"]
theorem sc_InvalidName_init : FnScope n_InvalidName_init p_InvalidName_init (defScope s_InvalidName_init) := ⟨rfl, rfl, rfl, by decide +kernel, rfl, by decide +kernel, by decide +kernel⟩
abbrev s_Clash_init : Stmt := inClass (top 19) 0
abbrev n_Clash_init : List Str := ["self", "number"]
abbrev p_Clash_init : List Str := ["self", "number"]
theorem sc_Clash_init : FnScope n_Clash_init p_Clash_init (defScope s_Clash_init) := ⟨rfl, rfl, rfl, by decide +kernel, rfl, by decide +kernel, by decide +kernel⟩
abbrev s_InvalidText_init : Stmt := inClass (top 20) 0
abbrev n_InvalidText_init : List Str := ["self", "line", "word"]
abbrev p_InvalidText_init : List Str := ["self", "line", "word"]
theorem sc_InvalidText_init : FnScope n_InvalidText_init p_InvalidText_init (defScope s_InvalidText_init) := ⟨rfl, rfl, rfl, by decide +kernel, rfl, by decide +kernel, by decide +kernel⟩
abbrev s_NoStation_init : Stmt := inClass (top 21) 0
abbrev n_NoStation_init : List Str := ["self", "name"]
abbrev p_NoStation_init : List Str := ["self", "name"]
theorem sc_NoStation_init : FnScope n_NoStation_init p_NoStation_init (defScope s_NoStation_init) := ⟨rfl, rfl, rfl, by decide +kernel, rfl, by decide +kernel, by decide +kernel⟩
abbrev s_NoRound_init : Stmt := inClass (top 22) 0
abbrev n_NoRound_init : List Str := ["self", "number"]
abbrev p_NoRound_init : List Str := ["self", "number"]
theorem sc_NoRound_init : FnScope n_NoRound_init p_NoRound_init (defScope s_NoRound_init) := ⟨rfl, rfl, rfl, by decide +kernel, rfl, by decide +kernel, by decide +kernel⟩
abbrev s_NothingToUndo_init : Stmt := inClass (top 23) 0
abbrev n_NothingToUndo_init : List Str := ["self", "count"]
abbrev p_NothingToUndo_init : List Str := ["self", "count"]
theorem sc_NothingToUndo_init : FnScope n_NothingToUndo_init p_NothingToUndo_init (defScope s_NothingToUndo_init) := ⟨rfl, rfl, rfl, by decide +kernel, rfl, by decide +kernel, by decide +kernel⟩
abbrev s_NotHeard_init : Stmt := inClass (top 24) 0
abbrev n_NotHeard_init : List Str := ["self", "host"]
abbrev p_NotHeard_init : List Str := ["self", "host"]
theorem sc_NotHeard_init : FnScope n_NotHeard_init p_NotHeard_init (defScope s_NotHeard_init) := ⟨rfl, rfl, rfl, by decide +kernel, rfl, by decide +kernel, by decide +kernel⟩
abbrev s_NotSeen_init : Stmt := inClass (top 25) 0
abbrev n_NotSeen_init : List Str := ["self", "name"]
abbrev p_NotSeen_init : List Str := ["self", "name"]
theorem sc_NotSeen_init : FnScope n_NotSeen_init p_NotSeen_init (defScope s_NotSeen_init) := ⟨rfl, rfl, rfl, by decide +kernel, rfl, by decide +kernel, by decide +kernel⟩
abbrev s_Heard_init : Stmt := inClass (top 26) 0
abbrev n_Heard_init : List Str := ["self", "number"]
abbrev p_Heard_init : List Str := ["self", "number"]
theorem sc_Heard_init : FnScope n_Heard_init p_Heard_init (defScope s_Heard_init) := ⟨rfl, rfl, rfl, by decide +kernel, rfl, by decide +kernel, by decide +kernel⟩
abbrev s_TooMany_init : Stmt := inClass (top 27) 0
abbrev n_TooMany_init : List Str := ["self", "limit"]
abbrev p_TooMany_init : List Str := ["self", "limit"]
theorem sc_TooMany_init : FnScope n_TooMany_init p_TooMany_init (defScope s_TooMany_init) := ⟨rfl, rfl, rfl, by decide +kernel, rfl, by decide +kernel, by decide +kernel⟩
abbrev s_number_of : Stmt := top 30
abbrev n_number_of : List Str := ["word", "least", "most", "sign", "number"]
abbrev p_number_of : List Str := ["word", "least", "most"]
theorem sc_number_of : FnScope n_number_of p_number_of (defScope s_number_of) := ⟨rfl, rfl, rfl, by decide +kernel, rfl, by decide +kernel, by decide +kernel⟩
abbrev s_Kind_init : Stmt := inClass (top 35) 2
abbrev n_Kind_init : List Str := ["self", "lends", "lets", "turns", "rests"]
abbrev p_Kind_init : List Str := ["self", "lends", "lets", "turns", "rests"]
theorem sc_Kind_init : FnScope n_Kind_init p_Kind_init (defScope s_Kind_init) := ⟨rfl, rfl, rfl, by decide +kernel, rfl, by decide +kernel, by decide +kernel⟩
abbrev s_Kind_lends : Stmt := inClass (top 35) 3
abbrev n_Kind_lends : List Str := ["self"]
abbrev p_Kind_lends : List Str := ["self"]
theorem sc_Kind_lends : FnScope n_Kind_lends p_Kind_lends (defScope s_Kind_lends) := ⟨rfl, rfl, rfl, by decide +kernel, rfl, by decide +kernel, by decide +kernel⟩
abbrev s_Kind_lets : Stmt := inClass (top 35) 4
abbrev n_Kind_lets : List Str := ["self"]
abbrev p_Kind_lets : List Str := ["self"]
theorem sc_Kind_lets : FnScope n_Kind_lets p_Kind_lets (defScope s_Kind_lets) := ⟨rfl, rfl, rfl, by decide +kernel, rfl, by decide +kernel, by decide +kernel⟩
abbrev s_Kind_turns : Stmt := inClass (top 35) 5
abbrev n_Kind_turns : List Str := ["self"]
abbrev p_Kind_turns : List Str := ["self"]
theorem sc_Kind_turns : FnScope n_Kind_turns p_Kind_turns (defScope s_Kind_turns) := ⟨rfl, rfl, rfl, by decide +kernel, rfl, by decide +kernel, by decide +kernel⟩
abbrev s_Kind_rests : Stmt := inClass (top 35) 6
abbrev n_Kind_rests : List Str := ["self"]
abbrev p_Kind_rests : List Str := ["self"]
theorem sc_Kind_rests : FnScope n_Kind_rests p_Kind_rests (defScope s_Kind_rests) := ⟨rfl, rfl, rfl, by decide +kernel, rfl, by decide +kernel, by decide +kernel⟩
abbrev s_Kind_within : Stmt := inClass (top 35) 7
abbrev n_Kind_within : List Str := ["self", "other", "mine", "yours"]
abbrev p_Kind_within : List Str := ["self", "other"]
theorem sc_Kind_within : FnScope n_Kind_within p_Kind_within (defScope s_Kind_within) := ⟨rfl, rfl, rfl, by decide +kernel, rfl, by decide +kernel, by decide +kernel⟩
abbrev s_Kind_read : Stmt := inClass (top 35) 8
abbrev n_Kind_read : List Str := ["cls", "text"]
abbrev p_Kind_read : List Str := ["cls", "text"]
theorem sc_Kind_read : FnScope n_Kind_read p_Kind_read (defScope s_Kind_read) := ⟨rfl, rfl, rfl, by decide +kernel, rfl, by decide +kernel, by decide +kernel⟩
abbrev s_Kind_or : Stmt := inClass (top 35) 9
abbrev n_Kind_or : List Str := ["self", "other", "mine", "yours"]
abbrev p_Kind_or : List Str := ["self", "other"]
theorem sc_Kind_or : FnScope n_Kind_or p_Kind_or (defScope s_Kind_or) := ⟨rfl, rfl, rfl, by decide +kernel, rfl, by decide +kernel, by decide +kernel⟩
abbrev s_Kind_and : Stmt := inClass (top 35) 10
abbrev n_Kind_and : List Str := ["self", "other", "mine", "yours"]
abbrev p_Kind_and : List Str := ["self", "other"]
theorem sc_Kind_and : FnScope n_Kind_and p_Kind_and (defScope s_Kind_and) := ⟨rfl, rfl, rfl, by decide +kernel, rfl, by decide +kernel, by decide +kernel⟩
abbrev s_Kind_eq : Stmt := inClass (top 35) 11
abbrev n_Kind_eq : List Str := ["self", "other"]
abbrev p_Kind_eq : List Str := ["self", "other"]
theorem sc_Kind_eq : FnScope n_Kind_eq p_Kind_eq (defScope s_Kind_eq) := ⟨rfl, rfl, rfl, by decide +kernel, rfl, by decide +kernel, by decide +kernel⟩
abbrev s_Kind_str : Stmt := inClass (top 35) 12
abbrev n_Kind_str : List Str := ["self", "words"]
abbrev p_Kind_str : List Str := ["self"]
theorem sc_Kind_str : FnScope n_Kind_str p_Kind_str (defScope s_Kind_str) := ⟨rfl, rfl, rfl, by decide +kernel, rfl, by decide +kernel, by decide +kernel⟩
abbrev s_Kind_repr : Stmt := inClass (top 35) 13
abbrev n_Kind_repr : List Str := ["self"]
abbrev p_Kind_repr : List Str := ["self"]
theorem sc_Kind_repr : FnScope n_Kind_repr p_Kind_repr (defScope s_Kind_repr) := ⟨rfl, rfl, rfl, by decide +kernel, rfl, by decide +kernel, by decide +kernel⟩
abbrev s_ranks : Stmt := top 36
abbrev n_ranks : List Str := ["kind", "rests"]
abbrev p_ranks : List Str := ["kind"]
theorem sc_ranks : FnScope n_ranks p_ranks (defScope s_ranks) := ⟨rfl, rfl, rfl, by decide +kernel, rfl, by decide +kernel, by decide +kernel⟩
abbrev s_kind_of_ranks : Stmt := top 37
abbrev n_kind_of_ranks : List Str := ["ranks", "lends", "lets", "turns", "rests", "limit"]
abbrev p_kind_of_ranks : List Str := ["ranks"]
theorem sc_kind_of_ranks : FnScope n_kind_of_ranks p_kind_of_ranks (defScope s_kind_of_ranks) := ⟨rfl, rfl, rfl, by decide +kernel, rfl, by decide +kernel, by decide +kernel⟩
abbrev s_kind_of_words : Stmt := top 38
abbrev n_kind_of_words : List Str := ["words", "line", "before", "lends", "_", "lets", "at", "turns", "rests"]
abbrev p_kind_of_words : List Str := ["words", "line", "before"]
theorem sc_kind_of_words : FnScope n_kind_of_words p_kind_of_words (defScope s_kind_of_words) := ⟨rfl, rfl, rfl, by decide +kernel, rfl, by decide +kernel, by decide +kernel⟩
abbrev s_World_init : Stmt := inClass (top 40) 3
abbrev n_World_init : List Str := ["self", "parts", "index", "part", "name"]
abbrev p_World_init : List Str := ["self", "parts"]
theorem sc_World_init : FnScope n_World_init p_World_init (defScope s_World_init) := ⟨rfl, rfl, rfl, by decide +kernel, rfl, by decide +kernel, by decide +kernel⟩
abbrev s_World_check_place : Stmt := inClass (top 40) 4
abbrev n_World_check_place : List Str := ["self", "index", "part"]
abbrev p_World_check_place : List Str := ["self", "index", "part"]
theorem sc_World_check_place : FnScope n_World_check_place p_World_check_place (defScope s_World_check_place) := ⟨rfl, rfl, rfl, by decide +kernel, rfl, by decide +kernel, by decide +kernel⟩
abbrev s_World_check_number : Stmt := inClass (top 40) 5
abbrev n_World_check_number : List Str := ["self", "index", "part"]
abbrev p_World_check_number : List Str := ["self", "index", "part"]
theorem sc_World_check_number : FnScope n_World_check_number p_World_check_number (defScope s_World_check_number) := ⟨rfl, rfl, rfl, by decide +kernel, rfl, by decide +kernel, by decide +kernel⟩
abbrev s_World_take : Stmt := inClass (top 40) 6
abbrev n_World_take : List Str := ["self", "part", "name", "realm", "address"]
abbrev p_World_take : List Str := ["self", "part"]
theorem sc_World_take : FnScope n_World_take p_World_take (defScope s_World_take) := ⟨rfl, rfl, rfl, by decide +kernel, rfl, by decide +kernel, by decide +kernel⟩
abbrev s_World_parts : Stmt := inClass (top 40) 7
abbrev n_World_parts : List Str := ["self"]
abbrev p_World_parts : List Str := ["self"]
theorem sc_World_parts : FnScope n_World_parts p_World_parts (defScope s_World_parts) := ⟨rfl, rfl, rfl, by decide +kernel, rfl, by decide +kernel, by decide +kernel⟩
abbrev s_World_gates : Stmt := inClass (top 40) 8
abbrev n_World_gates : List Str := ["self"]
abbrev p_World_gates : List Str := ["self"]
theorem sc_World_gates : FnScope n_World_gates p_World_gates (defScope s_World_gates) := ⟨rfl, rfl, rfl, by decide +kernel, rfl, by decide +kernel, by decide +kernel⟩
abbrev s_World_hosts : Stmt := inClass (top 40) 9
abbrev n_World_hosts : List Str := ["self"]
abbrev p_World_hosts : List Str := ["self"]
theorem sc_World_hosts : FnScope n_World_hosts p_World_hosts (defScope s_World_hosts) := ⟨rfl, rfl, rfl, by decide +kernel, rfl, by decide +kernel, by decide +kernel⟩
abbrev s_World_kind : Stmt := inClass (top 40) 10
abbrev n_World_kind : List Str := ["self", "gate"]
abbrev p_World_kind : List Str := ["self", "gate"]
theorem sc_World_kind : FnScope n_World_kind p_World_kind (defScope s_World_kind) := ⟨rfl, rfl, rfl, by decide +kernel, rfl, by decide +kernel, by decide +kernel⟩
abbrev s_World_address : Stmt := inClass (top 40) 11
abbrev n_World_address : List Str := ["self", "name"]
abbrev p_World_address : List Str := ["self", "name"]
theorem sc_World_address : FnScope n_World_address p_World_address (defScope s_World_address) := ⟨rfl, rfl, rfl, by decide +kernel, rfl, by decide +kernel, by decide +kernel⟩
abbrev s_World_realm : Stmt := inClass (top 40) 12
abbrev n_World_realm : List Str := ["self", "name"]
abbrev p_World_realm : List Str := ["self", "name"]
theorem sc_World_realm : FnScope n_World_realm p_World_realm (defScope s_World_realm) := ⟨rfl, rfl, rfl, by decide +kernel, rfl, by decide +kernel, by decide +kernel⟩
abbrev s_World_chain : Stmt := inClass (top 40) 13
abbrev n_World_chain : List Str := ["self", "name"]
abbrev p_World_chain : List Str := ["self", "name"]
theorem sc_World_chain : FnScope n_World_chain p_World_chain (defScope s_World_chain) := ⟨rfl, rfl, rfl, by decide +kernel, rfl, by decide +kernel, by decide +kernel⟩
abbrev s_World_station : Stmt := inClass (top 40) 14
abbrev n_World_station : List Str := ["self", "realm", "address"]
abbrev p_World_station : List Str := ["self", "realm", "address"]
theorem sc_World_station : FnScope n_World_station p_World_station (defScope s_World_station) := ⟨rfl, rfl, rfl, by decide +kernel, rfl, by decide +kernel, by decide +kernel⟩
abbrev s_World_stations : Stmt := inClass (top 40) 15
abbrev n_World_stations : List Str := ["self", "realm", "places", "place"]
abbrev p_World_stations : List Str := ["self", "realm"]
theorem sc_World_stations : FnScope n_World_stations p_World_stations (defScope s_World_stations) := ⟨rfl, rfl, rfl, by decide +kernel, rfl, by decide +kernel, by decide +kernel⟩
abbrev s_World_check_realm : Stmt := inClass (top 40) 16
abbrev n_World_check_realm : List Str := ["self", "realm"]
abbrev p_World_check_realm : List Str := ["self", "realm"]
theorem sc_World_check_realm : FnScope n_World_check_realm p_World_check_realm (defScope s_World_check_realm) := ⟨rfl, rfl, rfl, by decide +kernel, rfl, by decide +kernel, by decide +kernel⟩
abbrev s_World_with_part : Stmt := inClass (top 40) 17
abbrev n_World_with_part : List Str := ["self", "part"]
abbrev p_World_with_part : List Str := ["self", "part"]
theorem sc_World_with_part : FnScope n_World_with_part p_World_with_part (defScope s_World_with_part) := ⟨rfl, rfl, rfl, by decide +kernel, rfl, by decide +kernel, by decide +kernel⟩
abbrev s_World_with_kind : Stmt := inClass (top 40) 18
abbrev n_World_with_kind : List Str := ["self", "gate", "kind"]
abbrev p_World_with_kind : List Str := ["self", "gate", "kind"]
theorem sc_World_with_kind : FnScope n_World_with_kind p_World_with_kind (defScope s_World_with_kind) := ⟨rfl, rfl, rfl, by decide +kernel, rfl, by decide +kernel, by decide +kernel⟩
abbrev s_World_with_kinds : Stmt := inClass (top 40) 19
abbrev n_World_with_kinds : List Str := ["self", "kinds"]
abbrev p_World_with_kinds : List Str := ["self", "kinds"]
theorem sc_World_with_kinds : FnScope n_World_with_kinds p_World_with_kinds (defScope s_World_with_kinds) := ⟨rfl, rfl, rfl, by decide +kernel, rfl, by decide +kernel, by decide +kernel⟩
abbrev s_World_without : Stmt := inClass (top 40) 20
abbrev n_World_without : List Str := ["self", "name", "parts", "part"]
abbrev p_World_without : List Str := ["self", "name"]
theorem sc_World_without : FnScope n_World_without p_World_without (defScope s_World_without) := ⟨rfl, rfl, rfl, by decide +kernel, rfl, by decide +kernel, by decide +kernel⟩
abbrev s_World_read : Stmt := inClass (top 40) 21
abbrev n_World_read : List Str := ["cls", "text", "parts", "line", "words"]
abbrev p_World_read : List Str := ["cls", "text"]
theorem sc_World_read : FnScope n_World_read p_World_read (defScope s_World_read) := ⟨rfl, rfl, rfl, by decide +kernel, rfl, by decide +kernel, by decide +kernel⟩
abbrev s_World_contains : Stmt := inClass (top 40) 22
abbrev n_World_contains : List Str := ["self", "x"]
abbrev p_World_contains : List Str := ["self", "x"]
theorem sc_World_contains : FnScope n_World_contains p_World_contains (defScope s_World_contains) := ⟨rfl, rfl, rfl, by decide +kernel, rfl, by decide +kernel, by decide +kernel⟩
abbrev s_World_len : Stmt := inClass (top 40) 23
abbrev n_World_len : List Str := ["self"]
abbrev p_World_len : List Str := ["self"]
theorem sc_World_len : FnScope n_World_len p_World_len (defScope s_World_len) := ⟨rfl, rfl, rfl, by decide +kernel, rfl, by decide +kernel, by decide +kernel⟩
abbrev s_World_eq : Stmt := inClass (top 40) 24
abbrev n_World_eq : List Str := ["self", "other"]
abbrev p_World_eq : List Str := ["self", "other"]
theorem sc_World_eq : FnScope n_World_eq p_World_eq (defScope s_World_eq) := ⟨rfl, rfl, rfl, by decide +kernel, rfl, by decide +kernel, by decide +kernel⟩
abbrev s_World_str : Stmt := inClass (top 40) 25
abbrev n_World_str : List Str := ["self", "part"]
abbrev p_World_str : List Str := ["self"]
theorem sc_World_str : FnScope n_World_str p_World_str (defScope s_World_str) := ⟨rfl, rfl, rfl, by decide +kernel, rfl, by decide +kernel, by decide +kernel⟩
abbrev s_World_repr : Stmt := inClass (top 40) 26
abbrev n_World_repr : List Str := ["self"]
abbrev p_World_repr : List Str := ["self"]
theorem sc_World_repr : FnScope n_World_repr p_World_repr (defScope s_World_repr) := ⟨rfl, rfl, rfl, by decide +kernel, rfl, by decide +kernel, by decide +kernel⟩
abbrev s_in_any_order : Stmt := top 41
abbrev n_in_any_order : List Str := ["world"]
abbrev p_in_any_order : List Str := ["world"]
theorem sc_in_any_order : FnScope n_in_any_order p_in_any_order (defScope s_in_any_order) := ⟨rfl, rfl, rfl, by decide +kernel, rfl, by decide +kernel, by decide +kernel⟩
abbrev s_is_part : Stmt := top 42
abbrev n_is_part : List Str := ["value", "word", "name", "realm", "address"]
abbrev p_is_part : List Str := ["value"]
theorem sc_is_part : FnScope n_is_part p_is_part (defScope s_is_part) := ⟨rfl, rfl, rfl, by decide +kernel, rfl, by decide +kernel, by decide +kernel⟩
abbrev s_line_of_part : Stmt := top 43
abbrev n_line_of_part : List Str := ["part", "kind"]
abbrev p_line_of_part : List Str := ["part"]
theorem sc_line_of_part : FnScope n_line_of_part p_line_of_part (defScope s_line_of_part) := ⟨rfl, rfl, rfl, by decide +kernel, rfl, by decide +kernel, by decide +kernel⟩
abbrev s_part_of_words : Stmt := top 44
abbrev n_part_of_words : List Str := ["words", "line", "at", "word", "name", "realm", "address", "place"]
abbrev p_part_of_words : List Str := ["words", "line"]
theorem sc_part_of_words : FnScope n_part_of_words p_part_of_words (defScope s_part_of_words) := ⟨rfl, rfl, rfl, by decide +kernel, rfl, by decide +kernel, by decide +kernel⟩
abbrev s_can_stand : Stmt := top 45
abbrev n_can_stand : List Str := ["word", "at"]
abbrev p_can_stand : List Str := ["word", "at"]
theorem sc_can_stand : FnScope n_can_stand p_can_stand (defScope s_can_stand) := ⟨rfl, rfl, rfl, by decide +kernel, rfl, by decide +kernel, by decide +kernel⟩
abbrev s_joined : Stmt := top 47
abbrev n_joined : List Str := ["world", "gate", "around", "address", "kind", "parts", "part"]
abbrev p_joined : List Str := ["world", "gate"]
theorem sc_joined : FnScope n_joined p_joined (defScope s_joined) := ⟨rfl, rfl, rfl, by decide +kernel, rfl, by decide +kernel, by decide +kernel⟩
abbrev s_addresses_but : Stmt := top 48
abbrev n_addresses_but : List Str := ["world", "name", "part"]
abbrev p_addresses_but : List Str := ["world", "name"]
theorem sc_addresses_but : FnScope n_addresses_but p_addresses_but (defScope s_addresses_but) := ⟨rfl, rfl, rfl, by decide +kernel, rfl, by decide +kernel, by decide +kernel⟩
abbrev s_law_pen : Stmt := top 50
abbrev n_law_pen : List Str := ["_law_script"]
abbrev p_law_pen : List Str := ["_law_script"]
theorem sc_law_pen : FnScope n_law_pen p_law_pen (defScope s_law_pen) := ⟨rfl, rfl, rfl, by decide +kernel, rfl, by decide +kernel, by decide +kernel⟩
abbrev s_law_draw : Stmt := top 51
abbrev n_law_draw : List Str := ["_law_pen_here", "_law_bound", "_law_digit", "_law_at", "_law_cell", "_law_great", "_law_mixed_here"]
abbrev p_law_draw : List Str := ["_law_pen_here", "_law_bound"]
theorem sc_law_draw : FnScope n_law_draw p_law_draw (defScope s_law_draw) := ⟨rfl, rfl, rfl, by decide +kernel, rfl, by decide +kernel, by decide +kernel⟩
abbrev s_law_letters : Stmt := top 52
abbrev n_law_letters : List Str := ["_law_pen_here", "_law_gates", "_law_hosts", "_law_words", "_law_mode", "_law_letters_here", "_law_k"]
abbrev p_law_letters : List Str := ["_law_pen_here", "_law_gates", "_law_hosts"]
theorem sc_law_letters : FnScope n_law_letters p_law_letters (defScope s_law_letters) := ⟨rfl, rfl, rfl, by decide +kernel, rfl, by decide +kernel, by decide +kernel⟩
abbrev s_law_sort : Stmt := top 53
abbrev n_law_sort : List Str := ["_law_pen_here", "_law_some", "_law_kind"]
abbrev p_law_sort : List Str := ["_law_pen_here"]
theorem sc_law_sort : FnScope n_law_sort p_law_sort (defScope s_law_sort) := ⟨rfl, rfl, rfl, by decide +kernel, rfl, by decide +kernel, by decide +kernel⟩
abbrev s_law_parts : Stmt := top 54
abbrev n_law_parts : List Str := ["_law_pen_here", "_law_gates", "_law_hosts", "_law_pool", "_law_labels", "_law_is_line", "_law_deep", "_law_taken", "_law_found", "_law_k", "_law_label", "_law_places", "_law_realm", "_law_free", "_law_spot", "_law_part"]
abbrev p_law_parts : List Str := ["_law_pen_here", "_law_gates", "_law_hosts"]
theorem sc_law_parts : FnScope n_law_parts p_law_parts (defScope s_law_parts) := ⟨rfl, rfl, rfl, by decide +kernel, rfl, by decide +kernel, by decide +kernel⟩
abbrev s_law_world : Stmt := top 55
abbrev n_law_world : List Str := ["_law_parts_here", "_law_found", "_law_part", "_law_sort_here"]
abbrev p_law_world : List Str := ["_law_parts_here"]
theorem sc_law_world : FnScope n_law_world p_law_world (defScope s_law_world) := ⟨rfl, rfl, rfl, by decide +kernel, rfl, by decide +kernel, by decide +kernel⟩
abbrev s_law_mixed : Stmt := top 56
abbrev n_law_mixed : List Str := ["_law_pen_here", "_law_parts_here", "_law_left", "_law_known", "_law_found", "_law_fit", "_law_part"]
abbrev p_law_mixed : List Str := ["_law_pen_here", "_law_parts_here"]
theorem sc_law_mixed : FnScope n_law_mixed p_law_mixed (defScope s_law_mixed) := ⟨rfl, rfl, rfl, by decide +kernel, rfl, by decide +kernel, by decide +kernel⟩
abbrev s_law_heard : Stmt := top 57
abbrev n_law_heard : List Str := ["_law_ask", "_law_caught", "_law_found", "_law_marks", "_law_others", "_law_at", "_law_bases"]
abbrev p_law_heard : List Str := ["_law_ask"]
theorem sc_law_heard : FnScope n_law_heard p_law_heard (defScope s_law_heard) := ⟨rfl, rfl, rfl, by decide +kernel, rfl, by decide +kernel, by decide +kernel⟩
abbrev s_law_twos : Stmt := top 58
abbrev n_law_twos : List Str := ["_law_pen_here", "_law_parts_here", "_law_near", "_law_part", "_law_realm", "_law_taken", "_law_inner", "_law_found", "_law_k"]
abbrev p_law_twos : List Str := ["_law_pen_here", "_law_parts_here"]
theorem sc_law_twos : FnScope n_law_twos p_law_twos (defScope s_law_twos) := ⟨rfl, rfl, rfl, by decide +kernel, rfl, by decide +kernel, by decide +kernel⟩
abbrev s_law_stricter : Stmt := top 59
abbrev n_law_stricter : List Str := ["_law_kind", "_law_mate", "_law_lends", "_law_lets", "_law_lend", "_law_let", "_law_ends", "_law_one"]
abbrev p_law_stricter : List Str := ["_law_kind", "_law_mate"]
theorem sc_law_stricter : FnScope n_law_stricter p_law_stricter (defScope s_law_stricter) := ⟨rfl, rfl, rfl, by decide +kernel, rfl, by decide +kernel, by decide +kernel⟩
abbrev s_law_due : Stmt := top 60
abbrev n_law_due : List Str := ["_law_parts_here", "_law_label", "_law_mine", "_law_part", "_law_beside", "_law_found"]
abbrev p_law_due : List Str := ["_law_parts_here", "_law_label"]
theorem sc_law_due : FnScope n_law_due p_law_due (defScope s_law_due) := ⟨rfl, rfl, rfl, by decide +kernel, rfl, by decide +kernel, by decide +kernel⟩
abbrev s_law_right : Stmt := top 61
abbrev n_law_right : List Str := ["_law_land", "_law_parts_here", "_law_label", "_law_due_here", "_law_both", "_law_found"]
abbrev p_law_right : List Str := ["_law_land", "_law_parts_here", "_law_label"]
theorem sc_law_right : FnScope n_law_right p_law_right (defScope s_law_right) := ⟨rfl, rfl, rfl, by decide +kernel, rfl, by decide +kernel, by decide +kernel⟩
abbrev s_law : Stmt := top 62
abbrev n_law : List Str := ["_law_script", "_law_pen_here", "_law_turn", "_law_parts_here", "_law_land", "_law_part", "_law_guests", "_law_bad", "_law_outer"]
abbrev p_law : List Str := ["_law_script"]
theorem sc_law : FnScope n_law p_law (defScope s_law) := ⟨rfl, rfl, rfl, by decide +kernel, rfl, by decide +kernel, by decide +kernel⟩
end L2.Mj
set_option maxRecDepth 100000
set_option maxHeartbeats 4000000
namespace L2.Mj
open PySem PySem.Spec PyProof.Rows L2 Mx L2.Mb Evl Mv TL LamX
/-- where the error classes stand -/
structure HC where
  M : Addr
  S : Addr
  R : Addr
  U : Addr
  H : Addr
  E : Addr
  D : Addr
  O : Addr
  N : Addr
  L : Addr
  T : Addr
  P : Addr
  Z : Addr
  A : Addr
  I : Addr
  Q : Addr
  X : Addr
  K : Addr
  B : Addr
abbrev HC.l8 (c : HC) : List Value := [.ref c.M, .ref c.S, .ref c.R, .ref c.U, .ref c.H, .ref c.E, .ref c.D, .ref c.O]
abbrev HC.l7 (c : HC) : List Value := [.ref c.I, .ref c.Q, .ref c.X, .ref c.K, .ref c.B, .ref c.R, .ref c.D]
abbrev HC.l3 (c : HC) : List Value := [.ref c.U, .ref c.H, .ref c.E]
/-- the eight errors that are told by word and field -/
def HC.at (c : HC) : Nat → Addr
  | 0 => c.S
  | 1 => c.N
  | 2 => c.L
  | 3 => c.T
  | 4 => c.P
  | 5 => c.Z
  | 6 => c.A
  | _ => c.O
def fldH : Nat → Str
  | 0 => "name"
  | 1 => "name"
  | 2 => "number"
  | 3 => "target"
  | 4 => "index"
  | 5 => "index"
  | 6 => "index"
  | _ => "limit"
end L2.Mj
set_option maxRecDepth 100000
set_option maxHeartbeats 4000000
namespace L2.Mj
open PySem PySem.Spec PyProof.Rows L2 Mx L2.Mb Evl Mv TL LamX
abbrev lendLh : List Str := ["both", "far", "one"]
abbrev letLh : List Str := ["both", "far", "any"]
def letsSh : Str := "abcdefghijklmnopqrstuvwxyz"
/-! ### what is looked at behind the top -/
abbrev WA (K : W.Frag) : Addr := He.ga K "World"
abbrev KA (K : W.Frag) : Addr := He.ga K "Kind"
abbrev kA (K : W.Frag) (m : Str) : Addr := He.ma K (He.ga K "Kind") m
def isB (a b : Option Bool) : Bool := decide (a = b)
/-- what a property, a classmethod holds -/
def rcA (K : W.Frag) (p : Addr) (t : String) : Addr := match W.recIn K p t with
  | some (.ref g :: _) => g
  | _ => 0
def rcB (K : W.Frag) (p : Addr) (t : String) : Bool := match W.recIn K p t with
  | some (.ref _ :: _) => true
  | _ => false
theorem rcB_ok {K : W.Frag} {p : Addr} {t : String} (h : rcB K p t = true) : ∃ rest, W.recIn K p t = some (.ref (rcA K p t) :: rest) := by
  unfold rcB at h
  split at h
  · rename_i g rest e
    refine ⟨rest, ?_⟩
    unfold rcA
    rw [e]
  · cases h
def prB (K : W.Frag) (C : Addr) (m : Str) : Bool := He.eqO (W.findIn K (.ref C) m) (some (some (.ref (He.ma K C m)))) && (He.eqO (W.specialIn K (.ref (He.ma K C m)) "__get__") (some (some (.builtin "property.__get__"))) && (isB (W.takesIn K (.ref (He.ma K C m))) (some true) && rcB K (He.ma K C m) "property"))
theorem prB_ok {K : W.Frag} {C : Addr} {m : Str} (h : prB K C m = true) : PropOf K C m (He.ma K C m) (rcA K (He.ma K C m) "property") := by
  obtain ⟨h1, h⟩ := He.ba h
  obtain ⟨h2, h⟩ := He.ba h
  obtain ⟨h3, h4⟩ := He.ba h
  exact ⟨He.eqO_ok h1, He.eqO_ok h2, of_decide_eq_true h3, rcB_ok h4⟩
def tpB (K : W.Frag) (a : Addr) (vs : List V) : Bool := match K.lookup a with
  | some ⟨.type c, _, .seq its _, _⟩ => decide (c = "tuple") && (decide (its.size ≤ sizeLine) && He.relAll vs its.toList)
  | _ => false
theorem tpB_ok {K : W.Frag} {a : Addr} {vs : List V} (h : tpB K a vs = true) (H : Hp) : SqT K H a vs := by
  unfold tpB at h
  split at h
  · rename_i c d its n sl e
    obtain ⟨h1, h⟩ := He.ba h
    obtain ⟨h2, h3⟩ := He.ba h
    exact .inr ⟨_, its, n, e, congrArg Value.type (of_decide_eq_true h1), rfl, of_decide_eq_true h2, He.relAll_ok h3⟩
  · cases h
def cvB (K : W.Frag) (f : Str) : Bool := match W.findCls K (.ref (KA K)) (.type "type") f with
  | some (.val (.ref b)) => decide (b = kA K f)
  | _ => false
theorem cvB_ok {K : W.Frag} {f : Str} (h : cvB K f = true) : ClX.CVal K (KA K) (.type "type") f (.ref (kA K f)) (.ref (kA K f)) := by
  unfold cvB at h
  split at h
  · rename_i b e
    rw [of_decide_eq_true h] at e
    exact ⟨e, rfl⟩
  · cases h
def crB (K : W.Frag) (C : Addr) : Bool := W.readsIn K C (.type "type") && He.eqO (W.specialIn K (.ref C) "__getattribute__") (some (some (.builtin "type.__getattribute__")))
theorem crB_ok {K : W.Frag} {C : Addr} (h : crB K C = true) : ClX.CRead K C (.type "type") := by
  obtain ⟨h1, h2⟩ := He.ba h
  exact ⟨h1, He.eqO_ok h2⟩
/-- a class's number -/
def ciB (K : W.Frag) (f : Str) (n : Int) : Bool := match W.findCls K (.ref (WA K)) (.type "type") f with
  | some (.val (.int m _)) => decide (m = n)
  | _ => false
theorem ciB_ok {K : W.Frag} {f : Str} {n : Int} (h : ciB K f n = true) : ∃ u, ClX.CVal K (WA K) (.type "type") f (.int n) u := by
  unfold ciB at h
  split at h
  · rename_i m t e
    rw [of_decide_eq_true h] at e
    exact ⟨_, e, ⟨t, rfl⟩⟩
  · cases h
def inB (K : W.Frag) : Bool := He.eqO (W.findIn K (.ref (KA K)) "__class__") (some (some (.builtin "object.__class__"))) && (isB (W.mroIn K (KA K) (.type "object")) (some true) && isB (W.kitOne K (.ref (KA K)) (.ref (KA K))) (some true))
def otB (K : W.Frag) : Bool := (["int", "bool", "str", "NoneType", "list", "tuple", "dict"] : List String).all fun t => isB (W.kitOne K (.type t) (.ref (KA K))) (some false)
/-- the error class -/
def excB (K : W.Frag) (C : Addr) (b : EB) : Bool := match K.lookup C with
  | some ⟨.type t, _, .cls cd, sl⟩ => (match cd.mro, sl.toList with
    | .ref c :: r, [_, _, _, _, some (.builtin n), _] => decide (t = "type") && (decide (c = C) && (decide (n = b.new) && (!cd.hasDel && (cd.hasDict && own b r))))
    | _, _ => false)
  | _ => false
theorem excB_ok {K : W.Frag} {C : Addr} {b : EB} (z : excB K C b = true) :
    ∃ nm q N bs bm sn sub ab col dd k0 k1 k2 k3 k5, K.lookup C = some (excClassObj nm q C N bs bm true sn sub ab col dd k0 k1 k2 k3 k5 b.new) ∧ own b bm = true := by
  unfold excB at z
  split at z
  · rename_i t dd cd sl lk
    split at z
    · rename_i c r x0 x1 x2 x3 n x5 em es
      simp only [Bool.and_eq_true, decide_eq_true_eq, Bool.not_eq_true'] at z
      obtain ⟨rfl, rfl, rfl, hd, hh, ho⟩ := z
      obtain ⟨a1, a2, a3, a4, a5, a6, a7, a8, a9, a10, a11⟩ := cd
      simp only at em hd hh
      subst em hd hh
      obtain ⟨l⟩ := sl
      simp only at es
      subst es
      exact ⟨a1, a5, a4, a2, r, a7, a8, a9, a10, dd, x0, x1, x2, x3, x5, lk, ho⟩
    · cases z
  · cases z
def ecB (K : W.Frag) (x fld : Str) (b : EB) : Bool := excB K (He.ga K x) b && (He.eqO (W.findIn K (.ref (He.ga K x)) "__setattr__") (some (some (.builtin "object.__setattr__"))) && (He.eqO (W.findIn K (.ref (He.ga K x)) "__getattribute__") (some (some (.builtin "BaseException.__getattribute__"))) &&
    (He.eqO (W.findIn K (.ref (He.ga K x)) "__getattr__") (some none) && (He.eqO (W.findIn K (.ref (He.ga K x)) "__class__") (some (some (.builtin "object.__class__"))) && (isB (W.instIn K (.ref (He.ga K x)) (.type "type")) (some true) &&
      (W.keepIn K (.ref (He.ga K x)) && (He.eqO (W.findIn K (.ref (He.ga K x)) "__init__") (some (some (.ref (He.ma K (He.ga K x) "__init__")))) && (decide (W.typeIn K (.ref (He.ma K (He.ga K x) "__init__")) = some (.type "function")) &&
        (He.eqO (W.specialIn K (.builtin "object.__class__") "__get__") (some (some (.builtin "getset_descriptor.__get__"))) && (isB (W.takesIn K (.builtin "object.__class__")) (some true) &&
          (decide (W.typeIn K (.ref (He.ga K x)) = some (.type "type")) && He.eqO (W.findIn K (.ref (He.ga K x)) fld) (some none))))))))))))
theorem ecB_ok {K : W.Frag} {x fld : Str} {b : EB} (z : ecB K x fld b = true) : EC K (He.ga K x) (He.ma K (He.ga K x) "__init__") b ∧ W.typeIn K (.ref (He.ga K x)) = some (.type "type") ∧ W.findIn K (.ref (He.ga K x)) fld = some none := by
  obtain ⟨z1, z⟩ := He.ba z
  obtain ⟨z2, z⟩ := He.ba z
  obtain ⟨z3, z⟩ := He.ba z
  obtain ⟨z4, z⟩ := He.ba z
  obtain ⟨z5, z⟩ := He.ba z
  obtain ⟨z6, z⟩ := He.ba z
  obtain ⟨z7, z⟩ := He.ba z
  obtain ⟨z8, z⟩ := He.ba z
  obtain ⟨z9, z⟩ := He.ba z
  obtain ⟨za, z⟩ := He.ba z
  obtain ⟨zb, z⟩ := He.ba z
  obtain ⟨zc, zd⟩ := He.ba z
  exact ⟨⟨excB_ok z1, He.eqO_ok z2, He.eqO_ok z3, He.eqO_ok z4, He.eqO_ok z5, of_decide_eq_true z6, z7, He.eqO_ok z8, of_decide_eq_true z9, He.eqO_ok za, of_decide_eq_true zb⟩, of_decide_eq_true zc, He.eqO_ok zd⟩
/-- where the error classes stand -/
abbrev hcOf (K : W.Frag) : HC := ⟨He.ga K "MeetError", He.ga K "NoStation", He.ga K "NoRound", He.ga K "NothingToUndo", He.ga K "NotHeard", He.ga K "NotSeen", He.ga K "Heard", He.ga K "TooMany", He.ga K "Needed", He.ga K "Clash", He.ga K "InvalidTarget", He.ga K "InvalidPart", He.ga K "NoRealm", He.ga K "Taken", He.ga K "InvalidName", He.ga K "InvalidPort", He.ga K "InvalidText", He.ga K "InvalidKind", He.ga K "TooDeep"⟩
def eiL (K : W.Frag) (i : Nat) : List Bool := [isB (W.exmAny K (.ref ((hcOf K).at i)) (hcOf K).l8) (some true),
  isB (W.kitOne K (.ref ((hcOf K).at i)) (.ref (hcOf K).S)) (some (i == 0)),
  isB (W.kitOne K (.ref ((hcOf K).at i)) (.ref (hcOf K).N)) (some (i == 1)),
  isB (W.kitOne K (.ref ((hcOf K).at i)) (.ref (hcOf K).L)) (some (i == 2)),
  isB (W.kitOne K (.ref ((hcOf K).at i)) (.ref (hcOf K).T)) (some (i == 3)),
  isB (W.kitOne K (.ref ((hcOf K).at i)) (.ref (hcOf K).P)) (some (i == 4)),
  isB (W.kitOne K (.ref ((hcOf K).at i)) (.ref (hcOf K).Z)) (some (i == 5)),
  isB (W.kitOne K (.ref ((hcOf K).at i)) (.ref (hcOf K).A)) (some (i == 6)),
  isB (W.kitOne K (.ref ((hcOf K).at i)) (.ref (hcOf K).O)) (some (i == 7)),
  isB (W.kitAny K (.ref ((hcOf K).at i)) (hcOf K).l7) (some false),
  isB (W.kitAny K (.ref ((hcOf K).at i)) (hcOf K).l3) (some false),
  isB (W.kitOne K (.ref ((hcOf K).at i)) (.type "KeyError")) (some (i == 0)),
  isB (W.kitOne K (.ref ((hcOf K).at i)) (.type "ValueError")) (some (decide (0 < i) && decide (i < 7))),
  isB (W.kitOne K (.ref ((hcOf K).at i)) (.type "OverflowError")) (some (i == 7)),
  isB (W.kitOne K (.ref ((hcOf K).at i)) (.ref (hcOf K).M)) (some (decide (0 < i) && decide (i < 7)))]
def eiB (K : W.Frag) (i : Nat) : Bool := (eiL K i).all id
theorem eib {K : W.Frag} {i : Nat} (h : eiB K i = true) (j : Nat) {a b : Option Bool} (e : (eiL K i)[j]? = some (isB a b)) : a = b := of_decide_eq_true (List.all_eq_true.mp h (isB a b) (List.mem_of_getElem? e))
def moB (K : W.Frag) : Bool := match W.clsIn K (KA K) with
  | some cd => (match cd.mro with
    | .ref c :: _ => decide (c = KA K)
    | _ => false)
  | none => false
theorem moB_ok {K : W.Frag} (h : moB K = true) : Mro1 K (KA K) := by
  unfold moB at h
  split at h
  · rename_i cd e
    split at h
    · rename_i c r em
      rw [of_decide_eq_true h] at em
      exact ⟨cd, r, e, em⟩
    · cases h
  · cases h
def inW (K : W.Frag) : Bool := He.eqO (W.findIn K (.ref (WA K)) "__class__") (some (some (.builtin "object.__class__"))) && (isB (W.mroIn K (WA K) (.type "object")) (some true) && isB (W.kitOne K (.ref (WA K)) (.ref (WA K))) (some true))
def otW (K : W.Frag) : Bool := (["int", "bool", "str", "NoneType", "list", "tuple", "dict"] : List String).all fun t => isB (W.kitOne K (.type t) (.ref (WA K))) (some false)
/-- _in_any_order has no keyword defaults -/
def aoB (K : W.Frag) : Bool := match K.lookup (He.ga K "_in_any_order") with
  | some ⟨_, _, .func u, _⟩ => decide (u.kwdefaults = .none)
  | _ => false
abbrev looseD : List (Str × He.Dv) := [("both", .int 0), ("far", .int 1), ("one", .int 2), ("any", .int 2)]
/-- World.__init__ has no defaults -/
def wiB (K : W.Frag) : Bool := match K.lookup (He.ma K (WA K) "__init__") with
  | some ⟨_, _, .func u, _⟩ => decide (u.kwdefaults = .none)
  | _ => false
def sysB (K : W.Frag) : Bool := match K.lookup sysModules with
  | some o => decide (o.cls = .type "dict")
  | none => false
theorem sysB_ok {K : W.Frag} (z : sysB K = true) : SysD K := by
  unfold sysB at z
  split at z
  · rename_i o e
    exact ⟨o, e, of_decide_eq_true z⟩
  · cases z
/-! ### functions by their address -/
structure DefA where
  name : Str
  qual : Str
  st : Stmt
  at_ : W.Frag → Addr
abbrev FnY : Type := Option (Str × Str × Arguments × FuncBody × Scope × Addr × List (Str × Addr) × Addr)
def fnA (K : W.Frag) (a : Addr) : FnY := (K.lookup a).bind fun o => match o.data with
  | .func u => some (u.name, u.qualname, u.params, u.body, u.scope, u.globals, u.closure, u.builtins)
  | _ => none
def DefA.want (d : DefA) : FnY := some (d.name, d.qual, defArgs d.st, .stmts (defBody d.st), defScope d.st, mainGlobals, [], builtinsNs)
def okFA (K : W.Frag) (a : Addr) (q : Str) : Bool := W.keepIn K (.ref a) && (K.lookup a).any fun o => match o.data with
  | .func u => W.codeIn K u.code q && (He.dflB K u.defaults [] && He.kwdB K u.kwdefaults [])
  | _ => false
theorem fnA_ok {K : W.Frag} {d : DefA} (e : fnA K (d.at_ K) = d.want) (c : okFA K (d.at_ K) d.qual = true) : ∃ fd, FunD K d.name d.qual (defArgs d.st) (defBody d.st) (defScope d.st) [] [] (d.at_ K) fd := by
  obtain ⟨kp, c⟩ := He.ba c
  unfold fnA at e
  cases hl : K.lookup (d.at_ K) with
  | none =>
    rw [hl] at c
    cases c
  | some o =>
    obtain ⟨oc, od, dt, sl⟩ := o
    rw [hl] at c e
    cases dt with
    | func u =>
      have c2 : (W.codeIn K u.code d.qual && (He.dflB K u.defaults [] && He.kwdB K u.kwdefaults [])) = true := c
      obtain ⟨u1, u2, u3, u4, u5, u6, u7, u8, u9, u10, u11, u12, u13, u14, u15⟩ := u
      have e2 : (u1, u2, u3, u4, u5, u6, u7, u15) = (d.name, d.qual, defArgs d.st, FuncBody.stmts (defBody d.st), defScope d.st, mainGlobals, ([] : List (Str × Addr)), builtinsNs) := Option.some.inj e
      simp only [Prod.mk.injEq] at e2
      obtain ⟨r1, r2, r3, r4, r5, r6, r7, r8⟩ := e2
      subst r1 r2 r3 r4 r5 r6 r7 r8
      obtain ⟨k1, k2⟩ := He.ba c2
      obtain ⟨k3, k4⟩ := He.ba k2
      exact ⟨_, ⟨oc, od, u8, u9, u10, u11, u12, u13, u14, sl, rfl, hl, k1, He.dflB_ok k3, He.kwdB_ok k4⟩, kp⟩
    | _ => cases c
abbrev fnY : List DefA := [⟨"gates", "World.gates", s_World_gates, fun K => rcA K (He.ma K (WA K) "gates") "property"⟩, ⟨"parts", "World.parts", s_World_parts, fun K => rcA K (He.ma K (WA K) "parts") "property"⟩,
  ⟨"lends", "Kind.lends", s_Kind_lends, fun K => rcA K (kA K "lends") "property"⟩, ⟨"lets", "Kind.lets", s_Kind_lets, fun K => rcA K (kA K "lets") "property"⟩, ⟨"turns", "Kind.turns", s_Kind_turns, fun K => rcA K (kA K "turns") "property"⟩, ⟨"rests", "Kind.rests", s_Kind_rests, fun K => rcA K (kA K "rests") "property"⟩]
/-! ### the facts by names -/
def tD (x : Str) (i : Nat) : He.DefD := { at_ := (x, none), name := x, qual := x, params := defArgs (top i), body := defBody (top i), scope := defScope (top i) }
def mD (x m : Str) (st : Stmt) (kw : List (Str × He.Dv)) : He.DefD := { at_ := (x, some m), name := m, qual := x ++ "." ++ m, params := defArgs st, body := defBody st, scope := defScope st, kwd := kw }
abbrev fnZ : List He.DefD := ([tD "is_integer" 5, tD "is_address" 6, tD "is_word" 7, tD "_is_part" 42, tD "_line_of_part" 43, tD "_ranks" 36, tD "_in_any_order" 41, tD "_kind_of_ranks" 37, tD "_addresses_but" 48, tD "joined" 47, tD "_law_pen" 50, tD "_law_draw" 51, tD "_law_letters" 52, tD "_law_sort" 53, tD "_law_parts" 54, tD "_law_world" 55, tD "_law_mixed" 56, tD "_law_heard" 57, tD "_law_twos" 58, tD "_law_stricter" 59, tD "_law_due" 60, tD "_law_right" 61, tD "law" 62] : List He.DefD) ++ ([mD "Kind" "__init__" s_Kind_init [("turns", .bl false), ("rests", .non)], mD "Kind" "__eq__" s_Kind_eq [], mD "Kind" "__str__" s_Kind_str [], mD "Kind" "__and__" s_Kind_and [], mD "InvalidKind" "__init__" s_InvalidKind_init [], mD "NoStation" "__init__" s_NoStation_init [], mD "Needed" "__init__" s_Needed_init [], mD "Clash" "__init__" s_Clash_init [], mD "World" "__init__" s_World_init [], mD "World" "_check_place" s_World_check_place [], mD "World" "_check_number" s_World_check_number [], mD "World" "_take" s_World_take [], mD "World" "with_part" s_World_with_part [], mD "World" "__contains__" s_World_contains [], mD "World" "kind" s_World_kind [], mD "World" "_check_realm" s_World_check_realm [], mD "World" "stations" s_World_stations [], mD "World" "__eq__" s_World_eq [], mD "World" "__str__" s_World_str [], mD "World" "address" s_World_address [], mD "World" "realm" s_World_realm []] : List He.DefD)
abbrev faZ : List He.Fa := ([.glo "Kind", .glo "World", .glo "LOOSE", .glo "MeetError", .glo "NoStation", .glo "NoRound", .glo "NothingToUndo", .glo "NotHeard", .glo "NotSeen", .glo "Heard", .glo "TooMany", .glo "Needed", .glo "Clash", .glo "InvalidTarget", .glo "InvalidPart", .glo "NoRealm", .glo "Taken", .glo "InvalidName", .glo "InvalidPort", .glo "InvalidText"] : List He.Fa) ++ (([.glo "InvalidKind", .glo "TooDeep", .glo "is_integer", .glo "is_address", .glo "is_word", .glo "_is_part", .glo "_line_of_part", .glo "_ranks", .glo "_in_any_order", .glo "_kind_of_ranks", .glo "_addresses_but", .glo "joined", .glo "_law_pen", .glo "_law_draw", .glo "_law_letters", .glo "_law_sort", .glo "_law_parts", .glo "_law_world", .glo "_law_mixed", .glo "_law_heard", .glo "_law_twos", .glo "_law_stricter", .glo "_law_due", .glo "_law_right", .glo "law"] : List He.Fa) ++ (([.free "IndexError", .free "KeyError", .free "LookupError", .free "NotImplemented", .free "OverflowError", .free "RuntimeError", .free "ValueError", .free "abs", .free "all", .free "bool", .free "classmethod", .free "enumerate", .free "int", .free "isinstance", .free "len", .free "list", .free "max", .free "min", .free "property", .free "range", .free "repr", .free "sorted", .free "str", .free "tuple", .free "zip"] : List He.Fa) ++ ([.int "LEAST_REST" 2, .int "MOST_REST" 1000000, .int "LONGEST_NAME" 8, .int "LAST_ADDRESS" 99, .str "LETTERS" letsSh, .cls "Kind", .cls "World", .noat "Kind" "_lends", .noat "Kind" "_lets", .noat "Kind" "_turns", .noat "Kind" "_rests", .noat "World" "_parts", .noat "World" "_kinds", .noat "World" "_addresses", .noat "World" "_realms", .noat "World" "_places", .noat "World" "_around", .noat "World" "_gates", .noat "World" "_hosts", .mkr "Kind", .mkr "World", .keep "Kind", .meth "Kind" "__eq__", .meth "Kind" "__and__", .meth "Kind" "__str__", .meth "World" "_check_place", .meth "World" "_check_number", .meth "World" "_take", .meth "World" "with_part", .meth "World" "__contains__", .meth "World" "kind", .meth "World" "_check_realm", .meth "World" "stations", .meth "World" "__eq__", .meth "World" "__str__", .meth "World" "address", .meth "World" "realm"] : List He.Fa)))
abbrev tsZ : List He.Tab := [((fun K => He.ga K "LOOSE"), ["both", "far", "one", "any"])]
abbrev mdA : He.Defn := ("_in_any_order", none)
abbrev mdR : He.Defn := ("_law_right", none)
abbrev mdW : He.Defn := ("law", none)
abbrev tfZ : List He.Defn := [mdA, mdR, mdW]
def bitsB (K : W.Frag) : List Bool := [sysB K,
  prB K (WA K) "gates",
  crB K (KA K),
  crB K (WA K),
  cvB K "LENDS",
  cvB K "LETS",
  tpB K (kA K "LENDS") (lendLh.map V.str),
  tpB K (kA K "LETS") (letLh.map V.str),
  ciB K "MOST_DEEP" 3,
  ciB K "MOST_GATES" 6,
  ciB K "MOST_HOSTS" 8,
  inB K,
  otB K,
  ecB K "InvalidKind" "place" .val,
  ecB K "NoStation" "name" .key,
  ecB K "Needed" "name" .val,
  ecB K "Clash" "number" .val,
  wiB K,
  fnY.all fun d => okFA K (d.at_ K) d.qual,
  prB K (WA K) "parts",
  prB K (KA K) "lends",
  prB K (KA K) "lets",
  prB K (KA K) "turns",
  prB K (KA K) "rests",
  He.valsB K (He.ga K "LOOSE") looseD,
  inW K,
  otW K,
  aoB K,
  He.eqO (W.findIn K (.ref (WA K)) "__ne__") (some (some (.builtin "object.__ne__"))),
  moB K,
  eiB K 0,
  eiB K 1,
  eiB K 2,
  decide ((He.cT K mdA).2 ≠ (He.cT K mdR).2),
  decide ((He.cT K mdA).2 ≠ (He.cT K mdW).2),
  decide ((He.cT K mdR).2 ≠ (He.cT K mdW).2)]
def allB (K : W.Frag) : Bool := (bitsB K).all id
theorem bit {K : W.Frag} (h : allB K = true) (i : Nat) {b : Bool} (e : (bitsB K)[i]? = some b) : b = true := List.all_eq_true.mp h b (List.mem_of_getElem? e)
/-! ### the hook -/
/-! the addresses that are named from the globals on, n levels deep, each once: a number's bits tell which were seen -/
def frN {α : Type} (n : Nat) (k : Nat → α) : α := match n with
  | 0 => k 0
  | m + 1 => k (m + 1)
def refsG (g : Addr → Option Obj) (a : Addr) : List Addr := match g a with
  | some o => He.refsD o
  | none => []
def addB {α : Type} (k : Nat → List Addr → α) : List Addr → Nat → List Addr → α
  | [], s, o => k s o
  | a :: as, s, o => match s.testBit a with
    | true => addB k as s o
    | false => frN (s ||| (1 <<< a)) fun s2 => addB k as s2 (a :: o)
def expB {α : Type} (g : Addr → Option Obj) (k : Nat → List Addr → α) : List Addr → Nat → List Addr → α
  | [], s, o => k s o
  | a :: fr, s, o => addB (fun s2 o2 => expB g k fr s2 o2) (refsG g a) s o
def lvB (g : Addr → Option Obj) : Nat → List Addr → List Addr → Nat → List Addr
  | 0, all, fr, _ => fr ++ all
  | n + 1, all, fr, s => expB g (fun s2 o2 => lvB g n (fr ++ all) o2 s2) fr s []
def asB (g : Addr → Option Obj) (n : Nat) : List Addr := lvB g n [] [mainGlobals] (1 <<< mainGlobals)
def frY (n : Nat) (g : Addr → Option Obj) : W.Frag := He.frT g (sysModules :: cStatics :: asB g n)
abbrev AlY : Type := He.AlT × Bool × List FnY
def obY (n : Nat) (g : Addr → Option Obj) : AlY := (He.obsT faZ fnZ tsZ (frY n g), allB (frY n g) && He.tabsB g tfZ (frY n g), fnY.map fun d => fnA (frY n g) (d.at_ (frY n g)))
structure SaysY (w : World) (h : Heap) (K : W.Frag) : Prop where
  t : He.SaysT faZ fnZ tsZ w K
  more : allB K = true
  fs : (fnY.map fun d => fnA K (d.at_ K)) = fnY.map DefA.want
  hd : ∀ p ∈ tfZ, W.codeHdIn K (He.cT K p).1 (He.cT K p).2 = true
  out : ∀ p ∈ tfZ, K.lookup (He.cT K p).2 = none
  bare : ∀ p ∈ tfZ, Bare h (He.cT K p).2
theorem SaysY.d {w : World} {h : Heap} {K : W.Frag} (c : SaysY w h K) : He.SaysD faZ fnZ K := c.t.d
theorem saysY_of {n : Nat} {w : World} {h : Heap} (e : obY n h.get? = (He.valT fnZ tsZ w, true, fnY.map DefA.want)) : SaysY w h (frY n h.get?) := by
  obtain ⟨m1, m2⟩ := He.ba (show (allB (frY n h.get?) && He.tabsB h.get? tfZ (frY n h.get?)) = true from congrArg (fun z : AlY => z.2.1) e)
  have tab : ∀ p ∈ tfZ, ∃ o, h.get? (He.cT (frY n h.get?) p).2 = some o ∧ He.emptyTab o = true := fun p hp => by
    obtain ⟨_, y⟩ := He.ba (List.all_eq_true.mp m2 p hp)
    split at y
    · rename_i o q
      exact ⟨o, q, y⟩
    · cases y
  refine { t := congrArg (fun z : AlY => z.1) e, more := m1, fs := congrArg (fun z : AlY => z.2.2) e, hd := fun p hp => (He.ba (List.all_eq_true.mp m2 p hp)).1, out := fun p hp => ?_, bare := fun p hp => ?_ }
  · obtain ⟨o, q, y⟩ := tab p hp
    exact He.frT_none q y
  · obtain ⟨o, q, y⟩ := tab p hp
    unfold Bare
    rw [q, He.emptyTab_eq y]
def hookY (n : Nat) : W.Hook where
  α := AlY
  obs := fun s => obY n s.heap.get?
  val := fun w => (He.valT fnZ tsZ w, true, fnY.map DefA.want)
  says := fun w h => ∃ K : W.Frag, K.In h ∧ SaysY w h K
  of := fun _ _ e => ⟨_, He.frT_in, saysY_of e⟩
  keeps := fun _ _ _ z k => z.elim fun K y => ⟨K, W.Frag.In.keeps y.1 k, { t := y.2.t, more := y.2.more, fs := y.2.fs, hd := y.2.hd, out := y.2.out, bare := fun p hp => k _ _ (y.2.bare p hp) }⟩
abbrev lvl : Nat := 5
abbrev hkY : W.Hook := hookY lvl
def eyeY (s : W.SharedT) : AlY := obY lvl (HandSHeadRun.getT s)
theorem eyeY_eq (s : W.SharedT) : eyeY s = hkY.obs s.abs := by
  have e : HandSHeadRun.getT s = s.abs.heap.get? := funext fun a => HandSHeadRun.getT_eq s a
  show obY lvl (HandSHeadRun.getT s) = obY lvl s.abs.heap.get?
  rw [e]
end L2.Mj
set_option maxRecDepth 100000
set_option maxHeartbeats 0
namespace L2.Mj
open PySem PySem.Spec PyProof.Rows Mx Evl
abbrev RY : W.OpenRow := W.OpenLaw.row PySem.Challenge.rw_meetbehind_k90_gates_joined
abbrev looseY : List Str := (["_wall", "LETTERS", "LONGEST_NAME", "LAST_ADDRESS", "is_integer", "is_address", "is_word", "MeetError", "InvalidKind", "InvalidPart", "NoRealm", "Taken", "TooDeep", "Needed", "InvalidTarget", "InvalidPort", "InvalidName", "Clash", "InvalidText", "NoStation", "NoRound", "NothingToUndo", "NotHeard", "NotSeen", "Heard"] : List Str) ++ ((["TooMany", "DIGITS", "number_of", "LEAST_REST", "MOST_REST", "LOOSE", "Kind", "_ranks", "_kind_of_ranks", "kind_of_words", "World", "_in_any_order", "_is_part", "_line_of_part", "_part_of_words", "_can_stand", "joined", "_addresses_but", "_law_pen", "_law_draw", "_law_letters", "_law_sort", "_law_parts", "_law_world", "_law_mixed"] : List Str) ++ ((["_law_heard", "_law_twos", "_law_stricter", "_law_due", "_law_right"] : List Str)))
theorem run_f (w : World) : HandSHeadRun.RunEq RY (W.view RY.prog [62]) hkY eyeY 20000 looseY (w.withFollow "special-get-raises" false) := by
  intro os
  kernel_rfl
theorem run_t (w : World) : HandSHeadRun.RunEq RY (W.view RY.prog [62]) hkY eyeY 20000 looseY (w.withFollow "special-get-raises" true) := by
  intro os
  kernel_rfl
end L2.Mj
set_option maxRecDepth 100000
set_option maxHeartbeats 4000000
namespace L2.Mj
open PySem PySem.Spec PyProof.Rows L2 Mx L2.Mb Evl Mv TL
/-! ### whole numbers in bounds, of any value -/
def inRest (n : Int) : Bool := decide (2 ≤ n) && decide (n ≤ 1000000)
def optV : Option Int → V
  | some n => .int n
  | none => .non
def isI : V → Int → Int → Bool
  | .int n, a, b => decide (a ≤ n) && decide (n ≤ b)
  | _, _, _ => false
theorem given_map {n : Nat} {f : Nat → Bool} {g : Nat → V} (h : ∀ i, f i = true) : given n f g = (List.range n).map g := by
  unfold given
  rw [List.filter_eq_self.mpr fun i _ => h i]
section
variable {P : Program} {w : World} {K : W.Frag} {mg : Str → Option Value} {base : Heap} {f : Addr} {fd : FuncData}
def isIntB : V → Bool
  | .int _ => true
  | .bl _ => true
  | _ => false
def isBlB : V → Bool
  | .bl _ => true
  | _ => false
theorem rc_int {H : Hp} {v : V} (h : AnyV H v) : RC (rIsi K) [v, .ty "int"] H (.bl (isIntB v)) := by
  cases h with
  | non => exact rc_isi (t := .type "NoneType") (.ty "int") (fun _ _ => .base .non) (kit_ty (a := "NoneType") (b := "int") (r := false) (by decide +kernel))
  | bl b => exact rc_isi (t := .type "bool") (.ty "int") (fun _ _ => .base (.bl b)) (kit_ty (a := "bool") (b := "int") (r := true) (by decide +kernel))
  | int n => exact rc_isi (t := .type "int") (.ty "int") (fun _ _ => .base (.int n)) (kit_ty (a := "int") (b := "int") (r := true) (by decide +kernel))
  | str z => exact rc_isi (t := .type "str") (.ty "int") (fun _ _ => .base (.str z)) (kit_ty (a := "str") (b := "int") (r := false) (by decide +kernel))
  | lst h => exact rc_isi (t := .type "list") (.ty "int") (fun _ e => .base (.lst (e _ _ h))) (kit_ty (a := "list") (b := "int") (r := false) (by decide +kernel))
  | tup h => exact rc_isi (t := .type "tuple") (.ty "int") (fun _ e => .base (.tup (e _ _ h))) (kit_ty (a := "tuple") (b := "int") (r := false) (by decide +kernel))
  | dct h => exact rc_isi (t := .type "dict") (.ty "int") (fun _ e => .base (.dK (e _ _ h))) (kit_ty (a := "dict") (b := "int") (r := false) (by decide +kernel))
theorem rc_bool {H : Hp} {v : V} (h : AnyV H v) : RC (rIsi K) [v, .ty "bool"] H (.bl (isBlB v)) := by
  cases h with
  | non => exact rc_isi (t := .type "NoneType") (.ty "bool") (fun _ _ => .base .non) (kit_ty (a := "NoneType") (b := "bool") (r := false) (by decide +kernel))
  | bl b => exact rc_isi (t := .type "bool") (.ty "bool") (fun _ _ => .base (.bl b)) (kit_ty (a := "bool") (b := "bool") (r := true) (by decide +kernel))
  | int n => exact rc_isi (t := .type "int") (.ty "bool") (fun _ _ => .base (.int n)) (kit_ty (a := "int") (b := "bool") (r := false) (by decide +kernel))
  | str z => exact rc_isi (t := .type "str") (.ty "bool") (fun _ _ => .base (.str z)) (kit_ty (a := "str") (b := "bool") (r := false) (by decide +kernel))
  | lst h => exact rc_isi (t := .type "list") (.ty "bool") (fun _ e => .base (.lst (e _ _ h))) (kit_ty (a := "list") (b := "bool") (r := false) (by decide +kernel))
  | tup h => exact rc_isi (t := .type "tuple") (.ty "bool") (fun _ e => .base (.tup (e _ _ h))) (kit_ty (a := "tuple") (b := "bool") (r := false) (by decide +kernel))
  | dct h => exact rc_isi (t := .type "dict") (.ty "bool") (fun _ e => .base (.dK (e _ _ h))) (kit_ty (a := "dict") (b := "bool") (r := false) (by decide +kernel))
theorem any_ex {H H' : Hp} {v : V} (h : AnyV H v) (e : Ex H H') : AnyV H' v := h.mono fun a o q _ => e a o q
def spIntA : Sp := fun vs H Q _ => ∃ (v : V) (a b : Int), vs = [v, .int a, .int b] ∧ AnyV H v ∧ ∀ H', Ex H H' → Q (.bl (isI v a b)) H'
theorem ok_is_integer (B : Bt mg) (F : FnP K "is_integer" s_is_integer f fd) : FnOk P w K mg base CX0 1 f fd p_is_integer spIntA := by
  refine F.ok sc_is_integer (fun vs H Q E h => ?_) (fun cdv A outer s H vs Q E hr h => ?_)
  · obtain ⟨v, a, b, rfl, _⟩ := h
    rfl
  · obtain ⟨v, a, b, rfl, hv, k⟩ := h
    refine ⟨_, PSs.nox (pss_one (ps_ret (pe_and (pe_callB call_isi (by rfl) B.isinstance (by decide +kernel) (pa_cons (pv 0) (pa_cons (pe_bltn (v := .ty "int") (by rfl) B.int (by decide +kernel) rfl) pa_nil)))
      (pe_and (pe_not (pe_callB call_isi (by rfl) B.isinstance (by decide +kernel) (pa_cons (pv 0) (pa_cons (pe_bltn (v := .ty "bool") (by rfl) B.bool (by decide +kernel) rfl) pa_nil)))) (pe_one (pe_chain op_le op_le (pv 1) (pv 0) (pv 2))))))), ?_⟩
    have e0 : isI v a b = (isIntB v && (!isBlB v && isI v a b)) := by cases v <;> simp [isI, isIntB, isBlB]
    rw [e0] at k
    refine s_ret (ev_andV (a := isIntB v) (b := !isBlB v && isI v a b) (ev_cb (ea_cons (ev_var rfl) (ea_cons ev_c ea_nil)) (rc_int hv)) (fun h1 => ev_andV (a := !isBlB v) (b := isI v a b) (ev_notV (ev_cb (ea_cons (ev_var rfl) (ea_cons ev_c ea_nil)) (rc_bool hv))) (fun h2 => ?_))) fun H1 e1 => k H1 e1
    cases v with
    | int n => exact ev_chain (ev_var rfl) (ev_var rfl) rv_int (fun _ => ev_var rfl) (fun _ => rv_int)
    | bl c => cases h2
    | _ => cases h1
/-! ### the error of one field, raised -/
def spI1 (C : Addr) (f : Str) : Sp := fun vs H Q _ => ∃ (a : Addr) (v : V), vs = [.ref a, v] ∧ H a = some (exo a C none) ∧ ∀ dx, H dx = none → dx ≠ a → Q .non (upd (upd H dx (exd dx [(f, v)])) a (exo a C (some dx)))
theorem ok_xk {CE : Addr} (F : FnC K "__init__" "InvalidKind.__init__" s_InvalidKind_init [] f fd) (T : EC K CE f .val) (no : W.findIn K (.ref CE) "place" = some none) : FnOk P w K mg base CX0 1 f fd ["self", "place"] (spI1 CE "place") := by
  refine F.ok sc_InvalidKind_init (fun vs H Q E h => ?_) (fun cdv A outer s H vs Q E hr h => ?_)
  · obtain ⟨a, v, rfl, _⟩ := h
    rfl
  · obtain ⟨a, v, rfl, ha, k⟩ := h
    refine ⟨_, PSs.nox (pss_one (ps_putX (pv 0) (pv 1))), ?_⟩
    exact ⟨v, rfl, _, rfl, a, CE, f, .val, rfl, T, no, .inl ⟨ha, k⟩⟩
theorem s_raise1 {C : Addr} {σ : L2.St} {H : Hp} {ta : TA} {f : Str} {v : V} {W : WX} (h : EvA ta σ H [v]) (k : ∀ d H1, Ex H H1 → H1 d = some (.xd [(f, v)]) → W (.ref C) (some d) σ H1) :
    tMkO C (spI1 C f) [] ta σ H (fun cls d H' => W cls d σ H') := h H (Ex.refl H) _ fun H2 e2 => ⟨by show 1 ≤ 1000; decide, fun a na => ⟨a, v, rfl, upd_same, fun dx hd ne => by
    have hd2 : H2 dx = none := by
      rw [upd_ne ne] at hd
      exact hd
    refine ⟨rfl, dx, _, upd_same, ?_, hd2, k dx _ ?_ upd_same⟩
    · rw [upd_ne ne, upd_same]
    · intro c o hc
      have h2 := e2 c o hc
      have c1 : c ≠ a := ne_of_none h2 na
      have c2 : c ≠ dx := ne_of_none h2 hd2
      rw [upd_ne c2, del_ne c1, upd_ne c1, upd_ne c2, upd_ne c1]
      exact h2⟩⟩
/-- what is known of the error InvalidKind -/
structure XT (P : Program) (w : World) (K : W.Frag) (mg : Str → Option Value) (base : Heap) (CE fE : Addr) (dE : FuncData) : Prop where
  ec : EC K CE fE .val
  ty : W.typeIn K (.ref CE) = some (.type "type")
  m : mg "InvalidKind" = some (.ref CE)
  ok : FnOk P w K mg base CX0 1 fE dE ["self", "place"] (spI1 CE "place")
  b : Binds K dE ["self", "place"] []
  no : W.findIn K (.ref CE) "place" = some none
end
end L2.Mj
set_option maxRecDepth 100000
set_option maxHeartbeats 4000000
namespace L2.Mj
open PySem PySem.Spec PyProof.Rows L2 Mx L2.Mb Evl Mv TL
abbrev lendL : List Str := ["both", "far", "one"]
abbrev letL : List Str := ["both", "far", "any"]
/-- what is known of the class Kind at C: its metaclass, the two tuples of words -/
structure KF (K : W.Frag) (mg : Str → Option Value) (C : Addr) (mc : Value) (aL aT : Addr) : Prop where
  m : mg "Kind" = some (.ref C)
  cl : Cls K C
  n1 : NoAttr K C "_lends"
  n2 : NoAttr K C "_lets"
  n3 : NoAttr K C "_turns"
  n4 : NoAttr K C "_rests"
  rd : ClX.CRead K C mc
  vL : ClX.CVal K C mc "LENDS" (.ref aL) (.ref aL)
  vT : ClX.CVal K C mc "LETS" (.ref aT) (.ref aT)
  tL : ∀ H, SqT K H aL (lendL.map V.str)
  tT : ∀ H, SqT K H aT (letL.map V.str)
  kp : W.keepIn K (.ref C) = true
/-- a kind's parts -/
structure Kd where
  le : Str
  lt : Str
  tu : Bool
  re : Option Int
def Kd.ok (k : Kd) : Bool := lendL.contains k.le && (letL.contains k.lt && k.re.all inRest)
abbrev Kd.fs (k : Kd) : List (Str × V) := putF "_rests" (optV k.re) (putF "_turns" (.bl k.tu) (putF "_lets" (.str k.lt) (putF "_lends" (.str k.le) [])))
/-- the kind stands at a -/
def KAt (C : Addr) (H : Hp) (a : Addr) (k : Kd) : Prop := ∃ dx, H a = some (.ins C dx k.fs)
theorem KAt.mono {C : Addr} {H H' : Hp} {a : Addr} {k : Kd} (h : KAt C H a k) (e : Ex H H') : KAt C H' a k := h.elim fun dx z => ⟨dx, e _ _ z⟩
theorem inV_str (x : Str) (l : List Str) : inV (.str x) (l.map V.str) = l.contains x := by
  unfold inV
  rw [List.any_map, List.contains_eq_any_beq]
  congr 1
  funext y
  show eqV (.str y) (.str x) = (x == y)
  by_cases h : x = y
  · subst h
    simp [eqV]
  · have h2 : ¬ y = x := fun z => h z.symm
    have h3 : (y == x) = false := by simpa using h2
    have h4 : (x == y) = false := by simpa using h
    simp [eqV, h3, h4]
section
variable {P : Program} {w : World} {K : W.Frag} {mg : Str → Option Value} {base : Heap} {f fI C aL aT : Addr} {fd dI : FuncData} {mc : Value}
theorem flat_strs (l : List Str) : (l.map V.str).all flatV = true := by
  rw [List.all_map]
  exact List.all_eq_true.mpr fun _ _ => rfl
/-- a def for its callers, errors and all -/
structure Fn0 (P : Program) (w : World) (K : W.Frag) (mg : Str → Option Value) (base : Heap) (x : Str) (k : Nat) (f : Addr) (fd : FuncData) (ps : List Str) (sp : Sp) : Prop where
  ok : FnOk P w K mg base CX0 k f fd ps sp
  m : mg x = some (.ref f)
  k : W.keepIn K (.ref f) = true
  b : Binds K fd ps []
theorem ev_cval {t : TE} {σ : L2.St} {H : Hp} {u : Value} {x : Str} {a : Addr} (h : Ev t σ H (.ref C)) (rd : ClX.CRead K C mc) (v : ClX.CVal K C mc x (.ref a) u) : Ev (ClX.tCVal K t x) σ H (.ref a) := fun H1 e Q q => h H1 e _ fun H2 e2 => ⟨C, mc, _, u, rfl, rd, v, q H2 e2⟩
/-! ### a kind made, or refused -/
def okL : V → Bool
  | .str z => lendL.contains z
  | _ => false
def okT : V → Bool
  | .str z => letL.contains z
  | _ => false
def okR : V → Bool
  | .non => true
  | .int n => inRest n
  | _ => false
def badAt (l t u r : V) : Option Int := if okL l then (if okT t then (if isBlB u then (if okR r then none else some 3) else some 2) else some 1) else some 0
theorem kd_of {l t u r : V} (h : badAt l t u r = none) : ∃ kd : Kd, kd.ok = true ∧ l = .str kd.le ∧ t = .str kd.lt ∧ u = .bl kd.tu ∧ r = optV kd.re := by
  unfold badAt at h
  split at h
  · rename_i h1
    split at h
    · rename_i h2
      split at h
      · rename_i h3
        split at h
        · rename_i h4
          cases l with
          | str le =>
            cases t with
            | str lt =>
              cases u with
              | bl tu =>
                cases r with
                | non => exact ⟨⟨le, lt, tu, none⟩, by unfold Kd.ok; rw [show lendL.contains le = true from h1, show letL.contains lt = true from h2]; rfl, rfl, rfl, rfl, rfl⟩
                | int n => exact ⟨⟨le, lt, tu, some n⟩, by unfold Kd.ok; rw [show lendL.contains le = true from h1, show letL.contains lt = true from h2]; exact h4, rfl, rfl, rfl, rfl⟩
                | _ => cases h4
              | _ => cases h3
            | _ => cases h2
          | _ => cases h1
        · cases h
      · cases h
    · cases h
  · cases h
theorem bad_kd {kd : Kd} (h : kd.ok = true) : badAt (.str kd.le) (.str kd.lt) (.bl kd.tu) (optV kd.re) = none := by
  unfold Kd.ok at h
  simp only [Bool.and_eq_true] at h
  obtain ⟨h1, h2, h3⟩ := h
  unfold badAt
  rw [if_pos (show okL (.str kd.le) = true from h1), if_pos (show okT (.str kd.lt) = true from h2), if_pos (show isBlB (.bl kd.tu) = true from rfl), if_pos]
  cases hr : kd.re with
  | none => rfl
  | some n =>
    rw [hr] at h3
    exact h3
theorem inS_l (v : V) : inS v lendL = okL v := by
  cases v <;> try rfl
  rename_i z
  show (lendL.any fun w => w == z) = lendL.contains z
  rw [List.contains_eq_any_beq]
  congr 1
  funext w
  exact Bool.beq_comm
theorem inS_t (v : V) : inS v letL = okT v := by
  cases v <;> try rfl
  rename_i z
  show (letL.any fun w => w == z) = letL.contains z
  rw [List.contains_eq_any_beq]
  congr 1
  funext w
  exact Bool.beq_comm
def spInit (C CE : Addr) : Sp := fun vs H Q E => ∃ (a dx : Addr) (l t u r : V), vs = [.ref a, l, t, u, r] ∧ H a = some (.ins C dx []) ∧ AnyV H l ∧ AnyV H t ∧ AnyV H u ∧ AnyV H r ∧
  (∀ kd : Kd, kd.ok = true → l = .str kd.le → t = .str kd.lt → u = .bl kd.tu → r = optV kd.re → ∀ H', (∀ c o, c ≠ a → H c = some o → H' c = some o) → H' a = some (.ins C dx kd.fs) → Q .non H') ∧
  (∀ n, badAt l t u r = some n → ∀ d H', Ex H H' → H' d = some (.xd [("place", .int n)]) → E (.ref CE) (some d) H')
theorem rv_notW {H : Hp} {v : V} {p : Addr} {ws : List Str} (h : AnyV H v) (t : SqT K H p (ws.map V.str)) : RV (rNotW K) v (.ref p) H (.bl (!inS v ws)) := fun H1 e Q q => ⟨p, ws, rfl, ex_t e t, any_ex h e, q H1 (Ex.refl H1)⟩
theorem ok_init {CE fE : Addr} {dE : FuncData} {t1 t2 : Tok} (B : Bt mg) (T : KF K mg C mc aL aT) (XE : XT P w K mg base CE fE dE) (c1 : mg "LEAST_REST" = some (.int 2 t1)) (c2 : mg "MOST_REST" = some (.int 1000000 t2)) (D : Fn0 P w K mg base "is_integer" 1 fI dI p_is_integer spIntA)
    {kws : List (Str × V)} {q : Str} (F : FnC K "__init__" q s_Kind_init kws f fd) : FnOk P w K mg base (L2.CX P w) 3 f fd ["self", "lends", "lets", "turns", "rests"] (spInit C CE) := by
  refine F.ok sc_Kind_init (fun vs H Q E h => ?_) (fun cdv A outer s H vs Q E hr h => ?_)
  · obtain ⟨a, dx, l, t, u, r, rfl, _⟩ := h
    rfl
  · obtain ⟨a, dx, l, t, u, r, rfl, ha, vl, vt, vu, vr, kq, ke⟩ := h
    have nd := sc_Kind_init.nd
    have hun := hr.units
    refine ⟨_, (pss_cons (ps_if (pt_cmpR (op_notInW hun) (pv 1) (ClX.pe_cval (pe_glob (v := .ref C) (by rfl) T.m rfl)) rfl) (pss_one (ps_raise rfl (takes_of rfl rfl rfl rfl) (pmk_oex (XE.ec.oex XE.ty) XE.ec.ini XE.ec.tfn XE.ok hr XE.b .nil pass0 (by rfl) XE.m (pa_cons pe_int pa_nil)))) pss_nil)
      (pss_cons (ps_if (pt_cmpR (op_notInW hun) (pv 2) (ClX.pe_cval (pe_glob (v := .ref C) (by rfl) T.m rfl)) rfl) (pss_one (ps_raise rfl (takes_of rfl rfl rfl rfl) (pmk_oex (XE.ec.oex XE.ty) XE.ec.ini XE.ec.tfn XE.ok hr XE.b .nil pass0 (by rfl) XE.m (pa_cons pe_int pa_nil)))) pss_nil)
      (pss_cons (ps_if (pt_not (pt_val (pe_callB call_isi (by rfl) B.isinstance (by decide +kernel) (pa_cons (pv 3) (pa_cons (pe_bltn (v := .ty "bool") (by rfl) B.bool (by decide +kernel) rfl) pa_nil))))) (pss_one (ps_raise rfl (takes_of rfl rfl rfl rfl) (pmk_oex (XE.ec.oex XE.ty) XE.ec.ini XE.ec.tfn XE.ok hr XE.b .nil pass0 (by rfl) XE.m (pa_cons pe_int pa_nil)))) pss_nil)
      (pss_cons (ps_if (pw_and (pt_cmpR op_notN (pv 4) pe_non (nomark _)) (pw_and1 (pt_not (pt_val (pe_call D.ok (hr.mono (by decide)) (by rfl) D.m D.k D.b .nil pass0 (pa_cons (pv 4) (pa_cons (pe_glob (v := .int 2) (by rfl) c1 ⟨_, rfl⟩) (pa_cons (pe_glob (v := .int 1000000) (by rfl) c2 ⟨_, rfl⟩) pa_nil)))))))).pt (pss_one (ps_raise rfl (takes_of rfl rfl rfl rfl) (pmk_oex (XE.ec.oex XE.ty) XE.ec.ini XE.ec.tfn XE.ok hr XE.b .nil pass0 (by rfl) XE.m (pa_cons pe_int pa_nil)))) pss_nil)
      (pss_cons (ps_fld (pv 0) (pv 1) rfl) (pss_cons (ps_fld (pv 0) (pv 2) rfl) (pss_cons (ps_fld (pv 0) (pv 3) rfl) (pss_one (ps_fld (pv 0) (pv 4) rfl))))))))), ?_⟩
    have bad : ∀ (n : Int) {H1 : Hp}, Ex H H1 → badAt l t u r = some n → tMkO CE (spI1 CE "place") [] (tCons (tC (.int n)) tNil) [some (.ref a), some l, some t, some u, some r] H1 (fun cls d H' => E cls d H') := fun n {H1} e hn =>
      s_raise1 (W := fun cls d _ H' => E cls d H') (ea_cons ev_c ea_nil) fun d H4 e4 hd => ke n hn d H4 (e.trans e4) hd
    refine q_when (b := !okL l) (et_test (ev_is (ev_op (ev_var rfl) (ev_cval ev_c T.rd T.vL) (rv_notW vl (T.tL _))) (by rw [inS_l]))) (fun z H1 e1 => ?_) (fun z H1 e1 => ?_)
    · exact bad 0 e1 (by unfold badAt; rw [if_neg (by simpa using z)])
    have z1 : okL l = true := by simpa using z
    refine q_when (b := !okT t) (et_test (ev_is (ev_op (ev_var rfl) (ev_cval ev_c T.rd T.vT) (rv_notW (any_ex vt e1) (T.tT _))) (by rw [inS_t]))) (fun z H2 e2 => ?_) (fun z H2 e2 => ?_)
    · exact bad 1 (e1.trans e2) (by unfold badAt; rw [if_pos z1, if_neg (by simpa using z)])
    have z2 : okT t = true := by simpa using z
    have e02 := e1.trans e2
    refine q_when (b := !isBlB u) (et_not (et_B (ev_cb (ea_cons (ev_var rfl) (ea_cons ev_c ea_nil)) (rc_bool (any_ex vu e02))))) (fun z H3 e3 => ?_) (fun z H3 e3 => ?_)
    · exact bad 2 (e02.trans e3) (by unfold badAt; rw [if_pos z1, if_pos z2, if_neg (by simpa using z)])
    have z3 : isBlB u = true := by simpa using z
    have e03 := e02.trans e3
    have er : ((!decide (r = .non)) && !isI r 2 1000000) = !okR r := by cases r <;> simp [isI, okR, inRest]
    refine q_when (b := !okR r) (et_is (et_and (a := !decide (r = .non)) (b := !isI r 2 1000000) (et_test (ev_is (ev_op (ev_var rfl) ev_c (fun H9 _ Q9 q9 => ⟨rfl, q9 H9 (Ex.refl H9)⟩)) (by cases r <;> rfl)))
      (fun _ => et_not (et_B (ev_call (z := .bl (isI r 2 1000000)) (ea_cons (ev_var rfl) (ea_cons ev_c (ea_cons ev_c ea_nil))) (fun H9 e9 Q q E => ⟨r, 2, 1000000, rfl, any_ex vr (e03.trans e9), fun H8 e8 => q H8 e8⟩))))) er) (fun z H4 e4 => ?_) (fun z H4 e4 => ?_)
    · exact bad 3 (e03.trans e4) (by unfold badAt; rw [if_pos z1, if_pos z2, if_pos z3, if_neg (by simpa using z)])
    have z4 : okR r = true := by simpa using z
    obtain ⟨kd, hk, rfl, rfl, rfl, rfl⟩ := kd_of (l := l) (t := t) (u := u) (r := r) (by unfold badAt; rw [if_pos z1, if_pos z2, if_pos z3, if_pos z4])
    have a4 := (e03.trans e4) _ _ ha
    refine ⟨_, rfl, _, rfl, a, C, dx, _, rfl, a4, T.cl, T.n1, (by show 0 < 1000; decide), ?_⟩
    refine ⟨_, rfl, _, rfl, a, C, dx, _, rfl, upd_same, T.cl, T.n2, (by show 1 < 1000; decide), ?_⟩
    refine ⟨_, rfl, _, rfl, a, C, dx, _, rfl, upd_same, T.cl, T.n3, (by show 2 < 1000; decide), ?_⟩
    refine ⟨_, rfl, _, rfl, a, C, dx, _, rfl, upd_same, T.cl, T.n4, (by show 3 < 1000; decide), ?_⟩
    refine kq kd hk rfl rfl rfl rfl _ (fun c o hc h => ?_) upd_same
    rw [upd_ne hc, upd_ne hc, upd_ne hc, upd_ne hc]
    exact (e03.trans e4) c o h
/-- what a getter gives -/
def spGet (C : Addr) (v : Kd → V) : Sp := fun vs H Q _ => ∃ (a : Addr) (k : Kd), vs = [.ref a] ∧ KAt C H a k ∧ Q (v k) H
theorem ok_lends (T : KF K mg C mc aL aT) {q : Str} (F : FnC K "lends" q s_Kind_lends [] f fd) : FnOk P w K mg base CX0 1 f fd ["self"] (spGet C fun k => .str k.le) := by
  refine F.ok sc_Kind_lends (fun vs H Q E h => ?_) (fun cdv A outer s H vs Q E hr h => ?_)
  · obtain ⟨a, k, rfl, _⟩ := h
    rfl
  · obtain ⟨a, kd, rfl, ⟨dx, ha⟩, k⟩ := h
    exact ⟨_, PSs.nox (pss_one (ps_ret (pe_fld (pv 0) rfl))), _, rfl, a, C, dx, _, _, rfl, ha, T.cl, T.n1, rfl, k⟩
theorem ok_lets (T : KF K mg C mc aL aT) {q : Str} (F : FnC K "lets" q s_Kind_lets [] f fd) : FnOk P w K mg base CX0 1 f fd ["self"] (spGet C fun k => .str k.lt) := by
  refine F.ok sc_Kind_lets (fun vs H Q E h => ?_) (fun cdv A outer s H vs Q E hr h => ?_)
  · obtain ⟨a, k, rfl, _⟩ := h
    rfl
  · obtain ⟨a, kd, rfl, ⟨dx, ha⟩, k⟩ := h
    exact ⟨_, PSs.nox (pss_one (ps_ret (pe_fld (pv 0) rfl))), _, rfl, a, C, dx, _, _, rfl, ha, T.cl, T.n2, rfl, k⟩
theorem ok_turns (T : KF K mg C mc aL aT) {q : Str} (F : FnC K "turns" q s_Kind_turns [] f fd) : FnOk P w K mg base CX0 1 f fd ["self"] (spGet C fun k => .bl k.tu) := by
  refine F.ok sc_Kind_turns (fun vs H Q E h => ?_) (fun cdv A outer s H vs Q E hr h => ?_)
  · obtain ⟨a, k, rfl, _⟩ := h
    rfl
  · obtain ⟨a, kd, rfl, ⟨dx, ha⟩, k⟩ := h
    exact ⟨_, PSs.nox (pss_one (ps_ret (pe_fld (pv 0) rfl))), _, rfl, a, C, dx, _, _, rfl, ha, T.cl, T.n3, rfl, k⟩
theorem ok_rests (T : KF K mg C mc aL aT) {q : Str} (F : FnC K "rests" q s_Kind_rests [] f fd) : FnOk P w K mg base CX0 1 f fd ["self"] (spGet C fun k => optV k.re) := by
  refine F.ok sc_Kind_rests (fun vs H Q E h => ?_) (fun cdv A outer s H vs Q E hr h => ?_)
  · obtain ⟨a, k, rfl, _⟩ := h
    rfl
  · obtain ⟨a, kd, rfl, ⟨dx, ha⟩, k⟩ := h
    exact ⟨_, PSs.nox (pss_one (ps_ret (pe_fld (pv 0) rfl))), _, rfl, a, C, dx, _, _, rfl, ha, T.cl, T.n4, rfl, k⟩
end
end L2.Mj
set_option maxRecDepth 100000
set_option maxHeartbeats 4000000
namespace L2.Mj
open PySem PySem.Spec PyProof.Rows L2 Mx L2.Mb Evl Mv TL
section
variable {P : Program} {w : World} {K : W.Frag} {mg : Str → Option Value} {base : Heap} {f fI C CE aL aT : Addr} {fd dI : FuncData} {mc : Value}
/-! ### a kind's text -/
def Kd.words (k : Kd) : List Str := [k.le ++ "/" ++ k.lt] ++ (if k.tu = true then (["turns"] : List Str) else []) ++ (match k.re with
  | some n => [("rests " : Str) ++ (toString n : Str)]
  | none => [])
def Kd.text (k : Kd) : Str := Txt.join " " k.words
def spText (C : Addr) (g : Kd → Str) : Sp := fun vs H Q _ => ∃ (a : Addr) (k : Kd), vs = [.ref a] ∧ k.ok = true ∧ KAt C H a k ∧ ∀ H', Ex H H' → Q (.str (g k)) H'
theorem lend_len {x : Str} (h : lendL.contains x = true) : x.length ≤ 4 := by
  have z := List.contains_iff_mem.mp h
  simp only [List.mem_cons, List.not_mem_nil, or_false] at z
  rcases z with rfl | rfl | rfl <;> decide +kernel
theorem let_len {x : Str} (h : letL.contains x = true) : x.length ≤ 4 := by
  have z := List.contains_iff_mem.mp h
  simp only [List.mem_cons, List.not_mem_nil, or_false] at z
  rcases z with rfl | rfl | rfl <;> decide +kernel
theorem num_len {n : Int} (h : inRest n = true) : ((toString n : String) : Str).length ≤ 7 := by
  unfold inRest at h
  simp only [Bool.and_eq_true, decide_eq_true_eq] at h
  obtain ⟨m, rfl⟩ := Int.eq_ofNat_of_zero_le (show 0 ≤ n by omega)
  rw [len_tl, tl_num]
  exact numL_len (by decide) (by omega)
theorem num_log {n : Int} (h : inRest n = true) : n.natAbs.log2 < 1920 := by
  unfold inRest at h
  simp only [Bool.and_eq_true, decide_eq_true_eq] at h
  by_cases hz : n.natAbs = 0
  · rw [hz]
    decide
  · refine (Nat.log2_lt hz).mpr (Nat.lt_of_lt_of_le (show n.natAbs < 2 ^ 20 by omega) (Nat.pow_le_pow_right (by decide) (by decide)))
theorem words_sum {kd : Kd} (o1 : lendL.contains kd.le = true) (o2 : letL.contains kd.lt = true) (o3 : kd.re.all inRest = true) : (kd.words.map (·.length)).sum + kd.words.length * (" " : Str).length ≤ 100 := by
  have l1 := lend_len o1
  have l2 := let_len o2
  have s1 : ("/" : Str).length = 1 := by decide +kernel
  have s2 : (" " : Str).length = 1 := by decide +kernel
  have s3 : ("turns" : Str).length = 5 := by decide +kernel
  have s4 : ("rests " : Str).length = 6 := by decide +kernel
  have h1 : (kd.le ++ "/" ++ kd.lt).length = kd.le.length + 1 + kd.lt.length := by
    rw [len_tl, tl_append, tl_append, List.length_append, List.length_append, ← len_tl, ← len_tl, ← len_tl, s1]
  unfold Kd.words
  cases hre : kd.re with
  | none => cases kd.tu <;> simp [h1, s2, s3] <;> omega
  | some n =>
    rw [hre] at o3
    have y1 := num_len (show inRest n = true from o3)
    have h2 : (("rests " : Str) ++ (toString n : Str)).length = 6 + ((toString n : String) : Str).length := by
      rw [len_tl, tl_append, List.length_append, ← len_tl, ← len_tl, s4]
    have h3 : (("rests " : Str) ++ Str.ofString n.repr).length = 6 + (Str.ofString n.repr).length := h2
    have y2 : (Str.ofString n.repr).length ≤ 7 := y1
    cases kd.tu <;> simp [h1, h3, s2, s3] <;> omega
theorem join_len (y : Str) : ∀ l : List Str, (Str.join y l).length ≤ (l.map (·.length)).sum + l.length * y.length
  | [] => Nat.zero_le _
  | [x] => by
    show x.length ≤ _
    simp
  | x :: z :: r => by
    have ih := join_len y (z :: r)
    show (x ++ y ++ Str.join y (z :: r)).length ≤ _
    rw [len_tl, tl_append, tl_append, List.length_append, List.length_append, ← len_tl, ← len_tl, ← len_tl]
    simp only [List.map_cons, List.sum_cons, List.length_cons, Nat.succ_mul] at ih ⊢
    omega
theorem text_len {kd : Kd} (h : kd.ok = true) : kd.text.length ≤ 100 := by
  unfold Kd.ok at h
  simp only [Bool.and_eq_true] at h
  unfold Kd.text
  rw [join_eq]
  exact Nat.le_trans (join_len _ _) (words_sum h.1 h.2.1 h.2.2)
theorem emp_app (x : Str) : Str.empty ++ x = x := ext_tl (by rw [tl_append]; rfl)
theorem ev_fK {σ : L2.St} {H : Hp} {a : Addr} {kd : Kd} {i : Nat} {x : Str} {v : V} (cl : Cls K C) (n : NoAttr K C x) (h0 : σ[i]? = some (some (.ref a))) (ha : KAt C H a kd) (hl : kd.fs.lookup x = some v) : Ev (tFld K (tVar i) x) σ H v := fun H1 e Q q => by
  obtain ⟨dx, hd⟩ := ha
  exact ⟨_, h0, a, C, dx, _, v, rfl, e _ _ hd, cl, n, hl, q H1 (Ex.refl H1)⟩
theorem ok_str {q : Str} (B : Bt mg) {aL aT : Addr} (T : KF K mg C mc aL aT) (F : FnC K "__str__" q s_Kind_str [] f fd) : FnOk P w K mg base CX0 1 f fd ["self"] (spText C Kd.text) := by
  refine F.ok sc_Kind_str (fun vs H Q E h => ?_) (fun cdv A outer s H vs Q E hr h => ?_)
  · obtain ⟨a, k, rfl, _⟩ := h
    rfl
  · obtain ⟨a, kd, rfl, hok, ha, k⟩ := h
    have nd := sc_Kind_str.nd
    unfold Kd.ok at hok
    simp only [Bool.and_eq_true] at hok
    obtain ⟨o1, o2, o3⟩ := hok
    have l1 := lend_len o1
    have l2 := let_len o2
    refine ⟨_, PSs.nox (pss_cons (ps_set (i := 1) nd rfl (Or.inl rfl) (pe_lst (pa_cons (pe_op op_add_str (pe_op op_add_str (pe_fld (pv 0) rfl) pe_str) (pe_fld (pv 0) rfl)) pa_nil)))
      (Evl.pss_cut (ps_if (pt_val (pe_fld (pv 0) rfl)) (pss_one (ps_expr (pe_bm PySem.F.plainAttrs_list PySem.F.slot_list_append PySem.F.type_list_append mt_append (pv 1) (pa_cons pe_str pa_nil)))) pss_nil)
      (Evl.pss_cut (ps_if (pt_cmpR op_notN (pe_fld (pv 0) rfl) pe_non (nomark _)) (pss_one (ps_expr (pe_bm PySem.F.plainAttrs_list PySem.F.slot_list_append PySem.F.type_list_append mt_append (pv 1) (pa_cons (pe_op op_add_str pe_str (pe_callTy call_str_int (by rfl) B.str (by decide +kernel) (pa_cons (pe_fld (pv 0) rfl) pa_nil))) pa_nil)))) pss_nil)
      (pss_one (ps_ret (pe_join pe_str (pv 1))))))), ?_⟩
    have sl : ("/" : Str).length = 1 := by decide +kernel
    have sl2 : (kd.le ++ "/").length = kd.le.length + 1 := by
      rw [len_tl, tl_append, List.length_append, ← len_tl, ← len_tl, sl]
    refine q_asgL (xs := ([kd.le ++ "/" ++ kd.lt] : List Str).map V.str) (el_lst (ea_cons (ev_op (ev_op (ev_fK T.cl T.n1 rfl ha rfl) ev_c (rv_catS (by rw [sl]; omega))) (ev_fK T.cl T.n2 rfl ha rfl) (rv_catS (by rw [sl2]; omega))) ea_nil) (by show 1 ≤ 100000; decide)) fun l H1 nl e1 hl => ?_
    have nla : H l = none := nl
    refine q_cut (M := fun σ' H' => σ' = [some (.ref a), some (.ref l)] ∧ Ex H H' ∧ H' l = some (.lst (([kd.le ++ "/" ++ kd.lt] ++ (if kd.tu = true then (["turns"] : List Str) else [])).map V.str))) ?_ ?_
    · refine s_if (b := kd.tu) (et_B (ev_fK T.cl T.n3 rfl (ha.mono e1) rfl)) (fun h H2 e2 => ?_) (fun h H2 e2 => ⟨rfl, e1.trans e2, ?_⟩)
      · refine s_app (xs := ([kd.le ++ "/" ++ kd.lt] : List Str).map V.str) (e2 _ _ hl) (ev_var rfl) ev_c (by show 1 < 100000; decide) fun H3 e3 => ⟨rfl, Ex.mut ((e1.trans e2).trans e3) nla, ?_⟩
        rw [if_pos h]
        exact upd_same
      · rw [if_neg (by rw [h]; simp)]
        exact e2 _ _ hl
    rintro σ' H2 ⟨rfl, e2, hl2⟩
    refine q_cut (M := fun σ' H' => σ' = [some (.ref a), some (.ref l)] ∧ Ex H H' ∧ H' l = some (.lst (kd.words.map V.str))) ?_ ?_
    · refine s_if (b := kd.re.isSome) (et_test (ev_is (ev_op (ev_fK T.cl T.n4 rfl (ha.mono e2) rfl) ev_c (fun H9 _ Q9 q9 => ⟨rfl, q9 H9 (Ex.refl H9)⟩)) (by cases kd.re <;> rfl))) (fun h H3 e3 => ?_) (fun h H3 e3 => ⟨rfl, e2.trans e3, ?_⟩)
      · cases hre : kd.re with
        | none =>
          rw [hre] at h
          cases h
        | some n =>
          rw [hre] at o3
          have o4 : inRest n = true := o3
          have hv : kd.fs.lookup ("_rests" : Str) = some (V.int n) := by
            show some (optV kd.re) = _
            rw [hre]
            rfl
          have y1 := num_len o4
          have y2 : ("rests " : Str).length = 6 := by decide +kernel
          refine s_app (e3 _ _ hl2) (ev_var rfl) (ev_op ev_c (ev_cb (r := rStrI) (ea_cons (ev_fK T.cl T.n4 rfl ((ha.mono e2).mono e3) hv) ea_nil) (rc_strI (num_log o4))) (rv_catS (by omega))) (by rw [List.length_map]; split <;> simp) fun H4 e4 => ⟨rfl, Ex.mut ((e2.trans e3).trans e4) nla, ?_⟩
          unfold Kd.words
          rw [hre, List.map_append, List.map_append, List.map_append]
          exact upd_same
      · unfold Kd.words
        cases hre : kd.re with
        | some n =>
          rw [hre] at h
          cases h
        | none =>
          rw [List.append_nil]
          exact e3 _ _ hl2
    rintro σ' H3 ⟨rfl, e3, hl3⟩
    refine s_ret (ev_join (a := " ") (ys := kd.words) ev_c (ev_var rfl) rfl (sq_of hl3) (Nat.le_trans (words_sum o1 o2 o3) (by decide))) fun H4 e4 => k H4 (e3.trans e4)
end
end L2.Mj
set_option maxRecDepth 100000
set_option maxHeartbeats 4000000
namespace L2.Mj
open PySem PySem.Spec PyProof.Rows L2 Mx L2.Mb Evl Mv TL
/-- d[k], d a written dict with text keys -/
def rIxK (K : W.Frag) (d : Addr) : R2 := fun x y H Q => ∃ (z : Str) (u0 : Value) (v0 : V), x = .ref d ∧ y = .str z ∧ W.nsIn K d z = some (some u0) ∧ RelV v0 u0 ∧ Q v0 H
theorem ix_kd {X : Cx} {d : Addr} {es : Array DictEntry} {n : Nat} (D : KDict X.K X.w d es n) : IxR X (rIxK X.K d) := by
  intro value slice pins s σ H x y v u Q I rx ry h hs
  obtain ⟨z, u0, v0, rfl, rfl, e, r, q⟩ := h
  cases rx
  obtain ⟨t, rfl⟩ := ry
  exact subscriptTail_builtinR (x := u0) (kd_type D I) slot_dict_getitem.lookup (wpAny_getItem_of (Q := fun r s' => r = u0 ∧ EP X pins σ Q r s') (strKind_is X.prog X.w z t) (W.mapOf_K (prog := X.prog) I.kIn D.at_ D.lit) (W.find_K D.at_ e) ⟨rfl, v0, H, I.tok _, r, q⟩) hs
/-- the getters of Kind -/
structure KP (P : Program) (w : World) (K : W.Frag) (mg : Str → Option Value) (base : Heap) (C : Addr) (x : Str) (v : Kd → V) : Prop where
  ex : ∃ (p g : Addr) (fd : FuncData), PropOf K C x p g ∧ FnOk P w K mg base CX0 1 g fd ["self"] (spGet C v) ∧ Binds K fd ["self"] []
section
variable {P : Program} {w : World} {K : W.Frag} {mg : Str → Option Value} {base : Heap} {f fI C CE aL aT : Addr} {fd dI : FuncData} {mc : Value}
/-- e.x, x a property -/
def tPr (C : Addr) (v : Kd → V) (ta : TE) : TE := fun σ H Q => ta σ H fun x H1 => ∃ (a : Addr) (k : Kd), x = .ref a ∧ KAt C H1 a k ∧ Q (v k) H1
theorem pe_pr {X : Cx} {e : Expr} {x : Str} {pos : Pos} {ta : TE} {v : Kd → V} (T : KF X.K X.mg C mc aL aT) (p : KP X.prog X.w X.K X.mg X.base C x v) (hr : Room 2 X.A) (he : PE X e ta) (hab : attributeBase e x X.env (eval e X.env) = eval e X.env := by rfl) : PE X (.Attribute e x pos) (tPr C v ta) := by
  obtain ⟨pp, g, fd, h1, h2, h3⟩ := p.ex
  refine ⟨fun pins s σ H Q I h => ?_⟩
  refine attr_of hab (thn (he.run pins s σ H _ I h) fun u s1 ⟨y, H1, I1, ry, a, kd, ey, ⟨dx, ea⟩, q⟩ => ?_)
  subst ey
  obtain rfl : u = Value.ref a := ry
  exact getprop_ok I1 ea T.cl h1 h2 hr h3 .nil pass0 ⟨a, kd, rfl, ⟨dx, ea⟩, q⟩
theorem ev_pr {σ : L2.St} {H : Hp} {te : TE} {a : Addr} {kd : Kd} {v : Kd → V} (h : Ev te σ H (.ref a)) (ha : KAt C H a kd) : Ev (tPr C v te) σ H (v kd) := fun H1 e Q q => h H1 e _ fun H2 e2 => ⟨a, kd, rfl, ha.mono (e.trans e2), q H2 e2⟩
/-- the table LOOSE -/
structure LO (w : World) (K : W.Frag) (mg : Str → Option Value) (d : Addr) (es : Array DictEntry) (n : Nat) : Prop where
  m : mg "LOOSE" = some (.ref d)
  k : KDict K w d es n
  v : ∀ x : Str, x ∈ (["both", "far", "one", "any"] : List Str) → ∃ t, W.nsIn K d x = some (some (.int (if x = "both" then 0 else if x = "far" then 1 else 2) t))
def looseV (x : Str) : Int := if x = "both" then 0 else if x = "far" then 1 else 2
def Kd.ranks (k : Kd) : List Int := [looseV k.le, looseV k.lt, if k.tu = true then 1 else 0, match k.re with
  | some n => n
  | none => 1000001]
def spRanks (C : Addr) : Sp := fun vs H Q _ => ∃ (a : Addr) (k : Kd), vs = [.ref a] ∧ k.ok = true ∧ KAt C H a k ∧ ∀ p H', H p = none → Ex H H' → H' p = some (.lst (k.ranks.map V.int)) → Q (.ref p) H'
theorem ok_ranks {d : Addr} {es : Array DictEntry} {n : Nat} {t2 : Tok} (B : Bt mg) (T : KF K mg C mc aL aT) (L : LO w K mg d es n) (c2 : mg "MOST_REST" = some (.int 1000000 t2)) (pL : KP P w K mg base C "lends" fun k => .str k.le) (pT : KP P w K mg base C "lets" fun k => .str k.lt) (pU : KP P w K mg base C "turns" fun k => .bl k.tu)
    (pR : KP P w K mg base C "rests" fun k => optV k.re) (F : FnP K "_ranks" s_ranks f fd) : FnOk P w K mg base CX0 3 f fd p_ranks (spRanks C) := by
  refine F.ok sc_ranks (fun vs H Q E h => ?_) (fun cdv A outer s H vs Q E hr h => ?_)
  · obtain ⟨a, k, rfl, _⟩ := h
    rfl
  · obtain ⟨a, kd, rfl, hok, ha, k⟩ := h
    have nd := sc_ranks.nd
    unfold Kd.ok at hok
    simp only [Bool.and_eq_true] at hok
    obtain ⟨o1, o2, o3⟩ := hok
    refine ⟨_, PSs.nox (pss_cons (ps_set (i := 1) nd rfl (Or.inl rfl) (pe_ifExp (pt_cmpR op_isN (pe_pr T pR hr (pv 0)) pe_non (nomark _)) (pe_op op_add (pe_glob (v := .int 1000000) (by rfl) c2 ⟨_, rfl⟩) pe_int) (pe_pr T pR hr (pv 0))))
      (pss_one (ps_ret (pe_lst (pa_cons (pe_ix (ix_kd L.k) (pe_glob (v := .ref d) (by rfl) L.m rfl) (pe_pr T pL hr (pv 0)) (fun _ _ => rfl)) (pa_cons (pe_ix (ix_kd L.k) (pe_glob (v := .ref d) (by rfl) L.m rfl) (pe_pr T pT hr (pv 0)) (fun _ _ => rfl)) (pa_cons (pe_callTy call_int1 (by rfl) B.int (by decide +kernel) (pa_cons (pe_pr T pU hr (pv 0)) pa_nil)) (pa_cons (pv 1) pa_nil)))))))), ?_⟩
    have ixl : ∀ {σ : L2.St} {H9 : Hp} {te : TE} {x : Str}, x ∈ (["both", "far", "one", "any"] : List Str) → Ev te σ H9 (.str x) → Ev (tOp (rIxK K d) (tC (.ref d)) te) σ H9 (.int (looseV x)) := fun {σ H9 te x} hx h => by
      obtain ⟨t, e⟩ := L.v x hx
      exact ev_op ev_c h fun H8 _ Q q => ⟨x, _, .int (looseV x), rfl, rfl, e, ⟨t, rfl⟩, q H8 (Ex.refl H8)⟩
    have m1 : kd.le ∈ (["both", "far", "one", "any"] : List Str) := by
      have z := List.contains_iff_mem.mp o1
      simp only [List.mem_cons, List.not_mem_nil, or_false] at z
      rcases z with z | z | z <;> rw [z] <;> simp
    have m2 : kd.lt ∈ (["both", "far", "one", "any"] : List Str) := by
      have z := List.contains_iff_mem.mp o2
      simp only [List.mem_cons, List.not_mem_nil, or_false] at z
      rcases z with z | z | z <;> rw [z] <;> simp
    refine q_asg (v := .int (match kd.re with | some n => n | none => 1000001)) (ev_if (b := kd.re.isNone) (et_test (ev_is (ev_op (ev_pr (ev_var rfl) ha) ev_c (fun H9 _ Q9 q9 => ⟨rfl, q9 H9 (Ex.refl H9)⟩)) (by cases kd.re <;> rfl)))
      (fun h => ev_is (ev_op ev_c ev_c rv_int) (by cases hre : kd.re with | none => rfl | some n => rw [hre] at h; cases h)) (fun h => ev_is (ev_pr (ev_var rfl) ha) (by cases hre : kd.re with | some n => rfl | none => rw [hre] at h; cases h))) fun H1 e1 => ?_
    refine s_retL (xs := kd.ranks.map V.int) (el_lst (ea_cons (ixl m1 (ev_pr (ev_var rfl) (ha.mono e1))) (ea_cons (ixl m2 (ev_pr (ev_var rfl) (ha.mono e1))) (ea_cons ?_ (ea_cons (ev_var rfl) ea_nil)))) (by show 4 ≤ 100000; decide)) fun p H2 np e2 hp => k p H2 (fresh_back e1 np) (e1.trans e2) hp
    refine ev_cb (ea_cons (ev_pr (v := fun k => .bl k.tu) (ev_var rfl) (ha.mono e1)) ea_nil) fun H9 _ Q q => .inr ⟨kd.tu, rfl, ?_⟩
    exact q H9 (Ex.refl H9)
theorem dp_is {H : Hp} : ∀ ns : List Int, DpAll K H (ns.map V.int) (ns.map PyData.int)
  | [] => .nil
  | n :: r => .cons (.int n) (dp_is r)
theorem is_lay : ∀ ns : List Int, PyData.canLayAll0 (ns.map PyData.int) = true ∧ PyData.depthAll (ns.map PyData.int) = 0
  | [] => ⟨by simp [PyData.canLayAll0], by simp [PyData.depthAll]⟩
  | n :: r => by
    obtain ⟨h1, h2⟩ := is_lay r
    exact ⟨by simp only [List.map_cons, PyData.canLayAll0, PyData.canLay0, h1, Bool.and_self], by simp only [List.map_cons, PyData.depthAll, PyData.depth, h2, Nat.max_self]⟩
theorem is_shaped (ns : List Int) : SeqAt.shaped (.list (ns.map PyData.int)) = true := by
  obtain ⟨h1, h2⟩ := is_lay ns
  show (PyData.canLay0 (.list (ns.map PyData.int)) && decide (PyData.depth (.list (ns.map PyData.int)) ≤ 64)) = true
  simp only [PyData.canLay0, PyData.depth, h1, h2]
  decide
theorem eqv_is : ∀ l : List Int, PyData.eqvAll (l.map PyData.int) (l.map PyData.int) = true
  | [] => by simp [PyData.eqvAll]
  | b :: r => by simp [PyData.eqvAll, PyData.eqv, eqv_is r]
theorem rv_eqIs {H : Hp} {r q : Addr} {l : List Int} (hr : SqL K H r (l.map V.int)) (hq : SqL K H q (l.map V.int)) : RV (rEqD K) (.ref r) (.ref q) H (.bl true) := fun H1 e Q k => by
  refine ⟨_, _, .lst (ex_l e hr) (dp_is l), .lst (ex_l e hq) (dp_is l), is_shaped l, is_shaped l, ?_⟩
  have z : PyData.eqv (.list (l.map PyData.int)) (.list (l.map PyData.int)) = true := by simp only [PyData.eqv, eqv_is]
  rw [z]
  exact k H1 (Ex.refl H1)
/-! ### kinds compared -/
instance : DecidableEq Kd := fun a b => decidable_of_iff (a.le = b.le ∧ a.lt = b.lt ∧ a.tu = b.tu ∧ a.re = b.re) ⟨fun h => by
  obtain ⟨h1, h2, h3, h4⟩ := h
  obtain ⟨a1, a2, a3, a4⟩ := a
  obtain ⟨b1, b2, b3, b4⟩ := b
  simp only at h1 h2 h3 h4
  rw [h1, h2, h3, h4], fun h => h ▸ ⟨rfl, rfl, rfl, rfl⟩⟩
theorem eqv_ints : ∀ l m : List Int, PyData.eqvAll (l.map PyData.int) (m.map PyData.int) = decide (l = m)
  | [], [] => by simp [PyData.eqvAll]
  | [], _ :: _ => by simp [PyData.eqvAll]
  | _ :: _, [] => by simp [PyData.eqvAll]
  | a :: l, b :: m => by
    have ih := eqv_ints l m
    simp only [List.map_cons, PyData.eqvAll, ih, PyData.eqv]
    by_cases h1 : a = b <;> by_cases h2 : l = m <;> simp [h1, h2]
theorem rv_eqI2 {H : Hp} {r q : Addr} {l m : List Int} (hr : SqL K H r (l.map V.int)) (hq : SqL K H q (m.map V.int)) : RV (rEqD K) (.ref r) (.ref q) H (.bl (decide (l = m))) := fun H1 e Q k => by
  refine ⟨_, _, .lst (ex_l e hr) (dp_is l), .lst (ex_l e hq) (dp_is m), is_shaped l, is_shaped m, ?_⟩
  have z : PyData.eqv (.list (l.map PyData.int)) (.list (m.map PyData.int)) = decide (l = m) := by simp only [PyData.eqv, eqv_ints]
  rw [z]
  exact k H1 (Ex.refl H1)
theorem ranks_inj {k1 k2 : Kd} (o1 : k1.ok = true) (o2 : k2.ok = true) : decide (k1.ranks = k2.ranks) = decide (k1 = k2) := by
  refine decide_eq_decide.mpr ⟨fun h => ?_, fun h => by rw [h]⟩
  unfold Kd.ok at o1 o2
  simp only [Bool.and_eq_true] at o1 o2
  obtain ⟨a1, a2, a3⟩ := o1
  obtain ⟨b1, b2, b3⟩ := o2
  obtain ⟨l1, t1, u1, r1⟩ := k1
  obtain ⟨l2, t2, u2, r2⟩ := k2
  unfold Kd.ranks at h
  simp only [List.cons.injEq, and_true] at h
  obtain ⟨h1, h2, h3, h4⟩ := h
  have m1 := List.contains_iff_mem.mp a1
  have m2 := List.contains_iff_mem.mp a2
  have m3 := List.contains_iff_mem.mp b1
  have m4 := List.contains_iff_mem.mp b2
  simp only [List.mem_cons, List.not_mem_nil, or_false] at m1 m2 m3 m4
  have e1 : l1 = l2 := by
    rcases m1 with e | e | e <;> rcases m3 with e' | e' | e' <;> (rw [e, e'] at h1 ⊢ <;> first | rfl | (revert h1; decide +kernel))
  have e2 : t1 = t2 := by
    rcases m2 with e | e | e <;> rcases m4 with e' | e' | e' <;> (rw [e, e'] at h2 ⊢ <;> first | rfl | (revert h2; decide +kernel))
  have e3 : u1 = u2 := by cases u1 <;> cases u2 <;> first | rfl | simp at h3
  have e4 : r1 = r2 := by
    cases r1 with
    | none =>
      cases r2 with
      | none => rfl
      | some n =>
        have b4 : inRest n = true := b3
        unfold inRest at b4
        simp only [Bool.and_eq_true, decide_eq_true_eq] at b4
        have h5 : (1000001 : Int) = n := h4
        omega
    | some n =>
      have a4 : inRest n = true := a3
      unfold inRest at a4
      simp only [Bool.and_eq_true, decide_eq_true_eq] at a4
      cases r2 with
      | none =>
        have h5 : n = (1000001 : Int) := h4
        omega
      | some m =>
        have h5 : n = m := h4
        rw [h5]
  rw [e1, e2, e3, e4]
/-- what isinstance(.., Kind) says -/
structure IK (K : W.Frag) (C : Addr) : Prop where
  ic : C8.InsC K C
  ot : ∀ T ∈ (["int", "bool", "str", "NoneType", "list", "tuple", "dict"] : List String), W.kitOne K (.type T) (.ref C) = some false
theorem rc_isK {H : Hp} {a : Addr} {k : Kd} (I : IK K C) (h : KAt C H a k) : RC (rIsi K) [.ref a, .ref C] H (.bl true) := by
  obtain ⟨dx, hd⟩ := h
  exact rc_isi (t := .ref C) (.own C) (fun H1 e => .base (.ins (e _ _ hd) I.ic.cl I.ic.ha I.ic.hn I.ic.htk I.ic.hm)) I.ic.me
theorem rc_isN {H : Hp} {v : V} (I : IK K C) (h : AnyV H v) : RC (rIsi K) [v, .ref C] H (.bl false) := by
  cases h with
  | non => exact rc_isi (t := .type "NoneType") (.own C) (fun _ _ => .base .non) (I.ot _ (by simp))
  | bl b => exact rc_isi (t := .type "bool") (.own C) (fun _ _ => .base (.bl b)) (I.ot _ (by simp))
  | int n => exact rc_isi (t := .type "int") (.own C) (fun _ _ => .base (.int n)) (I.ot _ (by simp))
  | str z => exact rc_isi (t := .type "str") (.own C) (fun _ _ => .base (.str z)) (I.ot _ (by simp))
  | lst h => exact rc_isi (t := .type "list") (.own C) (fun _ e => .base (.lst (e _ _ h))) (I.ot _ (by simp))
  | tup h => exact rc_isi (t := .type "tuple") (.own C) (fun _ e => .base (.tup (e _ _ h))) (I.ot _ (by simp))
  | dct h => exact rc_isi (t := .type "dict") (.own C) (fun _ e => .base (.dK (e _ _ h))) (I.ot _ (by simp))
def spEqA (C : Addr) : Sp := fun vs H Q _ => ∃ (a : Addr) (y : V) (kd : Kd), vs = [.ref a, y] ∧ kd.ok = true ∧ KAt C H a kd ∧
  ((∃ b k2, y = .ref b ∧ k2.ok = true ∧ KAt C H b k2 ∧ ∀ H', Ex H H' → Q (.bl (decide (kd = k2))) H') ∨ (AnyV H y ∧ ∀ H', Ex H H' → Q (.bl false) H'))
theorem el_ranks {σ : L2.St} {H : Hp} {i : Nat} {x : Addr} {kd : Kd} (hi : σ[i]? = some (some (.ref x))) (hk : kd.ok = true) (hx : KAt C H x kd) : EvL (tCall (spRanks C) [] E0 (tCons (tVar i) tNil)) σ H (kd.ranks.map V.int) :=
  el_call (ea_cons (ev_var hi) ea_nil) fun H1 e1 Q q E => ⟨x, kd, rfl, hk, hx.mono e1, fun p H' np e hp => q p H' np e hp⟩
theorem ok_eq {fR : Addr} {dR : FuncData} {q : Str} (B : Bt mg) (T : KF K mg C mc aL aT) (I : IK K C) (D : Fn0 P w K mg base "_ranks" 3 fR dR p_ranks (spRanks C)) (F : FnC K "__eq__" q s_Kind_eq [] f fd) : FnOk P w K mg base CX0 4 f fd ["self", "other"] (spEqA C) := by
  refine F.ok sc_Kind_eq (fun vs H Q E h => ?_) (fun cdv A outer s H vs Q E hr h => ?_)
  · obtain ⟨a, y, kd, rfl, _⟩ := h
    rfl
  · obtain ⟨a, y, kd, rfl, hok, ha, h⟩ := h
    have hu := hr.units
    refine ⟨_, PSs.nox (pss_one (ps_ret (pe_and (pe_callB call_isi (by rfl) B.isinstance (by decide +kernel) (pa_cons (pv 1) (pa_cons (pe_glob (v := .ref C) (by rfl) T.m rfl) pa_nil)))
      (pe_one (pe_cmpR (op_eqD hu) (pe_call D.ok hr (by rfl) D.m D.k D.b .nil pass0 (pa_cons (pv 0) pa_nil)) (pe_call D.ok hr (by rfl) D.m D.k D.b .nil pass0 (pa_cons (pv 1) pa_nil)) (nomark _)))))), ?_⟩
    rcases h with ⟨b, k2, rfl, hok2, hb, k⟩ | ⟨hy, k⟩
    · refine s_ret (v := .bl (true && decide (kd = k2))) (ev_andV (a := true) (b := decide (kd = k2)) (ev_cb (ea_cons (ev_var rfl) (ea_cons ev_c ea_nil)) (rc_isK I hb)) (fun _ => ev_is (ev_opLL (el_ranks rfl hok ha) (el_ranks rfl hok2 hb) (fun r q H1 hr hq _ => rv_eqI2 (sq_of hr) (sq_of hq))) (by rw [ranks_inj hok hok2]))) fun H1 e1 => ?_
      rw [Bool.true_and]
      exact k H1 e1
    · exact s_ret (v := .bl false) (ev_andV (a := false) (b := false) (ev_cb (ea_cons (ev_var rfl) (ea_cons ev_c ea_nil)) (rc_isN I hy)) (fun z => by cases z)) fun H1 e1 => k H1 e1
end
end L2.Mj
set_option maxRecDepth 100000
set_option maxHeartbeats 4000000
namespace L2.Mj
open PySem PySem.Spec PyProof.Rows L2 Mx L2.Mb Evl Mv TL
/-! ### worlds by their parts, the newest part first -/
structure Pt where
  kd : Option Kd
  nm : Str
  rl : Str
  ad : Int
abbrev Pt.isG (p : Pt) : Bool := p.kd.isSome
def letsS : Str := "abcdefghijklmnopqrstuvwxyz"
def okW (w : Str) : Bool := decide (1 ≤ w.length) && (decide (w.length ≤ 8) && w.cps.toList.all fun c => decide (c ∈ letsS.cps.toList))
def okP (p : Pt) : Bool := okW p.nm && ((decide (p.rl = "") || okW p.rl) && (decide (1 ≤ p.ad) && (decide (p.ad ≤ 99) && p.kd.all Kd.ok)))
def gts (rs : List Pt) : List Pt := rs.filter Pt.isG
def hasG (rs : List Pt) (n : Str) : Bool := rs.any fun p => p.isG && decide (p.nm = n)
/-- the gates around the inside of the gate r, itself first -/
def chn : List Pt → Str → List Str
  | [], _ => []
  | p :: rs, r => if p.isG = true ∧ p.nm = r then r :: chn rs p.rl else chn rs r
def newN (rs : List Pt) (n : Str) : Bool := rs.all fun q => !decide (q.nm = n)
def newA (rs : List Pt) (r : Str) (a : Int) : Bool := rs.all fun q => !(decide (q.rl = r) && decide (q.ad = a))
def room (rs : List Pt) (p : Pt) : Bool := if p.isG = true then decide ((chn rs p.rl).length < 3) && decide ((gts rs).length < 6) else decide (rs.length - (gts rs).length < 8)
def okA (rs : List Pt) (p : Pt) : Bool := okP p && ((decide (p.rl = "") || hasG rs p.rl) && (newN rs p.nm && (newA rs p.rl p.ad && room rs p)))
def Vd : List Pt → Prop
  | [] => True
  | p :: rs => Vd rs ∧ okA rs p = true
theorem ba2 {a b : Bool} (h : (a && b) = true) : a = true ∧ b = true := Bool.and_eq_true_iff.mp h
structure OkA (rs : List Pt) (p : Pt) : Prop where
  ok : okP p = true
  rl : p.rl = "" ∨ hasG rs p.rl = true
  nn : newN rs p.nm = true
  na : newA rs p.rl p.ad = true
  rm : room rs p = true
theorem okA_of {rs : List Pt} {p : Pt} (h : okA rs p = true) : OkA rs p := by
  obtain ⟨h1, h⟩ := ba2 h
  obtain ⟨h2, h⟩ := ba2 h
  obtain ⟨h3, h⟩ := ba2 h
  obtain ⟨h4, h5⟩ := ba2 h
  refine ⟨h1, ?_, h3, h4, h5⟩
  rcases Bool.or_eq_true_iff.mp h2 with z | z
  · exact .inl (of_decide_eq_true z)
  · exact .inr z
structure OkP (p : Pt) : Prop where
  nm : okW p.nm = true
  rl : p.rl = "" ∨ okW p.rl = true
  a0 : 1 ≤ p.ad
  a1 : p.ad ≤ 99
  kd : p.kd.all Kd.ok = true
theorem okP_of {p : Pt} (h : okP p = true) : OkP p := by
  obtain ⟨h1, h⟩ := ba2 h
  obtain ⟨h2, h⟩ := ba2 h
  obtain ⟨h3, h⟩ := ba2 h
  obtain ⟨h4, h5⟩ := ba2 h
  refine ⟨h1, ?_, of_decide_eq_true h3, of_decide_eq_true h4, h5⟩
  rcases Bool.or_eq_true_iff.mp h2 with z | z
  · exact .inl (of_decide_eq_true z)
  · exact .inr z
theorem okW_len {w : Str} (h : okW w = true) : 1 ≤ w.length ∧ w.length ≤ 8 := by
  obtain ⟨h1, h⟩ := ba2 h
  obtain ⟨h2, h3⟩ := ba2 h
  exact ⟨of_decide_eq_true h1, of_decide_eq_true h2⟩
theorem okW_ne {w : Str} (h : okW w = true) : w ≠ "" := fun z => by
  have := (okW_len h).1
  rw [z] at this
  exact absurd this (by decide)
theorem Vd.tail {p : Pt} {rs : List Pt} (v : Vd (p :: rs)) : Vd rs := v.1
theorem Vd.head {p : Pt} {rs : List Pt} (v : Vd (p :: rs)) : OkA rs p := okA_of v.2
theorem Vd.okP : ∀ {rs : List Pt}, Vd rs → ∀ p ∈ rs, OkP p
  | _ :: _, v, q, h => by
    rcases List.mem_cons.mp h with z | z
    · rw [z]
      exact okP_of v.head.ok
    · exact Vd.okP v.tail q z
theorem newN_iff {rs : List Pt} {n : Str} : newN rs n = true ↔ ∀ q ∈ rs, q.nm ≠ n := by
  unfold newN
  rw [List.all_eq_true]
  constructor
  · intro h q hq z
    have := h q hq
    rw [decide_eq_true z] at this
    cases this
  · intro h q hq
    rw [decide_eq_false (h q hq)]
    rfl
theorem newA_iff {rs : List Pt} {r : Str} {a : Int} : newA rs r a = true ↔ ∀ q ∈ rs, ¬ (q.rl = r ∧ q.ad = a) := by
  unfold newA
  rw [List.all_eq_true]
  constructor
  · intro h q hq z
    have := h q hq
    rw [decide_eq_true z.1, decide_eq_true z.2] at this
    cases this
  · intro h q hq
    by_cases z : q.rl = r
    · rw [decide_eq_false fun y => h q hq ⟨z, y⟩, Bool.and_false]
      rfl
    · rw [decide_eq_false z]
      rfl
theorem hasG_iff {rs : List Pt} {n : Str} : hasG rs n = true ↔ ∃ p ∈ gts rs, p.nm = n := by
  unfold hasG gts
  rw [List.any_eq_true]
  exact ⟨fun ⟨p, h1, h2⟩ => ⟨p, List.mem_filter.mpr ⟨h1, (ba2 h2).1⟩, of_decide_eq_true (ba2 h2).2⟩, fun ⟨p, h1, h2⟩ => ⟨p, (List.mem_filter.mp h1).1, by rw [(List.mem_filter.mp h1).2, decide_eq_true h2]; rfl⟩⟩
theorem gts_cons (p : Pt) (rs : List Pt) : gts (p :: rs) = if p.isG = true then p :: gts rs else gts rs := by
  unfold gts
  rw [List.filter_cons]
theorem chn_ne {p : Pt} {rs : List Pt} {r : Str} (h : p.nm ≠ r) : chn (p :: rs) r = chn rs r := by
  show (if p.isG = true ∧ p.nm = r then r :: chn rs p.rl else chn rs r) = _
  rw [if_neg fun z => h z.2]
theorem chn_host {p : Pt} {rs : List Pt} {r : Str} (h : p.isG = false) : chn (p :: rs) r = chn rs r := by
  show (if p.isG = true ∧ p.nm = r then r :: chn rs p.rl else chn rs r) = _
  rw [if_neg fun z => by rw [h] at z; cases z.1]
theorem chn_self {p : Pt} {rs : List Pt} (h : p.isG = true) : chn (p :: rs) p.nm = p.nm :: chn rs p.rl := by
  show (if p.isG = true ∧ p.nm = p.nm then p.nm :: chn rs p.rl else chn rs p.nm) = _
  rw [if_pos ⟨h, rfl⟩]
theorem chn_open : ∀ {rs : List Pt}, Vd rs → chn rs "" = []
  | [], _ => rfl
  | p :: rs, v => by
    rw [chn_ne (okW_ne (okP_of v.head.ok).nm)]
    exact chn_open v.tail
/-! ### dicts that a world keeps -/
section
variable {κ : Type} [DecidableEq κ]
theorem valV_of (l : List Pt) (k : Pt → κ) (f : Pt → V) (x : κ) : valV (l.map fun p => (k p, f p)) x = (l.find? fun p => decide (k p = x)).map f := by
  unfold valV
  rw [List.find?_map, Option.map_map]
  rfl
theorem valV_append (l m : List (κ × V)) (x : κ) : valV (l ++ m) x = (valV l x).or (valV m x) := by
  unfold valV
  rw [List.find?_append]
  cases l.find? (fun kv => decide (kv.1 = x)) <;> rfl
end
abbrev dKinds (kA : Str → Addr) (rs : List Pt) : List (Key × V) := (gts rs).reverse.map fun p => (Sum.inr p.nm, V.ref (kA p.nm))
abbrev dAddr (rs : List Pt) : List (Key × V) := rs.reverse.map fun p => (Sum.inr p.nm, V.int p.ad)
abbrev dRealm (rs : List Pt) : List (Key × V) := rs.reverse.map fun p => (Sum.inr p.nm, V.str p.rl)
abbrev dPlace (rs : List Pt) : List (List Key × V) := rs.reverse.map fun p => ([Sum.inr p.rl, Sum.inl p.ad], V.str p.nm)
abbrev dAround (a0 : Addr) (aA : Str → Addr) (rs : List Pt) : List (Key × V) := (Sum.inr "", V.ref a0) :: (gts rs).reverse.map fun p => (Sum.inr p.nm, V.ref (aA p.nm))
theorem inr_iff {a b : Str} : ((Sum.inr a : Key) = Sum.inr b) ↔ a = b := ⟨fun z => by cases z; rfl, fun z => by rw [z]⟩
theorem find_none {l : List Pt} {p : Pt → Bool} (h : ∀ q ∈ l, p q = false) : l.find? p = none := List.find?_eq_none.mpr fun q hq => by rw [h q hq]; simp
theorem val_new {rs : List Pt} {n : Str} {f : Pt → V} (h : newN rs n = true) : valV (rs.reverse.map fun p => ((Sum.inr p.nm : Key), f p)) (Sum.inr n) = none := by
  rw [valV_of, find_none]
  · rfl
  · intro q hq
    exact decide_eq_false fun z => newN_iff.mp h q (List.mem_reverse.mp hq) (inr_iff.mp z)
theorem val_newG {rs : List Pt} {n : Str} {f : Pt → V} (h : newN rs n = true) : valV ((gts rs).reverse.map fun p => ((Sum.inr p.nm : Key), f p)) (Sum.inr n) = none := by
  rw [valV_of, find_none]
  · rfl
  · intro q hq
    exact decide_eq_false fun z => newN_iff.mp h q (List.mem_filter.mp (List.mem_reverse.mp hq)).1 (inr_iff.mp z)
theorem place_iff {r s : Str} {a b : Int} : (([Sum.inr r, Sum.inl a] : List Key) = [Sum.inr s, Sum.inl b]) ↔ r = s ∧ a = b := ⟨fun z => by cases z; exact ⟨rfl, rfl⟩, fun z => by rw [z.1, z.2]⟩
theorem val_newP {rs : List Pt} {r : Str} {a : Int} (h : newA rs r a = true) : valV (dPlace rs) [Sum.inr r, Sum.inl a] = none := by
  unfold dPlace
  rw [valV_of, find_none]
  · rfl
  · intro q hq
    exact decide_eq_false fun z => newA_iff.mp h q (List.mem_reverse.mp hq) (place_iff.mp z)
/-- the part with a name -/
def atN (rs : List Pt) (n : Str) : Option Pt := rs.find? fun p => decide (p.nm = n)
theorem Vd.nodup : ∀ {rs : List Pt}, Vd rs → (rs.map Pt.nm).Nodup
  | [], _ => List.nodup_nil
  | p :: rs, v => by
    rw [List.map_cons, List.nodup_cons]
    refine ⟨fun z => ?_, Vd.nodup v.tail⟩
    obtain ⟨q, h1, h2⟩ := List.mem_map.mp z
    exact newN_iff.mp v.head.nn q h1 h2
theorem same_nm {rs : List Pt} (v : Vd rs) : ∀ {p q : Pt}, p ∈ rs → q ∈ rs → p.nm = q.nm → p = q := by
  induction rs with
  | nil => intro p q h; cases h
  | cons x rs ih =>
    intro p q hp hq e
    rcases List.mem_cons.mp hp with z | z
    · rcases List.mem_cons.mp hq with y | y
      · rw [z, y]
      · rw [z] at e
        exact absurd e.symm (newN_iff.mp v.head.nn q y)
    · rcases List.mem_cons.mp hq with y | y
      · rw [y] at e
        exact absurd e (newN_iff.mp v.head.nn p z)
      · exact ih v.tail z y e
theorem same_ad {rs : List Pt} (v : Vd rs) : ∀ {p q : Pt}, p ∈ rs → q ∈ rs → p.rl = q.rl → p.ad = q.ad → p = q := by
  induction rs with
  | nil => intro p q h; cases h
  | cons x rs ih =>
    intro p q hp hq e1 e2
    rcases List.mem_cons.mp hp with z | z
    · rcases List.mem_cons.mp hq with y | y
      · rw [z, y]
      · rw [z] at e1 e2
        exact absurd ⟨e1.symm, e2.symm⟩ (newA_iff.mp v.head.na q y)
    · rcases List.mem_cons.mp hq with y | y
      · rw [y] at e1 e2
        exact absurd ⟨e1, e2⟩ (newA_iff.mp v.head.na p z)
      · exact ih v.tail z y e1 e2
theorem find_is {l : List Pt} {P : Pt → Bool} {p : Pt} (hp : p ∈ l) (h : P p = true) (u : ∀ q ∈ l, P q = true → q = p) : l.find? P = some p := by
  cases e : l.find? P with
  | none => exact absurd h (by simpa using List.find?_eq_none.mp e p hp)
  | some q => rw [u q (List.mem_of_find?_eq_some e) (List.find?_some e)]
theorem val_at {rs : List Pt} (v : Vd rs) {p : Pt} (hp : p ∈ rs) (f : Pt → V) : valV (rs.reverse.map fun p => ((Sum.inr p.nm : Key), f p)) (Sum.inr p.nm) = some (f p) := by
  rw [valV_of, find_is (List.mem_reverse.mpr hp) (decide_eq_true rfl) fun q hq z => same_nm v (List.mem_reverse.mp hq) hp (inr_iff.mp (of_decide_eq_true z))]
  rfl
theorem mem_gts {rs : List Pt} {p : Pt} : p ∈ gts rs ↔ p ∈ rs ∧ p.isG = true := List.mem_filter
theorem val_atG {rs : List Pt} (v : Vd rs) {p : Pt} (hp : p ∈ gts rs) (f : Pt → V) : valV ((gts rs).reverse.map fun p => ((Sum.inr p.nm : Key), f p)) (Sum.inr p.nm) = some (f p) := by
  rw [valV_of, find_is (List.mem_reverse.mpr hp) (decide_eq_true rfl) fun q hq z => same_nm v (mem_gts.mp (List.mem_reverse.mp hq)).1 (mem_gts.mp hp).1 (inr_iff.mp (of_decide_eq_true z))]
  rfl
/-- the station at a place -/
def statAt (rs : List Pt) (r : Str) (a : Int) : Option Pt := rs.find? fun p => decide (p.rl = r ∧ p.ad = a)
theorem statAt_mem {rs : List Pt} {r : Str} {a : Int} {p : Pt} (h : statAt rs r a = some p) : p ∈ rs ∧ p.rl = r ∧ p.ad = a := ⟨List.mem_of_find?_eq_some h, of_decide_eq_true (by simpa using List.find?_some h)⟩
theorem val_place {rs : List Pt} (v : Vd rs) (r : Str) (a : Int) : valV (dPlace rs) [Sum.inr r, Sum.inl a] = (statAt rs r a).map fun p => V.str p.nm := by
  unfold dPlace
  rw [valV_of]
  cases e : statAt rs r a with
  | none =>
    rw [find_none]
    intro q hq
    refine decide_eq_false fun z => ?_
    have := List.find?_eq_none.mp e q (List.mem_reverse.mp hq)
    exact this (decide_eq_true (place_iff.mp z))
  | some p =>
    obtain ⟨h1, h2, h3⟩ := statAt_mem e
    rw [find_is (List.mem_reverse.mpr h1) (decide_eq_true (place_iff.mpr ⟨h2, h3⟩)) fun q hq z => ?_]
    have y := place_iff.mp (of_decide_eq_true z)
    exact same_ad v (List.mem_reverse.mp hq) h1 (y.1.trans h2.symm) (y.2.trans h3.symm)
theorem okA_len {rs : List Pt} : Vd rs → (gts rs).length ≤ 6 ∧ rs.length - (gts rs).length ≤ 8 ∧ (gts rs).length ≤ rs.length := by
  induction rs with
  | nil => intro _; exact ⟨by decide, by decide, by decide⟩
  | cons p rs ih =>
    intro v
    obtain ⟨i1, i2, i3⟩ := ih v.tail
    have rm := v.head.rm
    unfold room at rm
    rw [gts_cons]
    split
    · rename_i h
      rw [if_pos h] at rm
      have z := of_decide_eq_true (ba2 rm).2
      rw [List.length_cons, List.length_cons]
      omega
    · rename_i h
      rw [if_neg h] at rm
      have z := of_decide_eq_true rm
      rw [List.length_cons]
      omega
theorem len14 {rs : List Pt} (v : Vd rs) : rs.length ≤ 14 := by
  have := okA_len v
  omega
end L2.Mj
set_option maxRecDepth 100000
set_option maxHeartbeats 4000000
namespace L2.Mj
open PySem PySem.Spec PyProof.Rows L2 Mx L2.Mb Evl Mv TL
/-! ### checks of single values -/
abbrev ptV (ka : Addr) (p : Pt) : List V := match p.kd with
  | some _ => [.str "gate", .str p.nm, .str p.rl, .int p.ad, .ref ka]
  | none => [.str "host", .str p.nm, .str p.rl, .int p.ad]
/-- the part stands at the tuple t, its kind at ka -/
structure PartAt (K : W.Frag) (C : Addr) (H : Hp) (t ka : Addr) (p : Pt) : Prop where
  t : H t = some (.tup (ptV ka p))
  k : ∀ k, p.kd = some k → KAt C H ka k
theorem PartAt.mono {K : W.Frag} {C : Addr} {H H' : Hp} {t ka : Addr} {p : Pt} (h : PartAt K C H t ka p) (e : Ex H H') : PartAt K C H' t ka p := ⟨e _ _ h.t, fun k z => (h.k k z).mono e⟩
def spAdr : Sp := fun vs H Q _ => ∃ v : V, vs = [v] ∧ AnyV H v ∧ ∀ H', Ex H H' → Q (.bl (isI v 1 99)) H'
def spWrd : Sp := fun vs H Q _ => ∃ x : Str, vs = [.str x] ∧ x.length ≤ 40000 ∧ ∀ H', Ex H H' → Q (.bl (okW x)) H'
def isStB : V → Bool
  | .str _ => true
  | _ => false
abbrev rStripC : V → List V → Hp → VK → Prop := fun x xs H Q => ∃ a b, x = .str a ∧ xs = [.str b] ∧ a.length ≤ sizeLine ∧ Q (.str (Txt.stripChars a b)) H
/-! ### a text without the letters at both ends -/
theorem drop_tw {α : Type} (g : α → Bool) : ∀ l : List α, l.drop (l.takeWhile g).length = l.dropWhile g
  | [] => rfl
  | a :: l => by
    cases h : g a with
    | true => rw [List.takeWhile_cons_of_pos h, List.dropWhile_cons_of_pos h, List.length_cons, List.drop_succ_cons]; exact drop_tw g l
    | false => rw [List.takeWhile_cons_of_neg (by simp [h]), List.dropWhile_cons_of_neg (by simp [h])]; rfl
theorem tw_all {α : Type} (g : α → Bool) : ∀ l : List α, (l.takeWhile g).length = l.length → l.all g = true
  | [] => fun _ => rfl
  | a :: l => fun e => by
    cases h : g a with
    | true =>
      rw [List.takeWhile_cons_of_pos h, List.length_cons, List.length_cons] at e
      rw [List.all_cons, h, tw_all g l (Nat.succ.inj e)]
      rfl
    | false =>
      rw [List.takeWhile_cons_of_neg (by simp [h])] at e
      cases e
theorem tw_le {α : Type} (g : α → Bool) : ∀ l : List α, (l.takeWhile g).length ≤ l.length
  | [] => Nat.le_refl _
  | a :: l => by
    cases h : g a with
    | true => rw [List.takeWhile_cons_of_pos h]; exact Nat.succ_le_succ (tw_le g l)
    | false => rw [List.takeWhile_cons_of_neg (by simp [h])]; exact Nat.zero_le _
theorem dw_nil {α : Type} (g : α → Bool) : ∀ l : List α, l.dropWhile g = [] ↔ l.all g = true
  | [] => by simp
  | a :: l => by
    cases h : g a with
    | true => rw [List.dropWhile_cons_of_pos h, dw_nil g l, List.all_cons, h, Bool.true_and]
    | false =>
      rw [List.dropWhile_cons_of_neg (by simp [h]), List.all_cons, h]
      simp
theorem dw_not {α : Type} (g : α → Bool) : ∀ l : List α, l.dropWhile g ≠ [] → (l.dropWhile g).all g = false
  | [] => fun z => absurd rfl z
  | a :: l => by
    cases h : g a with
    | true => rw [List.dropWhile_cons_of_pos h]; exact dw_not g l
    | false =>
      rw [List.dropWhile_cons_of_neg (by simp [h]), List.all_cons, h]
      intro _
      rfl
theorem strip_list {α : Type} (g : α → Bool) (l : List α) : ((l.drop (l.takeWhile g).length).take (l.length - ((l.drop (l.takeWhile g).length).reverse.takeWhile g).length - (l.takeWhile g).length) = []) ↔ l.all g = true := by
  rw [drop_tw]
  have e1 : (l.dropWhile g).length = l.length - (l.takeWhile g).length := by rw [← drop_tw, List.length_drop]
  rw [← dw_nil]
  constructor
  · intro h
    refine Classical.byContradiction fun n => ?_
    have h2 := congrArg List.length h
    rw [List.length_take, List.length_nil] at h2
    have k1 := tw_le g (l.dropWhile g).reverse
    rw [List.length_reverse] at k1
    have k2 : ((l.dropWhile g).reverse.takeWhile g).length ≠ (l.dropWhile g).length := fun z => by
      have a1 := tw_all g (l.dropWhile g).reverse (by rw [List.length_reverse]; exact z)
      rw [List.all_reverse] at a1
      rw [dw_not g l n] at a1
      cases a1
    have k3 : (l.dropWhile g).length ≠ 0 := fun z => n (List.length_eq_zero_iff.mp z)
    omega
  · intro h
    rw [h]
    exact List.take_nil
theorem sub_empty (x : Str) (i j : Nat) : Builtin.Str.strSub x i j = "" ↔ (x.cps.toList.drop i).take (j - i) = [] := by
  constructor
  · intro h
    rw [← StrLaws.strSub_toList, h]
    rfl
  · intro h
    rw [← StrLaws.strSub_toList] at h
    have e : (Builtin.Str.strSub x i j).cps = #[] := Array.toList_eq_nil_iff.mp h
    show Builtin.Str.strSub x i j = ⟨#[]⟩
    rw [← e]
theorem strip_all (x y : Str) : decide (V.str (Txt.stripChars x y) = V.str "") = x.cps.toList.all fun c => decide (c ∈ y.cps.toList) := by
  have hg : (y.cps.contains) = fun c => decide (c ∈ y.cps.toList) := funext fun c => by
    rw [Bool.eq_iff_iff]
    simp
  have h0 : (Txt.stripChars x y = "") ↔ (x.cps.toList.all fun c => decide (c ∈ y.cps.toList)) = true := by
    unfold Txt.stripChars
    rw [W.stripBy_eq, hg]
    exact (sub_empty _ _ _).trans (strip_list _ x.cps.toList)
  rw [Bool.eq_iff_iff, decide_eq_true_iff]
  exact ⟨fun h => h0.mp (by injection h), fun h => congrArg V.str (h0.mpr h)⟩
section
variable {P : Program} {w : World} {K : W.Frag} {mg : Str → Option Value} {base : Heap} {f fI fA fW C : Addr} {fd dI dA dW : FuncData}
theorem rc_str {H : Hp} {v : V} (h : AnyV H v) : RC (rIsi K) [v, .ty "str"] H (.bl (isStB v)) := by
  cases h with
  | non => exact rc_isi (t := .type "NoneType") (.ty "str") (fun _ _ => .base .non) (kit_ty (a := "NoneType") (b := "str") (r := false) (by decide +kernel))
  | bl b => exact rc_isi (t := .type "bool") (.ty "str") (fun _ _ => .base (.bl b)) (kit_ty (a := "bool") (b := "str") (r := false) (by decide +kernel))
  | int n => exact rc_isi (t := .type "int") (.ty "str") (fun _ _ => .base (.int n)) (kit_ty (a := "int") (b := "str") (r := false) (by decide +kernel))
  | str z => exact rc_isi (t := .type "str") (.ty "str") (fun _ _ => .base (.str z)) (kit_ty (a := "str") (b := "str") (r := true) (by decide +kernel))
  | lst h => exact rc_isi (t := .type "list") (.ty "str") (fun _ e => .base (.lst (e _ _ h))) (kit_ty (a := "list") (b := "str") (r := false) (by decide +kernel))
  | tup h => exact rc_isi (t := .type "tuple") (.ty "str") (fun _ e => .base (.tup (e _ _ h))) (kit_ty (a := "tuple") (b := "str") (r := false) (by decide +kernel))
  | dct h => exact rc_isi (t := .type "dict") (.ty "str") (fun _ e => .base (.dK (e _ _ h))) (kit_ty (a := "dict") (b := "str") (r := false) (by decide +kernel))
theorem rc_tup {H : Hp} {a : Addr} {xs : List V} (h : H a = some (.tup xs)) : RC (rIsi K) [.ref a, .ty "tuple"] H (.bl true) :=
  rc_isi (t := .type "tuple") (.ty "tuple") (fun _ e => .base (.tup (e _ _ h))) (kit_ty (a := "tuple") (b := "tuple") (r := true) (by decide +kernel))
theorem ok_is_address {t1 : Tok} (c1 : mg "LAST_ADDRESS" = some (.int 99 t1)) (D : Fn0 P w K mg base "is_integer" 1 fI dI p_is_integer spIntA) (F : FnP K "is_address" s_is_address f fd) : FnOk P w K mg base CX0 2 f fd p_is_address spAdr := by
  refine F.ok sc_is_address (fun vs H Q E h => ?_) (fun cdv A outer s H vs Q E hr h => ?_)
  · obtain ⟨v, rfl, _⟩ := h
    rfl
  · obtain ⟨v, rfl, hv, k⟩ := h
    refine ⟨_, PSs.nox (pss_one (ps_ret (pe_call D.ok hr (by rfl) D.m D.k D.b .nil pass0 (pa_cons (pv 0) (pa_cons pe_int (pa_cons (pe_glob (v := .int 99) (by rfl) c1 ⟨_, rfl⟩) pa_nil)))))), ?_⟩
    exact s_ret (ev_call (z := .bl (isI v 1 99)) (ea_cons (ev_var rfl) (ea_cons ev_c (ea_cons ev_c ea_nil))) (fun H9 e9 Q q E => ⟨v, 1, 99, rfl, any_ex hv e9, fun H8 e8 => q H8 e8⟩)) fun H1 e1 => k H1 e1
theorem ev_stripC {to : TE} {t : TA} {σ : L2.St} {H : Hp} {x y : Str} (ho : Ev to σ H (.str x)) (ha : ∀ H1, Ex H H1 → EvA t σ H1 [.str y]) (hl : x.length ≤ 40000) : Ev (tBM K "str" rStripC to t) σ H (.str (Txt.stripChars x y)) := fun H1 e1 Q q =>
  ho H1 e1 _ fun H2 e2 => ⟨rfl, ha H2 (e1.trans e2) H2 (Ex.refl H2) _ fun H3 e3 => ⟨x, y, rfl, rfl, Nat.le_trans hl (by decide), q H3 (e2.trans e3)⟩⟩
theorem ok_is_word {t1 t2 : Tok} (B : Bt mg) (c1 : mg "LONGEST_NAME" = some (.int 8 t1)) (c2 : mg "LETTERS" = some (.str letsS t2)) (F : FnP K "is_word" s_is_word f fd) : FnOk P w K mg base CX0 1 f fd p_is_word spWrd := by
  refine F.ok sc_is_word (fun vs H Q E h => ?_) (fun cdv A outer s H vs Q E hr h => ?_)
  · obtain ⟨v, rfl, _⟩ := h
    rfl
  · obtain ⟨x, rfl, hz, k⟩ := h
    have nd := sc_is_word.nd
    refine ⟨_, PSs.nox (pss_one (ps_ret (pe_and (pe_callB call_isi (by rfl) B.isinstance (by decide +kernel) (pa_cons (pv 0) (pa_cons (pe_bltn (v := .ty "str") (by rfl) B.str (by decide +kernel) rfl) pa_nil)))
      (pe_and (pe_chain op_le op_le pe_int (pe_callB call_len_str (by rfl) B.len (by decide +kernel) (pa_cons (pv 0) pa_nil)) (pe_glob (v := .int 8) (by rfl) c1 ⟨_, rfl⟩))
        (pe_one (pe_cmpR op_eq (pe_bm PySem.F.plainAttrs_str PySem.F.slot_str_strip PySem.F.type_str_strip mt_stripChars (pv 0) (pa_cons (pe_glob (v := .str letsS) (by rfl) c2 ⟨_, rfl⟩) pa_nil)) pe_str (nomark _))))))), ?_⟩
    have hLB : (decide (1 ≤ (x.length : Int)) && decide ((x.length : Int) ≤ 8)) = (decide (1 ≤ x.length) && decide (x.length ≤ 8)) := by
      congr 1 <;> exact decide_eq_decide.mpr (by omega)
    refine s_ret (v := .bl (okW x)) (ev_is (ev_andV (a := true) (b := (decide (1 ≤ (x.length : Int)) && decide ((x.length : Int) ≤ 8)) && x.cps.toList.all fun c => decide (c ∈ letsS.cps.toList)) (ev_cb (ea_cons (ev_var rfl) (ea_cons ev_c ea_nil)) (rc_str (.str x)))
      (fun _ => ev_andV (ev_chain ev_c (ev_cb (r := rLenT) (ea_cons (ev_var rfl) ea_nil) (rc_lenT (by omega))) rv_int (fun _ => ev_c) (fun _ => rv_int))
        (fun _ => ev_is (ev_op (ev_stripC (K := K) (ev_var rfl) (fun _ _ => ea_cons ev_c ea_nil) hz) ev_c (rv_eq rfl)) (congrArg V.bl (strip_all x letsS))))) ?_) fun H1 e1 => k H1 e1
    unfold okW
    rw [hLB, Bool.true_and, Bool.and_assoc]
end
end L2.Mj
set_option maxRecDepth 100000
set_option maxHeartbeats 4000000
namespace L2.Mj
open PySem PySem.Spec PyProof.Rows L2 Mx L2.Mb Evl Mv TL
/-- a, b, c, d = e -/
theorem q_unp4 {K : W.Frag} {D : Ends} {σ : L2.St} {H : Hp} {te : TE} {tz : TS} {i j k l : Nat} {a b c d : V} (h : ∀ Q : VK, (∀ p H1, Ex H H1 → SqT K H1 p [a, b, c, d] → Q (.ref p) H1) → te σ H Q) (kk : ∀ H1, Ex H H1 → tz D ((((σ.set i (some a)).set j (some b)).set k (some c)).set l (some d)) H1) :
    tSeq (tAsg te (gTup K 4 (gCons (gName i) (gCons (gName j) (gCons (gName k) (gCons (gName l) gNil)))))) tz D σ H := h _ fun p H1 e hp => ⟨p, [a, b, c, d], rfl, hp, rfl, a, [b, c, d], rfl, b, [c, d], rfl, c, [d], rfl, d, [], rfl, rfl, kk H1 e⟩
def spPrt (K : W.Frag) (C : Addr) : Sp := fun vs H Q _ => ∃ (t ka : Addr) (p : Pt), vs = [.ref t] ∧ PartAt K C H t ka p ∧ okP p = true ∧ ∀ H', Ex H H' → Q (.bl true) H'
theorem ptV_len (ka : Addr) (p : Pt) : (ptV ka p).length = if p.isG = true then 5 else 4 := by
  unfold ptV Pt.isG
  cases p.kd <;> rfl
theorem cut_ptV (ka : Addr) (p : Pt) : cutV (ptV ka p) none (some 4) = [.str (if p.isG = true then "gate" else "host"), .str p.nm, .str p.rl, .int p.ad] := by
  unfold ptV Pt.isG
  cases p.kd <;> rfl
section
variable {P : Program} {w : World} {K : W.Frag} {mg : Str → Option Value} {base : Heap} {f fI fA fW C aL aT : Addr} {fd dI dA dW : FuncData} {mc : Value}
theorem sl_part {σ : L2.St} {H : Hp} {te : TE} {t ka : Addr} {p : Pt} (h : Ev te σ H (.ref t)) (hp : PartAt K C H t ka p) (Q : VK) (q : ∀ a H1, Ex H H1 → SqT K H1 a [.str (if p.isG = true then "gate" else "host"), .str p.nm, .str p.rl, .int p.ad] → Q (.ref a) H1) :
    tSl (rSlA K) te tNoPart (tPart (tC (.int 4))) σ H Q := h H (Ex.refl H) _ fun H1 e1 => by
  have h1 := hp.mono e1
  have z := cut_ptV ka p
  refine ⟨4, rfl, t, _, rfl, st_of h1.t, fun hw => q t H1 e1 ?_, fun _ a na => q a _ (e1.trans (Ex.new na)) ?_⟩
  · have hl : p.isG = false := by
      cases g : p.isG with
      | false => rfl
      | true =>
        have l := ptV_len ka p
        rw [g, if_pos rfl] at l
        rw [l] at hw
        exact absurd hw.2 (by decide)
    rw [← z]
    have l := ptV_len ka p
    rw [hl, if_neg (by simp)] at l
    have e : cutV (ptV ka p) none (some 4) = ptV ka p := by
      rw [z, hl]
      have hk : p.kd = none := by
        cases hk : p.kd with
        | none => rfl
        | some k =>
          unfold Pt.isG at hl
          rw [hk] at hl
          cases hl
      unfold ptV
      rw [hk]
      rfl
    rw [e]
    exact st_of h1.t
  · rw [← z]
    exact st_of upd_same
theorem ok_is_part (B : Bt mg) (T : KF K mg C mc aL aT) (I : IK K C) (DW : Fn0 P w K mg base "is_word" 1 fW dW p_is_word spWrd) (DA : Fn0 P w K mg base "is_address" 2 fA dA p_is_address spAdr) (F : FnP K "_is_part" s_is_part f fd) : FnOk P w K mg base CX0 3 f fd p_is_part (spPrt K C) := by
  refine F.ok sc_is_part (fun vs H Q E h => ?_) (fun cdv A outer s H vs Q E hr h => ?_)
  · obtain ⟨t, ka, p, rfl, _⟩ := h
    rfl
  · obtain ⟨t, ka, p, rfl, hp, hok, k⟩ := h
    have nd := sc_is_part.nd
    have hu := hr.units
    refine ⟨_, PSs.nox (pss_cons (ps_if (pw_or (pt_not (pt_val (pe_callB call_isi (by rfl) B.isinstance (by decide +kernel) (pa_cons (pv 0) (pa_cons (pe_bltn (v := .ty "tuple") (by rfl) B.tuple (by decide +kernel) rfl) pa_nil))))) (pw_or1 (pt_cmpR op_lt (pe_callB call_len_seq (by rfl) B.len (by decide +kernel) (pa_cons (pv 0) pa_nil)) pe_int (nomark _)))).pt (pss_one ps_never) pss_nil)
      (pss_cons (ps_asg (pe_slice sl_tupA (pv 0) po_none (po_some pe_int)) (pg_tup rfl (pgs_cons (pg_name (i := 1) nd rfl (Or.inl rfl)) (pgs_cons (pg_name (i := 2) nd rfl (Or.inl rfl)) (pgs_cons (pg_name (i := 3) nd rfl (Or.inl rfl)) (pgs_cons (pg_name (i := 4) nd rfl (Or.inl rfl)) pgs_nil))))))
      (pss_cons (ps_if (pt_not (pw_and (pt_val (pe_call DW.ok (hr.mono (by decide)) (by rfl) DW.m DW.k DW.b .nil pass0 (pa_cons (pv 2) pa_nil))) (pw_and (pw_or (pt_cmpR op_eq (pv 3) pe_str (nomark _)) (pw_or1 (pt_val (pe_call DW.ok (hr.mono (by decide)) (by rfl) DW.m DW.k DW.b .nil pass0 (pa_cons (pv 3) pa_nil))))).pt
          (pw_and1 (pt_val (pe_call DA.ok hr (by rfl) DA.m DA.k DA.b .nil pass0 (pa_cons (pv 4) pa_nil)))))).pt) (pss_one ps_never) pss_nil)
      (pss_cons (ps_if (pt_cmpR op_eq (pv 1) pe_str (nomark _)) (pss_one (ps_ret (pe_and (pe_cmpR op_eq (pe_callB call_len_seq (by rfl) B.len (by decide +kernel) (pa_cons (pv 0) pa_nil)) pe_int (nomark _)) (pe_one (pe_callB call_isi (by rfl) B.isinstance (by decide +kernel) (pa_cons (pe_ix ix_tup (pv 0) pe_int (fun _ _ => rfl)) (pa_cons (pe_glob (v := .ref C) (by rfl) T.m rfl) pa_nil))))))) pss_nil)
      (pss_one (ps_ret (pe_and (pe_cmpR op_eq (pv 1) pe_str (nomark _)) (pe_one (pe_cmpR op_eq (pe_callB call_len_seq (by rfl) B.len (by decide +kernel) (pa_cons (pv 0) pa_nil)) pe_int (nomark _)))))))))), ?_⟩
    have okp := okP_of hok
    have ln : (ptV ka p).length = if p.isG = true then 5 else 4 := ptV_len ka p
    have lenE : ∀ {σ : L2.St} {H1 : Hp}, σ[0]? = some (some (.ref t)) → Ex H H1 → Ev (tCB (rLenS K) (tCons (tVar 0) tNil)) σ H1 (.int (if p.isG = true then 5 else 4)) := fun {σ H1} hs e => ev_is (ev_cb (ea_cons (ev_var hs) ea_nil) (fun H2 e2 _ q => ⟨t, _, rfl, .inr (st_of (e2 _ _ (e _ _ hp.t))), q H2 (Ex.refl H2)⟩)) (by
      rw [ln]
      cases p.isG <;> rfl)
    have nmL : p.nm.length ≤ 40000 := Nat.le_trans (okW_len okp.nm).2 (by decide)
    refine q_when (b := !true || decide ((if p.isG = true then (5 : Int) else 4) < 4)) (et_or (et_not (et_B (ev_cb (ea_cons (ev_var rfl) (ea_cons ev_c ea_nil)) (rc_tup hp.t)))) (fun _ => et_test (ev_op (lenE rfl (Ex.refl H)) ev_c rv_int))) (fun z => by cases hg : p.isG <;> rw [hg] at z <;> exact absurd z (by decide)) (fun _ H1 e1 => ?_)
    refine q_unp4 (sl_part (ev_var rfl) (hp.mono e1)) fun H2 e2 => ?_
    have e02 := e1.trans e2
    refine q_when (b := !(okW p.nm && ((decide (V.str p.rl = V.str "") || okW p.rl) && isI (.int p.ad) 1 99))) (et_not (et_and (et_B (ev_call (z := .bl (okW p.nm)) (ea_cons (ev_var rfl) ea_nil) (fun H9 e9 Q q E => ⟨p.nm, rfl, nmL, fun H8 e8 => q H8 e8⟩)))
      (fun _ => et_and (et_or (et_test (ev_op (ev_var rfl) ev_c (rv_eq rfl))) (fun z => et_B (ev_call (z := .bl (okW p.rl)) (ea_cons (ev_var rfl) ea_nil) (fun H9 e9 Q q E => ⟨p.rl, rfl, ?_, fun H8 e8 => q H8 e8⟩)))) (fun _ => et_B (ev_call (z := .bl (isI (.int p.ad) 1 99)) (ea_cons (ev_var rfl) ea_nil) (fun H9 e9 Q q E => ⟨_, rfl, .int _, fun H8 e8 => q H8 e8⟩)))))) (fun z => ?_) (fun _ H3 e3 => ?_)
    · rcases okp.rl with y | y
      · exact absurd (congrArg V.str y) (of_decide_eq_false z)
      · exact Nat.le_trans (okW_len y).2 (by decide)
    · have h1 : isI (.int p.ad) 1 99 = true := by
        show (decide (1 ≤ p.ad) && decide (p.ad ≤ 99)) = true
        rw [decide_eq_true okp.a0, decide_eq_true okp.a1]
        rfl
      have h2 : (decide (V.str p.rl = V.str "") || okW p.rl) = true := by
        rcases okp.rl with y | y
        · rw [y]
          rfl
        · rw [y, Bool.or_true]
      rw [okp.nm, h2, h1] at z
      cases z
    have e03 := e02.trans e3
    have p3 := hp.mono e03
    cases hk : p.kd with
    | some kd =>
      have hg : p.isG = true := by
        unfold Pt.isG
        rw [hk]
        rfl
      rw [hg] at lenE
      refine q_when (b := true) (et_test (ev_is (ev_op (ev_var rfl) ev_c (rv_eq rfl)) (by rw [hg]; rfl))) (fun _ H4 e4 => ?_) (fun z => by cases z)
      have h4 : H4 t = some (.tup [.str "gate", .str p.nm, .str p.rl, .int p.ad, .ref ka]) := by
        have := (p3.mono e4).t
        unfold ptV at this
        rw [hk] at this
        exact this
      refine s_ret (v := .bl (true && true)) (ev_andV (ev_is (ev_op (lenE rfl (e03.trans e4)) ev_c (rv_eq rfl)) rfl) (fun _ => ev_cb (ea_cons (ev_op (ev_var rfl) ev_c (rv_ixT (st_of h4) (atI_nat (j := 4) rfl))) (ea_cons ev_c ea_nil)) (rc_isK I (((p3.mono e4).k kd hk))))) fun H5 e5 => k H5 ((e03.trans e4).trans e5)
    | none =>
      have hg : p.isG = false := by
        unfold Pt.isG
        rw [hk]
        rfl
      rw [hg] at lenE
      refine q_when (b := false) (et_test (ev_is (ev_op (ev_var rfl) ev_c (rv_eq rfl)) (by rw [hg]; rfl))) (fun z => by cases z) (fun _ H4 e4 => ?_)
      exact s_ret (v := .bl (true && true)) (ev_andV (ev_is (ev_op (ev_var rfl) ev_c (rv_eq rfl)) (by rw [hg]; rfl)) (fun _ => ev_is (ev_op (lenE rfl (e03.trans e4)) ev_c (rv_eq rfl)) rfl)) fun H5 e5 => k H5 ((e03.trans e4).trans e5)
end
end L2.Mj
set_option maxRecDepth 100000
set_option maxHeartbeats 4000000
namespace L2.Mj
open PySem PySem.Spec PyProof.Rows L2 Mx L2.Mb Evl Mv TL LamX
/-! ### worlds as objects -/
abbrev methW : List Str := ["_check_place", "_check_number", "_take", "kind", "address", "realm", "chain", "station", "stations", "_check_realm", "with_part", "with_kind", "without", "with_kinds"]
/-- what is known of the class World at C -/
structure WF (K : W.Frag) (mg : Str → Option Value) (C : Addr) (mc : Value) : Prop where
  m : mg "World" = some (.ref C)
  cl : Cls K C
  nP : NoAttr K C "_parts"
  nK : NoAttr K C "_kinds"
  nA : NoAttr K C "_addresses"
  nR : NoAttr K C "_realms"
  nL : NoAttr K C "_places"
  nU : NoAttr K C "_around"
  nG : NoAttr K C "_gates"
  nH : NoAttr K C "_hosts"
  rd : ClX.CRead K C mc
  v3 : ∃ u, ClX.CVal K C mc "MOST_DEEP" (.int 3) u
  v6 : ∃ u, ClX.CVal K C mc "MOST_GATES" (.int 6) u
  v8 : ∃ u, ClX.CVal K C mc "MOST_HOSTS" (.int 8) u
/-- where a world's things stand -/
structure WD where
  ts : Addr
  dk : Addr
  da : Addr
  dr : Addr
  dp : Addr
  du : Addr
  a0 : Addr
structure WD.Ne (d : WD) : Prop where
  ka : d.dk ≠ d.da
  kr : d.dk ≠ d.dr
  kp : d.dk ≠ d.dp
  ku : d.dk ≠ d.du
  ar : d.da ≠ d.dr
  ap : d.da ≠ d.dp
  au : d.da ≠ d.du
  rp : d.dr ≠ d.dp
  ru : d.dr ≠ d.du
  pu : d.dp ≠ d.du
/-- the instance at a has these fields -/
structure Fl (C : Addr) (H : Hp) (a : Addr) (d : WD) (fs : List (Str × V)) : Prop where
  at_ : ∃ dx, H a = some (.ins C dx fs)
  ts : fs.lookup ("_parts" : Str) = some (.ref d.ts)
  dk : fs.lookup ("_kinds" : Str) = some (.ref d.dk)
  da : fs.lookup ("_addresses" : Str) = some (.ref d.da)
  dr : fs.lookup ("_realms" : Str) = some (.ref d.dr)
  dp : fs.lookup ("_places" : Str) = some (.ref d.dp)
  du : fs.lookup ("_around" : Str) = some (.ref d.du)
  me : ∀ m ∈ methW, fs.lookup m = none
/-- its dicts, as far as parts have been taken in -/
structure Bs (CK : Addr) (H : Hp) (d : WD) (kA aA : Str → Addr) (rs : List Pt) : Prop where
  k : H d.dk = some (.dK (dKinds kA rs))
  a : H d.da = some (.dK (dAddr rs))
  r : H d.dr = some (.dK (dRealm rs))
  p : H d.dp = some (.dT (dPlace rs))
  u : H d.du = some (.dK (dAround d.a0 aA rs))
  u0 : H d.a0 = some (.tup [])
  ch : ∀ p ∈ gts rs, H (aA p.nm) = some (.tup ((chn rs p.nm).map V.str))
  kd : ∀ p ∈ gts rs, ∀ k, p.kd = some k → KAt CK H (kA p.nm) k
theorem Fl.mono {C : Addr} {H H' : Hp} {a : Addr} {d : WD} {fs : List (Str × V)} (h : Fl C H a d fs) (e : ExtN H H') : Fl C H' a d fs := ⟨h.at_.elim fun dx z => ⟨dx, e _ _ z fun ps y => by cases y⟩, h.ts, h.dk, h.da, h.dr, h.dp, h.du, h.me⟩
theorem KAt.extn {C : Addr} {H H' : Hp} {a : Addr} {k : Kd} (h : KAt C H a k) (e : ExtN H H') : KAt C H' a k := h.elim fun dx z => ⟨dx, e _ _ z fun ps y => by cases y⟩
theorem dk_n {H H' : Hp} {a : Addr} {kvs : List (Key × V)} (e : ExtN H H') (h : H a = some (.dK kvs)) : H' a = some (.dK kvs) := e _ _ h fun _ y => by cases y
theorem dt_n {H H' : Hp} {a : Addr} {kvs : List (List Key × V)} (e : ExtN H H') (h : H a = some (.dT kvs)) : H' a = some (.dT kvs) := e _ _ h fun _ y => by cases y
theorem tup_n {H H' : Hp} {a : Addr} {xs : List V} (e : ExtN H H') (h : H a = some (.tup xs)) : H' a = some (.tup xs) := e _ _ h fun _ y => by cases y
theorem lst_n {H H' : Hp} {a : Addr} {xs : List V} (e : ExtN H H') (h : H a = some (.lst xs)) : H' a = some (.lst xs) := e _ _ h fun _ y => by cases y
theorem PartAt.extn {K : W.Frag} {C : Addr} {H H' : Hp} {t ka : Addr} {p : Pt} (h : PartAt K C H t ka p) (e : ExtN H H') : PartAt K C H' t ka p := ⟨tup_n e h.t, fun k z => (h.k k z).extn e⟩
theorem ex_extn {H H' : Hp} (e : Ex H H') : ExtN H H' := fun b o h _ => e b o h
theorem Bs.mono {CK : Addr} {H H' : Hp} {d : WD} {kA aA : Str → Addr} {rs : List Pt} (h : Bs CK H d kA aA rs) (e : ExtN H H') : Bs CK H' d kA aA rs :=
  ⟨dk_n e h.k, dk_n e h.a, dk_n e h.r, dt_n e h.p, dk_n e h.u, tup_n e h.u0, fun p z => tup_n e (h.ch p z), fun p z k y => (h.kd p z k y).extn e⟩
def rLenD : List V → Hp → VK → Prop := fun xs H Q => ∃ (a : Addr) (kvs : List (Key × V)), xs = [V.ref a] ∧ H a = some (.dK kvs) ∧ Q (.int kvs.length) H
section
variable {P : Program} {w : World} {K : W.Frag} {mg : Str → Option Value} {base : Heap} {f C CK : Addr} {fd : FuncData} {mc : Value} {σ : L2.St} {H : Hp}
theorem ev_f {te : TE} {a : Addr} {fs : List (Str × V)} {x : Str} {v : V} (cl : Cls K C) (n : NoAttr K C x) (h : Ev te σ H (.ref a)) (ha : ∃ dx, H a = some (.ins C dx fs)) (hl : fs.lookup x = some v) : Ev (tFld K te x) σ H v := fun H1 e Q q => h H1 e _ fun H2 e2 => by
  obtain ⟨dx, hd⟩ := ha
  exact ⟨a, C, dx, fs, v, rfl, e2 _ _ (e _ _ hd), cl, n, hl, q H2 e2⟩
theorem ev_dnin {ty td : TE} {a : Addr} {kvs : List (Key × V)} {k : Key} (hy : Ev ty σ H (kV k)) (hd : Ev td σ H (.ref a)) (h : H a = some (.dK kvs)) : Ev (tDNotIn ty td) σ H (.bl (!(valV kvs k).isSome)) := fun H1 e Q q =>
  hy H1 e _ fun H2 e2 => hd H2 (e.trans e2) _ fun H3 e3 => ⟨a, _, rfl, DGet.k (e3 _ _ (e2 _ _ (e _ _ h))), q H3 (e2.trans e3)⟩
theorem ev_din {ty td : TE} {a : Addr} {kvs : List (Key × V)} {k : Key} (hy : Ev ty σ H (kV k)) (hd : Ev td σ H (.ref a)) (h : H a = some (.dK kvs)) : Ev (tDIn ty td) σ H (.bl (valV kvs k).isSome) := fun H1 e Q q =>
  hy H1 e _ fun H2 e2 => hd H2 (e.trans e2) _ fun H3 e3 => ⟨a, _, rfl, DGet.k (e3 _ _ (e2 _ _ (e _ _ h))), q H3 (e2.trans e3)⟩
theorem ev_dinT {ty td : TE} {a : Addr} {kvs : List (List Key × V)} {k : List Key} (hy : EvU ty σ H (k.map kV)) (hd : Ev td σ H (.ref a)) (h : H a = some (.dT kvs)) : Ev (tDIn ty td) σ H (.bl (valV kvs k).isSome) := fun H1 e Q q =>
  hy H1 e _ fun p H2 np e2 hp => hd H2 (e.trans e2) _ fun H3 e3 => ⟨a, _, rfl, DGet.t (e3 _ _ (e2 _ _ (e _ _ h))) (e3 _ _ hp), q H3 (e2.trans e3)⟩
theorem ev_dget {ty td : TE} {a : Addr} {kvs : List (Key × V)} {k : Key} {v : V} (hd : Ev td σ H (.ref a)) (hy : Ev ty σ H (kV k)) (h : H a = some (.dK kvs)) (hv : valV kvs k = some v) : Ev (tDGet td ty) σ H v := fun H1 e Q q =>
  hd H1 e _ fun H2 e2 => hy H2 (e.trans e2) _ fun H3 e3 => ⟨a, v, rfl, by
    have z := DGet.k (k := k) (e3 _ _ (e2 _ _ (e _ _ h)))
    rw [hv] at z
    exact z, q H3 (e2.trans e3)⟩
theorem ev_lenD {te : TE} {a : Addr} {kvs : List (Key × V)} (he : Ev te σ H (.ref a)) (h : H a = some (.dK kvs)) : Ev (tCB rLenD (tCons te tNil)) σ H (.int (kvs.length : Int)) := ev_cb (ea_cons he ea_nil) fun H1 e _ q => ⟨a, kvs, rfl, e _ _ h, q H1 (Ex.refl H1)⟩
end
end L2.Mj
set_option maxRecDepth 100000
set_option maxHeartbeats 4000000
namespace L2.Mj
open PySem PySem.Spec PyProof.Rows L2 Mx L2.Mb Evl Mv TL LamX
/-! ### a part checked and taken in -/
abbrev arA (a0 : Addr) (aA : Str → Addr) (r : Str) : Addr := if r = "" then a0 else aA r
theorem val_ar {rs : List Pt} (v : Vd rs) {a0 : Addr} {aA : Str → Addr} {r : Str} (h : r = "" ∨ hasG rs r = true) : valV (dAround a0 aA rs) (Sum.inr r) = some (.ref (arA a0 aA r)) := by
  by_cases z : r = ""
  · rw [z]
    exact valV_pos rfl
  · rcases h with y | y
    · exact absurd y z
    · obtain ⟨p, hp, e⟩ := hasG_iff.mp y
      show valV (((Sum.inr "" : Key), V.ref a0) :: (gts rs).reverse.map fun p => ((Sum.inr p.nm : Key), V.ref (aA p.nm))) (Sum.inr r) = _
      rw [valV_neg (fun y => z (inr_iff.mp y).symm), ← e, val_atG v hp fun p => V.ref (aA p.nm)]
      show _ = some (V.ref (arA a0 aA p.nm))
      rw [show arA a0 aA p.nm = aA p.nm from if_neg (by rw [e]; exact z)]
theorem Bs.ar {CK : Addr} {H : Hp} {d : WD} {kA aA : Str → Addr} {rs : List Pt} (h : Bs CK H d kA aA rs) (v : Vd rs) {r : Str} (y : r = "" ∨ hasG rs r = true) : H (arA d.a0 aA r) = some (.tup ((chn rs r).map V.str)) := by
  by_cases z : r = ""
  · rw [show arA d.a0 aA r = d.a0 from if_pos z, z, chn_open v]
    exact h.u0
  · rcases y with y | y
    · exact absurd y z
    · obtain ⟨p, hp, e⟩ := hasG_iff.mp y
      rw [show arA d.a0 aA r = aA r from if_neg z, ← e]
      exact h.ch p hp
section
variable {P : Program} {w : World} {K : W.Frag} {mg : Str → Option Value} {base : Heap} {f C CK aL aT : Addr} {fd : FuncData} {mc mk : Value} {ka : Addr} {p : Pt}
abbrev gwd (p : Pt) : Str := if p.isG = true then "gate" else "host"
theorem at_w : atI (ptV ka p) 0 = some (.str (gwd p)) := by
  unfold gwd ptV Pt.isG
  cases p.kd <;> exact atI_nat (j := 0) rfl
theorem at_nm : atI (ptV ka p) 1 = some (.str p.nm) := by
  unfold ptV
  cases p.kd <;> exact atI_nat (j := 1) rfl
theorem at_rl : atI (ptV ka p) 2 = some (.str p.rl) := by
  unfold ptV
  cases p.kd <;> exact atI_nat (j := 2) rfl
theorem at_ad : atI (ptV ka p) 3 = some (.int p.ad) := by
  unfold ptV
  cases p.kd <;> exact atI_nat (j := 3) rfl
theorem ev_pt {σ : L2.St} {H : Hp} {i : Nat} {t : Addr} {j : Int} {v : V} (h : σ[i]? = some (some (.ref t))) (hp : PartAt K CK H t ka p) (ha : atI (ptV ka p) j = some v) : Ev (tOp (rIxT K) (tVar i) (tC (.int j))) σ H v := ev_op (ev_var h) ev_c (rv_ixT (st_of hp.t) ha)
theorem gwd_is (p : Pt) : decide (V.str (gwd p) = V.str "gate") = p.isG := by
  unfold gwd
  cases p.isG <;> decide
def spCP (K : W.Frag) (C CK : Addr) : Sp := fun vs H Q _ => ∃ (a t ka : Addr) (i : Int) (d : WD) (fs : List (Str × V)) (kA aA : Str → Addr) (rs : List Pt) (p : Pt), vs = [.ref a, .int i, .ref t] ∧ Fl C H a d fs ∧ Bs CK H d kA aA rs ∧ PartAt K CK H t ka p ∧ Vd rs ∧ OkA rs p ∧ ∀ H', Ex H H' → Q .non H'
theorem ok_check_place (T : WF K mg C mc) {q : Str} (F : FnC K "_check_place" q s_World_check_place [] f fd) : FnOk P w K mg base CX0 1 f fd ["self", "index", "part"] (spCP K C CK) := by
  refine F.ok sc_World_check_place (fun vs H Q E h => ?_) (fun cdv A outer s H vs Q E hr h => ?_)
  · obtain ⟨a, t, ka, i, d, fs, kA, aA, rs, p, rfl, _⟩ := h
    rfl
  · obtain ⟨a, t, ka, i, d, fs, kA, aA, rs, p, rfl, fl, bs, hp, vd, ok, k⟩ := h
    have hu := Nat.lt_of_le_of_lt (Nat.add_le_add_left (show 1 ≤ 64 by decide) _) hr.units
    refine ⟨_, PSs.nox (pss_cons (ps_if (pt_cmp ((pc_dnotin hu (pe_ix ix_tup (pv 2) pe_int (fun _ _ => rfl)) (pe_fld (pv 0) rfl)))) (pss_one ps_never) pss_nil)
      (pss_one (ps_if (pw_or (pt_cmp ((pc_din hu (pe_ix ix_tup (pv 2) pe_int (fun _ _ => rfl)) (pe_fld (pv 0) rfl)))) (pw_or1 (pt_cmp ((pc_din hu (pe_tup (pa_cons (pe_ix ix_tup (pv 2) pe_int (fun _ _ => rfl)) (pa_cons (pe_ix ix_tup (pv 2) pe_int (fun _ _ => rfl)) pa_nil))) (pe_fld (pv 0) rfl)))))).pt (pss_one ps_never) pss_nil))), ?_⟩
    refine q_when (b := false) (et_B (ev_is (ev_dnin (k := Sum.inr p.rl) (ev_pt rfl hp at_rl) (ev_f T.cl T.nU (ev_var rfl) fl.at_ fl.du) bs.u) (by rw [val_ar vd ok.rl]; rfl))) (fun z => by cases z) (fun _ H1 e1 => ?_)
    have fl1 := fl.mono (ex_extn e1)
    have bs1 := bs.mono (ex_extn e1)
    have hp1 := hp.mono e1
    refine s_when (b := false || false) (et_or (et_B (ev_is (ev_din (k := Sum.inr p.nm) (ev_pt rfl hp1 at_nm) (ev_f T.cl T.nR (ev_var rfl) fl1.at_ fl1.dr) bs1.r) (by rw [val_new ok.nn]; rfl))) (fun _ => et_B (ev_is (ev_dinT (k := [Sum.inr p.rl, Sum.inl p.ad]) (eu_tup (ea_cons (ev_pt rfl hp1 at_rl) (ea_cons (ev_pt rfl hp1 at_ad) ea_nil)) (by show 2 ≤ 100000; decide)) (ev_f T.cl T.nL (ev_var rfl) fl1.at_ fl1.dp) bs1.p) (by rw [val_newP ok.na]; rfl)))) (fun z => by cases z) (fun _ H2 e2 => k H2 (e1.trans e2))
theorem len_dk {kA : Str → Addr} {rs : List Pt} : (dKinds kA rs).length = (gts rs).length := by
  unfold dKinds
  rw [List.length_map, List.length_reverse]
theorem len_dr {rs : List Pt} : (dRealm rs).length = rs.length := by
  unfold dRealm
  rw [List.length_map, List.length_reverse]
theorem ok_check_number (B : Bt mg) (T : WF K mg C mc) {q : Str} (F : FnC K "_check_number" q s_World_check_number [] f fd) : FnOk P w K mg base CX0 1 f fd ["self", "index", "part"] (spCP K C CK) := by
  refine F.ok sc_World_check_number (fun vs H Q E h => ?_) (fun cdv A outer s H vs Q E hr h => ?_)
  · obtain ⟨a, t, ka, i, d, fs, kA, aA, rs, p, rfl, _⟩ := h
    rfl
  · obtain ⟨a, t, ka, i, d, fs, kA, aA, rs, p, rfl, fl, bs, hp, vd, ok, k⟩ := h
    have hu := Nat.lt_of_le_of_lt (Nat.add_le_add_left (show 1 ≤ 64 by decide) _) hr.units
    refine ⟨_, PSs.nox (pss_one (ps_if (pt_cmpR op_eq (pe_ix ix_tup (pv 2) pe_int (fun _ _ => rfl)) pe_str (nomark _))
      (pss_cons (ps_if (pt_cmpR op_ge (pe_callB call_len_seq (by rfl) B.len (by decide +kernel) (pa_cons (pe_dget hu (pe_fld (pv 0) rfl) (pe_ix ix_tup (pv 2) pe_int (fun _ _ => rfl)) (fun _ _ => rfl)) pa_nil)) (ClX.pe_cval (pe_glob (v := .ref C) (by rfl) T.m rfl)) (nomark _)) (pss_one ps_never) pss_nil)
        (pss_one (ps_if (pt_cmpR op_ge (pe_callB call_lenD (by rfl) B.len (by decide +kernel) (pa_cons (pe_fld (pv 0) rfl) pa_nil)) (ClX.pe_cval (pe_glob (v := .ref C) (by rfl) T.m rfl)) (nomark _)) (pss_one ps_never) pss_nil)))
      (pss_one (ps_if (pt_cmpR op_ge (pe_op op_sub (pe_callB call_lenD (by rfl) B.len (by decide +kernel) (pa_cons (pe_fld (pv 0) rfl) pa_nil)) (pe_callB call_lenD (by rfl) B.len (by decide +kernel) (pa_cons (pe_fld (pv 0) rfl) pa_nil))) (ClX.pe_cval (pe_glob (v := .ref C) (by rfl) T.m rfl)) (nomark _)) (pss_one ps_never) pss_nil)))), ?_⟩
    have rm := ok.rm
    have ln := okA_len vd
    unfold room at rm
    have cv : ∀ {σ : L2.St} {H1 : Hp} {te : TE} {x : Str} {n : Int}, Ev te σ H1 (.ref C) → (∃ u, ClX.CVal K C mc x (.int n) u) → Ev (ClX.tCVal K te x) σ H1 (.int n) := fun {σ H1 te x n} h ⟨u, v⟩ => fun H2 e Q q => h H2 e _ fun H3 e3 => ⟨C, mc, _, u, rfl, T.rd, v, q H3 e3⟩
    refine s_if (b := p.isG) (et_test (ev_is (ev_op (ev_pt rfl hp at_w) ev_c (rv_eq rfl)) (by rw [gwd_is]))) (fun hg H1 e1 => ?_) (fun hg H1 e1 => ?_)
    · rw [if_pos hg] at rm
      have r1 := of_decide_eq_true (ba2 rm).1
      have r2 := of_decide_eq_true (ba2 rm).2
      have fl1 := fl.mono (ex_extn e1)
      have bs1 := bs.mono (ex_extn e1)
      have hp1 := hp.mono e1
      refine q_when (b := false) (et_test (ev_is (ev_op (ev_cb (r := rLenS K) (ea_cons (ev_dget (k := Sum.inr p.rl) (ev_f T.cl T.nU (ev_var rfl) fl1.at_ fl1.du) (ev_pt rfl hp1 at_rl) bs1.u (val_ar vd ok.rl)) ea_nil) (fun H9 e9 _ q => ⟨_, _, rfl, .inr (st_of (e9 _ _ (bs1.ar vd ok.rl))), q H9 (Ex.refl H9)⟩)) (cv ev_c T.v3) rv_int) (congrArg V.bl (decide_eq_false (by rw [List.length_map]; omega))))) (fun z => by cases z) (fun _ H2 e2 => ?_)
      have fl2 := fl1.mono (ex_extn e2)
      have bs2 := bs1.mono (ex_extn e2)
      refine s_when (b := false) (et_test (ev_is (ev_op (ev_lenD (ev_f T.cl T.nK (ev_var rfl) fl2.at_ fl2.dk) bs2.k) (cv ev_c T.v6) rv_int) (congrArg V.bl (decide_eq_false (by rw [len_dk]; omega))))) (fun z => by cases z) (fun _ H3 e3 => k H3 ((e1.trans e2).trans e3))
    · rw [if_neg (by rw [hg]; simp)] at rm
      have r1 := of_decide_eq_true rm
      have fl1 := fl.mono (ex_extn e1)
      have bs1 := bs.mono (ex_extn e1)
      refine s_when (b := false) (et_test (ev_is (ev_op (ev_op (ev_lenD (ev_f T.cl T.nR (ev_var rfl) fl1.at_ fl1.dr) bs1.r) (ev_lenD (ev_f T.cl T.nK (ev_var rfl) fl1.at_ fl1.dk) bs1.k) rv_int) (cv ev_c T.v8) rv_int) (congrArg V.bl (decide_eq_false (by rw [len_dk, len_dr]; omega))))) (fun z => by cases z) (fun _ H3 e3 => k H3 (e1.trans e3))
end
end L2.Mj
set_option maxRecDepth 100000
set_option maxHeartbeats 4000000
namespace L2.Mj
open PySem PySem.Spec PyProof.Rows L2 Mx L2.Mb Evl Mv TL LamX
/-! ### a part taken in -/
/-- all but the dicts of d stays -/
def ButW (d : WD) (H H' : Hp) : Prop := ∀ c o, c ≠ d.dk → c ≠ d.da → c ≠ d.dr → c ≠ d.dp → c ≠ d.du → H c = some o → H' c = some o
theorem ButW.refl (d : WD) (H : Hp) : ButW d H H := fun _ _ _ _ _ _ _ h => h
theorem ButW.trans {d : WD} {H H1 H2 : Hp} (a : ButW d H H1) (b : ButW d H1 H2) : ButW d H H2 := fun c o h1 h2 h3 h4 h5 h => b c o h1 h2 h3 h4 h5 (a c o h1 h2 h3 h4 h5 h)
theorem ButW.ex {d : WD} {H H1 : Hp} (e : Ex H H1) : ButW d H H1 := fun c o _ _ _ _ _ h => e c o h
structure Bx (H : Hp) (d : WD) (lk la lr : List (Key × V)) (lp : List (List Key × V)) (lu : List (Key × V)) : Prop where
  k : H d.dk = some (.dK lk)
  a : H d.da = some (.dK la)
  r : H d.dr = some (.dK lr)
  p : H d.dp = some (.dT lp)
  u : H d.du = some (.dK lu)
section
variable {H H' : Hp} {d : WD} {lk la lr lu l : List (Key × V)} {lp m : List (List Key × V)}
theorem Bx.ex (b : Bx H d lk la lr lp lu) (e : Ex H H') : Bx H' d lk la lr lp lu := ⟨e _ _ b.k, e _ _ b.a, e _ _ b.r, e _ _ b.p, e _ _ b.u⟩
theorem Bx.pa (n : d.Ne) (b : Bx H d lk la lr lp lu) : Bx (upd H d.da (.dK l)) d lk l lr lp lu := ⟨(upd_ne n.ka).trans b.k, upd_same, (upd_ne n.ar.symm).trans b.r, (upd_ne n.ap.symm).trans b.p, (upd_ne n.au.symm).trans b.u⟩
theorem Bx.pr (n : d.Ne) (b : Bx H d lk la lr lp lu) : Bx (upd H d.dr (.dK l)) d lk la l lp lu := ⟨(upd_ne n.kr).trans b.k, (upd_ne n.ar).trans b.a, upd_same, (upd_ne n.rp.symm).trans b.p, (upd_ne n.ru.symm).trans b.u⟩
theorem Bx.pp (n : d.Ne) (b : Bx H d lk la lr lp lu) : Bx (upd H d.dp (.dT m)) d lk la lr m lu := ⟨(upd_ne n.kp).trans b.k, (upd_ne n.ap).trans b.a, (upd_ne n.rp).trans b.r, upd_same, (upd_ne n.pu.symm).trans b.u⟩
theorem Bx.pk (n : d.Ne) (b : Bx H d lk la lr lp lu) : Bx (upd H d.dk (.dK l)) d l la lr lp lu := ⟨upd_same, (upd_ne n.ka.symm).trans b.a, (upd_ne n.kr.symm).trans b.r, (upd_ne n.kp.symm).trans b.p, (upd_ne n.ku.symm).trans b.u⟩
theorem Bx.pu (n : d.Ne) (b : Bx H d lk la lr lp lu) : Bx (upd H d.du (.dK l)) d lk la lr lp l := ⟨(upd_ne n.ku).trans b.k, (upd_ne n.au).trans b.a, (upd_ne n.ru).trans b.r, (upd_ne n.pu).trans b.p, upd_same⟩
theorem bw_a {o : HO} : ButW d H (upd H d.da o) := fun c o h1 h2 h3 h4 h5 h => (upd_ne h2).trans h
theorem bw_r {o : HO} : ButW d H (upd H d.dr o) := fun c o h1 h2 h3 h4 h5 h => (upd_ne h3).trans h
theorem bw_p {o : HO} : ButW d H (upd H d.dp o) := fun c o h1 h2 h3 h4 h5 h => (upd_ne h4).trans h
theorem bw_k {o : HO} : ButW d H (upd H d.dk o) := fun c o h1 h2 h3 h4 h5 h => (upd_ne h1).trans h
theorem bw_u {o : HO} : ButW d H (upd H d.du o) := fun c o h1 h2 h3 h4 h5 h => (upd_ne h5).trans h
theorem ne_of_obj {a b : Addr} {x y : HO} (h1 : H a = some x) (h2 : H b = some y) (n : x ≠ y) : a ≠ b := fun e => n (by rw [e, h2] at h1; exact (Option.some.inj h1).symm)
theorem Bx.tup {xs : List V} {c : Addr} (b : Bx H d lk la lr lp lu) (w : ButW d H H') (h : H c = some (.tup xs)) : H' c = some (.tup xs) :=
  w c _ (ne_of_obj h b.k fun z => by cases z) (ne_of_obj h b.a fun z => by cases z) (ne_of_obj h b.r fun z => by cases z) (ne_of_obj h b.p fun z => by cases z) (ne_of_obj h b.u fun z => by cases z) h
theorem Bx.ins {C dx : Addr} {fs : List (Str × V)} {c : Addr} (b : Bx H d lk la lr lp lu) (w : ButW d H H') (h : H c = some (.ins C dx fs)) : H' c = some (.ins C dx fs) :=
  w c _ (ne_of_obj h b.k fun z => by cases z) (ne_of_obj h b.a fun z => by cases z) (ne_of_obj h b.r fun z => by cases z) (ne_of_obj h b.p fun z => by cases z) (ne_of_obj h b.u fun z => by cases z) h
theorem Bx.fl {C a : Addr} {fs : List (Str × V)} (b : Bx H d lk la lr lp lu) (w : ButW d H H') (h : Fl C H a d fs) : Fl C H' a d fs := ⟨h.at_.elim fun dx z => ⟨dx, b.ins w z⟩, h.ts, h.dk, h.da, h.dr, h.dp, h.du, h.me⟩
theorem Bx.kat {C a : Addr} {k : Kd} (b : Bx H d lk la lr lp lu) (w : ButW d H H') (h : KAt C H a k) : KAt C H' a k := h.elim fun dx z => ⟨dx, b.ins w z⟩
theorem Bx.part {K : W.Frag} {C t ka : Addr} {p : Pt} (b : Bx H d lk la lr lp lu) (w : ButW d H H') (h : PartAt K C H t ka p) : PartAt K C H' t ka p := ⟨b.tup w h.t, fun k z => b.kat w (h.k k z)⟩
end
theorem Bs.x {CK : Addr} {H : Hp} {d : WD} {kA aA : Str → Addr} {rs : List Pt} (b : Bs CK H d kA aA rs) : Bx H d (dKinds kA rs) (dAddr rs) (dRealm rs) (dPlace rs) (dAround d.a0 aA rs) := ⟨b.k, b.a, b.r, b.p, b.u⟩
section
variable {P : Program} {w : World} {K : W.Frag} {mg : Str → Option Value} {base : Heap} {f C CK aL aT : Addr} {fd : FuncData} {mc mk : Value} {σ : L2.St} {H : Hp} {D : Ends} {td ty tv : TE} {tz : TS} {a : Addr}
theorem s_dputK {kvs : List (Key × V)} {k : Key} {v : V} (hv : Ev tv σ H v) (hd : Ev td σ H (.ref a)) (hy : Ev ty σ H (kV k)) (h : H a = some (.dK kvs)) (hn : valV kvs k = none) (hl : kvs.length < 100000) (kk : ∀ H1, Ex H H1 → D.nx σ (upd H1 a (.dK (kvs ++ [(k, v)])))) : sDPut td ty tv D σ H :=
  hv H (Ex.refl H) _ fun H1 e1 => hd H1 e1 _ fun H2 e2 => hy H2 (e1.trans e2) _ fun H3 e3 => ⟨a, _, rfl, DPut.k ((e1.trans e2).trans e3 _ _ h) (sz_lt hl), by
    have z := kk H3 ((e1.trans e2).trans e3)
    rw [← putK_new v hn] at z
    exact z⟩
theorem q_dputK {kvs : List (Key × V)} {k : Key} {v : V} (hv : Ev tv σ H v) (hd : Ev td σ H (.ref a)) (hy : Ev ty σ H (kV k)) (h : H a = some (.dK kvs)) (hn : valV kvs k = none) (hl : kvs.length < 100000) (kk : ∀ H1, Ex H H1 → tz D σ (upd H1 a (.dK (kvs ++ [(k, v)])))) : tSeq (sDPut td ty tv) tz D σ H := s_dputK (D := { D with nx := tz D }) hv hd hy h hn hl kk
theorem q_dputT {kvs : List (List Key × V)} {k : List Key} {v : V} (hv : Ev tv σ H v) (hd : Ev td σ H (.ref a)) (hy : EvU ty σ H (k.map kV)) (h : H a = some (.dT kvs)) (hn : valV kvs k = none) (hl : kvs.length < 100000) (kk : ∀ H1, Ex H H1 → tz D σ (upd H1 a (.dT (kvs ++ [(k, v)])))) : tSeq (sDPut td ty tv) tz D σ H :=
  hv H (Ex.refl H) _ fun H1 e1 => hd H1 e1 _ fun H2 e2 => hy H2 (e1.trans e2) _ fun q H3 nq e3 hq => ⟨a, _, rfl, DPut.t ((e1.trans e2).trans e3 _ _ h) hq (sz_lt hl), by
    have z := kk H3 ((e1.trans e2).trans e3)
    rw [← putK_new v hn] at z
    exact z⟩
theorem dAddr_cons (p : Pt) (rs : List Pt) : dAddr (p :: rs) = dAddr rs ++ [(Sum.inr p.nm, V.int p.ad)] := by
  unfold dAddr
  rw [List.reverse_cons, List.map_append]
  rfl
theorem dRealm_cons (p : Pt) (rs : List Pt) : dRealm (p :: rs) = dRealm rs ++ [(Sum.inr p.nm, V.str p.rl)] := by
  unfold dRealm
  rw [List.reverse_cons, List.map_append]
  rfl
theorem dPlace_cons (p : Pt) (rs : List Pt) : dPlace (p :: rs) = dPlace rs ++ [([Sum.inr p.rl, Sum.inl p.ad], V.str p.nm)] := by
  unfold dPlace
  rw [List.reverse_cons, List.map_append]
  rfl
abbrev ovA (g : Str → Addr) (n : Str) (x : Addr) : Str → Addr := fun m => if m = n then x else g m
theorem gmap_ov {g : Str → Addr} {n : Str} {x : Addr} {rs : List Pt} (h : newN rs n = true) : ((gts rs).reverse.map fun p => ((Sum.inr p.nm : Key), V.ref (ovA g n x p.nm))) = (gts rs).reverse.map fun p => ((Sum.inr p.nm : Key), V.ref (g p.nm)) :=
  List.map_congr_left fun q hq => by
    have z := newN_iff.mp h q (List.mem_filter.mp (List.mem_reverse.mp hq)).1
    rw [show ovA g n x q.nm = g q.nm from if_neg z]
theorem dKinds_gate {g : Str → Addr} {x : Addr} {p : Pt} {rs : List Pt} (hg : p.isG = true) (h : newN rs p.nm = true) : dKinds (ovA g p.nm x) (p :: rs) = dKinds g rs ++ [(Sum.inr p.nm, V.ref x)] := by
  unfold dKinds
  rw [gts_cons, if_pos hg, List.reverse_cons, List.map_append, gmap_ov h]
  show _ ++ [((Sum.inr p.nm : Key), V.ref (ovA g p.nm x p.nm))] = _
  rw [show ovA g p.nm x p.nm = x from if_pos rfl]
theorem dAround_gate {a0 : Addr} {g : Str → Addr} {x : Addr} {p : Pt} {rs : List Pt} (hg : p.isG = true) (h : newN rs p.nm = true) : dAround a0 (ovA g p.nm x) (p :: rs) = dAround a0 g rs ++ [(Sum.inr p.nm, V.ref x)] := by
  unfold dAround
  rw [gts_cons, if_pos hg, List.reverse_cons, List.map_append, gmap_ov h]
  show _ :: (_ ++ [((Sum.inr p.nm : Key), V.ref (ovA g p.nm x p.nm))]) = _
  rw [show ovA g p.nm x p.nm = x from if_pos rfl]
  rfl
theorem dKinds_host {g : Str → Addr} {p : Pt} {rs : List Pt} (hg : p.isG = false) : dKinds g (p :: rs) = dKinds g rs := by
  unfold dKinds
  rw [gts_cons, if_neg (by rw [hg]; simp)]
theorem dAround_host {a0 : Addr} {g : Str → Addr} {p : Pt} {rs : List Pt} (hg : p.isG = false) : dAround a0 g (p :: rs) = dAround a0 g rs := by
  unfold dAround
  rw [gts_cons, if_neg (by rw [hg]; simp)]
theorem len_da {rs : List Pt} : (dAddr rs).length = rs.length := by
  unfold dAddr
  rw [List.length_map, List.length_reverse]
theorem len_dp {rs : List Pt} : (dPlace rs).length = rs.length := by
  unfold dPlace
  rw [List.length_map, List.length_reverse]
theorem cut_3 (ka : Addr) (p : Pt) : cutV (ptV ka p) (some 1) (some 4) = [.str p.nm, .str p.rl, .int p.ad] := by
  unfold ptV
  cases p.kd <;> rfl
theorem eu_cut3 {te : TE} {t ka : Addr} {p : Pt} (h : Ev te σ H (.ref t)) (hp : PartAt K CK H t ka p) : EvU (tSl (rSlA K) te (tPart (tC (.int 1))) (tPart (tC (.int 4)))) σ H [.str p.nm, .str p.rl, .int p.ad] := fun H0 e0 Q q => h H0 e0 _ fun H1 e1 => by
  have h1 := hp.mono (e0.trans e1)
  refine ⟨1, rfl, 4, rfl, t, _, rfl, st_of h1.t, fun hw => ?_, fun _ a na => q a _ (fresh_back e1 na) (e1.trans (Ex.new na)) ?_⟩
  · have hl : 4 ≤ (ptV ka p).length := by
      rw [ptV_len]
      split <;> omega
    have z := hw.1
    unfold HT.sIx at z
    simp at z
    have z1 : (ptV ka p).length = 0 := by
      first
        | omega
        | (rw [z]; rfl)
    omega
  · rw [cut_3]
    exact upd_same
def spTk (K : W.Frag) (C CK : Addr) : Sp := fun vs H Q _ => ∃ (a t ka : Addr) (d : WD) (fs : List (Str × V)) (kA aA : Str → Addr) (rs : List Pt) (p : Pt), vs = [.ref a, .ref t] ∧ Fl C H a d fs ∧ d.Ne ∧ Bs CK H d kA aA rs ∧ PartAt K CK H t ka p ∧ Vd rs ∧ OkA rs p ∧
  ∀ H' kA' aA', Bs CK H' d kA' aA' (p :: rs) → ButW d H H' → Q .non H'
end
end L2.Mj
set_option maxRecDepth 100000
set_option maxHeartbeats 4000000
namespace L2.Mj
open PySem PySem.Spec PyProof.Rows L2 Mx L2.Mb Evl Mv TL LamX
section
variable {P : Program} {w : World} {K : W.Frag} {mg : Str → Option Value} {base : Heap} {f C CK aL aT : Addr} {fd : FuncData} {mc mk : Value}
theorem ok_take (T : WF K mg C mc) {q : Str} (F : FnC K "_take" q s_World_take [] f fd) : FnOk P w K mg base CX0 1 f fd ["self", "part"] (spTk K C CK) := by
  refine F.ok sc_World_take (fun vs H Q E h => ?_) (fun cdv A outer s H vs Q E hr h => ?_)
  · obtain ⟨a, t, ka, d, fs, kA, aA, rs, p, rfl, _⟩ := h
    rfl
  · obtain ⟨a, t, ka, d, fs, kA, aA, rs, p, rfl, fl, ne, bs, hp, vd, ok, k⟩ := h
    have nd := sc_World_take.nd
    have hu := Nat.lt_of_le_of_lt (Nat.add_le_add_left (show 1 ≤ 64 by decide) _) hr.units
    refine ⟨_, PSs.nox (pss_cons (ps_asg (pe_slice sl_tupA (pv 1) (po_some pe_int) (po_some pe_int)) (pg_tup rfl (pgs_cons (pg_name (i := 2) nd rfl (Or.inl rfl)) (pgs_cons (pg_name (i := 3) nd rfl (Or.inl rfl)) (pgs_cons (pg_name (i := 4) nd rfl (Or.inl rfl)) pgs_nil)))))
      (pss_cons (ps_dput hu (pe_fld (pv 0) rfl) (pv 2) (pv 4) (by rfl))
      (pss_cons (ps_dput hu (pe_fld (pv 0) rfl) (pv 2) (pv 3) (by rfl))
      (pss_cons (ps_dput hu (pe_fld (pv 0) rfl) (pe_tup (pa_cons (pv 3) (pa_cons (pv 4) pa_nil))) (pv 2) (by rfl))
      (pss_one (ps_if (pt_cmpR op_eq (pe_ix ix_tup (pv 1) pe_int (fun _ _ => rfl)) pe_str (nomark _)) (pss_cons (ps_dput hu (pe_fld (pv 0) rfl) (pv 2) (pe_ix ix_tup (pv 1) pe_int (fun _ _ => rfl)) (by rfl))
        (pss_one (ps_dput hu (pe_fld (pv 0) rfl) (pv 2) (pe_op op_catA (pe_tup (pa_cons (pv 2) pa_nil)) (pe_dget hu (pe_fld (pv 0) rfl) (pv 3) (fun _ _ => rfl))) (by rfl)))) pss_nil)))))), ?_⟩
    have l14 := len14 vd
    have lg := okA_len vd
    have x0 := bs.x
    refine s_unp3 (D := { nx := _, rt := _, bk := _, ct := _ }) (eu_cut3 (ev_var rfl) hp) fun H1 e1 => ?_
    have x1 := x0.ex e1
    have w1 : ButW d H H1 := ButW.ex e1
    have f1 := x0.fl w1 fl
    refine q_dputK (k := Sum.inr p.nm) (v := .int p.ad) (ev_var rfl) (ev_f T.cl T.nA (ev_var rfl) f1.at_ f1.da) (ev_var rfl) x1.a (val_new ok.nn) (by rw [len_da]; omega) fun H2 e2 => ?_
    have x2 := (x1.ex e2).pa (l := dAddr rs ++ [(Sum.inr p.nm, .int p.ad)]) ne
    have w2 : ButW d H (upd H2 d.da (.dK (dAddr rs ++ [(Sum.inr p.nm, .int p.ad)]))) := (w1.trans (ButW.ex e2)).trans bw_a
    have f2 := x0.fl w2 fl
    refine q_dputK (k := Sum.inr p.nm) (v := .str p.rl) (ev_var rfl) (ev_f T.cl T.nR (ev_var rfl) f2.at_ f2.dr) (ev_var rfl) x2.r (val_new ok.nn) (by rw [len_dr]; omega) fun H3 e3 => ?_
    have x3 := (x2.ex e3).pr (l := dRealm rs ++ [(Sum.inr p.nm, .str p.rl)]) ne
    have w3 := (w2.trans (ButW.ex e3)).trans (bw_r (d := d) (o := .dK (dRealm rs ++ [(Sum.inr p.nm, .str p.rl)])))
    have f3 := x0.fl w3 fl
    refine q_dputT (k := [Sum.inr p.rl, Sum.inl p.ad]) (v := .str p.nm) (ev_var rfl) (ev_f T.cl T.nL (ev_var rfl) f3.at_ f3.dp) (eu_tup (ea_cons (ev_var rfl) (ea_cons (ev_var rfl) ea_nil)) (by show 2 ≤ 100000; decide)) x3.p (val_newP ok.na) (by rw [len_dp]; omega) fun H4 e4 => ?_
    have x4 := (x3.ex e4).pp (m := dPlace rs ++ [([Sum.inr p.rl, Sum.inl p.ad], .str p.nm)]) ne
    have w4 := (w3.trans (ButW.ex e4)).trans (bw_p (d := d) (o := .dT (dPlace rs ++ [([Sum.inr p.rl, Sum.inl p.ad], .str p.nm)])))
    have f4 := x0.fl w4 fl
    have p4 := x0.part w4 hp
    refine s_if (b := p.isG) (et_test (ev_is (ev_op (ev_pt rfl p4 at_w) ev_c (rv_eq rfl)) (by rw [gwd_is]))) (fun hg H5 e5 => ?_) (fun hg H5 e5 => ?_)
    · obtain ⟨kd, hk⟩ : ∃ kd, p.kd = some kd := Option.isSome_iff_exists.mp hg
      have w5 := w4.trans (ButW.ex e5)
      have x5 := x4.ex e5
      have f5 := x0.fl w5 fl
      have p5 := x0.part w5 hp
      have a4 : atI (ptV ka p) 4 = some (.ref ka) := by
        unfold ptV
        rw [hk]
        exact atI_nat (j := 4) rfl
      refine q_dputK (k := Sum.inr p.nm) (v := .ref ka) (ev_pt rfl p5 a4) (ev_f T.cl T.nK (ev_var rfl) f5.at_ f5.dk) (ev_var rfl) x5.k (val_newG ok.nn) (by rw [len_dk]; omega) fun H6 e6 => ?_
      have x6 := (x5.ex e6).pk (l := dKinds kA rs ++ [(Sum.inr p.nm, .ref ka)]) ne
      have w6 := (w5.trans (ButW.ex e6)).trans (bw_k (d := d) (o := .dK (dKinds kA rs ++ [(Sum.inr p.nm, .ref ka)])))
      have f6 := x0.fl w6 fl
      -- the gates around
      have ln : ∀ {H9 : Hp}, ButW d H H9 → H9 (arA d.a0 aA p.rl) = some (.tup ((chn rs p.rl).map V.str)) := fun w9 => x0.tup w9 (bs.ar vd ok.rl)
      have fin : ∀ (H7 : Hp) (x : Addr), Ex (upd H6 d.dk (.dK (dKinds kA rs ++ [(Sum.inr p.nm, .ref ka)]))) H7 → H7 x = some (.tup ((p.nm :: chn rs p.rl).map V.str)) →
          (tFld K (tVar 0) "_around") [some (.ref a), some (.ref t), some (.str p.nm), some (.str p.rl), some (.int p.ad)] H7 (fun y H8 => (tVar 2) [some (.ref a), some (.ref t), some (.str p.nm), some (.str p.rl), some (.int p.ad)] H8 (fun z H9 => ∃ a2 H10, y = .ref a2 ∧ DPut H9 a2 z (.ref x) H10 ∧ Q .non H10)) := fun H7 x e7 hx => by
        have w7 := w6.trans (ButW.ex e7)
        have f7 := x0.fl w7 fl
        have x7 := x6.ex e7
        refine ev_f (σ := [some (.ref a), some (.ref t), some (.str p.nm), some (.str p.rl), some (.int p.ad)]) T.cl T.nU (ev_var rfl) f7.at_ f7.du H7 (Ex.refl H7) _ fun H8 e8 => ⟨_, rfl, d.du, _, rfl, DPut.k (k := Sum.inr p.nm) ((x7.ex e8).u) (sz_lt ?_), ?_⟩
        · unfold dAround
          rw [List.length_cons, List.length_map, List.length_reverse]
          omega
        · have hv : valV (dAround d.a0 aA rs) (Sum.inr p.nm) = none := by
            show valV (((Sum.inr "" : Key), V.ref d.a0) :: (gts rs).reverse.map fun p => ((Sum.inr p.nm : Key), V.ref (aA p.nm))) (Sum.inr p.nm) = _
            rw [valV_neg fun z => okW_ne (okP_of ok.ok).nm (inr_iff.mp z).symm]
            exact val_newG ok.nn
          rw [putK_new _ hv]
          have x8 := (x7.ex e8).pu (l := dAround d.a0 aA rs ++ [(Sum.inr p.nm, .ref x)]) ne
          have w8 := (w7.trans (ButW.ex e8)).trans (bw_u (d := d) (o := .dK (dAround d.a0 aA rs ++ [(Sum.inr p.nm, .ref x)])))
          have hx8 : (upd H8 d.du (.dK (dAround d.a0 aA rs ++ [(Sum.inr p.nm, .ref x)]))) x = some (.tup ((p.nm :: chn rs p.rl).map V.str)) := (x7.ex e8).tup bw_u (e8 _ _ hx)
          refine k _ (ovA kA p.nm ka) (ovA aA p.nm x) ⟨?_, ?_, ?_, ?_, ?_, x0.tup w8 bs.u0, fun r hr => ?_, fun r hr kd' hk' => ?_⟩ w8
          · rw [dKinds_gate hg ok.nn]
            exact x8.k
          · rw [dAddr_cons]
            exact x8.a
          · rw [dRealm_cons]
            exact x8.r
          · rw [dPlace_cons]
            exact x8.p
          · rw [dAround_gate hg ok.nn]
            exact x8.u
          · rw [gts_cons, if_pos hg] at hr
            rcases List.mem_cons.mp hr with z | z
            · rw [z, chn_self hg, show ovA aA p.nm x p.nm = x from if_pos rfl]
              exact hx8
            · have n := newN_iff.mp ok.nn r (mem_gts.mp z).1
              rw [chn_ne (Ne.symm n), show ovA aA p.nm x r.nm = aA r.nm from if_neg n]
              exact x0.tup w8 (bs.ch r z)
          · rw [gts_cons, if_pos hg] at hr
            rcases List.mem_cons.mp hr with z | z
            · rw [z, show ovA kA p.nm ka p.nm = ka from if_pos rfl]
              rw [z] at hk'
              exact x0.kat w8 (hp.k kd' hk')
            · have n := newN_iff.mp ok.nn r (mem_gts.mp z).1
              rw [show ovA kA p.nm ka r.nm = kA r.nm from if_neg n]
              exact x0.kat w8 (bs.kd r z kd' hk')
      refine ⟨_, rfl, (by show 1 ≤ sizeLine; decide), fun y ny => ?_⟩
      have eY := Ex.new (o := .tup [.str p.nm]) ny
      have w7 := w6.trans (ButW.ex eY)
      have x7 := x6.ex eY
      have f7 := x0.fl w7 fl
      refine ev_dget (σ := [some (.ref a), some (.ref t), some (.str p.nm), some (.str p.rl), some (.int p.ad)]) (k := Sum.inr p.rl) (ev_f T.cl T.nU (ev_var rfl) f7.at_ f7.du) (ev_var rfl) x7.u (val_ar vd ok.rl) _ (Ex.refl _) _ fun H8 e8 => ?_
      have w8 := w7.trans (ButW.ex e8)
      have hy8 : H8 y = some (.tup [.str p.nm]) := e8 _ _ upd_same
      refine ⟨y, _, _, _, rfl, rfl, st_of hy8, st_of (ln w8), ?_, fun z => absurd z (List.cons_ne_nil _ _), fun _ z => fin H8 y (eY.trans e8) ?_, fun _ z x nx => fin _ x ((eY.trans e8).trans (Ex.new nx)) ?_⟩
      · have rm := ok.rm
        unfold room at rm
        rw [if_pos hg] at rm
        have r1 := of_decide_eq_true (ba2 rm).1
        refine sz_of ?_
        rw [List.length_map]
        show 1 + _ ≤ _
        omega
      · rw [List.map_eq_nil_iff.mp z]
        exact hy8
      · exact upd_same
    · have w5 := w4.trans (ButW.ex e5)
      have x5 := x4.ex e5
      refine k H5 kA aA ⟨?_, ?_, ?_, ?_, ?_, x0.tup w5 bs.u0, fun r hr => ?_, fun r hr kd' hk' => ?_⟩ w5
      · rw [dKinds_host hg]
        exact x5.k
      · rw [dAddr_cons]
        exact x5.a
      · rw [dRealm_cons]
        exact x5.r
      · rw [dPlace_cons]
        exact x5.p
      · rw [dAround_host hg]
        exact x5.u
      · rw [gts_cons, if_neg (by rw [hg]; simp)] at hr
        have n := newN_iff.mp ok.nn r (mem_gts.mp hr).1
        rw [chn_ne (Ne.symm n)]
        exact x0.tup w5 (bs.ch r hr)
      · rw [gts_cons, if_neg (by rw [hg]; simp)] at hr
        exact x0.kat w5 (bs.kd r hr kd' hk')
end
end L2.Mj
set_option maxRecDepth 100000
set_option maxHeartbeats 4000000
namespace L2.Mj
open PySem PySem.Spec PyProof.Rows L2 Mx L2.Mb Evl Mv TL LamX Sr Srt SrtO
/-! ### whole worlds -/
/-- a part's tuple, its kind, what it says -/
structure Pl where
  t : Addr
  k : Addr
  p : Pt
abbrev rsOf (l : List Pl) : List Pt := (l.map Pl.p).reverse
abbrev ltN (x y : Str) : Bool := ltK (.inr x) (.inr y)
/-- names, ascending -/
structure Nms (ys xs : List Str) : Prop where
  p : ys.Perm xs
  s : Srtd ltN ys
structure WX (K : W.Frag) (C CK : Addr) (H : Hp) (a : Addr) (l : List Pl) (d : WD) (fs : List (Str × V)) (kA aA : Str → Addr) (ag ah : Addr) (gs hs : List Str) : Prop where
  fl : Fl C H a d fs
  bs : Bs CK H d kA aA (rsOf l)
  ts : H d.ts = some (.tup (l.map fun x => .ref x.t))
  pt : ∀ x ∈ l, PartAt K CK H x.t x.k x.p
  vd : Vd (rsOf l)
  fg : fs.lookup ("_gates" : Str) = some (.ref ag)
  fh : fs.lookup ("_hosts" : Str) = some (.ref ah)
  xg : H ag = some (.tup (gs.map V.str))
  xh : H ah = some (.tup (hs.map V.str))
  ng : Nms gs ((gts (rsOf l)).map Pt.nm)
  nh : Nms hs (((rsOf l).filter fun p => !p.isG).map Pt.nm)
/-- the world of the parts l stands at a -/
def WAt (K : W.Frag) (C CK : Addr) (H : Hp) (a : Addr) (l : List Pl) : Prop := ∃ d fs kA aA ag ah gs hs, WX K C CK H a l d fs kA aA ag ah gs hs
theorem WX.extn {K : W.Frag} {C CK : Addr} {H H' : Hp} {a : Addr} {l : List Pl} {d : WD} {fs : List (Str × V)} {kA aA : Str → Addr} {ag ah : Addr} {gs hs : List Str} (h : WX K C CK H a l d fs kA aA ag ah gs hs) (e : ExtN H H') : WX K C CK H' a l d fs kA aA ag ah gs hs :=
  ⟨h.fl.mono e, h.bs.mono e, tup_n e h.ts, fun x z => (h.pt x z).extn e, h.vd, h.fg, h.fh, tup_n e h.xg, tup_n e h.xh, h.ng, h.nh⟩
theorem WAt.extn {K : W.Frag} {C CK : Addr} {H H' : Hp} {a : Addr} {l : List Pl} (h : WAt K C CK H a l) (e : ExtN H H') : WAt K C CK H' a l := by
  obtain ⟨d, fs, kA, aA, ag, ah, gs, hs, z⟩ := h
  exact ⟨d, fs, kA, aA, ag, ah, gs, hs, z.extn e⟩
/-- a list like f of another, in another order, is f of that in another order -/
theorem perm_map {α β : Type} {f : α → β} : ∀ {ys xs : List β}, ys.Perm xs → ∀ l : List α, xs = l.map f → ∃ m : List α, m.Perm l ∧ ys = m.map f := by
  intro ys xs h
  induction h with
  | nil =>
    intro l e
    have : l = [] := List.map_eq_nil_iff.mp e.symm
    rw [this]
    exact ⟨[], .refl _, rfl⟩
  | cons x _ ih =>
    intro l e
    cases l with
    | nil => cases e
    | cons a r =>
      rw [List.map_cons] at e
      obtain ⟨e1, e2⟩ := List.cons.inj e
      obtain ⟨m, h1, h2⟩ := ih r e2
      exact ⟨a :: m, h1.cons a, by rw [List.map_cons, ← h2, e1]⟩
  | swap x y l0 =>
    intro l e
    cases l with
    | nil => cases e
    | cons a r =>
      cases r with
      | nil => cases e
      | cons b r =>
        rw [List.map_cons, List.map_cons] at e
        obtain ⟨e1, e2⟩ := List.cons.inj e
        obtain ⟨e3, e4⟩ := List.cons.inj e2
        exact ⟨b :: a :: r, .swap _ _ _, by rw [List.map_cons, List.map_cons, ← e1, ← e3, ← e4]⟩
  | trans _ _ ih1 ih2 =>
    intro l e
    obtain ⟨m, h1, h2⟩ := ih2 l e
    obtain ⟨m2, h3, h4⟩ := ih1 m h2
    exact ⟨m2, h3.trans h1, h4⟩
theorem srtd_map {α β : Type} {f : α → β} {lt : β → β → Bool} {m : List α} (h : Srtd lt (m.map f)) : Srtd (fun x y => lt (f x) (f y)) m := List.pairwise_map.mp h
section
variable {K : W.Frag} {σ : L2.St} {H : Hp} {D : Ends} {ta tv te : TE} {tz : TS} {a : Addr} {C dx : Addr} {fs : List (Str × V)}
theorem q_fld {x : Str} {v : V} (hv : Ev tv σ H v) (ho : Ev ta σ H (.ref a)) (ha : H a = some (.ins C dx fs)) (cl : Cls K C) (n : NoAttr K C x) (hl : fs.length < 1000) (kk : ∀ H1, Ex H H1 → tz D σ (upd H1 a (.ins C dx (putF x v fs)))) : tSeq (sFld K ta tv x) tz D σ H :=
  hv H (Ex.refl H) _ fun H1 e1 => ho H1 e1 _ fun H2 e2 => ⟨a, C, dx, fs, rfl, (e1.trans e2) _ _ ha, cl, n, hl, kk H2 (e1.trans e2)⟩
theorem q_fldK {x : Str} (ho : ∀ H1, Ex H H1 → Ev ta σ H1 (.ref a)) (ha : H a = some (.ins C dx fs)) (cl : Cls K C) (n : NoAttr K C x) (hl : fs.length < 1000) (kk : ∀ p H1, H p = none → Ex H H1 → H1 p = some (.dK []) → tz D σ (upd H1 a (.ins C dx (putF x (.ref p) fs)))) : tSeq (sFld K ta tDNewK x) tz D σ H := fun p np =>
  ho _ (Ex.new np) _ (Ex.refl _) _ fun H2 e2 => ⟨a, C, dx, fs, rfl, e2 _ _ (Ex.new np _ _ ha), cl, n, hl, kk p H2 np ((Ex.new np).trans e2) (e2 _ _ upd_same)⟩
theorem q_fldT {x : Str} (ho : ∀ H1, Ex H H1 → Ev ta σ H1 (.ref a)) (ha : H a = some (.ins C dx fs)) (cl : Cls K C) (n : NoAttr K C x) (hl : fs.length < 1000) (kk : ∀ p H1, H p = none → Ex H H1 → H1 p = some (.dT []) → tz D σ (upd H1 a (.ins C dx (putF x (.ref p) fs)))) : tSeq (sFld K ta tDNewT x) tz D σ H := fun p np =>
  ho _ (Ex.new np) _ (Ex.refl _) _ fun H2 e2 => ⟨a, C, dx, fs, rfl, e2 _ _ (Ex.new np _ _ ha), cl, n, hl, kk p H2 np ((Ex.new np).trans e2) (e2 _ _ upd_same)⟩
/-- {"": ()} put into a field -/
theorem q_fldU {x : Str} (ho : ∀ H1, Ex H H1 → Ev ta σ H1 (.ref a)) (ha : H a = some (.ins C dx fs)) (cl : Cls K C) (n : NoAttr K C x) (hl : fs.length < 1000) (kk : ∀ p z H1, H p = none → H z = none → Ex H H1 → H1 p = some (.dK [(Sum.inr "", .ref z)]) → H1 z = some (.tup []) → tz D σ (upd H1 a (.ins C dx (putF x (.ref p) fs)))) :
    tSeq (sFld K ta (tDisp [(tC (.str ""), tTup tNil)]) x) tz D σ H := fun p np => by
  refine ⟨by decide, fun z nz => ?_⟩
  have zp : p ≠ z := ne_of_none upd_same nz
  have nz0 : H z = none := by
    rw [upd_ne zp.symm] at nz
    exact nz
  refine ⟨by rw [upd_ne zp]; exact upd_same, [(Sum.inr "", .ref z)], rfl, (by show 1 ≤ 15; decide), ?_⟩
  have eN : Ex H (upd (upd (upd H p (.dK [])) z (.tup [])) p (.dK (mergeK [] [(Sum.inr "", .ref z)]))) := fun c o hc => by
    have c1 : c ≠ p := ne_of_none hc np
    have c2 : c ≠ z := ne_of_none hc nz0
    rw [upd_ne c1, upd_ne c2, upd_ne c1]
    exact hc
  refine ho _ eN _ (Ex.refl _) _ fun H2 e2 => ⟨a, C, dx, fs, rfl, e2 _ _ (eN _ _ ha), cl, n, hl, kk p z H2 np nz0 (eN.trans e2) (e2 _ _ upd_same) (e2 _ _ ?_)⟩
  rw [upd_ne zp.symm]
  exact upd_same
/-- sorted(texts): texts -/
theorem sort_strs {p : Addr} {xs : List Str} {Q : VK} (h : H p = some (.lst (xs.map V.str))) (k : ∀ (ys : List Str) (q : Addr), Nms ys xs → H q = none → Q (.ref q) (upd H q (.lst (ys.map V.str)))) : rSortD K [.ref p] H Q := by
  refine ⟨p, _, (fun v => match v with | .str z => .a (.inr z) | _ => .a (.inl 0)), .a true, rfl, .inl (sq_of h), fun x hx => ?_, fun ys q s pm nq => ?_⟩
  · obtain ⟨z, _, rfl⟩ := List.mem_map.mp hx
    exact ⟨rfl, rfl⟩
  · obtain ⟨m, h1, rfl⟩ := perm_map pm xs rfl
    exact k m q ⟨h1, srtd_map (f := V.str) s⟩ nq
end
end L2.Mj
set_option maxRecDepth 100000
set_option maxHeartbeats 4000000
namespace L2.Mj
open PySem PySem.Spec PyProof.Rows L2 Mx L2.Mb Evl Mv TL LamX Sr Srt SrtO NdefX
/-! ### World.__init__ -/
/-- a method of a class -/
structure Mt (P : Program) (w : World) (K : W.Frag) (mg : Str → Option Value) (base : Heap) (C : Addr) (m : Str) (k : Nat) (ps : List Str) (sp : Sp) (f : Addr) (fd : FuncData) : Prop where
  me : Meth K C m f
  ok : FnOk P w K mg base CX0 k f fd ps sp
  b : Binds K fd ps []
/-- all but a and the tables stays -/
def ButA (a : Addr) (H H' : Hp) : Prop := ∀ c o, c ≠ a → H c = some o → (∀ ps, o ≠ .tbl ps) → H' c = some o
def spWI (K : W.Frag) (C CK : Addr) (Tt : List (Addr × Str)) : Sp := fun vs H Q _ => ∃ (a ts dx : Addr) (l : List Pl), vs = [.ref a, .ref ts] ∧ H a = some (.ins C dx []) ∧ H ts = some (.tup (l.map fun x => .ref x.t)) ∧ (∀ x ∈ l, PartAt K CK H x.t x.k x.p) ∧ Vd (rsOf l) ∧ Tabs Tt H ∧
  ∀ H', WAt K C CK H' a l → ButA a H H' → Tabs Tt H' → (∀ dx fs, H' a = some (.ins C dx fs) → fs.length ≤ 8) → Q .non H'
abbrev tnW (Tt : List (Addr × Str)) : List NTab := Tt.map fun p => (p.1, fun _ _ => p.2)
theorem tabs_n {Tt : List (Addr × Str)} {H : Hp} (h : Tabs Tt H) : TabsN (tnW Tt) H := fun p hp => by
  obtain ⟨q, hq, rfl⟩ := List.mem_map.mp hp
  exact h q hq
theorem tabs_o {Tt : List (Addr × Str)} {H : Hp} (h : TabsN (tnW Tt) H) : Tabs Tt H := fun p hp => h _ (List.mem_map_of_mem (f := fun p : Addr × Str => ((p.1, fun _ _ => p.2) : NTab)) hp)
end L2.Mj
set_option maxRecDepth 100000
set_option maxHeartbeats 4000000
namespace L2.Mj
open PySem PySem.Spec PyProof.Rows L2 Mx L2.Mb Evl Mv TL LamX Sr Srt SrtO NdefX
/-! ### what the body of World.__init__ reads -/
/-- all but a stays -/
def BtA (a : Addr) (H G : Hp) : Prop := ∀ c o, c ≠ a → H c = some o → G c = some o
theorem BtA.refl (a : Addr) (H : Hp) : BtA a H H := fun _ _ _ h => h
theorem BtA.ex {a : Addr} {H G G' : Hp} (b : BtA a H G) (e : Ex G G') : BtA a H G' := fun c o n h => e c o (b c o n h)
theorem BtA.put {a : Addr} {H G : Hp} {o : HO} (b : BtA a H G) : BtA a H (upd G a o) := fun c o n h => (upd_ne n).trans (b c o n h)
theorem Vd.app : ∀ {xs ys : List Pt}, Vd (xs ++ ys) → Vd ys
  | [], _, v => v
  | _ :: _, _, v => Vd.app v.tail
theorem rs_take {l : List Pl} {i : Nat} {x : Pl} (h : l[i]? = some x) : rsOf (l.take (i + 1)) = x.p :: rsOf (l.take i) := by
  unfold rsOf
  rw [List.take_add_one, h, List.map_append, List.reverse_append]
  rfl
theorem rs_split {l : List Pl} {i : Nat} {x : Pl} (h : l[i]? = some x) : ∃ r, rsOf l = r ++ x.p :: rsOf (l.take i) := by
  refine ⟨rsOf (l.drop (i + 1)), ?_⟩
  rw [← rs_take h]
  unfold rsOf
  rw [← List.reverse_append, ← List.map_append, List.take_append_drop]
theorem given_getD {α : Type} (L : List α) (d : α) (f : α → Bool) (g : α → V) : given L.length (fun i => f (L.getD i d)) (fun i => g (L.getD i d)) = (L.filter f).map g := by
  have e : (List.range L.length).map (fun i => L.getD i d) = L := by
    refine List.ext_getElem (by simp) fun i h1 h2 => ?_
    simp [List.getD_eq_getElem?_getD, h2]
  have e2 : (L.filter f).map g = (((List.range L.length).map (fun i => L.getD i d)).filter f).map g := by rw [e]
  rw [e2, List.filter_map, List.map_map]
  rfl
theorem val_kinds {rs : List Pt} (v : Vd rs) {kA : Str → Addr} {q : Pt} (h : q ∈ rs) : (valV (dKinds kA rs) (Sum.inr q.nm)).isSome = q.isG := by
  cases hg : q.isG with
  | true =>
    rw [val_atG v (mem_gts.mpr ⟨h, hg⟩) fun p => V.ref (kA p.nm)]
    rfl
  | false =>
    unfold dKinds
    rw [valV_of, find_none]
    · rfl
    · intro r hr
      have m := mem_gts.mp (List.mem_reverse.mp hr)
      refine decide_eq_false fun z => ?_
      have e := same_nm v m.1 h (inr_iff.mp z)
      rw [← e, m.2] at hg
      cases hg
section
variable {P : Program} {w : World} {K : W.Frag} {mg : Str → Option Value} {base : Heap} {f C CK aL aT : Addr} {mc mk : Value} {σ : L2.St} {H : Hp}
theorem ev_meth {ta : TE} {t : TA} {a : Addr} {fs : List (Str × V)} {m : Str} {sp : Sp} {E : XK} {vs : List V} {z : V} (h : Ev ta σ H (.ref a)) (ha : ∃ dx, H a = some (.ins C dx fs)) (hm : fs.lookup m = none) (ht : EvA t σ H vs) (hs : SpV sp (.ref a :: vs) H z) : Ev (tMeth C m sp [] E ta t) σ H z := fun H1 e1 Q q =>
  h H1 e1 _ fun H2 e2 => by
    obtain ⟨dx, hd⟩ := ha
    refine ⟨a, dx, fs, rfl, e2 _ _ (e1 _ _ hd), hm, ht H2 (e1.trans e2) _ fun H3 e3 => ?_⟩
    rw [List.append_nil]
    exact hs H3 ((e1.trans e2).trans e3) Q (fun H4 e4 => q H4 ((e2.trans e3).trans e4)) E
theorem el_hosts {a ts : Addr} {x2 x3 : Option V} {d : WD} {fs : List (Str × V)} {kA aA : Str → Addr} {rs : List Pt} (T : WF K mg C mc) (fl : Fl C H a d fs) (bs : Bs CK H d kA aA rs) (ne : d.Ne) (vd : Vd rs) (Q : VK)
    (q : ∀ p H1, H p = none → Ex H H1 → H1 p = some (.lst (((rs.filter fun p => !p.isG).map Pt.nm).reverse.map V.str)) → Q (.ref p) H1) :
    tLockE (tLc (iKeys (tFld K (tVar 0) "_realms")) (gName 4) (tB (tDNotIn (tVar 4) (tFld K (tVar 0) "_kinds"))) (tVar 4) [4]) [some (.ref a), some (.ref ts), x2, x3, none] H Q := by
  refine ⟨d.dr, .dK (dRealm rs), bs.r, True.intro, fun od => ?_⟩
  generalize hF : upd H d.dr (.frz od (.dK (dRealm rs))) = F
  have Fr : F d.dr = some (.frz od (.dK (dRealm rs))) := by rw [← hF]; exact upd_same
  have Fo : ∀ {c : Addr} {o : HO}, c ≠ d.dr → H c = some o → F c = some o := fun n h => by rw [← hF, upd_ne n]; exact h
  obtain ⟨dx, ha⟩ := fl.at_
  have Fa : F a = some (.ins C dx fs) := Fo (ne_of_obj ha bs.r fun z => by cases z) ha
  have Fk : F d.dk = some (.dK (dKinds kA rs)) := Fo ne.kr bs.k
  refine ⟨.ref a, rfl, a, C, dx, fs, _, rfl, Fa, T.cl, T.nR, fl.dr, d.dr, od, rfl, .inl ⟨_, Fr, fun Dl hD => ?_⟩⟩
  have l14 := len14 vd
  have lr : (dRealm rs).length = rs.reverse.length := by rw [len_dr, List.length_reverse]
  have kvi : ∀ {i : Nat} {k : Key} {v : V}, (dRealm rs)[i]? = some (k, v) → ∃ p ∈ rs, rs.reverse.getD i ⟨none, "", "", 0⟩ = p ∧ k = Sum.inr p.nm := fun {i k v} h => by
    unfold dRealm at h
    rw [List.getElem?_map] at h
    cases e : rs.reverse[i]? with
    | none => rw [e] at h; cases h
    | some p =>
      rw [e] at h
      refine ⟨p, List.mem_reverse.mp (List.mem_of_getElem? e), ?_, ?_⟩
      · rw [List.getD_eq_getElem?_getD, e]
        rfl
      · exact (congrArg Prod.fst (Option.some.inj h)).symm
  refine lc_it walk_keys (Cw F (fun i => !(rs.reverse.getD i ⟨none, "", "", 0⟩).isG) (fun i => .str (rs.reverse.getD i ⟨none, "", "", 0⟩).nm) Dl) ⟨hD, Ex.new hD, upd_same⟩ (fun _ _ _ p => p.2.1 _ _ Fr) (fun i x H2 H3 hi p y => ?_) (fun H' p => ⟨p.2.1 _ _ Fr, ?_⟩)
  · obtain ⟨rfl, k, v, hk, rfl⟩ := y
    obtain ⟨r, hr, e1, rfl⟩ := kvi hk
    refine ⟨rfl, cw_turn p (Nat.lt_of_lt_of_le (show i < 15 by rw [len_dr] at hi; omega) (by decide)) (et_B (ev_is (ev_dnin (k := Sum.inr r.nm) (ev_var rfl) (ev_f T.cl T.nK (ev_var rfl) ⟨dx, Fa⟩ fl.dk) Fk) ?_)) (fun _ => ev_is (ev_var rfl) ?_)⟩
    · rw [e1, val_kinds vd hr]
    · rw [e1]
      rfl
  · have nD : Dl ≠ d.dr := (ne_of_none Fr hD).symm
    have HD : H Dl = none := by
      rw [← hF, upd_ne nD] at hD
      exact hD
    refine q Dl _ HD (fun c o h => ?_) ?_
    · by_cases z : c = d.dr
      · rw [z, bs.r] at h
        rw [z, ← Option.some.inj h]
        exact upd_same
      · rw [upd_ne z]
        exact p.2.1 _ _ (Fo z h)
    · rw [upd_ne nD, p.2.2, lr]
      have g := given_getD rs.reverse ⟨none, "", "", 0⟩ (fun p => !p.isG) (fun p => V.str p.nm)
      have e : given rs.reverse.length (fun i => !(rs.reverse.getD i ⟨none, "", "", 0⟩).isG) (fun i => V.str (rs.reverse.getD i ⟨none, "", "", 0⟩).nm) = (((rs.filter fun p => !p.isG).map Pt.nm).reverse.map V.str) := by
        rw [g, List.filter_reverse, List.map_reverse, List.map_reverse, List.map_map]
        rfl
      exact congrArg (fun z => some (HO.lst z)) e
end
end L2.Mj
set_option maxRecDepth 100000
set_option maxHeartbeats 8000000
namespace L2.Mj
open PySem PySem.Spec PyProof.Rows L2 Mx L2.Mb Evl Mv TL LamX Sr Srt SrtO NdefX
/-! ### what stays where an object a is written -/
section
variable {K : W.Frag} {C CK a : Addr} {H H' G : Hp} {d : WD} {fs : List (Str × V)}
theorem ButA.refl (a : Addr) (H : Hp) : ButA a H H := fun _ _ _ h _ => h
theorem ButA.trans (x : ButA a H H') (y : ButA a H' G) : ButA a H G := fun c o n h t => y c o n (x c o n h t) t
theorem ButA.n (e : ExtN H H') : ButA a H H' := fun c o _ h t => e c o h t
theorem ButA.x (e : Ex H H') : ButA a H H' := fun c o _ h _ => e c o h
theorem ButA.put {o : HO} : ButA a H (upd H a o) := fun c _ n h _ => (upd_ne n).trans h
theorem BtA.but (b : BtA a H H') : ButA a H H' := fun c o n h _ => b c o n h
theorem Fl.put {x : Str} {v : V} {dx : Addr} (h : Fl C H a d fs) (hx : x = "_gates" ∨ x = "_hosts") (ha : H' a = some (.ins C dx (putF x v fs))) : Fl C H' a d (putF x v fs) := by
  refine ⟨⟨dx, ha⟩, ?_, ?_, ?_, ?_, ?_, ?_, fun m hm => ?_⟩
  · rw [lookup_putF, if_neg (by rcases hx with rfl | rfl <;> decide)]
    exact h.ts
  · rw [lookup_putF, if_neg (by rcases hx with rfl | rfl <;> decide)]
    exact h.dk
  · rw [lookup_putF, if_neg (by rcases hx with rfl | rfl <;> decide)]
    exact h.da
  · rw [lookup_putF, if_neg (by rcases hx with rfl | rfl <;> decide)]
    exact h.dr
  · rw [lookup_putF, if_neg (by rcases hx with rfl | rfl <;> decide)]
    exact h.dp
  · rw [lookup_putF, if_neg (by rcases hx with rfl | rfl <;> decide)]
    exact h.du
  · rw [lookup_putF, if_neg (fun z => by
      rw [z] at hm
      revert hm
      rcases hx with rfl | rfl <;> decide)]
    exact h.me m hm
theorem kat_ne {c : Addr} {k : Kd} (h : KAt CK H c k) (f : Fl C H a d fs) : c ≠ a := fun z => by
  obtain ⟨dx, h1⟩ := h
  obtain ⟨dx2, h2⟩ := f.at_
  rw [z, h2] at h1
  have e := Option.some.inj h1
  injection e with _ _ e3
  have y := f.ts
  rw [e3] at y
  have y2 : k.fs.lookup ("_parts" : Str) = none := rfl
  rw [y2] at y
  cases y
theorem ne_fl {c : Addr} {o : HO} (h : H c = some o) (f : Fl C H a d fs) (n : ∀ dx gs, o ≠ .ins C dx gs) : c ≠ a := fun z => by
  obtain ⟨dx2, h2⟩ := f.at_
  rw [z, h2] at h
  exact n _ _ (Option.some.inj h).symm
theorem Bs.but {kA aA : Str → Addr} {rs : List Pt} (b : Bs CK H d kA aA rs) (f : Fl C H a d fs) (e : ButA a H H') : Bs CK H' d kA aA rs := by
  refine ⟨?_, ?_, ?_, ?_, ?_, ?_, fun p hp => ?_, fun p hp k hk => ?_⟩
  · exact e _ _ (ne_fl b.k f fun _ _ z => by cases z) b.k fun _ z => by cases z
  · exact e _ _ (ne_fl b.a f fun _ _ z => by cases z) b.a fun _ z => by cases z
  · exact e _ _ (ne_fl b.r f fun _ _ z => by cases z) b.r fun _ z => by cases z
  · exact e _ _ (ne_fl b.p f fun _ _ z => by cases z) b.p fun _ z => by cases z
  · exact e _ _ (ne_fl b.u f fun _ _ z => by cases z) b.u fun _ z => by cases z
  · exact e _ _ (ne_fl b.u0 f fun _ _ z => by cases z) b.u0 fun _ z => by cases z
  · exact e _ _ (ne_fl (b.ch p hp) f fun _ _ z => by cases z) (b.ch p hp) fun _ z => by cases z
  · have z := b.kd p hp k hk
    have n := kat_ne z f
    exact z.elim fun dx y => ⟨dx, e _ _ n y fun _ w => by cases w⟩
theorem PartAt.but {t ka : Addr} {p : Pt} (b : PartAt K CK H t ka p) (f : Fl C H a d fs) (e : ButA a H H') : PartAt K CK H' t ka p := by
  refine ⟨?_, fun k hk => ?_⟩
  · exact e _ _ (ne_fl b.t f fun _ _ z => by cases z) b.t fun _ z => by cases z
  have z := b.k k hk
  have n := kat_ne z f
  exact z.elim fun dx y => ⟨dx, e _ _ n y fun _ w => by cases w⟩
theorem tabs_put {Tt : List (Addr × Str)} (ha : ∃ dx gs, H a = some (.ins C dx gs)) (t : Tabs Tt H) (b : BtA a H G) : Tabs Tt G := fun q hq => by
  obtain ⟨dx, gs, ha⟩ := ha
  obtain ⟨ps, h1, h2, h3⟩ := t q hq
  refine ⟨ps, b _ _ (fun z => ?_) h1, h2, fun pos cv hc => ?_⟩
  · rw [z, ha] at h1
    cases h1
  · obtain ⟨c, e1, e2⟩ := h3 pos cv hc
    refine ⟨c, e1, b _ _ (fun z => ?_) e2⟩
    rw [z, ha] at e2
    cases e2
theorem tabs_w {Tt : List (Addr × Str)} {lk la lr lu : List (Key × V)} {lp : List (List Key × V)} (x : Bx H d lk la lr lp lu) (t : Tabs Tt H) (b : ButW d H G) : Tabs Tt G := fun q hq => by
  obtain ⟨ps, h1, h2, h3⟩ := t q hq
  refine ⟨ps, b _ _ (ne_of_obj h1 x.k fun z => by cases z) (ne_of_obj h1 x.a fun z => by cases z) (ne_of_obj h1 x.r fun z => by cases z) (ne_of_obj h1 x.p fun z => by cases z) (ne_of_obj h1 x.u fun z => by cases z) h1, h2, fun pos cv hc => ?_⟩
  obtain ⟨c, e1, e2⟩ := h3 pos cv hc
  exact ⟨c, e1, b _ _ (ne_of_obj e2 x.k fun z => by cases z) (ne_of_obj e2 x.a fun z => by cases z) (ne_of_obj e2 x.r fun z => by cases z) (ne_of_obj e2 x.p fun z => by cases z) (ne_of_obj e2 x.u fun z => by cases z) e2⟩
end
section
variable {K : W.Frag} {σ : L2.St} {H : Hp} {D : Ends} {ta tv te : TE} {tz : TS} {a : Addr} {C dx : Addr} {fs : List (Str × V)}
theorem q_fldG {x : Str} {G : Addr → Hp → Prop} (hv : ∀ Q : VK, (∀ p H1, G p H1 → Ex H H1 → Q (.ref p) H1) → tv σ H Q) (ho : ∀ H1, Ex H H1 → Ev ta σ H1 (.ref a)) (ha : H a = some (.ins C dx fs)) (cl : Cls K C) (n : NoAttr K C x) (hl : fs.length < 1000)
    (kk : ∀ p H1 H2, G p H1 → Ex H H1 → Ex H1 H2 → tz D σ (upd H2 a (.ins C dx (putF x (.ref p) fs)))) : tSeq (sFld K ta tv x) tz D σ H :=
  hv _ fun p H1 g e1 => ho H1 e1 _ (Ex.refl _) _ fun H2 e2 => ⟨a, C, dx, fs, rfl, (e1.trans e2) _ _ ha, cl, n, hl, kk p H1 H2 g e1 e2⟩
theorem s_fldG {x : Str} {G : Addr → Hp → Prop} (hv : ∀ Q : VK, (∀ p H1, G p H1 → Ex H H1 → Q (.ref p) H1) → tv σ H Q) (ho : ∀ H1, Ex H H1 → Ev ta σ H1 (.ref a)) (ha : H a = some (.ins C dx fs)) (cl : Cls K C) (n : NoAttr K C x) (hl : fs.length < 1000)
    (kk : ∀ p H1 H2, G p H1 → Ex H H1 → Ex H1 H2 → D.nx σ (upd H2 a (.ins C dx (putF x (.ref p) fs)))) : sFld K ta tv x D σ H :=
  hv _ fun p H1 g e1 => ho H1 e1 _ (Ex.refl _) _ fun H2 e2 => ⟨a, C, dx, fs, rfl, (e1.trans e2) _ _ ha, cl, n, hl, kk p H1 H2 g e1 e2⟩
end
theorem putF_len (x : Str) (v : V) : ∀ fs : List (Str × V), (putF x v fs).length ≤ fs.length + 1
  | [] => Nat.le_refl _
  | (g, y) :: r => by
    show (if g = x then (g, v) :: r else (g, y) :: putF x v r).length ≤ _
    split
    · exact Nat.le_succ _
    · exact Nat.succ_le_succ (putF_len x v r)
end L2.Mj
set_option maxRecDepth 100000
set_option maxHeartbeats 8000000
namespace L2.Mj
open PySem PySem.Spec PyProof.Rows L2 Mx L2.Mb Evl Mv TL LamX Sr Srt SrtO NdefX
section
variable {P : Program} {w : World} {K : W.Frag} {mg : Str → Option Value} {base : Heap} {f C CK aL aT : Addr} {mc mk : Value}
theorem ok_winit {fP f1 f2 f3 : Addr} {dP d1 d2 d3 : FuncData} {Tt : List (Addr × Str)} {oc doc pm ct : Value} {an od : Option Addr} {osl : Array (Option Value)} (B : Bt mg) (T : WF K mg C mc)
    (DP : Fn0 P w K mg base "_is_part" 3 fP dP p_is_part (spPrt K CK)) (M1 : Mt P w K mg base C "_check_place" 1 ["self", "index", "part"] (spCP K C CK) f1 d1) (M2 : Mt P w K mg base C "_check_number" 1 ["self", "index", "part"] (spCP K C CK) f2 d2) (M3 : Mt P w K mg base C "_take" 1 ["self", "part"] (spTk K C CK) f3 d3)
    (lk : K.lookup f = some ⟨oc, od, .func (W.fnOf "__init__" "World.__init__" (defArgs s_World_init) (defBody s_World_init) (defScope s_World_init) .none .none doc pm an (.ref c) ct), osl⟩) (hcd : W.codeIn K (.ref c) "World.__init__" = true) :
    FnR P w K mg base CX0 5 f (fun vs H Q E => ∃ ws rest, vs = ws ++ rest ∧ ws.length = 1 ∧ rest.length ≤ sizeLine ∧ ∀ p, H p = none → spWI K C CK Tt (ws ++ [V.ref p]) (upd H p (.tup rest)) Q E) := by
  refine StX.fn_star (ps := ["self"]) (pv := "parts") (N := n_World_init) lk hcd sc_World_init StX.cxUp_none (StX.bind_star1 (p1 := "self") (pv := "parts") (B := fun us => bindArgs (W.fnOf "__init__" "World.__init__" (defArgs s_World_init) (defBody s_World_init) (defScope s_World_init) .none .none doc pm an (.ref c) ct) ⟨us, []⟩) (fun a => by rfl) (fun a r rs => by rfl)) fun A outer s H vs Q E hr h => ?_
  obtain ⟨a, ts, dx, l, rfl, ha, hts, hpt, vd, hT, k⟩ := h
  have nd := sc_World_init.nd
  have hu1 := Nat.lt_of_le_of_lt (Nat.add_le_add_left (show 1 ≤ 64 by decide) _) hr.units
  have hu2 := (hr.mono (show 2 ≤ 4 by decide)).in1.in1.units0
  have hr2 := (hr.mono (show 3 ≤ 4 by decide)).in1.in1
  refine ⟨_, PSs.nox (pss_cons (ps_fld (pv 0) (pv 1) rfl) (pss_cons (ps_fld (pv 0) pe_dnewK rfl) (pss_cons (ps_fld (pv 0) pe_dnewK rfl) (pss_cons (ps_fld (pv 0) pe_dnewK rfl) (pss_cons (ps_fld (pv 0) pe_dnewT rfl)
    (pss_cons (ps_fld (pv 0) (pe_disp (pps_cons pe_str (pe_tup pa_nil) pps_nil) rfl rfl (by simp) (by decide)) rfl)
    (pss_cons (ps_for PassesOwn.never rfl (pi_enumT (by rfl) B.enumerate (pa_cons (pv 1) pa_nil)) (pg_tup rfl (pgs_cons (pg_name (i := 2) nd rfl (Or.inl rfl)) (pgs_cons (pg_name (i := 3) nd rfl (Or.inl rfl)) pgs_nil)))
      (pss_cons (ps_if (pt_not (pt_val (pe_call DP.ok (hr.mono (by decide)) (by rfl) DP.m DP.k DP.b .nil pass0 (pa_cons (pv 3) pa_nil)))) (pss_one ps_never) pss_nil)
      (pss_cons (ps_expr (pe_meth (pv 0) T.cl M1.me M1.ok (hr.mono (by decide)) M1.b .nil pass0 (pa_cons (pv 2) (pa_cons (pv 3) pa_nil))))
      (pss_cons (ps_expr (pe_meth (pv 0) T.cl M2.me M2.ok (hr.mono (by decide)) M2.b .nil pass0 (pa_cons (pv 2) (pa_cons (pv 3) pa_nil))))
      (pss_one (ps_expr (pe_meth (pv 0) T.cl M3.me M3.ok (hr.mono (by decide)) M3.b .nil pass0 (pa_cons (pv 3) pa_nil))))))))
    (pss_cons (ps_fld (pv 0) (pe_callTy call_tuple_of (by rfl) B.tuple (by decide +kernel) (pa_cons (pe_callB (cr_sortD hu2) (by rfl) B.sorted (by decide +kernel) (pa_cons (pe_callTy (call_listD rfl) (by rfl) B.list (by decide +kernel) (pa_cons (pe_fld (pv 0) rfl) pa_nil)) pa_nil)) pa_nil)) rfl)
    (pss_one (ps_fld (pv 0) (pe_callTy call_tuple_of (by rfl) B.tuple (by decide +kernel) (pa_cons (pe_callB (cr_sortD hu2) (by rfl) B.sorted (by decide +kernel) (pa_cons (pe_lock (pe_lc (own := [("name", 4)]) (g := gName 4) (tt := tB (tDNotIn (tVar 4) (tFld K (tVar 0) "_kinds"))) (by rfl) nd (pi_keys (pe_fld (pv 0) rfl)) (blkOk_by (N := n_World_init) (sc := defScope s_World_init) (by decide +kernel)) (fun _ _ _ _ _ => pg_name (i := 4) nd rfl (Or.inl rfl))
      (fun _ _ _ _ _ => pts_one (pt_cmp (pc_dnotin hu1 (pv 4) (pe_fld (pv 0) rfl)))) (fun _ _ _ _ _ => pv 4))) pa_nil)) pa_nil)) rfl)))))))))), ?_⟩
  have fr0 : ∀ {G : Hp} {q : Addr}, BtA a H G → G q = none → q ≠ a → H q = none := fun b n z => by
    rename_i G q
    cases e : H q with
    | none => rfl
    | some o => rw [b q o z e] at n; cases n
  -- the fields
  refine q_fld (v := .ref ts) (ev_var rfl) (ev_var rfl) ha T.cl T.nP (by show 0 < 1000; decide) fun H1 e1 => ?_
  have B1 : BtA a H (upd H1 a (.ins C dx (putF "_parts" (.ref ts) []))) := ((BtA.refl a H).ex e1).put
  refine q_fldK (fun _ _ => ev_var rfl) upd_same T.cl T.nK (by show 1 < 1000; decide) fun dk H2 nk e2 hk => ?_
  have ak : a ≠ dk := ne_of_none upd_same nk
  have B2 := (B1.ex e2).put (o := .ins C dx (putF "_kinds" (.ref dk) (putF "_parts" (.ref ts) [])))
  have k2 : (upd H2 a (.ins C dx (putF "_kinds" (.ref dk) (putF "_parts" (.ref ts) [])))) dk = some (.dK []) := (upd_ne ak.symm).trans hk
  refine q_fldK (fun _ _ => ev_var rfl) upd_same T.cl T.nA (by show 2 < 1000; decide) fun da H3 na e3 hda => ?_
  have aa : a ≠ da := ne_of_none upd_same na
  have kka : dk ≠ da := ne_of_none k2 na
  have B3 := (B2.ex e3).put (o := .ins C dx (putF "_addresses" (.ref da) (putF "_kinds" (.ref dk) (putF "_parts" (.ref ts) []))))
  have k3 := (upd_ne (o := .ins C dx (putF "_addresses" (.ref da) (putF "_kinds" (.ref dk) (putF "_parts" (.ref ts) [])))) ak.symm).trans (e3 _ _ k2)
  have a3 := (upd_ne (o := .ins C dx (putF "_addresses" (.ref da) (putF "_kinds" (.ref dk) (putF "_parts" (.ref ts) [])))) aa.symm).trans hda
  refine q_fldK (fun _ _ => ev_var rfl) upd_same T.cl T.nR (by show 3 < 1000; decide) fun dr H4 nr e4 hdr => ?_
  generalize hf4 : putF "_realms" (.ref dr) (putF "_addresses" (.ref da) (putF "_kinds" (.ref dk) (putF "_parts" (.ref ts) []))) = f4
  have ar : a ≠ dr := ne_of_none upd_same nr
  have kr : dk ≠ dr := ne_of_none k3 nr
  have aar : da ≠ dr := ne_of_none a3 nr
  have B4 := (B3.ex e4).put (o := .ins C dx f4)
  have k4 := (upd_ne (o := .ins C dx f4) ak.symm).trans (e4 _ _ k3)
  have a4 := (upd_ne (o := .ins C dx f4) aa.symm).trans (e4 _ _ a3)
  have r4 := (upd_ne (o := .ins C dx f4) ar.symm).trans hdr
  refine q_fldT (fun _ _ => ev_var rfl) upd_same T.cl T.nL (by rw [← hf4]; show 4 < 1000; decide) fun dp H5 np e5 hdp => ?_
  generalize hf5 : putF "_places" (.ref dp) f4 = f5
  have ap : a ≠ dp := ne_of_none upd_same np
  have kp : dk ≠ dp := ne_of_none k4 np
  have aap : da ≠ dp := ne_of_none a4 np
  have rp : dr ≠ dp := ne_of_none r4 np
  have B5 := (B4.ex e5).put (o := .ins C dx f5)
  have k5 := (upd_ne (o := .ins C dx f5) ak.symm).trans (e5 _ _ k4)
  have a5 := (upd_ne (o := .ins C dx f5) aa.symm).trans (e5 _ _ a4)
  have r5 := (upd_ne (o := .ins C dx f5) ar.symm).trans (e5 _ _ r4)
  have p5 := (upd_ne (o := .ins C dx f5) ap.symm).trans hdp
  refine q_fldU (fun _ _ => ev_var rfl) upd_same T.cl T.nU (by rw [← hf5, ← hf4]; show 5 < 1000; decide) fun du a0 H6 nu n0 e6 hdu h0 => ?_
  generalize hf6 : putF "_around" (.ref du) f5 = f6
  have au : a ≠ du := ne_of_none upd_same nu
  have au0 : a ≠ a0 := ne_of_none upd_same n0
  have B6 := (B5.ex e6).put (o := .ins C dx f6)
  generalize hG : upd H6 a (.ins C dx f6) = G at B6
  have ga : G a = some (.ins C dx f6) := by rw [← hG]; exact upd_same
  have gx : ∀ {c : Addr} {o : HO}, a ≠ c → H6 c = some o → G c = some o := fun n h => by rw [← hG, upd_ne n.symm]; exact h
  let d : WD := ⟨ts, dk, da, dr, dp, du, a0⟩
  have ne : d.Ne := ⟨kka, kr, kp, ne_of_none k5 nu, aar, aap, ne_of_none a5 nu, rp, ne_of_none r5 nu, ne_of_none p5 nu⟩
  have fl : Fl C G a d f6 := by
    refine ⟨⟨dx, ga⟩, ?_, ?_, ?_, ?_, ?_, ?_, fun m hm => ?_⟩
    all_goals rw [← hf6, ← hf5, ← hf4]
    all_goals first
      | rfl
      | skip
    simp only [methW, List.mem_cons, List.not_mem_nil, or_false] at hm
    rcases hm with rfl | rfl | rfl | rfl | rfl | rfl | rfl | rfl | rfl | rfl | rfl | rfl | rfl | rfl <;> rfl
  have bs : Bs CK G d (fun _ => 0) (fun _ => 0) (rsOf (l.take 0)) := ⟨gx ak (e6 _ _ k5), gx aa (e6 _ _ a5), gx ar (e6 _ _ r5), gx ap (e6 _ _ p5), gx au hdu, gx au0 h0, fun p hp => absurd hp List.not_mem_nil, fun p hp => absurd hp List.not_mem_nil⟩
  have hta : ts ≠ a := fun z => by rw [z, ha] at hts; cases hts
  have gts : G ts = some (.tup (l.map fun x => .ref x.t)) := B6 _ _ hta hts
  have pta : ∀ {G' : Hp}, BtA a H G' → ∀ x ∈ l, PartAt K CK G' x.t x.k x.p := fun b x hx => by
    have z := hpt x hx
    refine ⟨b _ _ (fun y => ?_) z.t, fun kk hk => ?_⟩
    · have z1 := z.t
      rw [y, ha] at z1
      cases z1
    · obtain ⟨dx2, z2⟩ := z.k kk hk
      refine ⟨dx2, b _ _ (fun y => ?_) z2⟩
      rw [y, ha] at z2
      have z3 := Option.some.inj z2
      injection z3 with _ _ z4
      exact absurd z4 (by unfold Kd.fs; intro w; cases w)
  have T6 : Tabs Tt G := tabs_put ⟨dx, [], ha⟩ hT B6
  have pt6 := pta B6
  have x0 := bs.x
  have hdk0 : H dk = none := fr0 B1 nk ak.symm
  have hda0 : H da = none := fr0 B2 na aa.symm
  have hdr0 : H dr = none := fr0 B3 nr ar.symm
  have hdp0 : H dp = none := fr0 B4 np ap.symm
  have hdu0 : H du = none := fr0 B5 nu au.symm
  -- the parts
  refine ⟨_, rfl, ts, _, rfl, st_of gts, for_it walk_enumT (fun i σ' H' => ∃ x2 x3 kA aA, σ' = [some (.ref a), some (.ref ts), x2, x3, none] ∧ Bs CK H' d kA aA (rsOf (l.take i)) ∧ ButW d G H') ⟨none, none, _, _, rfl, bs, ButW.refl _ _⟩ (fun i σ' H' hi ⟨x2, x3, kA, aA, e, b, wi⟩ => st_of (x0.tup wi gts)) (fun i x σ' H' H'' hi ⟨x2, x3, kA, aA, e, bsi, wi⟩ y => ?_) (fun σ' H7 ⟨x2, x3, kA, aA, e, bs7, w7⟩ => ?_)⟩
  · subst e
    obtain ⟨T', v1, v2, rfl, nT, rfl, e1, e2⟩ := y
    obtain rfl : V.int (i : Nat) = v1 := Option.some.inj e1
    replace e2 : (l.map fun x => V.ref x.t)[i]? = some v2 := e2
    rw [List.getElem?_map] at e2
    obtain ⟨xi, hxi⟩ : ∃ xi, l[i]? = some xi := by
      cases z : l[i]? with
      | none => rw [z] at e2; cases e2
      | some xi => exact ⟨xi, rfl⟩
    rw [hxi] at e2
    obtain rfl : V.ref xi.t = v2 := Option.some.inj e2
    have mem : xi ∈ l := List.mem_of_getElem? hxi
    obtain ⟨rr, hrr⟩ := rs_split hxi
    have vd2 : Vd (xi.p :: rsOf (l.take i)) := Vd.app (xs := rr) (by rw [← hrr]; exact vd)
    have ok := vd2.head
    refine ⟨T', _, rfl, st_of upd_same, rfl, _, _, rfl, _, _, rfl, rfl, ?_⟩
    have e7 : Ex H' (upd H' T' (.tup [.int (i : Nat), .ref xi.t])) := Ex.new nT
    have w7 := wi.trans (ButW.ex e7)
    have fl7 := x0.fl w7 fl
    have bs7 := bsi.mono (ex_extn e7)
    have pt7 := x0.part w7 (pt6 xi mem)
    refine q_when (b := !true) (et_not (et_B (ev_call (z := .bl true) (ea_cons (ev_var rfl) ea_nil) (fun H9 e9 Q9 q9 E9 => ⟨xi.t, xi.k, xi.p, rfl, pt7.mono e9, ok.ok, fun H8 e8 => q9 H8 e8⟩)))) (fun z => by cases z) (fun _ H8 e8 => ?_)
    have fl8 := fl7.mono (ex_extn e8)
    have bs8 := bs7.mono (ex_extn e8)
    have pt8 := pt7.mono e8
    refine q_drop (ev_meth (z := .non) (ev_var rfl) fl8.at_ (fl8.me _ (by simp [methW])) (ea_cons (ev_var rfl) (ea_cons (ev_var rfl) ea_nil)) (fun H9 e9 Q9 q9 E9 => ⟨a, xi.t, xi.k, _, d, f6, kA, aA, _, xi.p, rfl, fl8.mono (ex_extn e9), bs8.mono (ex_extn e9), pt8.mono e9, vd2.tail, ok, fun H8 e8 => q9 H8 e8⟩)) fun H9 e9 => ?_
    have fl9 := fl8.mono (ex_extn e9)
    have bs9 := bs8.mono (ex_extn e9)
    have pt9 := pt8.mono e9
    refine q_drop (ev_meth (z := .non) (ev_var rfl) fl9.at_ (fl9.me _ (by simp [methW])) (ea_cons (ev_var rfl) (ea_cons (ev_var rfl) ea_nil)) (fun H9 e9 Q9 q9 E9 => ⟨a, xi.t, xi.k, _, d, f6, kA, aA, _, xi.p, rfl, fl9.mono (ex_extn e9), bs9.mono (ex_extn e9), pt9.mono e9, vd2.tail, ok, fun H8 e8 => q9 H8 e8⟩)) fun H10 e10 => ?_
    have fl10 := fl9.mono (ex_extn e10)
    obtain ⟨dx10, at10⟩ := fl10.at_
    refine ⟨_, rfl, a, dx10, f6, rfl, at10, fl10.me _ (by simp [methW]), _, rfl, a, xi.t, xi.k, d, f6, kA, aA, _, xi.p, rfl, fl10, ne, bs9.mono (ex_extn e10), pt9.mono e10, vd2.tail, ok, fun H11 kA' aA' bs11 w11 => ⟨_, _, kA', aA', rfl, ?_, ?_⟩⟩
    · rw [rs_take hxi]
      exact bs11
    · exact (w7.trans (ButW.ex ((e8.trans e9).trans e10))).trans w11
  · subst e
    rw [List.length_map, List.take_length] at bs7
    have fl7 := x0.fl w7 fl
    have l14 := len14 vd
    have lg := okA_len vd
    have tail : ∀ {L M : List Str}, L = M.reverse → ∀ {ys : List Str}, Nms ys L → Nms ys M := fun e ys n => ⟨n.p.trans (by rw [e]; exact List.reverse_perm _), n.s⟩
    have lf6 : f6.length ≤ 6 := by
      have z1 := putF_len "_around" (.ref du) f5
      have z2 := putF_len "_places" (.ref dp) f4
      rw [hf6] at z1
      rw [hf5] at z2
      have z3 : f4.length = 4 := by
        rw [← hf4]
        rfl
      omega
    obtain ⟨dx7, at7⟩ := fl7.at_
    -- the gates
    dsimp only
    refine q_fldG (G := fun p H8 => H7 p = none ∧ ∃ ys, Nms ys ((L2.Mj.gts (rsOf l)).map L2.Mj.Pt.nm) ∧ H8 p = some (.tup (ys.map V.str))) (fun Q8 q8 => ?_) (fun _ _ => ev_var rfl) at7 T.cl T.nG (by omega) fun ag H8 H9 ⟨nag, gs, ngs, hgs⟩ e8 e9 => ?_
    · refine (ev_f (H := H7) T.cl T.nK (ev_var rfl) fl7.at_ fl7.dk) H7 (Ex.refl _) _ fun H8 e8 => ⟨d.dk, _, rfl, .inl (e8 _ _ bs7.k), fun q1 n1 => ?_⟩
      simp only [tCons, tNil]
      refine sort_strs (xs := ((L2.Mj.gts (rsOf l)).map L2.Mj.Pt.nm).reverse) ?_ fun ys q2 ny n2 => ⟨q2, _, rfl, .inl ⟨sq_of upd_same, fun q3 n3 => ?_⟩⟩
      · rw [upd_same]
        refine congrArg (fun z => some (HO.lst z)) ?_
        unfold dKinds
        rw [List.map_map, ← List.map_reverse, List.map_map]
        rfl
      · exact q8 q3 _ ⟨fresh_back ((e8.trans (Ex.new n1)).trans (Ex.new n2)) n3, ys, tail rfl ny, upd_same⟩ ((e8.trans (Ex.new n1)).trans ((Ex.new n2).trans (Ex.new n3)))
    have fl10 := (fl7.mono (ex_extn (e8.trans e9))).put (dx := dx7) (v := .ref ag) (x := "_gates") (.inl rfl) (upd_same (H := H9))
    have nea : ag ≠ a := fun z => by rw [z, at7] at nag; cases nag
    have h10 : (upd H9 a (.ins C dx7 (putF "_gates" (.ref ag) f6))) ag = some (.tup (gs.map V.str)) := (upd_ne nea).trans (e9 _ _ hgs)
    have b10 : ButA a H7 (upd H9 a (.ins C dx7 (putF "_gates" (.ref ag) f6))) := (ButA.x (e8.trans e9)).trans ButA.put
    generalize hf10 : putF "_gates" (.ref ag) f6 = f10 at fl10 h10 b10 ⊢
    have lf10 : f10.length ≤ 7 := by
      have z1 := putF_len "_gates" (.ref ag) f6
      rw [hf10] at z1
      omega
    generalize hH10 : upd H9 a (.ins C dx7 f10) = H10 at fl10 h10 b10 ⊢
    have at10 : H10 a = some (.ins C dx7 f10) := by rw [← hH10]; exact upd_same
    have bs10 := bs7.but fl7 b10
    -- the hosts
    refine s_fldG (G := fun p H8 => H10 p = none ∧ ∃ ys, Nms ys (((rsOf l).filter fun p => !p.isG).map L2.Mj.Pt.nm) ∧ H8 p = some (.tup (ys.map V.str))) (fun Q8 q8 => ?_) (fun _ _ => ev_var rfl) at10 T.cl T.nH (by omega) fun ah H11 H12 ⟨nah, hs, nhs, hhs⟩ e11 e12 => ?_
    · refine el_hosts T fl10 bs10 ne vd _ fun q1 H11 n1 e11 hq1 => ?_
      simp only [tCons, tNil]
      refine sort_strs hq1 fun ys q2 ny n2 => ⟨q2, _, rfl, .inl ⟨sq_of upd_same, fun q3 n3 => ?_⟩⟩
      exact q8 q3 _ ⟨fresh_back (e11.trans (Ex.new n2)) n3, ys, tail rfl ny, upd_same⟩ ((e11.trans (Ex.new n2)).trans (Ex.new n3))
    have fl13 := (fl10.mono (ex_extn (e11.trans e12))).put (dx := dx7) (v := .ref ah) (x := "_hosts") (.inr rfl) (upd_same (H := H12))
    have neh : ah ≠ a := fun z => by rw [z, at10] at nah; cases nah
    have g13 : (upd H12 a (.ins C dx7 (putF "_hosts" (.ref ah) f10))) ag = some (.tup (gs.map V.str)) := (upd_ne nea).trans ((e11.trans e12) _ _ h10)
    have h13 : (upd H12 a (.ins C dx7 (putF "_hosts" (.ref ah) f10))) ah = some (.tup (hs.map V.str)) := (upd_ne neh).trans (e12 _ _ hhs)
    have b13 : ButA a H10 (upd H12 a (.ins C dx7 (putF "_hosts" (.ref ah) f10))) := (ButA.x (e11.trans e12)).trans ButA.put
    generalize hf13 : putF "_hosts" (.ref ah) f10 = f13 at fl13 h13 g13 b13 ⊢
    have lf13 : f13.length ≤ 8 := by
      have z1 := putF_len "_hosts" (.ref ah) f10
      rw [hf13] at z1
      omega
    generalize hH13 : upd H12 a (.ins C dx7 f13) = H13 at fl13 h13 g13 b13 ⊢
    have at13 : H13 a = some (.ins C dx7 f13) := by rw [← hH13]; exact upd_same
    have bs13 := bs10.but fl10 b13
    have T7 : Tabs Tt H7 := tabs_w x0 T6 w7
    have T10 : Tabs Tt H10 := tabs_put ⟨dx7, f6, at7⟩ T7 (by rw [← hH10]; exact (BtA.refl a H7).ex (e8.trans e9) |>.put)
    have T13 : Tabs Tt H13 := tabs_put ⟨dx7, f10, at10⟩ T10 (by rw [← hH13]; exact (BtA.refl a H10).ex (e11.trans e12) |>.put)
    have b713 := b10.trans b13
    have ts13 : H13 ts = some (.tup (l.map fun x => .ref x.t)) := b713 _ _ hta (x0.tup w7 gts) fun _ z => by cases z
    have pt7 : ∀ x ∈ l, PartAt K CK H7 x.t x.k x.p := fun x hx => x0.part w7 (pt6 x hx)
    have pt13 : ∀ x ∈ l, PartAt K CK H13 x.t x.k x.p := fun x hx => (pt7 x hx).but fl7 b713
    have b713w : ButA a H H13 := fun c o n h t => b713 c o n (w7 c o (fun z => by rw [z] at h; exact absurd (h.symm.trans hdk0) (by simp)) (fun z => by rw [z] at h; exact absurd (h.symm.trans hda0) (by simp)) (fun z => by rw [z] at h; exact absurd (h.symm.trans hdr0) (by simp)) (fun z => by rw [z] at h; exact absurd (h.symm.trans hdp0) (by simp)) (fun z => by rw [z] at h; exact absurd (h.symm.trans hdu0) (by simp)) (B6 c o n h)) t
    refine k _ ⟨d, f13, kA, aA, ag, ah, gs, hs, ?_⟩ b713w T13 (fun dx8 fs8 h8 => by
      rw [at13] at h8
      injection h8 with h8
      injection h8 with _ _ h8
      rw [← h8]
      omega)
    refine ⟨fl13, bs13, ts13, pt13, vd, ?_, ?_, g13, h13, ngs, nhs⟩
    · rw [← hf13, lookup_putF, if_neg (by decide), ← hf10, lookup_putF, if_pos rfl]
    · rw [← hf13, lookup_putF, if_pos rfl]
end
end L2.Mj
set_option maxRecDepth 100000
set_option maxHeartbeats 4000000
namespace L2.Sr
open PySem PySem.Spec PyProof.Rows L2 StX
/-! ### C(*xs, y): a star ahead of others; C() by a positional promise -/
section
variable {M : Model} {A : Around} {E : Value → Shared → Prop} {s : Shared}
theorem evalArgs_two {f : Value} {x y : Sem Value} {b : Bool} {rest : List (Bool × Sem Value)} {Q : Args → Shared → Prop}
    (h : wpAny M A (spliced ((true, x) :: (b, y) :: rest)) (fun vs s' => Q ⟨vs, []⟩ s') E s) : wpAny M A (evalArgs f true ((true, x) :: (b, y) :: rest) []) Q E s := by
  unfold evalArgs
  show wpAny M A (spliced ((true, x) :: (b, y) :: rest) >>= _) Q E s
  refine wpAny_bind (wpAny_mono h (fun vs s' h' => ?_) fun _ _ x => x)
  refine wpAny_holding ?_
  exact wpAny_bind (wpAny_pure (wpAny_bind (wpAny_pure (wpAny_pure h'))))
theorem callWith_SF {K : PySem.W.Frag} {h₀ : Heap} {f : Value} {first : List Value} {pos p : Pos} {env : Env} {e e2 : Expr} {rest : List Expr} {Q : Value → Shared → Prop} (_X : K.In h₀) (hk : PySem.W.keepIn K f = true)
    (h : wpAny M A (spliced (backTo pos (starEach (.Starred e p :: e2 :: rest) env))) (fun vs s₁ => K.In s₁.heap ∧ wpAny M A (call f (first ++ vs)) Q E s₁) E s)
    (he : starEach (.Starred e p :: e2 :: rest) env = (true, eval e env) :: (false, eval e2 env) :: starEach rest env := by rfl) :
    wpAny M A (callWith pos f first (backTo pos (starEach (.Starred e p :: e2 :: rest) env)) []) Q E s := by
  rw [he] at h ⊢
  exact PySem.W.ks_call rfl (PySem.W.keeps_K hk) (evalArgs_two h)
end
section
variable {X : Cx} {CX : CXT} {k i : Nat} {f C : Addr} {sp : Sp} {E : XK} {x : Str} {e e2 : Expr} {es : List Expr} {te : TE} {t : TA} {p q pos : Pos}
theorem pe_makeS (M : Mk X.K C f) (F : FnR X.prog X.w X.K X.mg X.base CX k f sp) (hr : Room (k + 1) X.A) (hg : Gl X x) (hm : X.mg x = some (.ref C)) (hx : Passes CX X E) (ha : PA X (.Starred e q :: e2 :: es) t) (hdb : (x == ("__debug__" : Str)) = false := by decide)
    (he : starEach (.Starred e q :: e2 :: es) X.env = (true, eval e X.env) :: (false, eval e2 X.env) :: starEach es X.env := by rfl) : PE X (.Call (.Name x p) (.Starred e q :: e2 :: es) [] pos) (tMakeR C sp E t) := by
  refine ⟨fun pins s σ H Q I h => ?_⟩
  refine wpAny_Call_Name_kw (ld_glob I hg hm ?_ hdb)
  refine callWith_SF (h₀ := X.base) I.ok.mod.kin M.kp (thn (ha.run pos pins s σ H _ I h) fun us s1 ⟨vs, H1, I1, r, q⟩ => ⟨I1.kIn, ?_⟩) he
  exact run_makeR M F hr hx I1 r q
theorem pe_makeR0 (M : Mk X.K C f) (F : FnR X.prog X.w X.K X.mg X.base CX k f sp) (hr : Room (k + 1) X.A) (hg : Gl X x) (hm : X.mg x = some (.ref C)) (hx : Passes CX X E) (hdb : (x == ("__debug__" : Str)) = false := by decide) : PE X (.Call (.Name x p) [] [] pos) (tMakeR C sp E tNil) := by
  refine ⟨fun pins s σ H Q I h => ?_⟩
  refine wpAny_Call_Name_kw (ld_glob I hg hm ?_ hdb)
  exact PySem.W.callWith_K0 I.kIn M.kp (run_makeR (us := []) M F hr hx I .nil h)
end
end L2.Sr
set_option maxRecDepth 100000
set_option maxHeartbeats 8000000
namespace L2.Mj
open PySem PySem.Spec PyProof.Rows L2 Mx L2.Mb Evl Mv TL LamX Sr Srt SrtO NdefX
/-! ### worlds made -/
def spWM (K : W.Frag) (C CK : Addr) (Tt : List (Addr × Str)) : Sp := fun vs H Q E => ∃ ws rest, vs = ws ++ rest ∧ ws.length = 1 ∧ rest.length ≤ sizeLine ∧ ∀ p, H p = none → spWI K C CK Tt (ws ++ [V.ref p]) (upd H p (.tup rest)) Q E
/-- how a world is made -/
structure WMk (P : Program) (w : World) (K : W.Frag) (mg : Str → Option Value) (base : Heap) (C CK : Addr) (Tt : List (Addr × Str)) (fI : Addr) : Prop where
  made : Mk K C fI
  ok : FnR P w K mg base CX0 5 fI (spWM K C CK Tt)
theorem mk_world {K : W.Frag} {C CK : Addr} {Tt : List (Addr × Str)} {H : Hp} {Q : VK} {E : XK} {l : List Pl} (hp : ∀ x ∈ l, PartAt K CK H x.t x.k x.p) (vd : Vd (rsOf l)) (hT : Tabs Tt H) (q : ∀ b H', H b = none → ExtN H H' → WAt K C CK H' b l → Tabs Tt H' → Q (.ref b) H') :
    ∀ x dx, H x = none → H dx = none → dx ≠ x → spWM K C CK Tt (.ref x :: (l.map fun y => V.ref y.t)) (upd (upd H dx (.own x)) x (.ins C dx [])) (fun v H2 => v = .non ∧ Q (.ref x) H2) E := fun x dx nx nd ne => by
  have l14 := len14 vd
  have ll : l.length ≤ 14 := by
    unfold rsOf at l14
    rw [List.length_reverse, List.length_map] at l14
    exact l14
  refine ⟨[.ref x], l.map fun y => V.ref y.t, rfl, rfl, sz_of (by rw [List.length_map]; omega), fun p np => ?_⟩
  have at1 : (upd (upd H dx (.own x)) x (.ins C dx [])) x = some (.ins C dx []) := upd_same
  have xp : x ≠ p := ne_of_none at1 np
  have np0 : H p = none := upd_none (upd_none np)
  have e0 : Ex H (upd (upd (upd H dx (.own x)) x (.ins C dx [])) p (.tup (l.map fun y => V.ref y.t))) := fun c o h => by
    rw [upd_ne (ne_of_none h np0), upd_ne (ne_of_none h nx), upd_ne (ne_of_none h nd)]
    exact h
  refine ⟨x, p, dx, l, rfl, (upd_ne xp).trans at1, upd_same, fun y hy => (hp y hy).mono e0, vd, hT.ext e0, fun H' wt ba t' _ => ⟨rfl, q x H' nx (fun c o h n => ba c o (ne_of_none h nx) (e0 c o h) n) wt t'⟩⟩
theorem mk_worldL {K : W.Frag} {C CK : Addr} {Tt : List (Addr × Str)} {H : Hp} {Q : VK} {E : XK} {l : List Pl} (hp : ∀ x ∈ l, PartAt K CK H x.t x.k x.p) (vd : Vd (rsOf l)) (hT : Tabs Tt H) (q : ∀ b H', H b = none → ExtN H H' → WAt K C CK H' b l → Tabs Tt H' → (∀ dx fs, H' b = some (.ins C dx fs) → fs.length ≤ 8) → Q (.ref b) H') :
    ∀ x dx, H x = none → H dx = none → dx ≠ x → spWM K C CK Tt (.ref x :: (l.map fun y => V.ref y.t)) (upd (upd H dx (.own x)) x (.ins C dx [])) (fun v H2 => v = .non ∧ Q (.ref x) H2) E := fun x dx nx nd ne => by
  have l14 := len14 vd
  have ll : l.length ≤ 14 := by
    unfold rsOf at l14
    rw [List.length_reverse, List.length_map] at l14
    exact l14
  refine ⟨[.ref x], l.map fun y => V.ref y.t, rfl, rfl, sz_of (by rw [List.length_map]; omega), fun p np => ?_⟩
  have at1 : (upd (upd H dx (.own x)) x (.ins C dx [])) x = some (.ins C dx []) := upd_same
  have xp : x ≠ p := ne_of_none at1 np
  have np0 : H p = none := upd_none (upd_none np)
  have e0 : Ex H (upd (upd (upd H dx (.own x)) x (.ins C dx [])) p (.tup (l.map fun y => V.ref y.t))) := fun c o h => by
    rw [upd_ne (ne_of_none h np0), upd_ne (ne_of_none h nx), upd_ne (ne_of_none h nd)]
    exact h
  refine ⟨x, p, dx, l, rfl, (upd_ne xp).trans at1, upd_same, fun y hy => (hp y hy).mono e0, vd, hT.ext e0, fun H' wt ba t' ln => ⟨rfl, q x H' nx (fun c o h n => ba c o (ne_of_none h nx) (e0 c o h) n) wt t' ln⟩⟩
theorem rs_snoc (l : List Pl) (x : Pl) : rsOf (l ++ [x]) = x.p :: rsOf l := by
  unfold rsOf
  rw [List.map_append, List.reverse_append]
  rfl
def spWith (K : W.Frag) (C CK : Addr) (Tt : List (Addr × Str)) : Sp := fun vs H Q _ => ∃ (a : Addr) (x : Pl) (l : List Pl), vs = [.ref a, .ref x.t] ∧ WAt K C CK H a l ∧ PartAt K CK H x.t x.k x.p ∧ okA (rsOf l) x.p = true ∧ Tabs Tt H ∧
  ∀ b H', H b = none → ExtN H H' → WAt K C CK H' b (l ++ [x]) → Tabs Tt H' → Q (.ref b) H'
section
variable {P : Program} {w : World} {K : W.Frag} {mg : Str → Option Value} {base : Heap} {f fI C CK : Addr} {fd : FuncData} {mc : Value} {Tt : List (Addr × Str)} {σ : L2.St} {H : Hp}
theorem ok_with_part (T : WF K mg C mc) (M : WMk P w K mg base C CK Tt fI) {q : Str} (F : FnC K "with_part" q s_World_with_part [] f fd) : FnOk P w K mg base CX0 7 f fd ["self", "part"] (spWith K C CK Tt) := by
  refine F.ok sc_World_with_part (fun vs H Q E h => ?_) (fun cdv A outer s H vs Q E hr h => ?_)
  · obtain ⟨a, x, l, rfl, _⟩ := h
    rfl
  · obtain ⟨a, x, l, rfl, wt, pt, ok, hT, k⟩ := h
    refine ⟨_, PSs.nox (pss_one (ps_ret (pe_makeS M.made M.ok hr (by rfl) T.m pass0 (StX.pa_star (pe_fld (pv 0) rfl) (pa_cons (pv 1) pa_nil))))), ?_⟩
    obtain ⟨d, fs, kA, aA, ag, ah, gs, hs, z⟩ := wt
    obtain ⟨dx, ha⟩ := z.fl.at_
    refine ⟨.ref a, rfl, a, C, dx, fs, _, rfl, ha, T.cl, T.nP, z.fl.ts, d.ts, _, rfl, .inl (st_of z.ts), _, rfl, ?_⟩
    have e : (l.map fun y => V.ref y.t) ++ [V.ref x.t] = (l ++ [x]).map fun y => V.ref y.t := by rw [List.map_append]; rfl
    show ∀ x_1 dx, _ → _ → _ → spWM K C CK Tt (.ref x_1 :: ((l.map fun y => V.ref y.t) ++ [V.ref x.t])) _ _ _
    rw [e]
    refine mk_world (l := l ++ [x]) (fun y hy => ?_) ?_ hT fun b H' nb eN wt' t' => k b H' nb eN wt' t'
    · rcases List.mem_append.mp hy with h | h
      · exact z.pt y h
      · rw [List.mem_singleton.mp h]
        exact pt
    · rw [rs_snoc]
      exact ⟨z.vd, ok⟩
end
/-! ### what a world tells -/
def spW0 (K : W.Frag) (C CK : Addr) (g : Addr → List Pl → Hp → V → Prop) : Sp := fun vs H Q _ => ∃ (a : Addr) (l : List Pl), vs = [.ref a] ∧ WAt K C CK H a l ∧ ∀ v H', Ex H H' → g a l H' v → Q v H'
end L2.Mj
set_option maxRecDepth 100000
set_option maxHeartbeats 8000000
namespace L2.Mj
open PySem PySem.Spec PyProof.Rows L2 Mx L2.Mb Evl Mv TL LamX Sr Srt SrtO NdefX
/-! ### what a world tells -/
def nameV (rs : List Pt) : V → Bool
  | .str z => rs.any fun p => decide (p.nm = z)
  | _ => false
def statV (rs : List Pt) (r : Str) (a : Int) : V := match statAt rs r a with
  | some p => .str p.nm
  | none => .non
theorem realm_name {rs : List Pt} {z : Str} : (valV (dRealm rs) (Sum.inr z)).isSome = rs.any fun p => decide (p.nm = z) := by
  rw [← valV_any]
  unfold dRealm
  rw [List.any_map, List.any_reverse]
  congr 1
  funext p
  exact decide_eq_decide.mpr inr_iff
def spCt (K : W.Frag) (C CK : Addr) : Sp := fun vs H Q _ => ∃ (a : Addr) (y : V) (l : List Pl), vs = [.ref a, y] ∧ WAt K C CK H a l ∧ AnyV H y ∧ ∀ H', Ex H H' → Q (.bl (nameV (rsOf l) y)) H'
def spHs (K : W.Frag) (C CK : Addr) : Sp := fun vs H Q _ => ∃ (a : Addr) (l : List Pl), vs = [.ref a] ∧ WAt K C CK H a l ∧ ∀ ah hs, H ah = some (.tup (hs.map V.str)) → Nms hs (((rsOf l).filter fun p => !p.isG).map Pt.nm) → Q (.ref ah) H
/-- of a station p: what its address and its realm are -/
def spOf (K : W.Frag) (C CK : Addr) (g : Pt → V) : Sp := fun vs H Q _ => ∃ (a : Addr) (p : Pt) (l : List Pl), vs = [.ref a, .str p.nm] ∧ WAt K C CK H a l ∧ p ∈ rsOf l ∧ ∀ H', Ex H H' → Q (g p) H'
def spCR (K : W.Frag) (C CK : Addr) : Sp := fun vs H Q _ => ∃ (a : Addr) (r : Str) (l : List Pl), vs = [.ref a, .str r] ∧ WAt K C CK H a l ∧ (r = "" ∨ hasG (rsOf l) r = true) ∧ ∀ H', Ex H H' → Q .non H'
def spSt (K : W.Frag) (C CK : Addr) : Sp := fun vs H Q _ => ∃ (a : Addr) (r : Str) (n : Int) (l : List Pl), vs = [.ref a, .str r, .int n] ∧ WAt K C CK H a l ∧ (r = "" ∨ hasG (rsOf l) r = true) ∧ ∀ H', Ex H H' → Q (statV (rsOf l) r n) H'
theorem name_of {rs : List Pt} {p : Pt} (h : p ∈ rs) : nameV rs (.str p.nm) = true := List.any_eq_true.mpr ⟨p, h, decide_eq_true rfl⟩
section
variable {P : Program} {w : World} {K : W.Frag} {mg : Str → Option Value} {base : Heap} {f C CK f1 f2 fA : Addr} {fd d1 d2 dA : FuncData} {mc : Value} {q : Str}
theorem ok_contains (B : Bt mg) (T : WF K mg C mc) (F : FnC K "__contains__" q s_World_contains [] f fd) : FnOk P w K mg base CX0 1 f fd ["self", "x"] (spCt K C CK) := by
  refine F.ok sc_World_contains (fun vs H Q E h => ?_) (fun cdv A outer s H vs Q E hr h => ?_)
  · obtain ⟨a, y, l, rfl, _⟩ := h
    rfl
  · obtain ⟨a, y, l, rfl, ⟨d, fs, kA, aA, ag, ah, gs, hs, z⟩, hy, k⟩ := h
    have hu := Nat.lt_of_le_of_lt (Nat.add_le_add_left (show 1 ≤ 64 by decide) _) hr.units
    refine ⟨_, PSs.nox (pss_one (ps_ret (pe_and (pe_callB call_isi (by rfl) B.isinstance (by decide +kernel) (pa_cons (pv 1) (pa_cons (pe_bltn (v := .ty "str") (by rfl) B.str (by decide +kernel) rfl) pa_nil))) (pe_one (pe_cmp (pc_din hu (pv 1) (pe_fld (pv 0) rfl))))))), ?_⟩
    refine s_ret (v := .bl (nameV (rsOf l) y)) (ev_is (ev_andV (a := isStB y) (b := nameV (rsOf l) y) (ev_cb (ea_cons (ev_var rfl) (ea_cons ev_c ea_nil)) (rc_str hy)) (fun hs => ?_)) ?_) fun H1 e1 => k H1 e1
    · cases y with
      | str t => exact ev_is (ev_din (k := Sum.inr t) (ev_var rfl) (ev_f T.cl T.nR (ev_var rfl) z.fl.at_ z.fl.dr) z.bs.r) (congrArg V.bl realm_name)
      | _ => cases hs
    · cases y <;> rfl
theorem ok_hosts (T : WF K mg C mc) (F : FnC K "hosts" q s_World_hosts [] f fd) : FnOk P w K mg base CX0 1 f fd ["self"] (spHs K C CK) := by
  refine F.ok sc_World_hosts (fun vs H Q E h => ?_) (fun cdv A outer s H vs Q E hr h => ?_)
  · obtain ⟨a, l, rfl, _⟩ := h
    rfl
  · obtain ⟨a, l, rfl, ⟨d, fs, kA, aA, ag, ah, gs, hs, z⟩, k⟩ := h
    obtain ⟨dx, ha⟩ := z.fl.at_
    exact ⟨_, PSs.nox (pss_one (ps_ret (pe_fld (pv 0) rfl))), _, rfl, a, C, dx, fs, _, rfl, ha, T.cl, T.nH, z.fh, k ah hs z.xh z.nh⟩
theorem rv_noIn {H : Hp} {a : Addr} {l : List Pl} {y : V} (wt : WAt K C CK H a l) (hy : AnyV H y) : RV (rInO C (spCt K C CK) true) y (.ref a) H (.bl (!nameV (rsOf l) y)) := fun H1 e Q q => by
  obtain ⟨d, fs, kA, aA, ag, ah, gs, hs, z⟩ := wt
  obtain ⟨dx, ha⟩ := z.fl.at_
  exact ⟨a, dx, fs, rfl, e _ _ ha, a, y, l, rfl, ⟨d, fs, kA, aA, ag, ah, gs, hs, z.extn (ex_extn e)⟩, any_ex hy e, fun H2 e2 => ⟨_, rfl, q H2 e2⟩⟩
theorem ok_address (B : Bt mg) (T : WF K mg C mc) (F : FnC K "address" q s_World_address [] f fd) : FnOk P w K mg base CX0 3 f fd ["self", "name"] (spOf K C CK fun p => .int p.ad) := by
  refine F.ok sc_World_address (fun vs H Q E h => ?_) (fun cdv A outer s H vs Q E hr h => ?_)
  · obtain ⟨a, p, l, rfl, _⟩ := h
    rfl
  · obtain ⟨a, p, l, rfl, ⟨d, fs, kA, aA, ag, ah, gs, hs, z⟩, hp, k⟩ := h
    have hu := Nat.lt_of_le_of_lt (Nat.add_le_add_left (show 1 ≤ 64 by decide) _) hr.units
    refine ⟨_, PSs.nox (pss_cons (ps_if (pt_not (pw_and (pt_val (pe_callB call_isi (by rfl) B.isinstance (by decide +kernel) (pa_cons (pv 1) (pa_cons (pe_bltn (v := .ty "str") (by rfl) B.str (by decide +kernel) rfl) pa_nil)))) (pw_and1 (pt_cmp (pc_din hu (pv 1) (pe_fld (pv 0) rfl))))).pt) (pss_one ps_never) pss_nil) (pss_one (ps_ret (pe_dget hu (pe_fld (pv 0) rfl) (pv 1) (fun _ _ => rfl))))), ?_⟩
    have va := val_at z.vd hp fun p => V.int p.ad
    refine q_when (b := !(true && true)) (et_not (et_and (et_B (ev_cb (ea_cons (ev_var rfl) (ea_cons ev_c ea_nil)) (rc_str (.str p.nm)))) (fun _ => et_B (ev_is (ev_din (k := Sum.inr p.nm) (ev_var rfl) (ev_f T.cl T.nA (ev_var rfl) z.fl.at_ z.fl.da) z.bs.a) (by rw [va]; rfl))))) (fun z => by cases z) (fun _ H1 e1 => ?_)
    have z1 := z.extn (ex_extn e1)
    exact s_ret (v := .int p.ad) (ev_dget (k := Sum.inr p.nm) (ev_f T.cl T.nA (ev_var rfl) z1.fl.at_ z1.fl.da) (ev_var rfl) z1.bs.a va) fun H2 e2 => k H2 (e1.trans e2)
theorem ok_realm (T : WF K mg C mc) (MC : Mt P w K mg base C "__contains__" 1 ["self", "x"] (spCt K C CK) f1 d1) (F : FnC K "realm" q s_World_realm [] f fd) : FnOk P w K mg base CX0 3 f fd ["self", "name"] (spOf K C CK fun p => .str p.rl) := by
  refine F.ok sc_World_realm (fun vs H Q E h => ?_) (fun cdv A outer s H vs Q E hr h => ?_)
  · obtain ⟨a, p, l, rfl, _⟩ := h
    rfl
  · obtain ⟨a, p, l, rfl, wt, hp, k⟩ := h
    have hu := Nat.lt_of_le_of_lt (Nat.add_le_add_left (show 1 ≤ 64 by decide) _) hr.units
    refine ⟨_, PSs.nox (pss_cons (ps_if (pt_cmpR (op_notInO MC.ok (hr.mono (by decide)) MC.b pass0 MC.me.at_ MC.me.fn) (pv 1) (pv 0) rfl) (pss_one ps_never) pss_nil) (pss_one (ps_ret (pe_dget hu (pe_fld (pv 0) rfl) (pv 1) (fun _ _ => rfl))))), ?_⟩
    refine q_when (b := !true) (et_test (ev_is (ev_op (ev_var rfl) (ev_var rfl) (rv_noIn wt (.str p.nm))) (by rw [name_of hp]))) (fun z => by cases z) (fun _ H1 e1 => ?_)
    obtain ⟨d, fs, kA, aA, ag, ah, gs, hs, z⟩ := wt.extn (ex_extn e1)
    exact s_ret (v := .str p.rl) (ev_dget (k := Sum.inr p.nm) (ev_f T.cl T.nR (ev_var rfl) z.fl.at_ z.fl.dr) (ev_var rfl) z.bs.r (val_at z.vd hp fun p => .str p.rl)) fun H2 e2 => k H2 (e1.trans e2)
theorem ok_check_realm (B : Bt mg) (T : WF K mg C mc) (F : FnC K "_check_realm" q s_World_check_realm [] f fd) : FnOk P w K mg base CX0 1 f fd ["self", "realm"] (spCR K C CK) := by
  refine F.ok sc_World_check_realm (fun vs H Q E h => ?_) (fun cdv A outer s H vs Q E hr h => ?_)
  · obtain ⟨a, r, l, rfl, _⟩ := h
    rfl
  · obtain ⟨a, r, l, rfl, ⟨d, fs, kA, aA, ag, ah, gs, hs, z⟩, hg, k⟩ := h
    have hu := Nat.lt_of_le_of_lt (Nat.add_le_add_left (show 1 ≤ 64 by decide) _) hr.units
    refine ⟨_, PSs.nox (pss_one (ps_if (pt_not (pw_and (pt_val (pe_callB call_isi (by rfl) B.isinstance (by decide +kernel) (pa_cons (pv 1) (pa_cons (pe_bltn (v := .ty "str") (by rfl) B.str (by decide +kernel) rfl) pa_nil)))) (pw_and1 (pt_cmp (pc_din hu (pv 1) (pe_fld (pv 0) rfl))))).pt) (pss_one ps_never) pss_nil)), ?_⟩
    exact s_when (b := !(true && true)) (et_not (et_and (et_B (ev_cb (ea_cons (ev_var rfl) (ea_cons ev_c ea_nil)) (rc_str (.str r)))) (fun _ => et_B (ev_is (ev_din (k := Sum.inr r) (ev_var rfl) (ev_f T.cl T.nU (ev_var rfl) z.fl.at_ z.fl.du) z.bs.u) (by rw [val_ar z.vd hg]; rfl))))) (fun z => by cases z) (fun _ H1 e1 => k H1 e1)
theorem ok_station (T : WF K mg C mc) (MR : Mt P w K mg base C "_check_realm" 1 ["self", "realm"] (spCR K C CK) f1 d1) (DA : Fn0 P w K mg base "is_address" 2 fA dA p_is_address spAdr) (F : FnC K "station" q s_World_station [] f fd) : FnOk P w K mg base CX0 3 f fd ["self", "realm", "address"] (spSt K C CK) := by
  refine F.ok sc_World_station (fun vs H Q E h => ?_) (fun cdv A outer s H vs Q E hr h => ?_)
  · obtain ⟨a, r, n, l, rfl, _⟩ := h
    rfl
  · obtain ⟨a, r, n, l, rfl, wt, hg, k⟩ := h
    have hu := Nat.lt_of_le_of_lt (Nat.add_le_add_left (show 1 ≤ 64 by decide) _) hr.units
    refine ⟨_, PSs.nox (pss_cons (ps_expr (pe_meth (pv 0) T.cl MR.me MR.ok (hr.mono (by decide)) MR.b .nil pass0 (pa_cons (pv 1) pa_nil)))
      (pss_cons (ps_if (pt_not (pt_val (pe_call DA.ok hr (by rfl) DA.m DA.k DA.b .nil pass0 (pa_cons (pv 2) pa_nil)))) (pss_one (ps_ret pe_non)) pss_nil)
      (pss_one (ps_ret (pe_dget1 hu (pe_fld (pv 0) rfl) (pe_tup (pa_cons (pv 1) (pa_cons (pv 2) pa_nil))) ⟨rfl, rfl, rfl, rfl⟩))))), ?_⟩
    obtain ⟨d, fs, kA, aA, ag, ah, gs, hs, z⟩ := wt
    refine q_drop (ev_meth (z := .non) (ev_var rfl) z.fl.at_ (z.fl.me _ (by simp [methW])) (ea_cons (ev_var rfl) ea_nil) (fun H9 e9 Q9 q9 E9 => ⟨a, r, l, rfl, ⟨d, fs, kA, aA, ag, ah, gs, hs, z.extn (ex_extn e9)⟩, hg, fun H8 e8 => q9 H8 e8⟩)) fun H1 e1 => ?_
    refine q_when (b := !isI (.int n) 1 99) (et_not (et_B (ev_call (z := .bl (isI (.int n) 1 99)) (ea_cons (ev_var rfl) ea_nil) (fun H9 e9 Q q E => ⟨_, rfl, .int _, fun H8 e8 => q H8 e8⟩)))) (fun hn H2 e2 => ?_) (fun hn H2 e2 => ?_)
    · refine s_ret ev_c fun H3 e3 => ?_
      have e : statV (rsOf l) r n = .non := by
        unfold statV
        cases hs : statAt (rsOf l) r n with
        | none => rfl
        | some p =>
          obtain ⟨m1, m2, m3⟩ := statAt_mem hs
          have o := z.vd.okP p m1
          have hb : (decide (1 ≤ n) && decide (n ≤ 99)) = false := by
            have y : (!(decide (1 ≤ n) && decide (n ≤ 99))) = true := hn
            rwa [Bool.not_eq_true'] at y
          rw [← m3, decide_eq_true o.a0, decide_eq_true o.a1] at hb
          cases hb
      have q := k H3 ((e1.trans e2).trans e3)
      rw [e] at q
      exact q
    · have z2 := z.extn (ex_extn (e1.trans e2))
      obtain ⟨dx, ha⟩ := z2.fl.at_
      refine ⟨_, rfl, a, C, dx, fs, _, rfl, ha, T.cl, T.nL, z2.fl.dp, d.dp, rfl, .inr ⟨_, .inl z2.bs.p⟩, _, rfl, _, rfl, (by show 2 ≤ sizeLine; decide), fun t nt => ?_⟩
      have e3 : Ex H2 (upd H2 t (.tup [.str r, .int n])) := Ex.new nt
      refine ⟨_, DGet.t (k := [Sum.inr r, Sum.inl n]) (e3 _ _ z2.bs.p) upd_same, ?_⟩
      have q := k _ ((e1.trans e2).trans e3)
      rw [val_place z2.vd]
      unfold statV at q
      cases hs : statAt (rsOf l) r n with
      | none =>
        rw [hs] at q
        exact q
      | some p =>
        rw [hs] at q
        exact q
end
end L2.Mj
set_option maxRecDepth 100000
set_option maxHeartbeats 8000000
namespace L2.Mj
open PySem PySem.Spec PyProof.Rows L2 Mx L2.Mb Evl Mv TL LamX Sr Srt SrtO NdefX
/-! ### the text of a world -/
def Pt.wds (p : Pt) : List Str := [gwd p, p.nm, if p.rl = "" then "-" else p.rl, toString p.ad] ++ (match p.kd with
  | some k => [k.text]
  | none => [])
def Pt.line (p : Pt) : Str := Txt.join " " p.wds
def wtext (l : List Pl) : Str := Txt.join "\n" (l.map fun x => x.p.line)
/-- str(x) of an own instance: its own __str__ -/
structure StrF (P : Program) (w : World) (K : W.Frag) (mg : Str → Option Value) (base : Heap) (C : Addr) (k : Nat) (sp : Sp) (f : Addr) (fd : FuncData) : Prop where
  ok : FnOk P w K mg base CX0 k f fd ["self"] sp
  s : W.findIn K (.ref C) "__str__" = some (some (.ref f))
  fn : W.isFn K (.ref f) = true
  b : Binds K fd ["self"] []
theorem adr_len {n : Int} (a : 1 ≤ n) (b : n ≤ 99) : ((toString n : String) : Str).length ≤ 7 := by
  obtain ⟨m, rfl⟩ := Int.eq_ofNat_of_zero_le (show 0 ≤ n by omega)
  rw [len_tl, tl_num]
  exact numL_len (by decide) (by omega)
theorem adr_log {n : Int} (a : 1 ≤ n) (b : n ≤ 99) : n.natAbs.log2 < 1920 :=
  (Nat.log2_lt (by omega)).mpr (Nat.lt_of_lt_of_le (show n.natAbs < 2 ^ 20 by omega) (Nat.pow_le_pow_right (by decide) (by decide)))
theorem wds_sum {p : Pt} (h : OkP p) : (p.wds.map (·.length)).sum + p.wds.length * (" " : Str).length ≤ 200 := by
  have s2 : (" " : Str).length = 1 := by decide +kernel
  have l1 := (okW_len h.nm).2
  have l2 : (if p.rl = "" then ("-" : Str) else p.rl).length ≤ 8 := by
    split
    · decide +kernel
    · rename_i z
      exact (okW_len (h.rl.resolve_left z)).2
  have l3 : (gwd p).length ≤ 4 := by
    unfold gwd
    split <;> decide +kernel
  have l4 := adr_len h.a0 h.a1
  have l5 : (Str.ofString (toString p.ad)).length ≤ 7 := l4
  unfold Pt.wds
  rw [s2]
  cases hk : p.kd with
  | none =>
    show ([(gwd p).length, p.nm.length, (if p.rl = "" then ("-" : Str) else p.rl).length, (Str.ofString (toString p.ad)).length]).sum + 4 * 1 ≤ 200
    simp only [List.sum_cons, List.sum_nil]
    omega
  | some k =>
    have l6 : k.text.length ≤ 100 := text_len (by have := h.kd; rw [hk] at this; exact this)
    show ([(gwd p).length, p.nm.length, (if p.rl = "" then ("-" : Str) else p.rl).length, (Str.ofString (toString p.ad)).length, k.text.length]).sum + 5 * 1 ≤ 200
    simp only [List.sum_cons, List.sum_nil]
    omega
theorem line_len {p : Pt} (h : OkP p) : p.line.length ≤ 200 := by
  unfold Pt.line
  rw [join_eq]
  exact Nat.le_trans (join_len _ _) (wds_sum h)
section
variable {σ : L2.St} {H : Hp} {ta tb te : TE} {K : W.Frag}
theorem el_catLL {xs ys : List V} (h1 : EvL ta σ H xs) (h2 : EvL tb σ H ys) (hz : xs.length + ys.length ≤ 100000) : EvL (tOp rCat ta tb) σ H (xs ++ ys) := fun H1 e Q q => h1 H1 e _ fun p H2 np e2 hp => h2 H2 (e.trans e2) _ fun r H3 nr e3 hr =>
  ⟨p, r, xs, ys, rfl, rfl, e3 _ _ hp, hr, sz_of hz, fun s hs => q s _ (fresh_back (e2.trans e3) hs) ((e2.trans e3).trans (Ex.new hs)) upd_same⟩
/-- s.join(a new list) -/
theorem ev_joinL {a : Str} {ys : List Str} {r : V → List V → Hp → VK → Prop} (h : Ev ta σ H (.str a)) (h2 : EvL tb σ H (ys.map V.str)) (hr : r = fun x xs H Q => ∃ a p, ∃ ys : List Str, x = .str a ∧ xs = [.ref p] ∧ (SqL K H p (ys.map V.str) ∨ SqT K H p (ys.map V.str)) ∧
      (ys.map (·.length)).sum + ys.length * a.length ≤ 16777216 ∧ Q (.str (Txt.join a ys)) H) (hz : (ys.map (·.length)).sum + ys.length * a.length ≤ 16777216) : Ev (tM1 r ta tb) σ H (.str (Txt.join a ys)) := fun H1 e Q q =>
  h H1 e _ fun H2 e2 => ⟨⟨a, rfl⟩, h2 H2 (e.trans e2) _ fun p H3 np e3 hp => by
    subst hr
    exact ⟨a, p, ys, rfl, rfl, .inl (sq_of hp), hz, q H3 (e2.trans e3)⟩⟩
theorem ev_orS {z y : Str} (h : Ev ta σ H (.str z)) (hz : z = "" ∨ 1 ≤ z.length) (hl : z.length ≤ 100000) : Ev (tOrT K ta (tC (.str y))) σ H (.str (if z = "" then y else z)) := fun H1 e Q q => h H1 e _ fun H2 e2 => ⟨_, ⟨sz_of hl, rfl⟩, by
  rcases hz with rfl | hz
  · rw [if_neg (by decide)]
    exact q H2 e2
  · rw [if_pos (by simp only [bne_iff_ne]; omega)]
    have n : ¬ z = "" := fun w => by
      rw [w] at hz
      exact absurd hz (by decide)
    rw [if_neg n] at q
    exact q H2 e2⟩
end
def spLn (K : W.Frag) (CK : Addr) : Sp := fun vs H Q _ => ∃ (t ka : Addr) (p : Pt), vs = [.ref t] ∧ PartAt K CK H t ka p ∧ OkP p ∧ ∀ H', Ex H H' → Q (.str p.line) H'
section
variable {P : Program} {w : World} {K : W.Frag} {mg : Str → Option Value} {base : Heap} {f C CK fS f1 : Addr} {fd dS d1 : FuncData} {mc : Value} {q : Str} {σ : L2.St} {H : Hp}
theorem eu_cut4 {te : TE} {t ka : Addr} {p : Pt} (h : Ev te σ H (.ref t)) (hp : PartAt K CK H t ka p) : EvU (tSl (rSlA K) te (tPart (tC (.int 4))) tNoPart) σ H (match p.kd with | some _ => [.ref ka] | none => []) := fun H0 e0 Q q => h H0 e0 _ fun H1 e1 => by
  have h1 := hp.mono (e0.trans e1)
  have ec : cutV (ptV ka p) (some 4) none = (match p.kd with | some _ => [.ref ka] | none => []) := by
    unfold ptV
    cases p.kd <;> rfl
  refine ⟨4, rfl, t, _, rfl, st_of h1.t, fun hw => ?_, fun _ a na => q a _ (fresh_back e1 na) (e1.trans (Ex.new na)) ?_⟩
  · have z := hw.1
    unfold ptV at z
    cases hk : p.kd <;> rw [hk] at z <;> exact absurd (show (4 : Nat) = 0 from z) (by decide)
  · rw [ec]
    exact upd_same
theorem ok_line_of_part (B : Bt mg) (S : StrF P w K mg base CK 1 (spText CK Kd.text) fS dS) (F : FnP K "_line_of_part" s_line_of_part f fd) : FnOk P w K mg base CX0 4 f fd p_line_of_part (spLn K CK) := by
  refine F.ok sc_line_of_part (fun vs H Q E h => ?_) (fun cdv A outer s H vs Q E hr h => ?_)
  · obtain ⟨t, ka, p, rfl, _⟩ := h
    rfl
  · obtain ⟨t, ka, p, rfl, hp, ok, k⟩ := h
    have nd := sc_line_of_part.nd
    refine ⟨_, PSs.nox (pss_one (ps_ret (pe_join pe_str (pe_op op_cat (pe_lst (pa_cons (pe_ix ix_tup (pv 0) pe_int (fun _ _ => rfl)) (pa_cons (pe_ix ix_tup (pv 0) pe_int (fun _ _ => rfl)) (pa_cons (pe_orT (pe_ix ix_tup (pv 0) pe_int (fun _ _ => rfl)) (pe_one pe_str)) (pa_cons (pe_callTy call_str_int (by rfl) B.str (by decide +kernel) (pa_cons (pe_ix ix_tup (pv 0) pe_int (fun _ _ => rfl)) pa_nil)) pa_nil)))))
      (pe_lc (own := [("kind", 1)]) (g := gName 1) (tt := tYes) (te := tCB (rOwn CK (spText CK Kd.text)) (tCons (tVar 1) tNil)) (by rfl) nd (pi_tup (pe_slice sl_tupA (pv 0) (po_some pe_int) po_none)) (blkOk_by (N := n_line_of_part) (sc := defScope s_line_of_part) (by decide +kernel)) (fun _ _ _ _ _ => pg_name (i := 1) nd rfl (Or.inl rfl)) (fun _ _ _ _ _ => pts_nil)
        (fun _ _ _ _ _ => pe_callTy (call_strO S.ok S.s S.fn S.b pass0 hr) (by rfl) B.str (by decide +kernel) (pa_cons (pv 1) pa_nil))))))), ?_⟩
    have rlz : p.rl = "" ∨ 1 ≤ p.rl.length := ok.rl.imp id fun z => (okW_len z).1
    have rll : p.rl.length ≤ 100000 := by
      rcases ok.rl with z | z
      · rw [z]
        decide
      · exact Nat.le_trans (okW_len z).2 (by decide)
    refine s_ret (v := .str p.line) (ev_joinL (K := K) (a := " ") (ys := p.wds) ev_c ?_ rfl (Nat.le_trans (wds_sum ok) (by decide))) k
    have h1 : EvL (tLst (tCons (tOp (rIxT K) (tVar 0) (tC (.int 0))) (tCons (tOp (rIxT K) (tVar 0) (tC (.int 1))) (tCons (tOrT K (tOp (rIxT K) (tVar 0) (tC (.int 2))) (tC (.str "-"))) (tCons (tCB rStrI (tCons (tOp (rIxT K) (tVar 0) (tC (.int 3))) tNil)) tNil))))) [some (.ref t), none] H (([gwd p, p.nm, if p.rl = "" then "-" else p.rl, toString p.ad] : List Str).map V.str) :=
      el_lst (ea_cons (ev_pt rfl hp at_w) (ea_cons (ev_pt rfl hp at_nm) (ea_cons (ev_orS (ev_pt rfl hp at_rl) rlz rll) (ea_cons (ev_cb (r := rStrI) (ea_cons (ev_pt rfl hp at_ad) ea_nil) (rc_strI (adr_log ok.a0 ok.a1))) ea_nil)))) (by show 4 ≤ 100000; decide)
    unfold Pt.wds
    rw [List.map_append]
    refine el_catLL h1 ?_ (by rw [List.length_map]; cases p.kd <;> exact Nat.le_of_ble_eq_true rfl)
    have h2 := eu_cut4 (K := K) (σ := [some (.ref t), none]) (te := tVar 0) (ev_var rfl) hp
    cases hk : p.kd with
    | none =>
      rw [hk] at h2
      have w9 := el_lcNT (K := K) (σ := [some (.ref t), none]) (H := H) (t := tYes) (te := tCB (rOwn CK (spText CK Kd.text)) (tCons (tVar 1) tNil)) (vs := [1]) (j := 1) (fun _ => true) (fun _ => .non) h2 (Nat.le_of_ble_eq_true rfl) (fun _ => rfl) (fun i x H1 e1 hx => by cases hx) (fun i x H1 e1 hx => by cases hx)
      exact w9
    | some kd =>
      rw [hk] at h2
      have okk : kd.ok = true := by have := ok.kd; rw [hk] at this; exact this
      have w9 := el_lcNT (K := K) (σ := [some (.ref t), none]) (H := H) (t := tYes) (te := tCB (rOwn CK (spText CK Kd.text)) (tCons (tVar 1) tNil)) (vs := [1]) (j := 1) (fun _ => true) (fun _ => .str kd.text) h2 (Nat.le_of_ble_eq_true rfl) (fun _ => rfl) (fun i x H1 e1 hx => fun H2 e2 Q q => q H2 (Ex.refl _)) (fun i x H1 e1 hx _ => by
        have e : x = .ref ka := by
          cases i with
          | zero => exact (Option.some.inj hx).symm
          | succ i => cases hx
        subst e
        refine ev_cb (ea_cons (ev_var rfl) ea_nil) fun H2 e2 Q q => ?_
        obtain ⟨dx, hd⟩ := (hp.k kd hk).mono (e1.trans e2)
        exact ⟨ka, dx, kd.fs, rfl, hd, ka, kd, rfl, okk, ⟨dx, hd⟩, fun H' e' => ⟨⟨_, rfl⟩, q H' e'⟩⟩)
      exact w9
end
end L2.Mj
set_option maxRecDepth 100000
set_option maxHeartbeats 8000000
namespace L2.Mj
open PySem PySem.Spec PyProof.Rows L2 Mx L2.Mb Evl Mv TL LamX Sr Srt SrtO NdefX
section
variable {K : W.Frag} {σ : L2.St} {H : Hp} {te tl : TE} {t : TT}
/-- a comprehension over a known tuple -/
theorem el_lcT {a : Addr} {xs : List V} {j : Nat} {vs : List Nat} (f : Nat → Bool) (g : Nat → V) (h : Ev tl σ H (.ref a)) (hx : SqT K H a xs) (hz : xs.length ≤ 40000) (hw : ∀ x, wipe ((wipe σ vs).set j (some x)) vs = wipe σ vs)
    (ht : ∀ (i : Nat) (x : V) H1, Ex H H1 → xs[i]? = some x → EvT t ((wipe σ vs).set j (some x)) H1 (f i)) (he : ∀ (i : Nat) (x : V) H1, Ex H H1 → xs[i]? = some x → f i = true → Ev te ((wipe σ vs).set j (some x)) H1 (g i)) :
    EvL (tLc (iTup K tl) (gName j) t te vs) σ H (given xs.length f g) := fun H0 e Q q => h H0 e _ fun H1 e1 => ⟨a, rfl, ⟨xs, ex_t (e.trans e1) hx⟩, fun Dl hD =>
  lc_it (walk_tup (K := K) (xs := xs)) (Cw H1 f g Dl) ⟨hD, Ex.new hD, upd_same⟩ (fun _ H' _ p => ex_t p.2.1 (ex_t (e.trans e1) hx)) (fun i x H2 H3 hi p y => by
    obtain ⟨rfl, hc⟩ := y
    exact ⟨hw x, cw_turn p (by omega) (ht i x H1 (e.trans e1) hc) (fun hf => he i x H1 (e.trans e1) hc hf)⟩) (fun H' p => q Dl H' (fresh_back e1 p.1) (e1.trans p.2.1) p.2.2)⟩
end
def spWS (K : W.Frag) (C CK : Addr) : Sp := fun vs H Q _ => ∃ (a : Addr) (l : List Pl), vs = [.ref a] ∧ WAt K C CK H a l ∧ ∀ H', Ex H H' → Q (.str (wtext l)) H'
section
variable {P : Program} {w : World} {K : W.Frag} {mg : Str → Option Value} {base : Heap} {f C CK fS f1 : Addr} {fd dS d1 : FuncData} {mc : Value} {q : Str} {σ : L2.St} {H : Hp}
theorem ok_wstr (T : WF K mg C mc) (DL : Fn0 P w K mg base "_line_of_part" 4 f1 d1 p_line_of_part (spLn K CK)) (F : FnC K "__str__" q s_World_str [] f fd) : FnOk P w K mg base CX0 5 f fd ["self"] (spWS K C CK) := by
  refine F.ok sc_World_str (fun vs H Q E h => ?_) (fun cdv A outer s H vs Q E hr h => ?_)
  · obtain ⟨a, l, rfl, _⟩ := h
    rfl
  · obtain ⟨a, l, rfl, ⟨d, fs, kA, aA, ag, ah, gs, hs, z⟩, k⟩ := h
    have nd := sc_World_str.nd
    refine ⟨_, PSs.nox (pss_one (ps_ret (pe_join pe_str (pe_lc (own := [("part", 1)]) (g := gName 1) (tt := tYes) (te := tCall (spLn K CK) [] E0 (tCons (tVar 1) tNil)) (by rfl) nd (pi_tup (pe_fld (pv 0) rfl)) (blkOk_by (N := n_World_str) (sc := defScope s_World_str) (by decide +kernel)) (fun _ _ _ _ _ => pg_name (i := 1) nd rfl (Or.inl rfl)) (fun _ _ _ _ _ => pts_nil)
        (fun _ _ _ _ _ => pe_call DL.ok hr (by rfl) DL.m DL.k DL.b .nil pass0 (pa_cons (pv 1) pa_nil)))))), ?_⟩
    have l14 := len14 z.vd
    have ll : l.length ≤ 14 := by
      unfold rsOf at l14
      rw [List.length_reverse, List.length_map] at l14
      exact l14
    have okl : ∀ x ∈ l, OkP x.p := fun x hx => z.vd.okP _ (by unfold rsOf; exact List.mem_reverse.mpr (List.mem_map_of_mem hx))
    have sm : ∀ m : List Pl, (∀ x ∈ m, OkP x.p) → ((m.map fun x => x.p.line).map (·.length)).sum ≤ m.length * 200 := fun m => by
      induction m with
      | nil => intro _; exact Nat.zero_le _
      | cons x m ih =>
        intro h
        have h1 := line_len (h x List.mem_cons_self)
        have h2 := ih fun y hy => h y (List.mem_cons_of_mem _ hy)
        simp only [List.map_cons, List.sum_cons, List.length_cons, Nat.succ_mul]
        omega
    have s1 : ("\n" : Str).length = 1 := by decide +kernel
    refine s_ret (v := .str (Txt.join "\n" (l.map fun x : Pl => x.p.line))) (ev_joinL (K := K) (a := "\n") (ys := l.map fun x : Pl => x.p.line) ev_c ?_ rfl ?_) k
    · have w9 := el_lcT (tl := tFld K (tVar 0) "_parts") (K := K) (σ := [some (.ref a), none]) (H := H) (t := tYes) (te := tCall (spLn K CK) [] E0 (tCons (tVar 1) tNil)) (vs := [1]) (j := 1) (xs := l.map fun x => .ref x.t) (fun _ => true) (fun i => .str (l.getD i ⟨0, 0, ⟨none, "", "", 0⟩⟩).p.line) (ev_f T.cl T.nP (ev_var rfl) z.fl.at_ z.fl.ts) (st_of z.ts) (by rw [List.length_map]; omega) (fun _ => rfl)
        (fun i x H1 e1 hx => fun H2 e2 Q q => q H2 (Ex.refl _)) (fun i x H1 e1 hx _ => by
          rw [List.getElem?_map] at hx
          cases hi : l[i]? with
          | none => rw [hi] at hx; cases hx
          | some y =>
            rw [hi] at hx
            obtain rfl : V.ref y.t = x := Option.some.inj hx
            have my : y ∈ l := List.mem_of_getElem? hi
            have e : l.getD i ⟨0, 0, ⟨none, "", "", 0⟩⟩ = y := by rw [List.getD_eq_getElem?_getD, hi]; rfl
            rw [e]
            exact ev_call (ea_cons (ev_var rfl) ea_nil) fun H9 e9 Q9 q9 E9 => ⟨y.t, y.k, y.p, rfl, (z.pt y my).mono (e1.trans e9), okl y my, fun H8 e8 => q9 H8 e8⟩)
      rw [List.length_map, given_getD l ⟨0, 0, ⟨none, "", "", 0⟩⟩ (fun _ => true) (fun x => V.str x.p.line), List.filter_eq_self.mpr fun _ _ => rfl] at w9
      rw [List.map_map]
      exact w9
    · have h1 := sm l okl
      rw [List.length_map, s1]
      omega
end
end L2.Mj
set_option maxRecDepth 100000
set_option maxHeartbeats 4000000
namespace L2.Mj
open PySem PySem.Spec PyProof.Rows L2 Mx L2.Mb Evl Mv TL
/-! ### a kind made of right parts -/
theorem passF {X : Cx} : Passes (L2.CX X.prog X.w) X (fun _ _ _ => False) := fun _ _ _ _ _ _ _ h => by
  obtain ⟨_, _, _, _, _, _, _, _, _, _, _, _, hE⟩ := h
  exact hE.elim
theorem optV_inj {a b : Option Int} (h : optV a = optV b) : a = b := by
  cases a <;> cases b <;> first | rfl | (cases h; rfl) | cases h
theorem any_opt {H : Hp} (o : Option Int) : AnyV H (optV o) := by
  cases o with
  | none => exact .non
  | some n => exact .int n
theorem kd_eq {k1 k2 : Kd} (e1 : V.str k1.le = .str k2.le) (e2 : V.str k1.lt = .str k2.lt) (e3 : V.bl k1.tu = .bl k2.tu) (e4 : optV k1.re = optV k2.re) : k1 = k2 := by
  obtain ⟨a, b, c, d⟩ := k1
  obtain ⟨a', b', c', d'⟩ := k2
  have h1 : a = a' := V.str.inj e1
  have h2 : b = b' := V.str.inj e2
  have h3 : c = c' := V.bl.inj e3
  have h4 : d = d' := optV_inj e4
  rw [h1, h2, h3, h4]
structure KM (P : Program) (w : World) (K : W.Frag) (mg : Str → Option Value) (base : Heap) (C CE fK : Addr) (dK : FuncData) (g : List Value → List Value → List Value) (gV : List V → List V → List V) : Prop where
  made : Mk K C fK
  ok : FnOk P w K mg base (L2.CX P w) 3 fK dK ["self", "lends", "lets", "turns", "rests"] (spInit C CE)
  kb : KBn K dK ["self", "lends", "lets", "turns", "rests"] 3 ["turns", "rests"] g gV
  gv : ∀ a b c d e : V, gV [a, b, c] [d, e] = [a, b, c, d, e]
/-- the new instance, set up with right parts -/
theorem sp_made {C CE : Addr} {kd : Kd} {H : Hp} {x dx : Addr} {E : XK} {Q : VK} (ok : kd.ok = true) (hx : H x = none) (hd : H dx = none) (q : ∀ H2, Ex H H2 → KAt C H2 x kd → Q (.ref x) H2) :
    spInit C CE [.ref x, .str kd.le, .str kd.lt, .bl kd.tu, optV kd.re] (upd (upd H dx (.own x)) x (.ins C dx [])) (fun v H3 => v = .non ∧ Q (.ref x) H3) E :=
  ⟨x, dx, .str kd.le, .str kd.lt, .bl kd.tu, optV kd.re, rfl, upd_same, .str _, .str _, .bl _, any_opt _, fun k2 _ e1 e2 e3 e4 H' hk ha => by
    have e := kd_eq e1 e2 e3 e4
    subst e
    refine ⟨rfl, q H' (fun c o hc => ?_) ⟨dx, ha⟩⟩
    refine hk c o (ne_of_none hc hx) ?_
    rw [upd_ne (ne_of_none hc hx), upd_ne (ne_of_none hc hd)]
    exact hc, fun n hn => by
    rw [bad_kd ok] at hn
    cases hn⟩
section
variable {P : Program} {w : World} {K : W.Frag} {mg : Str → Option Value} {base : Heap} {f C CE aL aT : Addr} {fd : FuncData} {mc : Value}
theorem e_make {σ : L2.St} {H : Hp} {ta tk : TA} {gV : List V → List V → List V} {E : XK} {kd : Kd} (hg : ∀ a b c d e : V, gV [a, b, c] [d, e] = [a, b, c, d, e]) (h1 : EvA ta σ H [.str kd.le, .str kd.lt]) (h2 : EvA tk σ H [.bl kd.tu, optV kd.re]) (ok : kd.ok = true) :
    ∀ H1, Ex H H1 → ∀ Q : VK, (∀ a H2, Ex H1 H2 → KAt C H2 a kd → Q (.ref a) H2) → tMakeK C 2 2 (spInit C CE) gV E ta tk σ H1 Q := fun H1 e Q q => h1 H1 e _ fun H2 e2 => h2 H2 (e.trans e2) _ fun H3 e3 => ⟨rfl, rfl, fun x dx hx hd ne => by
    rw [hg]
    exact sp_made ok hx hd fun H4 e4 ha => q x H4 ((e2.trans e3).trans e4) ha⟩
/-! ### a kind of its ranks -/
theorem len_ranks (k : Kd) : k.ranks.length = 4 := rfl
def spKOR (C : Addr) : Sp := fun vs H Q _ => ∃ (p : Addr) (kd : Kd), vs = [.ref p] ∧ kd.ok = true ∧ H p = some (.lst (kd.ranks.map V.int)) ∧ ∀ b H', Ex H H' → KAt C H' b kd → Q (.ref b) H'
theorem le_at {k : Kd} (h : k.ok = true) : atI (lendL.map V.str) (looseV k.le) = some (.str k.le) := by
  unfold Kd.ok at h
  simp only [Bool.and_eq_true] at h
  have m := List.contains_iff_mem.mp h.1
  simp only [List.mem_cons, List.not_mem_nil, or_false] at m
  rcases m with e | e | e <;> rw [e] <;> first | exact atI_nat (j := 0) rfl | exact atI_nat (j := 1) rfl | exact atI_nat (j := 2) rfl
theorem lt_at {k : Kd} (h : k.ok = true) : atI (letL.map V.str) (looseV k.lt) = some (.str k.lt) := by
  unfold Kd.ok at h
  simp only [Bool.and_eq_true] at h
  have m := List.contains_iff_mem.mp h.2.1
  simp only [List.mem_cons, List.not_mem_nil, or_false] at m
  rcases m with e | e | e <;> rw [e] <;> first | exact atI_nat (j := 0) rfl | exact atI_nat (j := 1) rfl | exact atI_nat (j := 2) rfl
theorem ok_kor {fK : Addr} {dK : FuncData} {g : List Value → List Value → List Value} {gV : List V → List V → List V} {t2 : Tok} (T : KF K mg C mc aL aT) (M : KM P w K mg base C CE fK dK g gV) (c2 : mg "MOST_REST" = some (.int 1000000 t2))
    (F : FnP K "_kind_of_ranks" s_kind_of_ranks f fd) : FnOk P w K mg base CX0 5 f fd p_kind_of_ranks (spKOR C) := by
  refine F.ok sc_kind_of_ranks (fun vs H Q E h => ?_) (fun cdv A outer s H vs Q E hr h => ?_)
  · obtain ⟨p, kd, rfl, _⟩ := h
    rfl
  · obtain ⟨p, kd, rfl, hok, hp, k⟩ := h
    have nd := sc_kind_of_ranks.nd
    refine ⟨_, PSs.nox (pss_cons (ps_asg (pv 0) (pg_lst rfl (pgs_cons (pg_name (i := 1) nd rfl (Or.inl rfl)) (pgs_cons (pg_name (i := 2) nd rfl (Or.inl rfl)) (pgs_cons (pg_name (i := 3) nd rfl (Or.inl rfl)) (pgs_cons (pg_name (i := 4) nd rfl (Or.inl rfl)) pgs_nil))))))
      (pss_cons (ps_set (i := 5) nd rfl (Or.inl rfl) (pe_ifExp (pt_cmpR op_gt (pv 4) (pe_glob (v := .int 1000000) (by rfl) c2 ⟨_, rfl⟩) (nomark _)) pe_non (pv 4)))
      (pss_one (ps_ret (pe_makeK (E := fun _ _ _ => False) M.made M.ok hr (by rfl) T.m M.kb passF (pa_cons (pe_ix ix_tup (ClX.pe_cval (pe_glob (v := .ref C) (by rfl) T.m rfl)) (pv 1) (fun _ _ => rfl)) (pa_cons (pe_ix ix_tup (ClX.pe_cval (pe_glob (v := .ref C) (by rfl) T.m rfl)) (pv 2) (fun _ _ => rfl)) pa_nil))
        (pk_cons (pe_cmpR op_eq (pv 3) pe_int (nomark _)) (pk_cons (pv 5) pk_nil))))))), ?_⟩
    refine ⟨_, rfl, p, _, rfl, sq_of hp, rfl, .int (looseV kd.le), _, rfl, .int (looseV kd.lt), _, rfl, .int (if kd.tu = true then 1 else 0), _, rfl, .int (match kd.re with | some n => n | none => 1000001), _, rfl, rfl, ?_⟩
    have o3 : kd.re.all inRest = true := by
      unfold Kd.ok at hok
      simp only [Bool.and_eq_true] at hok
      exact hok.2.2
    refine q_asg (v := optV kd.re) (ev_if (b := kd.re.isNone) (et_test (ev_is (ev_op (ev_var rfl) ev_c rv_int) (congrArg V.bl (by
        cases hre : kd.re with
        | none => decide
        | some n =>
          rw [hre] at o3
          have o4 : inRest n = true := o3
          unfold inRest at o4
          simp only [Bool.and_eq_true, decide_eq_true_eq] at o4
          show decide (n > 1000000) = false
          exact decide_eq_false (by omega)))))
      (fun h => ev_is ev_c (by cases hre : kd.re with | none => rfl | some n => rw [hre] at h; cases h)) (fun h => ev_is (ev_var rfl) (by cases hre : kd.re with | some n => rfl | none => rw [hre] at h; cases h))) fun H1 e1 => ?_
    refine e_make (CE := CE) M.gv (ea_cons (ev_op (ev_cval ev_c T.rd T.vL) (ev_var rfl) (rv_ixT (T.tL _) (le_at hok))) (ea_cons (ev_op (ev_cval ev_c T.rd T.vT) (ev_var rfl) (rv_ixT (T.tT _) (lt_at hok))) ea_nil))
      (ea_cons (ev_is (ev_op (ev_var rfl) ev_c (rv_eq rfl)) (by cases kd.tu <;> rfl)) (ea_cons (ev_var rfl) ea_nil)) hok H1 (Ex.refl H1) _ fun a H2 e2 ha => k a H2 (e1.trans e2) ha
end
end L2.Mj
set_option maxRecDepth 100000
set_option maxHeartbeats 4000000
namespace L2.Mb
open PySem PySem.Spec PyProof.Rows Mx PySem.SeqAt
open AutoSeq1 (wpAny_loadPart')
open MeetsSeq MeetsSeq2 MeetsSeq3 SeqRoads2
/-! ### == of sequences whose items have an == of their own -/
abbrev FinPost (prog : Program) (w : World) (A : Around) (R : Result → Shared → Prop) : Fin → Shared → Prop := fun fin s' => match fin with | .done f => R (.ok f) s' | .again c' => c'.quiet = true ∧ codeAny (model prog w) A c' R s'
section
variable {prog : Program} {w : World} {A : Around} {R : Result → Shared → Prop} {E : Value → Shared → Prop} {l b : Addr} {items items2 : Array Value} {n n2 N : Nat} {dd dd2 : Option Addr} {sl sl2 : Array (Option Value)} {e : Nat → Bool} {J : Nat → Shared → Prop}
/-- at each turn both lists are read anew -/
def TwoL (prog : Program) (w : World) (A : Around) (E : Value → Shared → Prop) (l b : Addr) (N : Nat) (e : Nat → Bool) (J : Nat → Shared → Prop) : Prop := ∀ i s, J i s → ∃ (p q : Array Value) (k k2 : Nat), s.heap.get? l = some { cls := .type "list", data := .seq p k } ∧ s.heap.get? b = some { cls := .type "list", data := .seq q k2 } ∧
  p.size = N ∧ q.size = N ∧ ∀ (h1 : i < p.size) (h2 : i < q.size), wpAny (model prog w) A.in1 (eqBool p[i] q[i]) (fun r s' => r = e i ∧ J (i + 1) s') E s
theorem eq_loopW (hE : ∀ e s, E e s → R (.error e) s) (hJ : TwoL prog w A E l b N e J) (k : Nat) :
    ∀ (i : Nat), N - i = k → ∀ s, J i s → (∀ j s', J j s' → R (.ok (.ret (.bool (((List.range N).drop i).all e)))) s') → i ≤ N →
      wpAny (model prog w) A.in1 (Builtin.«list.__eq__.loop» ⟨[.ref l, .ref b, rawInt i, rawInt 2], []⟩) (FinPost prog w A R) (fun e s' => R (.error e) s') s := by
  induction k with
  | zero =>
    intro i hk s hj h hi
    obtain ⟨p, q, k1, k2, hl, hb, z1, z2, _⟩ := hJ _ _ hj
    have h := h i s hj
    obtain ⟨hp, g, d, tk, os⟩ := s
    wp_walk using wpAny_loadPart' hl, wpAny_loadPart' hb
    have hi1 : p[((i : Nat) : Int).toNat]? = none := by simp; omega
    have hi2 : q[((i : Nat) : Int).toNat]? = none := by simp; omega
    have hd : (List.range N).drop i = [] := by simp; omega
    rw [hd] at h
    rw [hi1, hi2]
    wp_walk using wpAny_loadPart' hl, wpAny_loadPart' hb
    show R (.ok (.ret (.bool (p.size == q.size)))) _
    rw [z1, z2]
    simpa using h
  | succ k ih =>
    intro i hk s hj h hi
    obtain ⟨p, q, k1, k2, hl, hb, z1, z2, st⟩ := hJ _ _ hj
    obtain ⟨hp, g, d, tk, os⟩ := s
    wp_walk using wpAny_loadPart' hl, wpAny_loadPart' hb
    have hlt : i < p.size := by omega
    have hlt2 : i < q.size := by omega
    have hi1 : p[((i : Nat) : Int).toNat]? = some p[i] := by simp [hlt]
    have hi2 : q[((i : Nat) : Int).toNat]? = some q[i] := by simp [hlt2]
    have hd : (List.range N).drop i = i :: (List.range N).drop (i + 1) := by rw [List.drop_eq_getElem_cons (by simpa using (show i < N by omega))]; simp
    have hc : ((i : Int) + 1) = ((i + 1 : Nat) : Int) := by push_cast; rfl
    rw [hd] at h
    simp only [List.all_cons] at h
    rw [hi1, hi2]
    refine wpAny_bind (wpAny_mono (st hlt hlt2) (fun r s' hr => ?_) fun e s' z => hE e s' z)
    obtain ⟨hr, hj'⟩ := hr
    subst hr
    obtain ⟨p', q', k1', k2', hl', hb', z1', z2', _⟩ := hJ _ _ hj'
    cases hb2 : e i with
    | true =>
      simp only [hb2, Bool.true_and] at h
      obtain ⟨hp', g', d', tk', os'⟩ := s'
      wp_walk
      rw [hc]
      exact ⟨plainId_quiet plain_eq_loop _, codeAny_builtin entry_eq_loop (by
        rw [Around.under_plainId plain_eq_loop _]
        exact ih (i + 1) (by omega) _ hj' h (by omega))⟩
    | false =>
      simp only [hb2, Bool.false_and] at h
      have h2 := h _ _ hj'
      obtain ⟨hp', g', d', tk', os'⟩ := s'
      wp_walk using wpAny_loadPart' hl', wpAny_loadPart' hb'
      have hi3 : p'[((i : Nat) : Int).toNat]? = some (p'[i]'(by omega)) := by simp [show i < p'.size by omega]
      have hi4 : q'[((i : Nat) : Int).toNat]? = some (q'[i]'(by omega)) := by simp [show i < q'.size by omega]
      rw [hi3, hi4]
      wp_walk
      exact h2
theorem list_eqW (hE : ∀ e s, E e s → R (.error e) s) (hJ : TwoL prog w A E l b N e J) {s : Shared} (hj : J 0 s)
    (h : ∀ j s', J j s' → R (.ok (.ret (.bool ((List.range N).all e)))) s') :
    wpAny (model prog w) A.in1 (Builtin.«list.__eq__» ⟨[.ref l, .ref b], []⟩) (FinPost prog w A R) (fun e s' => R (.error e) s') s := by
  obtain ⟨p, q, k1, k2, hl, hb, z1, z2, _⟩ := hJ _ _ hj
  have f3 := AutoSeq1.sub_list_list
  have hne : ¬ (p.size != q.size) = true := by simp [z1, z2]
  obtain ⟨hp, g, d, tk, os⟩ := s
  wp_walk using wpAny_loadPart' hl, wpAny_loadPart' hb
  exact ⟨plainId_quiet plain_eq_loop _, codeAny_builtin entry_eq_loop (by
    rw [Around.under_plainId plain_eq_loop _]
    exact eq_loopW hE hJ _ 0 rfl _ hj (by simpa using h) (Nat.zero_le _))⟩
theorem tuple_eqW (hE : ∀ e s, E e s → R (.error e) s)
    (step : ∀ i (h1 : i < items.size) (h2 : i < items2.size) s, J i s → wpAny (model prog w) A.in1 (eqBool items[i] items2[i]) (fun r s' => r = e i ∧ J (i + 1) s') E s) {s : Shared} (hj : J 0 s)
    (hl : s.heap.get? l = some { cls := .type "tuple", dict := dd, data := .seq items n, slots := sl }) (hb : s.heap.get? b = some { cls := .type "tuple", dict := dd2, data := .seq items2 n2, slots := sl2 })
    (h : ∀ j s', J j s' → R (.ok (.ret (.bool ((List.range (min items.size items2.size)).all e && items.size == items2.size)))) s') :
    wpAny (model prog w) A.in1 (Builtin.«tuple.__eq__» ⟨[.ref l, .ref b], []⟩) (fun fin s' => ∃ v, fin = .done (.ret v) ∧ R (.ok (.ret v)) s') (fun e s' => R (.error e) s') s := by
  have f2 := AutoSeq1.sub_tuple_tuple
  have hZ : (items.toList.zip items2.toList).length = min items.size items2.size := by simp
  obtain ⟨hp, g, d, tk, os⟩ := s
  wp_walk using wpAny_loadPart' hl, wpAny_loadPart' hb, wpAny_forIn_list _ (fun rest b s' => b.1 = none ∧ ∃ i, J i s' ∧ rest = (items.toList.zip items2.toList).drop i ∧
      ∀ j s', J j s' → R (.ok (.ret (.bool (((List.range (min items.size items2.size)).drop i).all e && items.size == items2.size)))) s') _
  case turn =>
    rintro ⟨y, x⟩ rest b s' ⟨hb', i, hj', hz, hR⟩
    have hlt : i < (items.toList.zip items2.toList).length := by
      rcases Nat.lt_or_ge i (items.toList.zip items2.toList).length with h' | h'
      · exact h'
      · rw [List.drop_of_length_le h'] at hz; cases hz
    have hm : i < min items.size items2.size := hZ ▸ hlt
    have h1 : i < items.size := Nat.lt_of_lt_of_le hm (Nat.min_le_left _ _)
    have h2 : i < items2.size := Nat.lt_of_lt_of_le hm (Nat.min_le_right _ _)
    rw [List.drop_eq_getElem_cons hlt] at hz
    injection hz with hyx hrest
    have hy : y = items[i] := by have := congrArg Prod.fst hyx; simpa using this
    have hx : x = items2[i] := by have := congrArg Prod.snd hyx; simpa using this
    subst hy hx
    have hd : (List.range (min items.size items2.size)).drop i = i :: (List.range (min items.size items2.size)).drop (i + 1) := by simp [List.drop_eq_getElem_cons, hm]
    rw [hd] at hR
    simp only [List.all_cons] at hR
    refine wpAny_bind (wpAny_mono (step i h1 h2 _ hj') (fun r s2 hr => ?_) fun e s' z => hE e s' z)
    obtain ⟨hr, hj2⟩ := hr
    subst hr
    cases hy : e i with
    | true =>
      simp only [hy, Bool.true_and] at hR
      wp_walk
      exact ⟨rfl, i + 1, hj2, hrest, hR⟩
    | false =>
      simp only [hy, Bool.false_and] at hR
      wp_walk
      exact ⟨_, rfl, by simpa using hR _ _ hj2⟩
  case fin =>
    rintro ⟨b1, b2⟩ s' ⟨hb', i, hj', hz, hR⟩
    simp only at hb'
    subst hb'
    have hge : min items.size items2.size ≤ i := by
      rcases Nat.lt_or_ge i (items.toList.zip items2.toList).length with h' | h'
      · rw [List.drop_eq_getElem_cons h'] at hz; cases hz
      · exact hZ ▸ h'
    rw [List.drop_of_length_le (by simpa using hge)] at hR
    wp_walk
    exact ⟨_, rfl, by simpa [Builtin.Tuple.tupleCompareSizes] using hR _ _ hj'⟩
  case h =>
    exact ⟨rfl, 0, hj, rfl, by simpa using h⟩
end
end L2.Mb
set_option maxRecDepth 100000
set_option maxHeartbeats 4000000
namespace L2.Mb
open PySem PySem.Spec PyProof.Rows Mx
/-! ### == of lists and tuples, some of whose items have an own ==: True or False -/
abbrev Eqb := V → V → Bool → Hp → Prop
def MonB (D : Eqb) : Prop := ∀ x y c (H H' : Hp), Ext H H' → D x y c H → D x y c H'
/-- == of two items tells c, and makes objects at the most -/
def EqN (X : Cx) (n : Nat) (D : Eqb) : Prop := ∀ (A : Around) (pins : List (Addr × Obj)) (s : Shared) (σ : St) (H : Hp) (x y : V) (c : Bool) (u v : Value), Sub X n A → Inv X pins σ H s → RelV x u → RelV y v → D x y c H →
  wpAny (model X.prog X.w) A (eqBool u v) (fun r s' => r = c ∧ LoopI X pins σ H s') X.xe s
def RcN (X : Cx) (n : Nat) (D : Eqb) : Prop := ∀ (A : Around) (pins : List (Addr × Obj)) (s : Shared) (σ : St) (H : Hp) (x y : V) (c : Bool) (u v : Value), Sub X n A → Inv X pins σ H s → RelV x u → RelV y v → D x y c H →
  wpAny (model X.prog X.w) A (richCompare .Eq u v) (fun r s' => r = .bool c ∧ LoopI X pins σ H s') X.xe s
section
variable {X : Cx} {n m : Nat} {D D' : Eqb} {pins : List (Addr × Obj)} {σ : St} {H : Hp} {s : Shared}
theorem EqN.up (h : EqN X n D) (hn : n ≤ m) : EqN X m D := fun A pins s σ H x y c u v sb => h A pins s σ H x y c u v (sb.mono hn)
theorem EqN.alt (h : EqN X n D) (h' : EqN X n D') : EqN X n (fun x y c H => D x y c H ∨ D' x y c H) := fun A pins s σ H x y c u v sb I rx ry d => by
  rcases d with d | d
  · exact h A pins s σ H x y c u v sb I rx ry d
  · exact h' A pins s σ H x y c u v sb I rx ry d
theorem MonB.alt (h : MonB D) (h' : MonB D') : MonB (fun x y c H => D x y c H ∨ D' x y c H) := fun x y c H H' e d => d.imp (h x y c H H' e) (h' x y c H H' e)
/-- flat values -/
def BFlat : Eqb := fun x y c _ => flatV x = true ∧ flatV y = true ∧ c = eqV x y
theorem mon_bflat : MonB BFlat := fun _ _ _ _ _ _ d => d
theorem eqN_flat : EqN X 0 BFlat := fun A pins s σ H x y c u v sb I rx ry ⟨fx, fy, e⟩ => by
  subst e
  exact eqAt_V (A := A) (s := s) rx ry fx fy X.prog X.w X.xe _ ⟨rfl, H, I, Ext.rfl'⟩
/-- item by item, as far as both go -/
def Its (D : Eqb) (xs ys : List V) (e : Nat → Bool) (H : Hp) : Prop := ∀ (i : Nat) (x y : V), xs[i]? = some x → ys[i]? = some y → D x y (e i) H
def seqB (e : Nat → Bool) (n m : Nat) : Bool := decide (n = m) && (List.range n).all e
theorem Its.mon (hD : MonB D) {xs ys : List V} {e : Nat → Bool} {H' : Hp} (x : Ext H H') (p : Its D xs ys e H) : Its D xs ys e H' := fun i a b h1 h2 => hD a b _ H H' x (p i a b h1 h2)
theorem turnN (hD : MonB D) (h : EqN X n D) {A : Around} (sb : Sub X (n + 1) A) {xs ys : List V} {e : Nat → Bool} {its its2 : List Value} (p : Its D xs ys e H) (r : Vals xs its) (r2 : Vals ys its2)
    (i : Nat) (h1 : i < its.toArray.size) (h2 : i < its2.toArray.size) (s' : Shared) (l : LoopI X pins σ H s') :
    wpAny (model X.prog X.w) A.in1 (eqBool its.toArray[i] its2.toArray[i]) (fun c s2 => c = e i ∧ LoopI X pins σ H s2) X.xe s' := by
  obtain ⟨H1, I1, e1⟩ := l
  have g1 : its[i]? = some its.toArray[i] := by rw [List.getElem?_eq_getElem (by simpa using h1)] <;> simp
  have g2 : its2[i]? = some its2.toArray[i] := by rw [List.getElem?_eq_getElem (by simpa using h2)] <;> simp
  have j1 := List.getElem?_eq_getElem (show i < xs.length by rw [r.length]; simpa using h1)
  have j2 := List.getElem?_eq_getElem (show i < ys.length by rw [r2.length]; simpa using h2)
  obtain ⟨u, hu, ru⟩ := r.get j1
  obtain ⟨v, hv, rv⟩ := r2.get j2
  obtain rfl := Option.some.inj (g1.symm.trans hu)
  obtain rfl := Option.some.inj (g2.symm.trans hv)
  exact wpAny_mono (h A.in1 pins s' σ H1 _ _ _ _ _ sb.in1 I1 ru rv (hD _ _ _ _ _ e1 (p i _ _ j1 j2))) (fun c s2 ⟨hc, H2, I2, e2⟩ => ⟨hc, H2, I2, e1.trans e2⟩) fun _ _ z => z
def BList (D : Eqb) : Eqb := fun x y c H => ∃ a b xs ys e, x = .ref a ∧ y = .ref b ∧ H a = some (.lst xs) ∧ H b = some (.lst ys) ∧ Its D xs ys e H ∧ c = seqB e xs.length ys.length ∧ (a = b → c = true)
def BTup (K : W.Frag) (D : Eqb) : Eqb := fun x y c H => ∃ a b xs ys e, x = .ref a ∧ y = .ref b ∧ SqT K H a xs ∧ SqT K H b ys ∧ Its D xs ys e H ∧ c = seqB e xs.length ys.length ∧ (a = b → c = true)
theorem mon_blist (hD : MonB D) : MonB (BList D) := fun x y c H H' x' ⟨a, b, xs, ys, e, hx, hy, h1, h2, p, z, w⟩ => ⟨a, b, xs, ys, e, hx, hy, x' _ _ h1, x' _ _ h2, p.mon hD x', z, w⟩
theorem mon_btup {K : W.Frag} (hD : MonB D) : MonB (BTup K D) := fun x y c H H' x' ⟨a, b, xs, ys, e, hx, hy, h1, h2, p, z, w⟩ => ⟨a, b, xs, ys, e, hx, hy, h1.ext x', h2.ext x', p.mon hD x', z, w⟩
theorem rcN_list (hD : MonB D) (h : EqN X n D) : RcN X (n + 1) (BList D) := fun A pins s σ H x y c u v sb I rx ry d => by
  obtain ⟨a, b, xs, ys, e, rfl, rfl, ha, hb, p, rfl, _⟩ := d
  cases rx
  cases ry
  obtain ⟨z, its, k, r, e1⟩ := I.hok a _ ha
  obtain ⟨z2, its2, k2, r2, e2⟩ := I.hok b _ hb
  have s1 : its.toArray.size = xs.length := by rw [List.size_toArray, ← r.length]
  have s2 : its2.toArray.size = ys.length := by rw [List.size_toArray, ← r2.length]
  by_cases hl : xs.length = ys.length
  · refine wpAny_richCompare_same_room (op := .Eq) ⟨_, e1, rfl⟩ ⟨_, e2, rfl⟩ F.slot_list_eq (GQ.call_here F.slot_list_eq ⟨_, e1, rfl⟩ F.entry_list_eq (F.args_list_eq_2 _ _) ?_) sb.room.units0
    refine list_eqW (N := xs.length) (e := e) (R := wants (fun v s' => v ≠ .notImplemented ∧ (v = .bool (seqB e xs.length ys.length) ∧ LoopI X pins σ H s')) X.xe) (E := X.xe) (J := fun _ s' => LoopI X pins σ H s') (fun _ _ z => z) (fun i s' q => ?_) ⟨H, I, Ext.rfl'⟩ (fun j s' q => ⟨(fun z => nomatch z), ?_, q⟩)
    · obtain ⟨H1, I1, x1⟩ := id q
      obtain ⟨_, p1, c1, t1, o1⟩ := I1.hok a _ (x1 _ _ ha)
      obtain ⟨_, p2, c2, t2, o2⟩ := I1.hok b _ (x1 _ _ hb)
      exact ⟨p1.toArray, p2.toArray, c1, c2, o1, o2, by rw [List.size_toArray, ← t1.length], by rw [List.size_toArray, ← t2.length, hl], fun h1 h2 => turnN hD h sb p t1 t2 i h1 h2 s' q⟩
    · unfold seqB
      rw [decide_eq_true hl, Bool.true_and]
  · refine SeqAt.RcAt.lists_lengths (items := its.toArray) (items2 := its2.toArray) ⟨_, e1, rfl, k, rfl⟩ ⟨_, e2, rfl, k2, rfl⟩ (by rw [s1, s2]; simp [hl]) sb.room.units0 X.prog X.w X.xe _ ⟨?_, H, I, Ext.rfl'⟩
    unfold seqB
    rw [decide_eq_false hl, Bool.false_and]
theorem rcN_tup (hD : MonB D) (h : EqN X n D) : RcN X (n + 1) (BTup X.K D) := fun A pins s σ H x y c u v sb I rx ry d => by
  obtain ⟨a, b, xs, ys, e, rfl, rfl, ha, hb, p, rfl, _⟩ := d
  cases rx
  cases ry
  obtain ⟨its, r, ⟨⟨c1, d1, t1, l1⟩, o1, hc1, n1, hd1⟩, _⟩ := I.tuple ha
  obtain ⟨its2, r2, ⟨⟨c2, d2, t2, l2⟩, o2, hc2, n2, hd2⟩, _⟩ := I.tuple hb
  simp only at hc1 hd1 hc2 hd2
  subst hc1 hd1 hc2 hd2
  have s1 : its.toArray.size = xs.length := by rw [List.size_toArray, ← r.length]
  have s2 : its2.toArray.size = ys.length := by rw [List.size_toArray, ← r2.length]
  refine wpAny_richCompare_same_room (op := .Eq) ⟨_, o1, rfl⟩ ⟨_, o2, rfl⟩ F.slot_tuple_eq (wpAny_call (codeAny_call_builtin F.slot_tuple_eq.plain F.entry_tuple_eq (F.slot_tuple_eq.check _ _ _ _ _ _ _ _ ⟨_, o1, rfl⟩ (F.args_tuple_eq_2 _ _) (wpAny_mono (tuple_eqW (e := e) (R := wants (fun v s' => v ≠ .notImplemented ∧ (v = .bool (seqB e xs.length ys.length) ∧ LoopI X pins σ H s')) X.xe) (E := X.xe) (J := fun _ s' => LoopI X pins σ H s') (fun _ _ z => z) (fun i h1 h2 s' q => turnN hD h sb p r r2 i h1 h2 s' q) ⟨H, I, Ext.rfl'⟩ o1 o2 (fun j s' q => ⟨(fun z => nomatch z), ?_, q⟩)) (fun fin s' z => ?_) fun _ _ z => z)))) sb.room.units0
  · unfold seqB
    rw [s1, s2]
    by_cases hl : xs.length = ys.length
    · rw [decide_eq_true hl, ← hl, Nat.min_self]
      simp
    · rw [decide_eq_false hl]
      simp [hl]
  · obtain ⟨v, rfl, hv⟩ := z
    exact hv
theorem RcN.eq (h : RcN X n D) (hr : ∀ x y c H, D x y c H → ∃ a b, x = .ref a ∧ y = .ref b ∧ (a = b → c = true)) : EqN X n D := fun A pins s σ H x y c u v sb I rx ry d => by
  obtain ⟨a, b, rfl, rfl, hc⟩ := hr _ _ _ _ d
  cases rx
  cases ry
  by_cases hab : a = b
  · subst hab
    exact SeqAt.EqAt.same (A := A) (s := s) (.ref a) X.prog X.w X.xe _ ⟨(hc rfl).symm, H, I, Ext.rfl'⟩
  · exact GQ.eqBool_refG hab (wpAny_mono (h A pins s σ H (.ref a) (.ref b) c _ _ sb I rfl rfl d) (fun r s' ⟨z, q⟩ => ⟨c, z, rfl, q⟩) fun _ _ z => z)
theorem eqN_list (hD : MonB D) (h : EqN X n D) : EqN X (n + 1) (BList D) := (rcN_list hD h).eq fun _ _ _ _ ⟨a, b, _, _, _, hx, hy, _, _, _, _, w⟩ => ⟨a, b, hx, hy, w⟩
theorem eqN_tup (hD : MonB D) (h : EqN X n D) : EqN X (n + 1) (BTup X.K D) := (rcN_tup hD h).eq fun _ _ _ _ ⟨a, b, _, _, _, hx, hy, _, _, _, _, w⟩ => ⟨a, b, hx, hy, w⟩
/-- an instance with an own == beside an instance or any other value -/
def BIns (C : Addr) (sp : Sp) : Eqb := fun x y c H => ∃ a b dx fs, x = .ref a ∧ y = .ref b ∧ H a = some (.ins C dx fs) ∧ (∀ H1, Ext H H1 → CmpV C H1 y) ∧ (a = b → c = true) ∧ ∀ H1, Ext H H1 → sp [.ref a, y] H1 (fun v H2 => ∃ c2, v = .bl c2 ∧ (c2 = c ∧ Ext H1 H2)) (fun _ _ _ => False)
theorem mon_bins {C : Addr} {sp : Sp} : MonB (BIns C sp) := fun x y c H H' x' ⟨a, b, dx, fs, hx, hy, h1, h2, w, h3⟩ => ⟨a, b, dx, fs, hx, hy, x' _ _ h1, fun H1 e => h2 H1 (x'.trans e), w, fun H1 e => h3 H1 (x'.trans e)⟩
theorem rcN_ins {CX : CXT} {k : Nat} {C f : Addr} {fd : FuncData} {ps : List Str} {sp : Sp} (F : FnOk X.prog X.w X.K X.mg X.base CX k f fd ps sp) (hb : Binds X.K fd ps []) (hx : Passes CX X (fun _ _ _ => False))
    (hs : W.findIn X.K (.ref C) "__eq__" = some (some (.ref f))) (hf : W.isFn X.K (.ref f) = true) : RcN X k (BIns C sp) := fun A pins s σ H x y c u v sb I rx ry d => by
  obtain ⟨a, b, dx, fs, rfl, rfl, ea, hy, _, hsp⟩ := d
  cases rx
  obtain ⟨tb, L, nf⟩ := cmp_type (C := C) (M := model X.prog X.w) I ry (hy H Ext.rfl')
  obtain ⟨_, O, _⟩ := ins_get I.hok ea
  obtain ⟨_, J, _⟩ := O.look
  obtain ⟨m, hF⟩ := I.fr
  have e0 : Env0 X.prog X.w X.K X.mg X.base A X.stack s H := by
    have e := I.env0
    exact ⟨by rw [sb.fr]; exact e.frames, e.mod, e.bs, e.bsz, e.funs, e.frf, e.hok, e.bare⟩
  refine W.cmp_K (op := .Eq) (tb := tb) sb.room.units0 hF I.ok.mod.kin J L nf hs hf (wpAny_mono (back_bool (R := fun z H' => z = c ∧ Ext H H') F sb.room e0 hb hx I ry (hsp H Ext.rfl')) (fun r s' z => ?_) fun _ _ e => e)
  · obtain ⟨c', H', rfl, J', rfl, ex⟩ := z
    exact ⟨rfl, H', J', ex⟩
/-- x == y, both references -/
def rEqN (D : Eqb) : R2 := fun x y H Q => ∃ c, D x y c H ∧ ∀ H', Ext H H' → Q (.bl c) H'
theorem op_eqN (h : RcN X n D) (hr : Room n X.A) : OpR X (compareOp .Eq) (rEqN D) := by
  intro pins s σ H x y v u Q I rx ry hq
  obtain ⟨c, d, q⟩ := hq
  show wpAny (model X.prog X.w) X.A (richCompare .Eq v u) (EP X pins σ Q) X.xe s
  refine wpAny_mono (h X.A pins s σ H x y c v u ⟨hr, rfl⟩ I rx ry d) (fun r s' z => ?_) fun _ _ z => z
  obtain ⟨rfl, H', I', e⟩ := z
  exact ⟨.bl c, H', I', rfl, q H' e⟩
end
end L2.Mb
set_option maxRecDepth 100000
set_option maxHeartbeats 8000000
namespace L2.Mj
open PySem PySem.Spec PyProof.Rows L2 Mx L2.Mb Evl Mv TL LamX Sr Srt SrtO NdefX
/-! ### fields of a world by its properties -/
structure Prp (P : Program) (w : World) (K : W.Frag) (mg : Str → Option Value) (base : Heap) (C : Addr) (x : Str) (k : Nat) (sp : Sp) : Prop where
  ex : ∃ (p g : Addr) (fd : FuncData), PropOf K C x p g ∧ FnOk P w K mg base CX0 k g fd ["self"] sp ∧ Binds K fd ["self"] []
def tPrS (C : Addr) (sp : Sp) (ta : TE) : TE := fun σ H Q => ta σ H fun x H1 => ∃ a dx fs, x = .ref a ∧ H1 a = some (.ins C dx fs) ∧ sp [.ref a] H1 Q E0
theorem pe_prS {X : Cx} {e : Expr} {x : Str} {pos : Pos} {ta : TE} {k : Nat} {sp : Sp} (c : Cls X.K C) (p : Prp X.prog X.w X.K X.mg X.base C x k sp) (hr : Room (k + 1) X.A) (he : PE X e ta) (hab : attributeBase e x X.env (eval e X.env) = eval e X.env := by rfl) : PE X (.Attribute e x pos) (tPrS C sp ta) := by
  obtain ⟨pp, g, fd, h1, h2, h3⟩ := p.ex
  refine ⟨fun pins s σ H Q I h => ?_⟩
  refine attr_of hab (thn (he.run pins s σ H _ I h) fun u s1 ⟨y, H1, I1, ry, a, dx, fs, ey, ea, q⟩ => ?_)
  subst ey
  obtain rfl : u = Value.ref a := ry
  exact getprop_ok I1 ea c h1 h2 hr h3 .nil pass0 q
/-- the field itself -/
def spFd (C : Addr) (x : Str) : Sp := fun vs H Q _ => ∃ (a dx : Addr) (fs : List (Str × V)) (v : V), vs = [.ref a] ∧ H a = some (.ins C dx fs) ∧ fs.lookup x = some v ∧ Q v H
section
variable {P : Program} {w : World} {K : W.Frag} {mg : Str → Option Value} {base : Heap} {f C CK : Addr} {fd : FuncData} {mc : Value} {q : Str} {σ : L2.St} {H : Hp} {Tt : List (Addr × Str)}
theorem ok_pgates (T : WF K mg C mc) (F : FnC K "gates" q s_World_gates [] f fd) : FnOk P w K mg base CX0 1 f fd ["self"] (spFd C "_gates") := by
  refine F.ok sc_World_gates (fun vs H Q E h => ?_) (fun cdv A outer s H vs Q E hr h => ?_)
  · obtain ⟨a, dx, fs, v, rfl, _⟩ := h
    rfl
  · obtain ⟨a, dx, fs, v, rfl, ha, hl, k⟩ := h
    exact ⟨_, PSs.nox (pss_one (ps_ret (pe_fld (pv 0) rfl))), _, rfl, a, C, dx, fs, _, rfl, ha, T.cl, T.nG, hl, k⟩
theorem ok_phosts (T : WF K mg C mc) (F : FnC K "hosts" q s_World_hosts [] f fd) : FnOk P w K mg base CX0 1 f fd ["self"] (spFd C "_hosts") := by
  refine F.ok sc_World_hosts (fun vs H Q E h => ?_) (fun cdv A outer s H vs Q E hr h => ?_)
  · obtain ⟨a, dx, fs, v, rfl, _⟩ := h
    rfl
  · obtain ⟨a, dx, fs, v, rfl, ha, hl, k⟩ := h
    exact ⟨_, PSs.nox (pss_one (ps_ret (pe_fld (pv 0) rfl))), _, rfl, a, C, dx, fs, _, rfl, ha, T.cl, T.nH, hl, k⟩
theorem ok_pparts (T : WF K mg C mc) (F : FnC K "parts" q s_World_parts [] f fd) : FnOk P w K mg base CX0 1 f fd ["self"] (spFd C "_parts") := by
  refine F.ok sc_World_parts (fun vs H Q E h => ?_) (fun cdv A outer s H vs Q E hr h => ?_)
  · obtain ⟨a, dx, fs, v, rfl, _⟩ := h
    rfl
  · obtain ⟨a, dx, fs, v, rfl, ha, hl, k⟩ := h
    exact ⟨_, PSs.nox (pss_one (ps_ret (pe_fld (pv 0) rfl))), _, rfl, a, C, dx, fs, _, rfl, ha, T.cl, T.nP, hl, k⟩
theorem ev_prF {te : TE} {a : Addr} {fs : List (Str × V)} {x : Str} {v : V} (h : Ev te σ H (.ref a)) (ha : ∃ dx, H a = some (.ins C dx fs)) (hl : fs.lookup x = some v) : Ev (tPrS C (spFd C x) te) σ H v := fun H1 e Q q =>
  h H1 e _ fun H2 e2 => by
    obtain ⟨dx, hd⟩ := ha
    exact ⟨a, dx, fs, rfl, e2 _ _ (e _ _ hd), a, dx, fs, v, rfl, e2 _ _ (e _ _ hd), hl, q H2 e2⟩
end
/-! ### the parts in the order of their names -/
abbrev nT (Tt : List (Addr × Str)) : List NTab := Tt.map fun p => (p.1, fun _ _ => p.2)
theorem tabsN_of {Tt : List (Addr × Str)} {H : Hp} (h : Tabs Tt H) : TabsN (nT Tt) H := fun p hp => by
  obtain ⟨q, hq, rfl⟩ := List.mem_map.mp hp
  exact TabN.of (h q hq)
theorem tabs_of {Tt : List (Addr × Str)} {H : Hp} (h : TabsN (nT Tt) H) : Tabs Tt H := fun q hq => TabN.to (h _ (List.mem_map.mpr ⟨q, hq, rfl⟩))
abbrev tNm (K : W.Frag) : TE := tOp (rIxT K) (tVar 0) (tC (.int 1))
/-- the keys of parts -/
theorem keys_parts {K : W.Frag} {CK : Addr} {q : Str} {params : Arguments} {body : Expr} {scope : Scope} {fa c' : Addr} : ∀ (l : List Pl) (H : Hp) (Q : List V → Hp → Prop), H fa = some (LamO fa q params body scope [] c') → H c' = some (CodeO c' q) → (∀ x ∈ l, PartAt K CK H x.t x.k x.p) →
    (∀ H1, Ex H H1 → Q (l.map fun x => .str x.p.nm) H1) → tKeys (kLam q params body scope (tNm K) ["part"] fa) (l.map fun x => .ref x.t) H Q
  | [], H, Q, hf, hc, hp, k => k H (Ex.refl H)
  | y :: l, H, Q, hf, hc, hp, k => by
    refine ⟨c', hf, hc, ?_⟩
    refine (ev_pt (K := K) (σ := startF ["part"] [.ref y.t] []) rfl (hp y List.mem_cons_self) at_nm) H (Ex.refl H) _ fun H1 e1 => ?_
    exact keys_parts l H1 _ (e1 _ _ hf) (e1 _ _ hc) (fun z hz => (hp z (List.mem_cons_of_mem _ hz)).mono e1) fun H2 e2 => k H2 (e1.trans e2)
/-- the key's lambda -/
def lamJ : Expr := match defBody s_in_any_order with
  | [.Return (some (.Call _ _ (⟨_, e, _⟩ :: _) _)) _] => e
  | _ => .Name "x" ⟨0, 0, 0, 0⟩
def ljPar : Expr → Arguments
  | .Lambda p _ _ _ => p
  | _ => defArgs s_in_any_order
def ljBody : Expr → Expr
  | .Lambda _ b _ _ => b
  | e => e
def ljSc : Expr → Scope
  | .Lambda _ _ s _ => s
  | _ => defScope s_in_any_order
abbrev qJ : Str := "_in_any_order.<locals>.<lambda>"
theorem keyC_any {X : Cx} (hr : Room 2 X.A.in1.in1) (fa : Addr) : KeyC X (.ref fa) (kLam qJ (ljPar lamJ) (ljBody lamJ) (ljSc lamJ) (tNm X.K) ["part"] fa) :=
  keyC_lam (k := 1) (ps := ["part"]) (N := ["part"]) (x := "part") (nscope_by (by decide +kernel)) hr (fun cl pm cv ctv u => by rfl) (fun f c' A outer s H hr => pe_ix ix_tup (pe_var (i := 0) (x := "part") rfl (.inl rfl)) pe_int (fun _ _ => rfl)) fa
theorem ljFree : ∀ y ∈ (ljSc lamJ).names, y.2 ≠ .free := by decide +kernel
abbrev SrtP (m : List Pl) : Prop := Srtd (fun x y : Pl => ltN x.p.nm y.p.nm) m
def spAny (K : W.Frag) (C CK : Addr) (Tt : List (Addr × Str)) : Sp := fun vs H Q _ => ∃ (a : Addr) (l : List Pl), vs = [.ref a] ∧ WAt K C CK H a l ∧ Tabs Tt H ∧
  ∀ t H' m, m.Perm l → SrtP m → ExtN H H' → (∀ b, H' b = none → H b = none) → Tabs Tt H' → H t = none → H' t = some (.lst (m.map fun x => .ref x.t)) → Q (.ref t) H'
section
variable {P : Program} {w : World} {K : W.Frag} {mg : Str → Option Value} {base : Heap} {f c Pt C CK : Addr} {mc : Value} {oc doc pm ct : Value} {an od : Option Addr} {osl : Array (Option Value)} {Tt : List (Addr × Str)}
theorem ok_any_order (B : Bt mg) (T : WF K mg C mc) (PP : Prp P w K mg base C "parts" 1 (spFd C "_parts")) (lk : K.lookup f = some ⟨oc, od, .func (W.fnOf "_in_any_order" "_in_any_order" (defArgs s_in_any_order) (defBody s_in_any_order) (defScope s_in_any_order) .none .none doc pm an (.ref c) ct), osl⟩) (hcd : W.codeIn K (.ref c) "_in_any_order" = true)
    (TB : TabB base mg c Pt) (hm : (Pt, qJ) ∈ Tt) (hu : ∀ p ∈ Tt, p.1 = Pt → p.2 = qJ) :
    FnOk P w K mg base CX0 5 f (W.fnOf "_in_any_order" "_in_any_order" (defArgs s_in_any_order) (defBody s_in_any_order) (defScope s_in_any_order) .none .none doc pm an (.ref c) ct) p_in_any_order (spAny K C CK Tt) := by
  refine fn_of lk hcd sc_in_any_order (fun vs H Q E h => ?_) (fun A outer s H vs Q E hr h => ?_)
  · obtain ⟨a, l, rfl, _⟩ := h
    rfl
  · obtain ⟨a, l, rfl, wt, hT, k'⟩ := h
    have nd := sc_in_any_order.nd
    have hr2 : Room 2 (A.deeper (envOfC "_in_any_order" (defScope s_in_any_order) s.heap.objs.size f (.ref c))).in1.in1 := hr.in1.in1
    refine ⟨_, PSs.nox (pss_one (ps_ret (pe_callBK (cr_sortK (kp := kLam qJ (ljPar lamJ) (ljBody lamJ) (ljSc lamJ) (tNm K) ["part"]) (fun fa => keyC_any hr2 fa) hr2.units0) (by rfl) B.sorted (by decide +kernel) (pa_cons (pe_prS T.cl PP (hr.mono (by decide)) (pv 0)) pa_nil)
      (pk_cons (pe_lamV (T := nT Tt) (nm := fun _ _ => qJ) (c := c) (P := Pt) TB rfl (List.mem_map.mpr ⟨_, hm, rfl⟩) rfl (fun q hq e => by
          obtain ⟨y, hy, rfl⟩ := List.mem_map.mp hq
          rw [hu y hy e]) rfl (fun y hy e => absurd e (ljFree y hy))) pk_nil)))), ?_⟩
    obtain ⟨d, fs, kA, aA, ag, ah, gs, hs, z⟩ := wt
    refine (ev_prF (C := C) (x := "_parts") (ev_var rfl) z.fl.at_ z.fl.ts) H (Ex.refl H) _ fun H0 e0 => ?_
    have z0 := z.extn (ex_extn e0)
    have T0 := hT.ext e0
    refine ⟨tabsN_of T0, fun fl c' H1 e1 nn T1 nf hf hc => ?_⟩
    replace hf : H1 fl = some (LamO fl qJ (ljPar lamJ) (ljBody lamJ) (ljSc lamJ) [] c') := hf.trans (congrArg (fun l => some (LamO fl qJ (ljPar lamJ) (ljBody lamJ) (ljSc lamJ) l c')) (clo_nil ljFree))
    have z1 := z0.extn e1
    refine ⟨d.ts, fl, _, rfl, rfl, .inr (st_of z1.ts), keys_parts (CK := CK) l H1 _ hf hc z1.pt fun H2 e2 => ?_⟩
    refine ⟨(fun v => match v with | .str z => .a (.inr z) | _ => .a (.inl 0)), .a true, fun x hx => ?_, fun qs r hs hperm nr => ?_⟩
    · obtain ⟨y, _, rfl⟩ := List.mem_map.mp hx
      exact ⟨rfl, rfl⟩
    · have zipV : (l.map fun x => V.str x.p.nm).zip (l.map fun x => V.ref x.t) = l.map fun x => (V.str x.p.nm, V.ref x.t) := by
        rw [List.zip_map']
      rw [zipV] at hperm
      obtain ⟨m, hm1, rfl⟩ := perm_map hperm l rfl
      replace hs := List.pairwise_map.mp hs
      have x1 := Ex.new (o := .lst ((m.map fun x : Pl => (V.str x.p.nm, V.ref x.t)).map Prod.snd)) nr
      refine k' r _ m hm1 hs ((ex_extn e0).trans (e1.trans (ex_extn (e2.trans x1)))) (fun b hb => fresh_back e0 (nn b (fresh_back (e2.trans x1) hb))) (tabs_of (T1.ext (e2.trans x1))) (fresh_back e0 (nn r (fresh_back e2 nr))) ?_
      rw [upd_same, List.map_map]
      rfl
end
end L2.Mj
set_option maxRecDepth 100000
set_option maxHeartbeats 8000000
namespace L2.Mj
open PySem PySem.Spec PyProof.Rows L2 Mx L2.Mb Evl Mv TL LamX Sr Srt SrtO NdefX
/-! ### parts alike -/
instance : DecidableEq Pt := fun a b => decidable_of_iff (a.kd = b.kd ∧ a.nm = b.nm ∧ a.rl = b.rl ∧ a.ad = b.ad) ⟨fun ⟨h1, h2, h3, h4⟩ => by
  cases a
  cases b
  cases h1
  cases h2
  cases h3
  cases h4
  rfl, fun h => by
  subst h
  exact ⟨rfl, rfl, rfl, rfl⟩⟩
theorem kat_fun {C : Addr} {H : Hp} {a : Addr} {k k2 : Kd} (h1 : KAt C H a k) (h2 : KAt C H a k2) : k = k2 := by
  obtain ⟨dx, h1⟩ := h1
  obtain ⟨dy, h2⟩ := h2
  rw [h1] at h2
  have e : k.fs = k2.fs := by
    injection h2 with h2
    injection h2
  have a1 : some (V.str k.le) = some (V.str k2.le) := congrArg (List.lookup ("_lends" : Str)) e
  have a2 : some (V.str k.lt) = some (V.str k2.lt) := congrArg (List.lookup ("_lets" : Str)) e
  have a3 : some (V.bl k.tu) = some (V.bl k2.tu) := congrArg (List.lookup ("_turns" : Str)) e
  have a4 : some (optV k.re) = some (optV k2.re) := congrArg (List.lookup ("_rests" : Str)) e
  obtain ⟨le, lt, tu, re⟩ := k
  obtain ⟨le2, lt2, tu2, re2⟩ := k2
  cases a1
  cases a2
  cases a3
  have : re = re2 := by
    cases re <;> cases re2 <;> cases a4 <;> rfl
  rw [this]
theorem part_fun {K : W.Frag} {CK : Addr} {H : Hp} {t k k2 : Addr} {x y : Pt} (h1 : PartAt K CK H t k x) (h2 : PartAt K CK H t k2 y) : x = y := by
  have e : ptV k x = ptV k2 y := by
    have z := h1.t.symm.trans h2.t
    injection z with z
    injection z
  obtain ⟨kd, nm, rl, ad⟩ := x
  obtain ⟨kd2, nm2, rl2, ad2⟩ := y
  have a1 : some (V.str nm) = some (V.str nm2) := by
    have z := congrArg (fun l : List V => l[1]?) e
    cases kd <;> cases kd2 <;> exact z
  have a2 : some (V.str rl) = some (V.str rl2) := by
    have z := congrArg (fun l : List V => l[2]?) e
    cases kd <;> cases kd2 <;> exact z
  have a3 : some (V.int ad) = some (V.int ad2) := by
    have z := congrArg (fun l : List V => l[3]?) e
    cases kd <;> cases kd2 <;> exact z
  cases a1
  cases a2
  cases a3
  cases kd with
  | none =>
    cases kd2 with
    | none => rfl
    | some q => exact absurd (congrArg List.length e) (by show ¬ (4 = 5); decide)
  | some p =>
    cases kd2 with
    | none => exact absurd (congrArg List.length e) (by show ¬ (5 = 4); decide)
    | some q =>
      have z : some (V.ref k) = some (V.ref k2) := congrArg (fun l : List V => l[4]?) e
      cases z
      rw [kat_fun (h1.k p rfl) (h2.k q rfl)]
/-- an item of a part beside another's -/
abbrev DIt (CK : Addr) : Eqb := fun x y c H => BFlat x y c H ∨ BIns CK (spEqA CK) x y c H
theorem mon_dit {CK : Addr} : MonB (DIt CK) := mon_bflat.alt mon_bins
def eIt (x y : Pt) : Nat → Bool
  | 0 => gwd x == gwd y
  | 1 => x.nm == y.nm
  | 2 => x.rl == y.rl
  | 3 => x.ad == y.ad
  | _ => decide (x.kd = y.kd)
theorem kat_ins {CK : Addr} {H : Hp} {a b : Addr} {k k2 : Kd} (h1 : KAt CK H a k) (h2 : KAt CK H b k2) (o1 : k.ok = true) (o2 : k2.ok = true) : BIns CK (spEqA CK) (.ref a) (.ref b) (decide (k = k2)) H := by
  obtain ⟨dx, hx⟩ := id h1
  refine ⟨a, b, dx, _, rfl, rfl, hx, fun H1 e => .inl ?_, fun e => ?_, fun H1 e => ?_⟩
  · obtain ⟨dy, hy⟩ := id h2
    exact ⟨b, dy, _, rfl, e _ _ hy⟩
  · subst e
    exact decide_eq_true (kat_fun h1 h2)
  · exact ⟨a, .ref b, k, rfl, o1, h1.mono e, .inl ⟨b, k2, rfl, o2, h2.mono e, fun H' e' => ⟨_, rfl, rfl, e'⟩⟩⟩
theorem all_five (e : Nat → Bool) : (List.range 5).all e = (e 0 && (e 1 && (e 2 && (e 3 && e 4)))) := by
  show (e 0 && (e 1 && (e 2 && (e 3 && (e 4 && true))))) = _
  rw [Bool.and_true]
theorem all_four (e : Nat → Bool) : (List.range 4).all e = (e 0 && (e 1 && (e 2 && e 3))) := by
  show (e 0 && (e 1 && (e 2 && (e 3 && true)))) = _
  rw [Bool.and_true]
theorem pt_eq_iff {x y : Pt} : x = y ↔ x.kd = y.kd ∧ x.nm = y.nm ∧ x.rl = y.rl ∧ x.ad = y.ad := ⟨fun h => by
  subst h
  exact ⟨rfl, rfl, rfl, rfl⟩, fun ⟨h1, h2, h3, h4⟩ => by
  cases x
  cases y
  cases h1
  cases h2
  cases h3
  cases h4
  rfl⟩
theorem seq_parts (kx ky : Addr) (x y : Pt) : seqB (eIt x y) (ptV kx x).length (ptV ky y).length = decide (x = y) := by
  rw [Bool.eq_iff_iff, decide_eq_true_iff, pt_eq_iff]
  obtain ⟨kd, nm, rl, ad⟩ := x
  obtain ⟨kd2, nm2, rl2, ad2⟩ := y
  unfold seqB
  cases kd with
  | none =>
    cases kd2 with
    | none =>
      rw [show (ptV kx ⟨none, nm, rl, ad⟩).length = 4 from rfl, show (ptV ky ⟨none, nm2, rl2, ad2⟩).length = 4 from rfl, all_four]
      simp [eIt]
    | some q =>
      rw [show (ptV kx ⟨none, nm, rl, ad⟩).length = 4 from rfl, show (ptV ky ⟨some q, nm2, rl2, ad2⟩).length = 5 from rfl]
      simp
  | some p =>
    cases kd2 with
    | none =>
      rw [show (ptV kx ⟨some p, nm, rl, ad⟩).length = 5 from rfl, show (ptV ky ⟨none, nm2, rl2, ad2⟩).length = 4 from rfl]
      simp
    | some q =>
      rw [show (ptV kx ⟨some p, nm, rl, ad⟩).length = 5 from rfl, show (ptV ky ⟨some q, nm2, rl2, ad2⟩).length = 5 from rfl, all_five]
      simp [eIt]
      exact ⟨fun ⟨_, h1, h2, h3, h4⟩ => ⟨h4, h1, h2, h3⟩, fun ⟨h4, h1, h2, h3⟩ => ⟨rfl, h1, h2, h3, h4⟩⟩
theorem part_b {K : W.Frag} {CK : Addr} {H : Hp} {t u kx ky : Addr} {x y : Pt} (h1 : PartAt K CK H t kx x) (h2 : PartAt K CK H u ky y) (o1 : OkP x) (o2 : OkP y) : BTup K (DIt CK) (.ref t) (.ref u) (decide (x = y)) H := by
  refine ⟨t, u, ptV kx x, ptV ky y, eIt x y, rfl, rfl, st_of h1.t, st_of h2.t, fun i v w hv hw => ?_, (seq_parts kx ky x y).symm, fun e => ?_⟩
  · have k1 := h1.k
    have k2 := h2.k
    have c1 := o1.kd
    have c2 := o2.kd
    obtain ⟨kd, nm, rl, ad⟩ := x
    obtain ⟨kd2, nm2, rl2, ad2⟩ := y
    match i with
    | 0 => cases kd <;> cases kd2 <;> cases hv <;> cases hw <;> exact .inl ⟨rfl, rfl, rfl⟩
    | 1 => cases kd <;> cases kd2 <;> cases hv <;> cases hw <;> exact .inl ⟨rfl, rfl, rfl⟩
    | 2 => cases kd <;> cases kd2 <;> cases hv <;> cases hw <;> exact .inl ⟨rfl, rfl, rfl⟩
    | 3 => cases kd <;> cases kd2 <;> cases hv <;> cases hw <;> exact .inl ⟨rfl, rfl, rfl⟩
    | 4 =>
      cases kd with
      | none => cases hv
      | some p =>
        cases kd2 with
        | none => cases hw
        | some q =>
          cases hv
          cases hw
          have z := kat_ins (k1 p rfl) (k2 q rfl) c1 c2
          have e : eIt ⟨some p, nm, rl, ad⟩ ⟨some q, nm2, rl2, ad2⟩ 4 = decide (p = q) := by
            show decide (some p = some q) = decide (p = q)
            simp
          rw [e]
          exact .inr z
    | i + 5 => cases kd <;> cases hv
  · subst e
    exact decide_eq_true (part_fun h1 h2)
/-! ### lists in order -/
theorem srt_uniq : ∀ {l m : List Pt}, l.Perm m → (l.map Pt.nm).Nodup → Srtd (fun x y : Pt => ltN x.nm y.nm) l → Srtd (fun x y : Pt => ltN x.nm y.nm) m → l = m
  | [], m, p, _, _, _ => (List.nil_perm.mp p).symm
  | a :: l, [], p, _, _, _ => by cases List.perm_nil.mp p
  | a :: l, b :: m, p, nd, h1, h2 => by
    obtain ⟨q1, q2⟩ := List.pairwise_cons.mp h1
    obtain ⟨r1, r2⟩ := List.pairwise_cons.mp h2
    have e : a = b := by
      rcases List.mem_cons.mp (p.mem_iff.mp List.mem_cons_self) with y | y
      · exact y
      · rcases List.mem_cons.mp (p.mem_iff.mpr List.mem_cons_self) with x | x
        · exact x.symm
        · exfalso
          have z1 : ltN b.nm a.nm = false := q1 b x
          have z2 : ltN a.nm b.nm = false := r1 a y
          have e : a.nm = b.nm := by
            by_cases c : (Sum.inr a.nm : Key) = Sum.inr b.nm
            · injection c
            · rcases lin_K.tot _ _ c with z | z
              · exact absurd (z.symm.trans z2) (by decide)
              · exact absurd (z.symm.trans z1) (by decide)
          rw [List.map_cons, List.nodup_cons] at nd
          exact nd.1 (by rw [e]; exact List.mem_map_of_mem x)
    subst e
    rw [List.map_cons, List.nodup_cons] at nd
    rw [srt_uniq ((List.perm_cons a).mp p) nd.2 q2 r2]
/-- worlds with the same parts -/
def weq (l m : List Pl) : Bool := decide ((l.map Pl.p).Perm (m.map Pl.p))
theorem all_range {e : Nat → Bool} {n : Nat} : (List.range n).all e = true ↔ ∀ i, i < n → e i = true := by
  rw [List.all_eq_true]
  exact ⟨fun h i hi => h i (List.mem_range.mpr hi), fun h i hi => h i (List.mem_range.mp hi)⟩
theorem seq_worlds {l m l2 m2 : List Pl} (p1 : l2.Perm l) (p2 : m2.Perm m) (s1 : SrtP l2) (s2 : SrtP m2) (n1 : ((l.map Pl.p).map Pt.nm).Nodup) :
    seqB (fun i => decide ((l2[i]?).map Pl.p = (m2[i]?).map Pl.p)) l2.length m2.length = weq l m := by
  unfold weq seqB
  rw [Bool.eq_iff_iff, Bool.and_eq_true, decide_eq_true_iff, decide_eq_true_iff, all_range]
  constructor
  · rintro ⟨hl, h⟩
    have e : l2.map Pl.p = m2.map Pl.p := by
      refine List.ext_getElem? fun i => ?_
      rw [List.getElem?_map, List.getElem?_map]
      by_cases hi : i < l2.length
      · exact of_decide_eq_true (h i hi)
      · rw [List.getElem?_eq_none (by omega), List.getElem?_eq_none (by omega)]
    exact (p1.map Pl.p).symm.trans (e ▸ p2.map Pl.p)
  · intro h
    have e : l2.map Pl.p = m2.map Pl.p := srt_uniq ((p1.map Pl.p).trans (h.trans (p2.map Pl.p).symm)) ((p1.map Pl.p).map Pt.nm |>.nodup_iff.mpr n1) (List.pairwise_map.mpr s1) (List.pairwise_map.mpr s2)
    refine ⟨by simpa using congrArg List.length e, fun i _ => decide_eq_true ?_⟩
    rw [← List.getElem?_map, ← List.getElem?_map, e]
end L2.Mj
set_option maxRecDepth 100000
set_option maxHeartbeats 8000000
namespace L2.Mj
open PySem PySem.Spec PyProof.Rows L2 Mx L2.Mb Evl Mv TL LamX Sr Srt SrtO NdefX
/-! ### worlds compared -/
structure OwnF (P : Program) (w : World) (K : W.Frag) (mg : Str → Option Value) (base : Heap) (C : Addr) (m : Str) (k : Nat) (ps : List Str) (sp : Sp) (f : Addr) (fd : FuncData) : Prop where
  ok : FnOk P w K mg base CX0 k f fd ps sp
  b : Binds K fd ps []
  s : W.findIn K (.ref C) m = some (some (.ref f))
  fn : W.isFn K (.ref f) = true
def spWEq (K : W.Frag) (C CK : Addr) (Tt : List (Addr × Str)) : Sp := fun vs H Q _ => ∃ (a : Addr) (y : V) (l : List Pl), vs = [.ref a, y] ∧ WAt K C CK H a l ∧ Tabs Tt H ∧
  ((∃ b m, y = .ref b ∧ WAt K C CK H b m ∧ ∀ H', ExtN H H' → (∀ c, H' c = none → H c = none) → Tabs Tt H' → Q (.bl (weq l m)) H') ∨ (AnyV H y ∧ ∀ H', Ex H H' → Q (.bl false) H'))
section
variable {P : Program} {w : World} {K : W.Frag} {mg : Str → Option Value} {base : Heap} {f fA fQ C CK : Addr} {fd dA dQ : FuncData} {mc : Value} {q : Str} {Tt : List (Addr × Str)}
theorem rc_isI {H : Hp} {a dx : Addr} {fs : List (Str × V)} (I : IK K C) (hd : H a = some (.ins C dx fs)) : RC (rIsi K) [.ref a, .ref C] H (.bl true) :=
  rc_isi (t := .ref C) (.own C) (fun H1 e => .base (.ins (e _ _ hd) I.ic.cl I.ic.ha I.ic.hn I.ic.htk I.ic.hm)) I.ic.me
theorem eqN_dit {X : Cx} (F : FnOk X.prog X.w X.K X.mg X.base CX0 4 fQ dQ ["self", "other"] (spEqA CK)) (hb : Binds X.K dQ ["self", "other"] []) (hx : Passes CX0 X (fun _ _ _ => False)) (hs : W.findIn X.K (.ref CK) "__eq__" = some (some (.ref fQ))) (hf : W.isFn X.K (.ref fQ) = true) : EqN X 4 (DIt CK) :=
  EqN.alt (eqN_flat.up (Nat.zero_le 4)) ((rcN_ins F hb hx hs hf).eq fun _ _ _ _ ⟨a, b, _, _, hx, hy, _, _, w, _⟩ => ⟨a, b, hx, hy, w⟩)
theorem rcN_parts {X : Cx} (F : FnOk X.prog X.w X.K X.mg X.base CX0 4 fQ dQ ["self", "other"] (spEqA CK)) (hb : Binds X.K dQ ["self", "other"] []) (hx : Passes CX0 X (fun _ _ _ => False)) (hs : W.findIn X.K (.ref CK) "__eq__" = some (some (.ref fQ))) (hf : W.isFn X.K (.ref fQ) = true) : RcN X 6 (BList (BTup X.K (DIt CK))) :=
  rcN_list (mon_btup mon_dit) (eqN_tup mon_dit (eqN_dit F hb hx hs hf))
theorem ok_weq (B : Bt mg) (T : WF K mg C mc) (I : IK K C) (QK : OwnF P w K mg base CK "__eq__" 4 ["self", "other"] (spEqA CK) fQ dQ) (DA : Fn0 P w K mg base "_in_any_order" 5 fA dA p_in_any_order (spAny K C CK Tt))
    (F : FnC K "__eq__" q s_World_eq [] f fd) : FnOk P w K mg base CX0 7 f fd ["self", "other"] (spWEq K C CK Tt) := by
  refine F.ok sc_World_eq (fun vs H Q E h => ?_) (fun cdv A outer s H vs Q E hr h => ?_)
  · obtain ⟨a, y, l, rfl, _⟩ := h
    rfl
  · obtain ⟨a, y, l, rfl, wt, hT, h⟩ := h
    have nd := sc_World_eq.nd
    refine ⟨_, PSs.nox (pss_one (ps_ret (pe_and (pe_callB call_isi (by rfl) B.isinstance (by decide +kernel) (pa_cons (pv 1) (pa_cons (pe_glob (v := .ref C) (by rfl) T.m rfl) pa_nil)))
      (pe_one (pe_cmpR (op_eqN (rcN_parts (CK := CK) QK.ok QK.b pass0 QK.s QK.fn) hr) (pe_call DA.ok (hr.mono (by decide)) (by rfl) DA.m DA.k DA.b .nil pass0 (pa_cons (pv 0) pa_nil)) (pe_call DA.ok (hr.mono (by decide)) (by rfl) DA.m DA.k DA.b .nil pass0 (pa_cons (pv 1) pa_nil)) (nomark _)))))), ?_⟩
    rcases h with ⟨b, m, rfl, wm, k⟩ | ⟨hy, k⟩
    · have wm' := wm
      obtain ⟨d2, fs2, kA2, aA2, ag2, ah2, gs2, hs2, z2⟩ := wm'
      obtain ⟨dy, hb⟩ := z2.fl.at_
      have wt' := wt
      obtain ⟨d1, fs1, kA1, aA1, ag1, ah1, gs1, hs1, z1⟩ := wt'
      refine (ev_cb (z := .bl true) (ea_cons (ev_var rfl) (ea_cons ev_c ea_nil)) (rc_isI (C := C) I hb)) H (Ex.refl H) _ fun H1 e1 => ⟨true, rfl, ?_⟩
      rw [if_pos rfl]
      have x1 := ex_extn e1
      refine ⟨_, rfl, a, l, rfl, wt.extn x1, hT.ext e1, fun t H2 l2 p2 s2 n2 f2 T2 nt ht => ?_⟩
      have x2 := x1.trans n2
      refine ⟨_, rfl, b, m, rfl, wm.extn x2, T2, fun u H3 m2 p3 s3 n3 f3 T3 nu hu => ?_⟩
      have x3 := x2.trans n3
      have ht3 := lst_n n3 ht
      have hne : t ≠ u := ne_of_none ht nu
      have okl : ∀ x ∈ l, OkP x.p := fun x hx => z1.vd.okP x.p (List.mem_reverse.mpr (List.mem_map_of_mem hx))
      have okm : ∀ x ∈ m, OkP x.p := fun x hx => z2.vd.okP x.p (List.mem_reverse.mpr (List.mem_map_of_mem hx))
      have nd1 : ((l.map Pl.p).map Pt.nm).Nodup := by
        have z := Vd.nodup z1.vd
        rw [List.map_reverse] at z
        exact (List.reverse_perm _).nodup_iff.mp z
      refine ⟨weq l m, ⟨t, u, l2.map fun x => .ref x.t, m2.map fun x => .ref x.t, fun i => decide ((l2[i]?).map Pl.p = (m2[i]?).map Pl.p), rfl, rfl, ht3, hu, fun i x y hx hy => ?_, ?_, fun e => absurd e hne⟩, fun H4 e4 => k H4 (x3.trans (ex_extn e4)) (fun c hc => fresh_back e1 (f2 c (f3 c (fresh_back e4 hc)))) (T3.ext e4)⟩
      · rw [List.getElem?_map] at hx hy
        cases e1 : l2[i]? with
        | none => rw [e1] at hx; cases hx
        | some x' =>
          cases e2 : m2[i]? with
          | none => rw [e2] at hy; cases hy
          | some y' =>
            rw [e1] at hx
            rw [e2] at hy
            cases hx
            cases hy
            have mx := p2.subset (List.mem_of_getElem? e1)
            have my := p3.subset (List.mem_of_getElem? e2)
            have z := part_b (K := K) (CK := CK) ((z1.pt x' mx).extn x3) ((z2.pt y' my).extn x3) (okl x' mx) (okm y' my)
            have ee : decide ((l2[i]?).map Pl.p = (m2[i]?).map Pl.p) = decide (x'.p = y'.p) := by
              rw [e1, e2]
              show decide (some x'.p = some y'.p) = _
              simp
            show BTup _ _ (V.ref x'.t) (V.ref y'.t) (decide ((l2[i]?).map Pl.p = (m2[i]?).map Pl.p)) H3
            rw [ee]
            exact z
      · rw [List.length_map, List.length_map]
        exact (seq_worlds p2 p3 s2 s3 nd1).symm
    · exact s_ret (v := .bl false) (ev_andV (a := false) (b := false) (ev_cb (ea_cons (ev_var rfl) (ea_cons ev_c ea_nil)) (rc_isN I hy)) (fun z => by cases z)) fun H1 e1 => k H1 e1
end
end L2.Mj
set_option maxRecDepth 100000
set_option maxHeartbeats 4000000
namespace L2.Mb
open PySem PySem.Spec PyProof.Rows Mx
/-! ### own errors over any base, raised -/
section
variable {X : Cx} {e : Expr} {es : List Expr} {ta : TA} {p pos : Pos}
theorem pmk_X {CX : CXT} {x : Str} {C fI : Addr} {b : EB} {k : Nat} {fd : FuncData} {ps : List Str} {sp : Sp} {ds : List Value} {dvs : List V} (T : EC X.K C fI b) (ty : W.typeIn X.K (.ref C) = some (.type "type"))
    (F1 : FnOk X.prog X.w X.K X.mg X.base CX k fI fd ps sp) (hr : Room (k + 1) X.A) (hb : Binds X.K fd ps ds) (hd : Vals dvs ds) (hx : Passes CX X (fun _ _ _ => False)) (hg : Gl X x) (hm : X.mg x = some (.ref C)) (ha : PA X (e :: es) ta)
    (hdb : (x == ("__debug__" : Str)) = false := by decide) (he : starEach (e :: es) X.env = (false, eval e X.env) :: starEach es X.env := by rfl) (hpl : (backTo pos (starEach es X.env)).any (·.1) = false := by rfl) :
    PMk X (.Call (.Name x p) (e :: es) [] pos) (tMkO C sp dvs ta) := by
  intro pins s σ H Q I h
  obtain ⟨nm, q, N, bs, bm, sn, sub, ab, col, dd, k0, k1, k2, k3, k5, hC, hbm⟩ := T.cls
  refine wpAny_Call_Name_kw (ld_glob I hg hm ?_ hdb)
  refine PySem.W.callWith_K (h₀ := X.base) I.ok.mod.kin T.kp (thn (ha.run pos pins s σ H _ I h) fun us s1 ⟨vs, H1, I1, r1, hz, q1⟩ => ⟨I1.kIn, ?_⟩) he hpl
  show wpAny _ _ (call (.ref C) us) _ _ _
  obtain ⟨hp, g, dr, tk, os⟩ := s1
  have hsz : hp.objs.size ≤ hp.objs.size + 1 := Nat.le_succ _
  have hn : H1 (hp.objs.size + 1) = none := I1.hok.fresh hsz
  have hq := q1 (hp.objs.size + 1) hn
  have kk : ∀ c o, hp.get? c = some o → ((hp.push (tupO us)).push (rawX C hp.objs.size)).get? c = some o := fun c o e => Heap.get?_push_of_some _ (Heap.get?_push_of_some _ e)
  have hget : ((hp.push (tupO us)).push (rawX C hp.objs.size)).get? (hp.objs.size + 1) = some (rawX C hp.objs.size) := by heap_get
  have I2 : Inv X pins σ (upd H1 (hp.objs.size + 1) (exo (hp.objs.size + 1) C none)) ⟨(hp.push (tupO us)).push (rawX C hp.objs.size), g, dr, tk, os⟩ :=
    I1.laid (t' := tk) (a := hp.objs.size + 1) (o := exo (hp.objs.size + 1) C none) (h' := (hp.push (tupO us)).push (rawX C hp.objs.size)) kk hsz (exo_ok hget)
  have r2 : Vals (V.ref (hp.objs.size + 1) :: (vs ++ dvs)) (Value.ref (hp.objs.size + 1) :: (us ++ ds)) := .cons rfl (r1.append hd)
  have hl : (Value.ref (hp.objs.size + 1) :: us ++ ds).length = ps.length := by
    have e := r2.length
    rw [F1.len _ _ _ _ hq] at e
    exact e.symm
  have hus : us.length ≤ sizeLine := by
    rw [← Paired.length r1, sizeLine_eq]
    omega
  refine wpAny_call (run_class hbm hus (I1.kIn _ _ hC) (W.looks_findIn I1.kIn T.ini) (fun self => W.bind_fn I1.kIn self T.tfn) (W.looks_instIn I1.kIn T.ins)
    (codeAny_mono (F1.run _ X.stack _ _ ⟨Value.ref (hp.objs.size + 1) :: us, []⟩ (Value.ref (hp.objs.size + 1) :: (us ++ ds)) _ _ (fun _ _ _ => False) (hr.make C us []) (I2.env0.make C us []) (hb _ (Value.ref (hp.objs.size + 1) :: us) I2.kIn hl) r2 hq) fun r s' hq' => ?_))
  cases r with
  | error er => exact hx pins σ _ _ er s' I2 hq'
  | ok fl =>
    cases fl with
    | ret u =>
      obtain ⟨v, H2, os2, bare2, un2, hok2, rv, ev, d, fs, ea, ed, hd1, q2⟩ := hq'
      subst ev
      obtain ⟨h2, g2, d2, t2, os'⟩ := s'
      exact ⟨rv, mk_end (raises_own T.base ty) I1 hsz kk un2 hok2 os2 bare2 ea ed hd1 q2⟩
    | next => exact False.elim hq'
    | brk => exact False.elim hq'
    | cont => exact False.elim hq'
end
end L2.Mb
set_option maxRecDepth 100000
set_option maxHeartbeats 8000000
namespace L2.Mj
open PySem PySem.Spec PyProof.Rows L2 Mx L2.Mb Evl Mv TL LamX Sr Srt SrtO NdefX
/-! ### what stands in a world's dicts, yes or no -/
theorem newN_cases (rs : List Pt) (n : Str) : newN rs n = true ∨ ∃ p ∈ rs, p.nm = n := by
  cases h : newN rs n with
  | true => exact .inl rfl
  | false =>
    unfold newN at h
    obtain ⟨p, hp, e⟩ := List.all_eq_false.mp h
    exact .inr ⟨p, hp, by simpa using e⟩
theorem some_new {rs : List Pt} (v : Vd rs) (f : Pt → V) (n : Str) : (valV (rs.reverse.map fun p => ((Sum.inr p.nm : Key), f p)) (Sum.inr n)).isSome = !newN rs n := by
  cases h : newN rs n with
  | true => rw [val_new h]; rfl
  | false =>
    rcases newN_cases rs n with y | ⟨p, hp, rfl⟩
    · rw [h] at y; cases y
    · rw [val_at v hp f]; rfl
theorem some_place {rs : List Pt} (v : Vd rs) (r : Str) (a : Int) : (valV (dPlace rs) [Sum.inr r, Sum.inl a]).isSome = !newA rs r a := by
  cases h : newA rs r a with
  | true => rw [val_newP h]; rfl
  | false =>
    rw [val_place v]
    unfold newA at h
    obtain ⟨p, hp, e⟩ := List.all_eq_false.mp h
    have e2 : p.rl = r ∧ p.ad = a := by simpa using e
    unfold statAt
    cases hf : rs.find? fun p => decide (p.rl = r ∧ p.ad = a) with
    | some q => rfl
    | none => exact absurd (List.find?_eq_none.mp hf p hp) (by simp [e2])
theorem some_ar {rs : List Pt} (v : Vd rs) {a0 : Addr} {aA : Str → Addr} (r : Str) : (valV (dAround a0 aA rs) (Sum.inr r)).isSome = (decide (r = "") || hasG rs r) := by
  cases h : (decide (r = "") || hasG rs r) with
  | true =>
    rw [val_ar v ((Bool.or_eq_true_iff.mp h).imp of_decide_eq_true id)]
    rfl
  | false =>
    obtain ⟨h1, h2⟩ := Bool.or_eq_false_iff.mp h
    show (valV (((Sum.inr "" : Key), V.ref a0) :: (gts rs).reverse.map fun p => ((Sum.inr p.nm : Key), V.ref (aA p.nm))) (Sum.inr r)).isSome = false
    rw [valV_neg (fun y => of_decide_eq_false h1 (inr_iff.mp y).symm), valV_of, find_none]
    · rfl
    · intro q hq
      refine decide_eq_false fun z => ?_
      have g := mem_gts.mp (List.mem_reverse.mp hq)
      have : hasG rs r = true := hasG_iff.mpr ⟨q, List.mem_reverse.mp hq, inr_iff.mp z⟩
      rw [h2] at this
      cases this
/-- what stands in the way of a part's place: 1 its realm is missing, 2 its name or its place is taken -/
structure X1 (P : Program) (w : World) (K : W.Frag) (mg : Str → Option Value) (base : Heap) (x fld : Str) (bk : EB) (CE fE : Addr) (dE : FuncData) : Prop where
  ec : EC K CE fE bk
  ty : W.typeIn K (.ref CE) = some (.type "type")
  m : mg x = some (.ref CE)
  ok : FnOk P w K mg base CX0 1 fE dE ["self", fld] (spI1 CE fld)
  b : Binds K dE ["self", fld] []
  no : W.findIn K (.ref CE) fld = some none
section
variable {P : Program} {w : World} {K : W.Frag} {mg : Str → Option Value} {base : Heap} {f C CK CS fS f1 f2 fA : Addr} {fd d1 d2 dA dS : FuncData} {mc : Value} {q : Str}
theorem ok_xns {bk : EB} {CE : Addr} (F : FnC K "__init__" "NoStation.__init__" s_NoStation_init [] f fd) (T : EC K CE f bk) (no : W.findIn K (.ref CE) "name" = some none) : FnOk P w K mg base CX0 1 f fd ["self", "name"] (spI1 CE "name") := by
  refine F.ok sc_NoStation_init (fun vs H Q E h => ?_) (fun cdv A outer s H vs Q E hr h => ?_)
  · obtain ⟨a, v, rfl, _⟩ := h
    rfl
  · obtain ⟨a, v, rfl, ha, k⟩ := h
    refine ⟨_, PSs.nox (pss_one (ps_putX (pv 0) (pv 1))), ?_⟩
    exact ⟨v, rfl, _, rfl, a, CE, f, bk, rfl, T, no, .inl ⟨ha, k⟩⟩
end
end L2.Mj
set_option maxRecDepth 100000
set_option maxHeartbeats 8000000
namespace L2.Mj
open PySem PySem.Spec PyProof.Rows L2 Mx L2.Mb Evl Mv TL LamX Sr Srt SrtO NdefX
/-! ### what a world tells of any value, or NoStation -/
def strB (g : Str → Bool) : V → Bool
  | .str t => g t
  | _ => false
def spNm (K : W.Frag) (C CK CS : Addr) (has : List Pt → Str → Bool) (A : List Pt → Str → V → Hp → Prop) : Sp := fun vs H Q E => ∃ (a : Addr) (y : V) (l : List Pl), vs = [.ref a, y] ∧ WAt K C CK H a l ∧ AnyV H y ∧
  (∀ z, y = .str z → has (rsOf l) z = true → ∀ v H', Ex H H' → A (rsOf l) z v H' → Q v H') ∧ (strB (has (rsOf l)) y = false → ∀ d H', Ex H H' → H' d = some (.xd [("name", y)]) → E (.ref CS) (some d) H')
abbrev hasN (rs : List Pt) (z : Str) : Bool := !newN rs z
abbrev hasR (rs : List Pt) (z : Str) : Bool := decide (z = "") || hasG rs z
theorem hasN_mem {rs : List Pt} {z : Str} (h : hasN rs z = true) : ∃ p ∈ rs, p.nm = z := by
  rcases newN_cases rs z with y | y
  · rw [hasN, y] at h
    cases h
  · exact y
theorem some_kinds {rs : List Pt} (v : Vd rs) {kA : Str → Addr} (n : Str) : (valV (dKinds kA rs) (Sum.inr n)).isSome = hasG rs n := by
  cases h : hasG rs n with
  | true =>
    obtain ⟨p, hp, rfl⟩ := hasG_iff.mp h
    have z := val_kinds v (kA := kA) (mem_gts.mp hp).1
    rw [z]
    exact (mem_gts.mp hp).2
  | false =>
    cases e : valV (dKinds kA rs) (Sum.inr n) with
    | none => rfl
    | some w =>
      exfalso
      have z : (valV (dKinds kA rs) (Sum.inr n)).isSome = true := by rw [e]; rfl
      unfold dKinds at z
      rw [← valV_any] at z
      obtain ⟨q, hq, hk⟩ := List.any_eq_true.mp z
      obtain ⟨p, hp, rfl⟩ := List.mem_map.mp hq
      have := hasG_iff.mpr ⟨p, List.mem_reverse.mp hp, inr_iff.mp (of_decide_eq_true hk)⟩
      rw [h] at this
      cases this
section
variable {P : Program} {w : World} {K : W.Frag} {mg : Str → Option Value} {base : Heap} {f C CK CS fS f1 f2 fA : Addr} {fd d1 d2 dA dS : FuncData} {mc : Value} {q : Str} {bS : EB}
/-- isinstance(y, str) and y in a dict -/
theorem et_strIn {σ : L2.St} {H : Hp} {y : V} {td : TE} {dd : Addr} {kvs : List (Key × V)} {g : Str → Bool} (h1 : σ[1]? = some (some y)) (hy : AnyV H y) (hd : Ev td σ H (.ref dd)) (h : H dd = some (.dK kvs)) (hg : ∀ t, (valV kvs (Sum.inr t)).isSome = g t) :
    EvT (tAnd (tB (tCB (rIsi K) (tCons (tVar 1) (tCons (tC (.ty "str")) tNil)))) (tB (tDIn (tVar 1) td))) σ H (strB g y) := by
  have e : strB g y = (isStB y && strB g y) := by cases y <;> rfl
  rw [e]
  refine et_and (et_B (ev_cb (ea_cons (ev_var h1) (ea_cons ev_c ea_nil)) (rc_str hy))) fun hs => ?_
  cases y with
  | str t => exact et_B (ev_is (ev_din (k := Sum.inr t) (ev_var h1) hd h) (by rw [hg]; rfl))
  | _ => cases hs
theorem str_of {g : Str → Bool} {y : V} (h : strB g y = true) : ∃ t, y = .str t ∧ g t = true := by
  cases y with
  | str t => exact ⟨t, rfl, h⟩
  | _ => cases h
theorem ok_address_e (B : Bt mg) (T : WF K mg C mc) (XS : X1 P w K mg base "NoStation" "name" bS CS fS dS) (F : FnC K "address" q s_World_address [] f fd) :
    FnOk P w K mg base (L2.CX P w) 3 f fd ["self", "name"] (spNm K C CK CS hasN fun rs z v _ => ∃ p ∈ rs, p.nm = z ∧ v = .int p.ad) := by
  refine F.ok sc_World_address (fun vs H Q E h => ?_) (fun cdv A outer s H vs Q E hr h => ?_)
  · obtain ⟨a, y, l, rfl, _⟩ := h
    rfl
  · obtain ⟨a, y, l, rfl, wt, hy, k, ke⟩ := h
    have hu := Nat.lt_of_le_of_lt (Nat.add_le_add_left (show 1 ≤ 64 by decide) _) hr.units
    refine ⟨_, pss_cons (ps_if (pt_not (pw_and (pt_val (pe_callB call_isi (by rfl) B.isinstance (by decide +kernel) (pa_cons (pv 1) (pa_cons (pe_bltn (v := .ty "str") (by rfl) B.str (by decide +kernel) rfl) pa_nil)))) (pw_and1 (pt_cmp (pc_din hu (pv 1) (pe_fld (pv 0) rfl))))).pt) (pss_one (ps_raise rfl (takes_of rfl rfl rfl rfl) (pmk_X XS.ec XS.ty XS.ok (hr.mono (by decide)) XS.b .nil pass0 (by rfl) XS.m (pa_cons (pv 1) pa_nil)))) pss_nil)
      (pss_one (ps_ret (pe_dget hu (pe_fld (pv 0) rfl) (pv 1) (fun _ _ => rfl)))), ?_⟩
    obtain ⟨d, fs, kA, aA, ag, ah, gs, hs, z⟩ := wt
    refine q_when (b := !strB (hasN (rsOf l)) y) (et_not (et_strIn rfl hy (ev_f T.cl T.nA (ev_var rfl) z.fl.at_ z.fl.da) z.bs.a fun t => some_new z.vd _ t)) (fun hn H1 e1 => ?_) (fun hn H1 e1 => ?_)
    · rw [Bool.not_eq_true'] at hn
      exact s_raise1 (W := fun cls d _ H' => E cls d H') (ea_cons (ev_var rfl) ea_nil) fun dx H4 e4 hd => ke hn dx H4 (e1.trans e4) hd
    · rw [Bool.not_eq_false'] at hn
      obtain ⟨t, rfl, ht⟩ := str_of hn
      obtain ⟨p, hp, rfl⟩ := hasN_mem ht
      have z1 := z.extn (ex_extn e1)
      exact s_ret (v := .int p.ad) (ev_dget (k := Sum.inr p.nm) (ev_f T.cl T.nA (ev_var rfl) z1.fl.at_ z1.fl.da) (ev_var rfl) z1.bs.a (val_at z.vd hp fun p => V.int p.ad)) fun H2 e2 => k _ rfl ht _ H2 (e1.trans e2) ⟨p, hp, rfl, rfl⟩
theorem ok_kind_e (B : Bt mg) (T : WF K mg C mc) (XS : X1 P w K mg base "NoStation" "name" bS CS fS dS) (F : FnC K "kind" q s_World_kind [] f fd) :
    FnOk P w K mg base (L2.CX P w) 3 f fd ["self", "gate"] (spNm K C CK CS hasG fun rs z v H' => ∃ p ∈ gts rs, p.nm = z ∧ ∃ k ka, p.kd = some k ∧ v = .ref ka ∧ KAt CK H' ka k) := by
  refine F.ok sc_World_kind (fun vs H Q E h => ?_) (fun cdv A outer s H vs Q E hr h => ?_)
  · obtain ⟨a, y, l, rfl, _⟩ := h
    rfl
  · obtain ⟨a, y, l, rfl, wt, hy, k, ke⟩ := h
    have hu := Nat.lt_of_le_of_lt (Nat.add_le_add_left (show 1 ≤ 64 by decide) _) hr.units
    refine ⟨_, pss_cons (ps_if (pt_not (pw_and (pt_val (pe_callB call_isi (by rfl) B.isinstance (by decide +kernel) (pa_cons (pv 1) (pa_cons (pe_bltn (v := .ty "str") (by rfl) B.str (by decide +kernel) rfl) pa_nil)))) (pw_and1 (pt_cmp (pc_din hu (pv 1) (pe_fld (pv 0) rfl))))).pt) (pss_one (ps_raise rfl (takes_of rfl rfl rfl rfl) (pmk_X XS.ec XS.ty XS.ok (hr.mono (by decide)) XS.b .nil pass0 (by rfl) XS.m (pa_cons (pv 1) pa_nil)))) pss_nil)
      (pss_one (ps_ret (pe_dget hu (pe_fld (pv 0) rfl) (pv 1) (fun _ _ => rfl)))), ?_⟩
    obtain ⟨d, fs, kA, aA, ag, ah, gs, hs, z⟩ := wt
    refine q_when (b := !strB (hasG (rsOf l)) y) (et_not (et_strIn rfl hy (ev_f T.cl T.nK (ev_var rfl) z.fl.at_ z.fl.dk) z.bs.k fun t => some_kinds z.vd t)) (fun hn H1 e1 => ?_) (fun hn H1 e1 => ?_)
    · rw [Bool.not_eq_true'] at hn
      exact s_raise1 (W := fun cls d _ H' => E cls d H') (ea_cons (ev_var rfl) ea_nil) fun dx H4 e4 hd => ke hn dx H4 (e1.trans e4) hd
    · rw [Bool.not_eq_false'] at hn
      obtain ⟨t, rfl, ht⟩ := str_of hn
      obtain ⟨p, hp, rfl⟩ := hasG_iff.mp ht
      have z1 := z.extn (ex_extn e1)
      obtain ⟨kd, hkd⟩ := Option.isSome_iff_exists.mp (mem_gts.mp hp).2
      refine s_ret (v := .ref (kA p.nm)) (ev_dget (k := Sum.inr p.nm) (ev_f T.cl T.nK (ev_var rfl) z1.fl.at_ z1.fl.dk) (ev_var rfl) z1.bs.k (val_atG z.vd hp fun p => V.ref (kA p.nm))) fun H2 e2 => k _ rfl ht _ H2 (e1.trans e2) ⟨p, hp, rfl, kd, kA p.nm, hkd, rfl, (z1.bs.kd p hp kd hkd).mono e2⟩
theorem rv_noInA {H : Hp} {a : Addr} {l : List Pl} {y : V} (wt : WAt K C CK H a l) (hy : AnyV H y) : RV (rInO C (spCt K C CK) true) y (.ref a) H (.bl (!strB (hasN (rsOf l)) y)) := fun H1 e Q q => by
  have z := rv_noIn wt hy H1 e Q
  have e2 : nameV (rsOf l) y = strB (hasN (rsOf l)) y := by
    cases y with
    | str t =>
      show ((rsOf l).any fun p => decide (p.nm = t)) = !newN (rsOf l) t
      unfold newN
      rw [Bool.eq_iff_iff]
      simp
    | _ => rfl
  rw [← e2] at q
  exact z q
theorem ok_realm_e (T : WF K mg C mc) (XS : X1 P w K mg base "NoStation" "name" bS CS fS dS) (MC : Mt P w K mg base C "__contains__" 1 ["self", "x"] (spCt K C CK) f1 d1) (F : FnC K "realm" q s_World_realm [] f fd) :
    FnOk P w K mg base (L2.CX P w) 3 f fd ["self", "name"] (spNm K C CK CS hasN fun rs z v _ => ∃ p ∈ rs, p.nm = z ∧ v = .str p.rl) := by
  refine F.ok sc_World_realm (fun vs H Q E h => ?_) (fun cdv A outer s H vs Q E hr h => ?_)
  · obtain ⟨a, y, l, rfl, _⟩ := h
    rfl
  · obtain ⟨a, y, l, rfl, wt, hy, k, ke⟩ := h
    have hu := Nat.lt_of_le_of_lt (Nat.add_le_add_left (show 1 ≤ 64 by decide) _) hr.units
    refine ⟨_, pss_cons (ps_if (pt_cmpR (op_notInO MC.ok (hr.mono (by decide)) MC.b pass0 MC.me.at_ MC.me.fn) (pv 1) (pv 0) rfl) (pss_one (ps_raise rfl (takes_of rfl rfl rfl rfl) (pmk_X XS.ec XS.ty XS.ok (hr.mono (by decide)) XS.b .nil pass0 (by rfl) XS.m (pa_cons (pv 1) pa_nil)))) pss_nil) (pss_one (ps_ret (pe_dget hu (pe_fld (pv 0) rfl) (pv 1) (fun _ _ => rfl)))), ?_⟩
    refine q_when (b := !strB (hasN (rsOf l)) y) (et_test (ev_op (ev_var rfl) (ev_var rfl) (rv_noInA wt hy))) (fun hn H1 e1 => ?_) (fun hn H1 e1 => ?_)
    · rw [Bool.not_eq_true'] at hn
      exact s_raise1 (W := fun cls d _ H' => E cls d H') (ea_cons (ev_var rfl) ea_nil) fun dx H4 e4 hd => ke hn dx H4 (e1.trans e4) hd
    · rw [Bool.not_eq_false'] at hn
      obtain ⟨t, rfl, ht⟩ := str_of hn
      obtain ⟨p, hp, rfl⟩ := hasN_mem ht
      obtain ⟨d, fs, kA, aA, ag, ah, gs, hs, z1⟩ := wt.extn (ex_extn e1)
      exact s_ret (v := .str p.rl) (ev_dget (k := Sum.inr p.nm) (ev_f T.cl T.nR (ev_var rfl) z1.fl.at_ z1.fl.dr) (ev_var rfl) z1.bs.r (val_at z1.vd hp fun p => V.str p.rl)) fun H2 e2 => k _ rfl ht _ H2 (e1.trans e2) ⟨p, hp, rfl, rfl⟩
end
end L2.Mj
set_option maxRecDepth 100000
set_option maxHeartbeats 8000000
namespace L2.Mj
open PySem PySem.Spec PyProof.Rows L2 Mx L2.Mb Evl Mv TL
/-! ### the looser, the stricter of two kinds -/
def jo (x y : Kd) : Kd := ⟨if looseV y.le > looseV x.le then y.le else x.le, if looseV y.lt > looseV x.lt then y.lt else x.lt, x.tu || y.tu, match x.re, y.re with
  | some a, some b => some (if b > a then b else a)
  | _, _ => none⟩
def me (x y : Kd) : Kd := ⟨if looseV y.le < looseV x.le then y.le else x.le, if looseV y.lt < looseV x.lt then y.lt else x.lt, x.tu && y.tu, match x.re, y.re with
  | some a, some b => some (if b < a then b else a)
  | none, r => r
  | r, none => r⟩
theorem ok_parts {k : Kd} (h : k.ok = true) : lendL.contains k.le = true ∧ letL.contains k.lt = true ∧ k.re.all inRest = true := by
  unfold Kd.ok at h
  simp only [Bool.and_eq_true] at h
  exact h
theorem ok_of {k : Kd} (h1 : lendL.contains k.le = true) (h2 : letL.contains k.lt = true) (h3 : k.re.all inRest = true) : k.ok = true := by
  unfold Kd.ok
  rw [h1, h2, h3]
  rfl
theorem jo_ok {x y : Kd} (hx : x.ok = true) (hy : y.ok = true) : (jo x y).ok = true := by
  obtain ⟨a1, a2, a3⟩ := ok_parts hx
  obtain ⟨b1, b2, b3⟩ := ok_parts hy
  refine ok_of ?_ ?_ ?_
  · show lendL.contains (if _ then y.le else x.le) = true
    split <;> assumption
  · show letL.contains (if _ then y.lt else x.lt) = true
    split <;> assumption
  · unfold jo
    cases hx : x.re <;> cases hy : y.re <;> first | rfl | skip
    rw [hx] at a3
    rw [hy] at b3
    show inRest (if _ then _ else _) = true
    split <;> assumption
theorem me_ok {x y : Kd} (hx : x.ok = true) (hy : y.ok = true) : (me x y).ok = true := by
  obtain ⟨a1, a2, a3⟩ := ok_parts hx
  obtain ⟨b1, b2, b3⟩ := ok_parts hy
  refine ok_of ?_ ?_ ?_
  · show lendL.contains (if _ then y.le else x.le) = true
    split <;> assumption
  · show letL.contains (if _ then y.lt else x.lt) = true
    split <;> assumption
  · unfold me
    cases hx : x.re <;> cases hy : y.re <;> rw [hx] at a3 <;> rw [hy] at b3 <;> first | rfl | exact a3 | exact b3 | skip
    show inRest (if _ then _ else _) = true
    split <;> assumption
theorem re_le {k : Kd} (h : k.ok = true) {n : Int} (e : k.re = some n) : n ≤ 1000000 := by
  obtain ⟨_, _, h3⟩ := ok_parts h
  rw [e] at h3
  have h4 : inRest n = true := h3
  unfold inRest at h4
  simp only [Bool.and_eq_true, decide_eq_true_eq] at h4
  exact h4.2
theorem cons2 {α : Type} {a b : α} {l m : List α} (h : a = b) (k : l = m) : a :: l = b :: m := by rw [h, k]
def mx (a b : Int) : Int := if b > a then b else a
def mn (a b : Int) : Int := if b < a then b else a
def zipW (f : Int → Int → Int) (x y : Kd) : List Int := (List.range 4).map fun i => f (x.ranks.getD i 0) (y.ranks.getD i 0)
theorem jo_ranks {x y : Kd} (hx : x.ok = true) (hy : y.ok = true) : zipW mx x y = (jo x y).ranks := by
  obtain ⟨l1, t1, u1, r1⟩ := x
  obtain ⟨l2, t2, u2, r2⟩ := y
  have e1 : ∀ (c : Prop) [Decidable c] (a b : Str), looseV (if c then a else b) = if c then looseV a else looseV b := fun c _ a b => by split <;> rfl
  refine cons2 (e1 _ _ _).symm (cons2 (e1 _ _ _).symm (cons2 ?_ (cons2 ?_ rfl)))
  · cases u1 <;> cases u2 <;> rfl
  · cases r1 with
    | none =>
      cases r2 with
      | none => rfl
      | some n =>
        have := re_le hy rfl
        show mx 1000001 n = 1000001
        unfold mx
        rw [if_neg (by omega)]
    | some m =>
      have := re_le hx rfl
      cases r2 with
      | none =>
        show mx m 1000001 = 1000001
        unfold mx
        rw [if_pos (by omega)]
      | some n => rfl
theorem me_ranks {x y : Kd} (hx : x.ok = true) (hy : y.ok = true) : zipW mn x y = (me x y).ranks := by
  obtain ⟨l1, t1, u1, r1⟩ := x
  obtain ⟨l2, t2, u2, r2⟩ := y
  have e1 : ∀ (c : Prop) [Decidable c] (a b : Str), looseV (if c then a else b) = if c then looseV a else looseV b := fun c _ a b => by split <;> rfl
  refine cons2 (e1 _ _ _).symm (cons2 (e1 _ _ _).symm (cons2 ?_ (cons2 ?_ rfl)))
  · cases u1 <;> cases u2 <;> rfl
  · cases r1 with
    | none =>
      cases r2 with
      | none => rfl
      | some n =>
        have := re_le hy rfl
        show mn 1000001 n = n
        unfold mn
        rw [if_pos (by omega)]
    | some m =>
      have := re_le hx rfl
      cases r2 with
      | none =>
        show mn m 1000001 = m
        unfold mn
        rw [if_neg (by omega)]
      | some n => rfl
/-- x at most as loose as y in each part -/
def wi (x y : Kd) : Bool := (List.range 4).all fun i => decide (x.ranks.getD i 0 ≤ y.ranks.getD i 0)
theorem at_rank {x : Kd} {k : Nat} {v : V} (h : (x.ranks.map V.int)[k]? = some v) : v = .int (x.ranks.getD k 0) := by
  rw [List.getElem?_map] at h
  obtain ⟨n, e, rfl⟩ := Option.map_eq_some_iff.mp h
  rw [List.getD_eq_getElem?_getD, e]
  rfl
def spTwo (C : Addr) (j : Kd → Kd → Kd) : Sp := fun vs H Q _ => ∃ (a b : Addr) (x y : Kd), vs = [.ref a, .ref b] ∧ x.ok = true ∧ y.ok = true ∧ KAt C H a x ∧ KAt C H b y ∧ ∀ c H', Ex H H' → KAt C H' c (j x y) → Q (.ref c) H'
def spWi (C : Addr) : Sp := fun vs H Q _ => ∃ (a b : Addr) (x y : Kd), vs = [.ref a, .ref b] ∧ x.ok = true ∧ y.ok = true ∧ KAt C H a x ∧ KAt C H b y ∧ ∀ H', Ex H H' → Q (.bl (wi x y)) H'
section
variable {P : Program} {w : World} {K : W.Frag} {mg : Str → Option Value} {base : Heap} {f fR fK C aL aT : Addr} {fd dR dK : FuncData} {mc : Value}
theorem s_retCL {σ : L2.St} {H : Hp} {te : TE} {sp : Sp} {E : XK} {xs : List V} {D : Ends} (h : EvL te σ H xs) (k : ∀ p H1, H p = none → Ex H H1 → H1 p = some (.lst xs) → sp [.ref p] H1 D.rt E) : tRet (tCall sp [] E (tCons te tNil)) D σ H :=
  h H (Ex.refl H) (fun v H1 => sp ([v] ++ []) H1 D.rt E) k
theorem el_z {a b : Addr} {x y : Kd} {H : Hp} {te : TE} (z : Int → Int → V) (hx : x.ok = true) (hy : y.ok = true) (ha : KAt C H a x) (hb : KAt C H b y) (he : ∀ m n H1, Ev te [some (.ref a), some (.ref b), some (.int m), some (.int n)] H1 (z m n)) :
    EvL (tLc (iZip K (tCons (tCall (spRanks C) [] E0 (tCons (tVar 0) tNil)) (tCons (tCall (spRanks C) [] E0 (tCons (tVar 1) tNil)) tNil))) (gTup K 2 (gCons (gName 2) (gCons (gName 3) gNil))) tYes te [2, 3]) [some (.ref a), some (.ref b), none, none] H
      ((List.range 4).map fun i => z (x.ranks.getD i 0) (y.ranks.getD i 0)) := by
  have w := el_lcZ (K := K) (σ := [some (.ref a), some (.ref b), none, none]) (H := H) (te := te) (ta := tCons (tCall (spRanks C) [] E0 (tCons (tVar 0) tNil)) (tCons (tCall (spRanks C) [] E0 (tCons (tVar 1) tNil)) tNil)) (i := 2) (j := 3) (vs := [2, 3]) (xs := x.ranks.map V.int) (ys := y.ranks.map V.int) (fun i => z (x.ranks.getD i 0) (y.ranks.getD i 0))
    (ell_cons (el_ranks rfl hx ha) (el_ranks rfl hy hb)) rfl (by show 4 ≤ 40000; decide) (fun _ _ => rfl) (fun i u v H2 e2 hu hv => by
      rw [at_rank hu, at_rank hv]
      exact he _ _ H2)
  rw [given_map fun _ => rfl] at w
  exact w
theorem ok_or {q : Str} (B : Bt mg) (T : KF K mg C mc aL aT) (I : IK K C) (D : Fn0 P w K mg base "_ranks" 3 fR dR p_ranks (spRanks C)) (G : Fn0 P w K mg base "_kind_of_ranks" 5 fK dK p_kind_of_ranks (spKOR C)) (F : FnC K "__or__" q s_Kind_or [] f fd) :
    FnOk P w K mg base CX0 6 f fd ["self", "other"] (spTwo C jo) := by
  refine F.ok sc_Kind_or (fun vs H Q E h => ?_) (fun cdv A outer s H vs Q E hr h => ?_)
  · obtain ⟨a, b, x, y, rfl, _⟩ := h
    rfl
  · obtain ⟨a, b, x, y, rfl, hx, hy, ha, hb, k⟩ := h
    have nd := sc_Kind_or.nd
    have hr3 := hr.mono (show 3 ≤ 5 by decide)
    refine ⟨_, PSs.nox (pss_cons (ps_if (pt_not (pt_val (pe_callB call_isi (by rfl) B.isinstance (by decide +kernel) (pa_cons (pv 1) (pa_cons (pe_glob (v := .ref C) (by rfl) T.m rfl) pa_nil))))) (pss_one ps_never) pss_nil)
      (pss_one (ps_ret (pe_call G.ok hr (by rfl) G.m G.k G.b .nil pass0 (pa_cons (pe_lc (own := [("mine", 2), ("yours", 3)]) (g := gTup K 2 (gCons (gName 2) (gCons (gName 3) gNil))) (tt := tYes) rfl nd (pi_zip (by rfl) B.zip (pa_cons (pe_call D.ok hr3 (by rfl) D.m D.k D.b .nil pass0 (pa_cons (pv 0) pa_nil)) (pa_cons (pe_call D.ok hr3 (by rfl) D.m D.k D.b .nil pass0 (pa_cons (pv 1) pa_nil)) pa_nil)))
        (blkOk_by (N := n_Kind_or) (sc := defScope s_Kind_or) (by decide +kernel)) (fun _ _ _ _ _ => pg_tup rfl (pgs_cons (pg_name (i := 2) nd rfl (Or.inl rfl)) (pgs_cons (pg_name (i := 3) nd rfl (Or.inl rfl)) pgs_nil))) (fun _ _ _ _ _ => pts_nil)
        (fun _ _ _ _ _ => pe_callB (call_max2 rfl) (by rfl) B.max (by decide +kernel) (pa_cons (pv 2) (pa_cons (pv 3) pa_nil)))) pa_nil))))), ?_⟩
    refine q_when (b := false) (et_not (a := true) (et_B (ev_cb (ea_cons (ev_var rfl) (ea_cons ev_c ea_nil)) (rc_isK I hb)))) (fun z => by cases z) (fun _ H1 e1 => ?_)
    refine s_retCL (el_z (K := K) (C := C) (te := tCB (fun xs H Q => ∃ i j, xs = [V.int i, V.int j] ∧ Q (.int (if j > i then j else i)) H) (tCons (tVar 2) (tCons (tVar 3) tNil))) (fun m n => .int (mx m n)) hx hy (ha.mono e1) (hb.mono e1) (fun m n H2 => ev_cb (ea_cons (ev_var rfl) (ea_cons (ev_var rfl) ea_nil)) (fun H3 _ Q q => ⟨m, n, rfl, q H3 (Ex.refl H3)⟩))) fun p H2 np e2 hp => ?_
    refine ⟨p, jo x y, rfl, jo_ok hx hy, ?_, fun c H3 e3 hc => k c H3 ((e1.trans e2).trans e3) hc⟩
    rw [hp, ← jo_ranks hx hy]
    unfold zipW
    rw [List.map_map]
    rfl
theorem ok_and {q : Str} (B : Bt mg) (T : KF K mg C mc aL aT) (I : IK K C) (D : Fn0 P w K mg base "_ranks" 3 fR dR p_ranks (spRanks C)) (G : Fn0 P w K mg base "_kind_of_ranks" 5 fK dK p_kind_of_ranks (spKOR C)) (F : FnC K "__and__" q s_Kind_and [] f fd) :
    FnOk P w K mg base CX0 6 f fd ["self", "other"] (spTwo C me) := by
  refine F.ok sc_Kind_and (fun vs H Q E h => ?_) (fun cdv A outer s H vs Q E hr h => ?_)
  · obtain ⟨a, b, x, y, rfl, _⟩ := h
    rfl
  · obtain ⟨a, b, x, y, rfl, hx, hy, ha, hb, k⟩ := h
    have nd := sc_Kind_and.nd
    have hr3 := hr.mono (show 3 ≤ 5 by decide)
    refine ⟨_, PSs.nox (pss_cons (ps_if (pt_not (pt_val (pe_callB call_isi (by rfl) B.isinstance (by decide +kernel) (pa_cons (pv 1) (pa_cons (pe_glob (v := .ref C) (by rfl) T.m rfl) pa_nil))))) (pss_one ps_never) pss_nil)
      (pss_one (ps_ret (pe_call G.ok hr (by rfl) G.m G.k G.b .nil pass0 (pa_cons (pe_lc (own := [("mine", 2), ("yours", 3)]) (g := gTup K 2 (gCons (gName 2) (gCons (gName 3) gNil))) (tt := tYes) rfl nd (pi_zip (by rfl) B.zip (pa_cons (pe_call D.ok hr3 (by rfl) D.m D.k D.b .nil pass0 (pa_cons (pv 0) pa_nil)) (pa_cons (pe_call D.ok hr3 (by rfl) D.m D.k D.b .nil pass0 (pa_cons (pv 1) pa_nil)) pa_nil)))
        (blkOk_by (N := n_Kind_and) (sc := defScope s_Kind_and) (by decide +kernel)) (fun _ _ _ _ _ => pg_tup rfl (pgs_cons (pg_name (i := 2) nd rfl (Or.inl rfl)) (pgs_cons (pg_name (i := 3) nd rfl (Or.inl rfl)) pgs_nil))) (fun _ _ _ _ _ => pts_nil)
        (fun _ _ _ _ _ => pe_callB (call_min2 rfl) (by rfl) B.min (by decide +kernel) (pa_cons (pv 2) (pa_cons (pv 3) pa_nil)))) pa_nil))))), ?_⟩
    refine q_when (b := false) (et_not (a := true) (et_B (ev_cb (ea_cons (ev_var rfl) (ea_cons ev_c ea_nil)) (rc_isK I hb)))) (fun z => by cases z) (fun _ H1 e1 => ?_)
    refine s_retCL (el_z (K := K) (C := C) (te := tCB (fun xs H Q => ∃ i j, xs = [V.int i, V.int j] ∧ Q (.int (if j < i then j else i)) H) (tCons (tVar 2) (tCons (tVar 3) tNil))) (fun m n => .int (mn m n)) hx hy (ha.mono e1) (hb.mono e1) (fun m n H2 => ev_cb (ea_cons (ev_var rfl) (ea_cons (ev_var rfl) ea_nil)) (fun H3 _ Q q => ⟨m, n, rfl, q H3 (Ex.refl H3)⟩))) fun p H2 np e2 hp => ?_
    refine ⟨p, me x y, rfl, me_ok hx hy, ?_, fun c H3 e3 hc => k c H3 ((e1.trans e2).trans e3) hc⟩
    rw [hp, ← me_ranks hx hy]
    unfold zipW
    rw [List.map_map]
    rfl
theorem ok_within {q : Str} (B : Bt mg) (T : KF K mg C mc aL aT) (D : Fn0 P w K mg base "_ranks" 3 fR dR p_ranks (spRanks C)) (F : FnC K "within" q s_Kind_within [] f fd) : FnOk P w K mg base CX0 4 f fd ["self", "other"] (spWi C) := by
  refine F.ok sc_Kind_within (fun vs H Q E h => ?_) (fun cdv A outer s H vs Q E hr h => ?_)
  · obtain ⟨a, b, x, y, rfl, _⟩ := h
    rfl
  · obtain ⟨a, b, x, y, rfl, hx, hy, ha, hb, k⟩ := h
    have nd := sc_Kind_within.nd
    refine ⟨_, PSs.nox (pss_one (ps_ret (pe_callB (cr_all rfl) (by rfl) B.all (by decide +kernel) (pa_cons (pe_lc (own := [("mine", 2), ("yours", 3)]) (g := gTup K 2 (gCons (gName 2) (gCons (gName 3) gNil))) (tt := tYes) rfl nd (pi_zip (by rfl) B.zip (pa_cons (pe_call D.ok hr (by rfl) D.m D.k D.b .nil pass0 (pa_cons (pv 0) pa_nil)) (pa_cons (pe_call D.ok hr (by rfl) D.m D.k D.b .nil pass0 (pa_cons (pv 1) pa_nil)) pa_nil)))
        (blkOk_by (N := n_Kind_within) (sc := defScope s_Kind_within) (by decide +kernel)) (fun _ _ _ _ _ => pg_tup rfl (pgs_cons (pg_name (i := 2) nd rfl (Or.inl rfl)) (pgs_cons (pg_name (i := 3) nd rfl (Or.inl rfl)) pgs_nil))) (fun _ _ _ _ _ => pts_nil)
        (fun _ _ _ _ _ => pe_cmpR op_le (pv 2) (pv 3) (nomark _))) pa_nil)))), ?_⟩
    have w := el_z (K := K) (C := C) (te := tOp (rI0 fun i j => .bl (decide (i ≤ j))) (tVar 2) (tVar 3)) (fun m n => .bl (decide (m ≤ n))) hx hy ha hb (fun m n H2 => ev_op (ev_var rfl) (ev_var rfl) rv_int)
    refine s_ret (v := .bl (wi x y)) (ev_is (ev_allN (bs := (List.range 4).map fun i => decide (x.ranks.getD i 0 ≤ y.ranks.getD i 0)) (by rw [List.map_map]; exact w)) (by unfold wi; rw [List.all_map]; rfl)) fun H1 e1 => k H1 e1
end
end L2.Mj
set_option maxRecDepth 100000
set_option maxHeartbeats 4000000
namespace L2.Mj
open PySem PySem.Spec PyProof.Rows L2 Mx L2.Mb Evl Mv TL
/-- the cells and where they stand -/
structure Cells where
  l : Addr
  xs : List Int
abbrev Cells.length (c : Cells) : Nat := c.xs.length
/-- the pen at p: its list of cells, the next cell's index, the rest of a great cell -/
def PenAt (H : Hp) (p : Addr) (ns : Cells) (t : Int) : Prop := ∃ g : Int, H p = some (.lst [.ref ns.l, .int t, .int g]) ∧ H ns.l = some (.lst (ns.xs.map V.int))
/-- all but p stands as it stood -/
def But (p : Addr) (H H' : Hp) : Prop := ∀ c o, c ≠ p → H c = some o → H' c = some o
def spTake : Sp := fun vs H Q _ => ∃ (p : Addr) (m : Int) (ns : Cells) (t : Int), vs = [.ref p, .int m] ∧ PenAt H p ns t ∧ ns.length ≤ 63 ∧ 0 ≤ t ∧ t ≤ 1000000 ∧ 1 ≤ m ∧ m ≤ 1000000 ∧
  ∀ (d t' : Int) (H' : Hp), 0 ≤ d → d < m → t ≤ t' → t' ≤ t + 1 → PenAt H' p ns t' → But p H H' → Q (.int d) H'
theorem pow_bd {x : Int} {n : Nat} (k : Nat) (h : x.natAbs ≤ n) : (x ^ k).natAbs ≤ n ^ k := by
  rw [Int.natAbs_pow]
  exact Nat.pow_le_pow_left h k
theorem ifB {c : Bool} {X Y : Prop} (h1 : c = true → X) (h2 : c = false → Y) : if c = true then X else Y := by
  cases c with
  | true => exact (h1 rfl)
  | false => exact (h2 rfl)
section
variable {P : Program} {w : World} {K : W.Frag} {mg : Str → Option Value} {base : Heap} {f : Addr} {fd : FuncData}
theorem ok_draw (B : Bt mg) (F : FnP K "_law_draw" s_law_draw f fd) : FnOk P w K mg base CX0 1 f fd p_law_draw spTake := by
  refine F.ok sc_law_draw (fun vs H Q E h => ?_) (fun cdv A outer s H vs Q E hr h => ?_)
  · obtain ⟨p, m, ns, t, rfl, _⟩ := h
    rfl
  · obtain ⟨p, m, ⟨l, ns⟩, t, rfl, ⟨g, hp, hl⟩, hn, t0, t1, m0, m1, k⟩ := h
    replace hp : H p = some (.lst [.ref l, .int t, .int g]) := hp
    replace hl : H l = some (.lst (ns.map V.int)) := hl
    replace hn : ns.length ≤ 63 := hn
    have hu := hr.units
    refine ⟨_, PSs.nox (pss_cons (ps_if (pt_cmpR op_gt (pe_ix ix_list (pv 0) pe_int (fun _ _ => rfl)) pe_int (nomark _)) (pss_cons (ps_set (i := 2) sc_law_draw.nd rfl (Or.inl rfl) (pe_op op_mod (pe_callTy call_int1 (by rfl) B.int (by decide +kernel) (pa_cons (pe_ix ix_list (pv 0) pe_int (fun _ _ => rfl)) pa_nil)) (pv 1)))
      (pss_cons (ps_asg (pe_op op_fdiv (pe_callTy call_int1 (by rfl) B.int (by decide +kernel) (pa_cons (pe_ix ix_list (pv 0) pe_int (fun _ _ => rfl)) pa_nil)) (pv 1)) (pg_sub (pv 0) pe_int set_list))
      (pss_one (ps_ret (pv 2))))) pss_nil)
    (pss_cons (ps_set (i := 3) sc_law_draw.nd rfl (Or.inl rfl) (pe_ix ix_list (pv 0) pe_int (fun _ _ => rfl)))
    (pss_cons (ps_asg (pe_op op_add (pv 3) pe_int) (pg_sub (pv 0) pe_int set_list))
    (pss_cons (ps_set (i := 4) sc_law_draw.nd rfl (Or.inl rfl) (pe_op op_add (pe_op op_mul pe_int (pv 3)) pe_int))
    (Evl.pss_cut (ps_if (pt_cmpR (op_neD hu) (pe_ix ix_list (pv 0) pe_int (fun _ _ => rfl)) (pe_lst pa_nil) (nomark _)) (pss_one (ps_set (i := 4) sc_law_draw.nd rfl (Or.inl rfl) (pe_ix ix_list (pe_ix ix_list (pv 0) pe_int (fun _ _ => rfl)) (pe_op op_mod (pe_callTy call_int1 (by rfl) B.int (by decide +kernel) (pa_cons (pv 3) pa_nil)) (pe_callB call_len_seq (by rfl) B.len (by decide +kernel) (pa_cons (pe_ix ix_list (pv 0) pe_int (fun _ _ => rfl)) pa_nil))) (fun _ _ => rfl)))) pss_nil)
    (Evl.pss_cut (ps_if ((pw_and (pt_cmpR op_lt (pv 3) (pe_callB call_len_seq (by rfl) B.len (by decide +kernel) (pa_cons (pe_ix ix_list (pv 0) pe_int (fun _ _ => rfl)) pa_nil)) (nomark _)) (pw_and1 (pt_cmpR op_ge (pe_callB call_abs (by rfl) B.abs (by decide +kernel) (pa_cons (pv 4) pa_nil)) (pe_op op_pow pe_int pe_int) (nomark _))))).pt (pss_cons (ps_set (i := 5) sc_law_draw.nd rfl (Or.inl rfl) (pe_op op_add (pe_op op_mul pe_int (pe_callB call_abs (by rfl) B.abs (by decide +kernel) (pa_cons (pv 4) pa_nil))) (pe_callTy call_int1 (by rfl) B.int (by decide +kernel) (pa_cons (pe_cmpR op_lt (pv 4) pe_int (nomark _)) pa_nil))))
      (pss_cons (ps_asg (pe_op op_fdiv (pv 5) (pv 1)) (pg_sub (pv 0) pe_int set_list))
      (pss_one (ps_ret (pe_op op_mod (pe_callTy call_int1 (by rfl) B.int (by decide +kernel) (pa_cons (pv 5) pa_nil)) (pv 1)))))) pss_nil)
    (pss_cons (ps_set (i := 6) sc_law_draw.nd rfl (Or.inl rfl) (pe_op op_pow (pe_op op_add (pe_op op_add (pe_op op_mod (pe_callTy call_int1 (by rfl) B.int (by decide +kernel) (pa_cons (pv 4) pa_nil)) pe_int) (pe_op op_mul pe_int (pv 3))) pe_int) pe_int))
    (pss_cons (ps_set (i := 6) sc_law_draw.nd rfl (Or.inl rfl) (pe_op op_pow (pe_op op_add (pe_op op_add (pe_op op_mod (pe_callTy call_int1 (by rfl) B.int (by decide +kernel) (pa_cons (pv 6) pa_nil)) pe_int) (pe_op op_mul (pe_op op_mul pe_int (pv 3)) (pv 3))) pe_int) pe_int))
    (pss_one (ps_ret (pe_op op_mod (pe_callTy call_int1 (by rfl) B.int (by decide +kernel) (pa_cons (pe_op op_fdiv (pe_op op_mod (pe_callTy call_int1 (by rfl) B.int (by decide +kernel) (pa_cons (pv 6) pa_nil)) pe_int) pe_int) pa_nil)) (pv 1)))))))))))), ?_⟩
    have npl : p ≠ l := by
      intro e
      rw [e, hl] at hp
      cases ns with
      | nil => simp at hp
      | cons a r => simp at hp
    -- if pen[2] > 0
    refine ⟨_, rfl, p, _, _, _, rfl, rfl, SqL.of hp, atI_nat (j := 2) rfl, _, _, rfl, rfl, _, rfl, ?_⟩
    refine ite2 (fun _ => ?_) (fun _ => ?_)
    · refine ⟨_, rfl, p, _, _, _, rfl, rfl, SqL.of hp, atI_nat (j := 2) rfl, .inl ⟨g, rfl, _, rfl, _, _, rfl, rfl, by omega, ?_⟩⟩
      refine ⟨_, rfl, p, _, _, _, rfl, rfl, SqL.of hp, atI_nat (j := 2) rfl, .inl ⟨g, rfl, _, rfl, _, _, rfl, rfl, ⟨by omega, by omega⟩, ?_⟩⟩
      refine ⟨_, rfl, p, _, _, 2, rfl, rfl, hp, rfl, ?_⟩
      refine ⟨_, rfl, ?_⟩
      refine k _ t _ (Int.emod_nonneg _ (by omega)) (Int.emod_lt_of_pos _ (by omega)) (Int.le_refl _) (by omega) ⟨_, upd_same, ?_⟩ (fun c o hc e => by rw [upd_ne hc]; exact e)
      rw [upd_ne npl.symm]
      exact hl
    · refine ⟨_, rfl, p, _, _, _, rfl, rfl, SqL.of hp, atI_nat (j := 1) rfl, ?_⟩
      refine ⟨_, rfl, _, _, rfl, rfl, _, rfl, p, _, _, 1, rfl, rfl, hp, rfl, ?_⟩
      refine ⟨_, rfl, _, _, rfl, rfl, .inl ⟨by decide, by decide⟩, _, _, rfl, rfl, ?_⟩
      have hp1 : (upd H p (.lst [.ref l, .int (t + 1), .int g])) p = some (.lst [.ref l, .int (t + 1), .int g]) := upd_same
      have hl1 : (upd H p (.lst [.ref l, .int (t + 1), .int g])) l = some (.lst (ns.map V.int)) := by
        rw [upd_ne npl.symm]
        exact hl
      refine ⟨fun σ' H' => ∃ c : Int, σ' = [some (.ref p), some (.int m), none, some (.int t), some (.int c), none, none] ∧ H' p = some (.lst [.ref l, .int (t + 1), .int g]) ∧ H' l = some (.lst (ns.map V.int)) ∧ But p H H', ?_, ?_⟩
      · -- if pen[0] != []
        refine ⟨_, rfl, p, _, _, _, rfl, rfl, SqL.of hp1, atI_nat (j := 0) rfl, Nat.zero_le _, fun q hq => ?_⟩
        have nq : ∀ {c : Addr} {o : HO}, (upd H p (.lst [.ref l, .int (t + 1), .int g])) c = some o → c ≠ q := fun e => ne_of_none e hq
        have hp2 : (upd (upd H p (.lst [.ref l, .int (t + 1), .int g])) q (.lst [])) p = some (.lst [.ref l, .int (t + 1), .int g]) := by
          rw [upd_ne (nq hp1)]
          exact hp1
        have hl2 : (upd (upd H p (.lst [.ref l, .int (t + 1), .int g])) q (.lst [])) l = some (.lst (ns.map V.int)) := by
          rw [upd_ne (nq hl1)]
          exact hl1
        have bt2 : But p H (upd (upd H p (.lst [.ref l, .int (t + 1), .int g])) q (.lst [])) := fun c o hc e => by
          have e1 : (upd H p (.lst [.ref l, .int (t + 1), .int g])) c = some o := by
            rw [upd_ne hc]
            exact e
          rw [upd_ne (nq e1)]
          exact e1
        refine ⟨_, _, .lst (SqL.of hl2) (dp_is ns), .lst (SqL.of upd_same) .nil, is_shaped ns, rfl, _, rfl, ?_⟩
        cases hns : ns with
        | nil =>
          refine ifB (fun z => ?_) (fun _ => ?_)
          · simp [PyData.eqv, PyData.eqvAll] at z
          · rw [hns] at hl2
            exact ⟨_, rfl, hp2, hl2, bt2⟩
        | cons a r =>
          refine ifB (fun _ => ?_) (fun z => ?_)
          · have lp : (0 : Int) < ((ns.map V.int).length : Int) := by
              rw [hns]
              simp
              try omega
            have ix0 := Int.emod_nonneg t (show ((ns.map V.int).length : Int) ≠ 0 by omega)
            have ix1 := Int.emod_lt_of_pos t lp
            obtain ⟨j, hj⟩ := Int.eq_ofNat_of_zero_le ix0
            have hjl : j < ns.length := by
              rw [List.length_map] at hj ix1
              omega
            obtain ⟨c, hc⟩ : ∃ c, ns[j]? = some c := ⟨ns[j], List.getElem?_eq_getElem hjl⟩
            refine ⟨_, rfl, p, _, _, _, rfl, rfl, SqL.of hp2, atI_nat (j := 0) rfl, _, rfl, .inl ⟨_, rfl, _, rfl, p, _, _, _, rfl, rfl, SqL.of hp2, atI_nat (j := 0) rfl, l, _, rfl, .inl (SqL.of hl2), _, _, rfl, rfl, lp, ?_⟩⟩
            refine ⟨l, _, _, .int c, rfl, rfl, SqL.of hl2, ?_, ?_⟩
            · rw [hj]
              exact atI_nat (by rw [List.getElem?_map, hc]; rfl)
            · rw [hns] at hl2
              exact ⟨_, rfl, hp2, hl2, bt2⟩
          · simp [PyData.eqv, PyData.eqvAll] at z
      · rintro σ' H' ⟨c, rfl, hp3, hl3, bt3⟩
        -- if turn < len(pen[0]) and abs(cell) >= 10 ** 18
        refine ⟨fun σ'' H'' => σ'' = [some (.ref p), some (.int m), none, some (.int t), some (.int c), none, none] ∧ H'' p = some (.lst [.ref l, .int (t + 1), .int g]) ∧ H'' l = some (.lst (ns.map V.int)) ∧ But p H H'', ?_, ?_⟩
        · refine ⟨_, rfl, _, rfl, p, _, _, _, rfl, rfl, SqL.of hp3, atI_nat (j := 0) rfl, l, _, rfl, .inl (SqL.of hl3), _, _, rfl, rfl, _, rfl, ?_⟩
          refine ite2 (fun _ => ?_) (fun _ => ?_)
          · refine ⟨_, rfl, c, rfl, _, _, rfl, rfl, ⟨by decide, by decide, by decide⟩, _, _, rfl, rfl, _, rfl, ?_⟩
            refine ite2 (fun _ => ?_) (fun _ => ?_)
            · refine ⟨_, rfl, c, rfl, _, _, rfl, rfl, .inl ⟨by decide, by decide⟩, ?_⟩
              refine ⟨_, rfl, _, _, rfl, rfl, .inr ⟨_, rfl, _, _, rfl, rfl, ?_⟩⟩
              refine ⟨_, rfl, _, rfl, _, _, rfl, rfl, ⟨by omega, by omega⟩, _, rfl, p, _, _, 2, rfl, rfl, hp3, rfl, ?_⟩
              refine ⟨_, rfl, .inl ⟨_, rfl, _, rfl, _, _, rfl, rfl, by omega, ?_⟩⟩
              refine k _ (t + 1) _ (Int.emod_nonneg _ (by omega)) (Int.emod_lt_of_pos _ (by omega)) (by omega) (Int.le_refl _) ⟨_, upd_same, ?_⟩ (fun c o hc e => by rw [upd_ne hc]; exact bt3 c o hc e)
              rw [upd_ne npl.symm]
              exact hl3
            · exact ⟨rfl, hp3, hl3, bt3⟩
          · exact ⟨rfl, hp3, hl3, bt3⟩
        · rintro σ'' H'' ⟨rfl, hp4, hl4, bt4⟩
          have q0 := Int.emod_nonneg c (show (2147483549 : Int) ≠ 0 by decide)
          have q1 := Int.emod_lt_of_pos c (show (0 : Int) < 2147483549 by decide)
          have tt0 : 0 ≤ t * t := Int.mul_nonneg t0 t0
          have tt1 : t * t ≤ 1000000 * 1000000 := Int.mul_le_mul t1 t1 t0 (by decide)
          have te : 1327 * t * t = 1327 * (t * t) := Int.mul_assoc _ _ _
          have ri : ∀ {i : Int} {H9 : Hp}, RC (fun (xs : List V) (H : Hp) (Q : VK) => (∃ i, xs = [.int i] ∧ Q (.int i) H) ∨ ∃ b, xs = [.bl b] ∧ Q (.int (if b then 1 else 0)) H) [.int i] H9 (.int i) := fun {i H9} H1 _ Q q => .inl ⟨i, rfl, q H1 (Ex.refl H1)⟩
          refine q_asg (v := .int ((c % 2147483549 + 9643 * t + 67) ^ Int.toNat 5)) (ev_op (ev_op (ev_op (ev_op (ev_cb (ea_cons (ev_var rfl) ea_nil) ri) ev_c (rv_I (by show (0 : Int) < 2147483549; decide))) (ev_op ev_c (ev_var rfl) (rv_I (.inl ⟨by decide, by decide⟩))) rv_int) ev_c rv_int) ev_c (rv_I ⟨by decide, by decide, by omega⟩)) fun H5 e5 => ?_
          generalize (c % 2147483549 + 9643 * t + 67) ^ Int.toNat 5 = Z
          have z0 := Int.emod_nonneg Z (show (2147483563 : Int) ≠ 0 by decide)
          have z1 := Int.emod_lt_of_pos Z (show (0 : Int) < 2147483563 by decide)
          refine q_asg (v := .int ((Z % 2147483563 + 1327 * t * t + 13) ^ Int.toNat 3)) (ev_op (ev_op (ev_op (ev_op (ev_cb (ea_cons (ev_var rfl) ea_nil) ri) ev_c (rv_I (by show (0 : Int) < 2147483563; decide))) (ev_op (ev_op ev_c (ev_var rfl) (rv_I (.inl ⟨by decide, by decide⟩))) (ev_var rfl) (rv_I (.inr ⟨by omega, by omega⟩))) rv_int) ev_c rv_int) ev_c (rv_I ⟨by decide, by decide, by rw [te]; omega⟩)) fun H6 e6 => ?_
          generalize (Z % 2147483563 + 1327 * t * t + 13) ^ Int.toNat 3 = Y
          have e56 := e5.trans e6
          refine s_ret (v := .int (Y % 2147483587 / 16 % m)) (ev_op (ev_cb (ea_cons (ev_op (ev_op (ev_cb (ea_cons (ev_var rfl) ea_nil) ri) ev_c (rv_I (by show (0 : Int) < 2147483587; decide))) ev_c (rv_I ⟨by decide, by decide⟩)) ea_nil) ri) (ev_var rfl) (rv_I (by show 0 < m; omega))) fun H7 e7 => ?_
          have e := e56.trans e7
          exact k _ (t + 1) H7 (Int.emod_nonneg _ (by omega)) (Int.emod_lt_of_pos _ (by omega)) (by omega) (Int.le_refl _) ⟨_, e _ _ hp4, e _ _ hl4⟩ (fun c o hc h => e _ _ (bt4 c o hc h))
end
end L2.Mj
set_option maxRecDepth 100000
set_option maxHeartbeats 8000000
namespace L2.Mj
open PySem PySem.Spec PyProof.Rows L2 Mx L2.Mb Evl Mv TL LamX Sr Srt SrtO NdefX
/-! ### the pen -/
theorem pen_mono {H H' : Hp} {p : Addr} {ns : Cells} {t : Int} (e : Ex H H') (h : PenAt H p ns t) : PenAt H' p ns t := by
  obtain ⟨g, h1, h2⟩ := h
  exact ⟨g, e _ _ h1, e _ _ h2⟩
theorem pen_extn {H H' : Hp} {p : Addr} {ns : Cells} {t : Int} (e : ExtN H H') (h : PenAt H p ns t) : PenAt H' p ns t := by
  obtain ⟨g, h1, h2⟩ := h
  exact ⟨g, lst_n e h1, lst_n e h2⟩
theorem but_ex {H H' : Hp} {p : Addr} (e : Ex H H') : But p H H' := fun c o _ h => e c o h
theorem But.trans {H H1 H2 : Hp} {p : Addr} (a : But p H H1) (b : But p H1 H2) : But p H H2 := fun c o hc h => b c o hc (a c o hc h)
theorem pen_fresh {H : Hp} {p q : Addr} {ns : Cells} {t : Int} (pen : PenAt H p ns t) (n : H q = none) : q ≠ p := fun z => by
  obtain ⟨_, hp, _⟩ := pen
  rw [z, hp] at n
  cases n
theorem new_but {H H' : Hp} {p l : Addr} {ns : Cells} {t : Int} (pen : PenAt H' p ns t) (b : But p H H') (n : H' l = none) : H l = none := by
  cases h : H l with
  | none => rfl
  | some o =>
    by_cases e : l = p
    · obtain ⟨_, hp, _⟩ := pen
      rw [e, hp] at n
      cases n
    · rw [b l o e h] at n
      cases n
/-- all but the pen and the tables stays; nothing is new where something was -/
def ButP (p : Addr) (H H' : Hp) : Prop := ∀ c o, c ≠ p → H c = some o → (∀ ps, o ≠ .tbl ps) → H' c = some o
theorem ButP.of {p : Addr} {H H' : Hp} (b : But p H H') : ButP p H H' := fun c o n h _ => b c o n h
theorem ButP.n {p : Addr} {H H' : Hp} (e : ExtN H H') : ButP p H H' := fun c o _ h t => e c o h t
theorem ButP.trans {p : Addr} {H H1 H2 : Hp} (a : ButP p H H1) (b : ButP p H1 H2) : ButP p H H2 := fun c o n h t => b c o n (a c o n h t) t
theorem tabs_but {H H' : Hp} {p : Addr} {ns : Cells} {t : Int} {Tt : List (Addr × Str)} (pen : PenAt H p ns t) (b : But p H H') (T : Tabs Tt H) : Tabs Tt H' := fun q hq => by
  obtain ⟨g, hp, _⟩ := pen
  obtain ⟨ps, h1, h2, h3⟩ := T q hq
  refine ⟨ps, b _ _ (fun z => ?_) h1, h2, fun pos cv hc => ?_⟩
  · rw [z, hp] at h1
    cases h1
  · obtain ⟨c, e1, e2⟩ := h3 pos cv hc
    refine ⟨c, e1, b _ _ (fun z => ?_) e2⟩
    rw [z, hp] at e2
    cases e2
section
variable {P : Program} {w : World} {K : W.Frag} {mg : Str → Option Value} {base : Heap} {f : Addr} {fd : FuncData}
/-- what is drawn from: a new pen over the script -/
def spPen (K : W.Frag) : Sp := fun vs H Q _ => ∃ (a : Addr) (ns : List Int), vs = [.ref a] ∧ SqL K H a (ns.map V.int) ∧ ns.length ≤ 63 ∧ ∀ (p : Addr) (n2 : Cells) H1, n2.length ≤ 63 → PenAt H1 p n2 0 → Ex H H1 → Q (.ref p) H1
theorem ok_pen (B : Bt mg) (F : FnP K "_law_pen" s_law_pen f fd) : FnOk P w K mg base CX0 1 f fd p_law_pen (spPen K) := by
  refine F.ok sc_law_pen (fun vs H Q E h => ?_) (fun cdv A outer s H vs Q E hr h => ?_)
  · obtain ⟨a, ns, rfl, _⟩ := h
    rfl
  · obtain ⟨a, ns, rfl, hS, hn, k⟩ := h
    refine ⟨_, PSs.nox (pss_one (ps_ret (pe_lst (pa_cons (pe_callTy call_list_of (by rfl) B.list (by decide +kernel) (pa_cons (pe_slice sl_list (pv 0) po_none (po_some pe_int)) pa_nil)) (pa_cons pe_int (pa_cons pe_int pa_nil)))))), ?_⟩
    obtain ⟨n2, e2⟩ : ∃ n2 : List Int, cutV (ns.map V.int) none (some 63) = n2.map V.int ∧ n2.length ≤ 63 := by
      refine ⟨(ns.drop (HT.sIx (ns.map V.int).length 0 none)).take (HT.sIx (ns.map V.int).length (ns.map V.int).length (some 63) - HT.sIx (ns.map V.int).length 0 none), ?_, ?_⟩
      · unfold cutV
        rw [← List.map_drop, ← List.map_take]
      · rw [List.length_take, List.length_drop]
        omega
    refine ⟨_, rfl, 63, rfl, a, _, rfl, hS, fun p1 h1 => ⟨p1, _, rfl, .inl (SqL.of upd_same), fun p2 h2 => ⟨(by show 3 ≤ sizeLine; decide), fun p3 h3 => ?_⟩⟩⟩
    have n32 : p2 ≠ p3 := fun z => by
      rw [← z, upd_same] at h3
      cases h3
    refine k p3 ⟨p2, n2⟩ _ e2.2 ⟨0, upd_same, ?_⟩ (((Ex.new h1).trans (Ex.new h2)).trans (Ex.new h3))
    show (upd _ p3 _) p2 = _
    rw [upd_ne n32, upd_same, e2.1]
end
section
variable {σ : L2.St} {H : Hp} {D : Ends} {te : TE} {tz : TS} {p : Addr} {ns : Cells} {t m : Int} {j : Nat}
/-- _law_draw(pen, bound) -/
theorem c_draw {E : XK} {Q : VK} (hp : σ[j]? = some (some (.ref p))) (hb : Ev te σ H (.int m)) (pen : PenAt H p ns t) (hn : ns.length ≤ 63) (t0 : 0 ≤ t) (t1 : t ≤ 1000000) (m0 : 1 ≤ m) (m1 : m ≤ 1000000)
    (kk : ∀ d u H', 0 ≤ d → d < m → t ≤ u → u ≤ t + 1 → PenAt H' p ns u → But p H H' → Q (.int d) H') : tCall spTake [] E (tCons (tVar j) (tCons te tNil)) σ H Q :=
  ⟨_, hp, hb H (Ex.refl _) _ fun H1 e1 => ⟨p, m, ns, t, rfl, pen_mono e1 pen, hn, t0, t1, m0, m1, fun d u H' d0 d1 u0 u1 pen' b' => kk d u H' d0 d1 u0 u1 pen' ((but_ex e1).trans b')⟩⟩
theorem q_draw {i : Nat} {E : XK} (hp : σ[j]? = some (some (.ref p))) (hb : Ev te σ H (.int m)) (pen : PenAt H p ns t) (hn : ns.length ≤ 63) (t0 : 0 ≤ t) (t1 : t ≤ 1000000) (m0 : 1 ≤ m) (m1 : m ≤ 1000000)
    (kk : ∀ d u H', 0 ≤ d → d < m → t ≤ u → u ≤ t + 1 → PenAt H' p ns u → But p H H' → tz D (σ.set i (some (.int d))) H') : tSeq (tAsg (tCall spTake [] E (tCons (tVar j) (tCons te tNil))) (gName i)) tz D σ H := c_draw hp hb pen hn t0 t1 m0 m1 kk
end
theorem lend_at {d : Int} (d0 : 0 ≤ d) (d1 : d < 3) : ∃ x, lendL.contains x = true ∧ atI (lendL.map V.str) d = some (.str x) := by
  rcases (show d = 0 ∨ d = 1 ∨ d = 2 by omega) with rfl | rfl | rfl
  · exact ⟨"both", by decide +kernel, atI_nat (j := 0) rfl⟩
  · exact ⟨"far", by decide +kernel, atI_nat (j := 1) rfl⟩
  · exact ⟨"one", by decide +kernel, atI_nat (j := 2) rfl⟩
theorem let_at {d : Int} (d0 : 0 ≤ d) (d1 : d < 3) : ∃ x, letL.contains x = true ∧ atI (letL.map V.str) d = some (.str x) := by
  rcases (show d = 0 ∨ d = 1 ∨ d = 2 by omega) with rfl | rfl | rfl
  · exact ⟨"both", by decide +kernel, atI_nat (j := 0) rfl⟩
  · exact ⟨"far", by decide +kernel, atI_nat (j := 1) rfl⟩
  · exact ⟨"any", by decide +kernel, atI_nat (j := 2) rfl⟩
theorem ix_drawn {α : Type} {f : α → V} {zs : List α} {d : Int} (d0 : 0 ≤ d) (d1 : d < (zs.map f).length) : ∃ a ∈ zs, atI (zs.map f) d = some (f a) := by
  obtain ⟨k, rfl⟩ := Int.eq_ofNat_of_zero_le d0
  rw [List.length_map] at d1
  have hk : k < zs.length := by omega
  exact ⟨zs[k], List.getElem_mem hk, atI_nat (by rw [List.getElem?_map, List.getElem?_eq_getElem hk]; rfl)⟩
theorem noLst {xs ys : List V} : HO.lst xs ≠ HO.tup ys := fun z => by cases z
section
variable {σ : L2.St} {H : Hp}
/-- a comprehension over range(n) -/
theorem el_lcR1 {ta : TA} {t : TT} {te : TE} {j : Nat} {vs : List Nat} {n : Nat} (f : Nat → Bool) (v : Nat → V) (h : EvA ta σ H [.int (n : Int)]) (hz : n ≤ 40000) (hw : ∀ x, wipe ((wipe σ vs).set j (some x)) vs = wipe σ vs)
    (ht : ∀ (i : Nat) H1, Ex H H1 → i < n → EvT t ((wipe σ vs).set j (some (.int (i : Int)))) H1 (f i)) (he : ∀ (i : Nat) H1, Ex H H1 → i < n → f i = true → Ev te ((wipe σ vs).set j (some (.int (i : Int)))) H1 (v i)) :
    EvL (tLc (iRng1 ta) (gName j) t te vs) σ H (given n f v) := fun H0 e Q q => h H0 e _ fun H1 e1 => ⟨(n : Int), rfl, by omega, by omega, fun Dl hD =>
  lc_it (walk_range (lo := 0) (n := n)) (Cw H1 f v Dl) ⟨hD, Ex.new hD, upd_same⟩ (fun _ _ _ _ => trivial) (fun i x H2 H3 hi p y => by
    obtain ⟨rfl, rfl⟩ := y
    simp only [Int.zero_add]
    exact ⟨hw _, cw_turn p (by omega) (ht i H1 (e.trans e1) hi) (fun hf => he i H1 (e.trans e1) hi hf)⟩) (fun H' p => q Dl H' (fresh_back e1 p.1) (e1.trans p.2.1) p.2.2)⟩
end
end L2.Mj
set_option maxRecDepth 100000
set_option maxHeartbeats 8000000
namespace L2.Mj
open PySem PySem.Spec PyProof.Rows L2 Mx L2.Mb Evl Mv TL LamX Sr Srt SrtO NdefX
/-! ### drawn names -/
def letA : Str := "bafdcenmlkjihg"
def letB : Str := "abcdefghijklmn"
abbrev wordsL : List Str := ["own", "blind", "lent", "any", "far", "both", "one", "gate", "host", "x", "y", "z", "ab", "aba"]
def lett (i : Nat) : Str := ⟨#[i]⟩
def nameAt (y k : Nat) : Str := if y = 0 then lett (letA.cps.getD k 0) else if y = 1 then "aaaaaaa" ++ lett (97 + k) else wordsL.getD k ""
abbrev offL : List Str := ["qq", "nn", "mm", "qa", "qb", "qc", "nobody", "zzz"]
abbrev okAd (a : Int) : Prop := ¬ (60 ≤ a ∧ a ≤ 68) ∧ a ≠ 77 ∧ a ≠ 88
theorem name_facts : ∀ y < 3, ∀ k < 14, okW (nameAt y k) = true ∧ (¬ nameAt y k = "lone") ∧ (nameAt y k ∉ offL) ∧ PyData.strOk (nameAt y k) = true ∧ ∀ j < k, ¬ nameAt y j = nameAt y k := by decide +kernel
theorem letA_at : ∀ i < 14, letA.cps.toList[i]? = some (letA.cps.getD i 0) := by decide +kernel
theorem letB_at : ∀ i < 14, letB.cps.toList[i]? = some (97 + i) := by decide +kernel
theorem letA_len : letA.length ≤ 100000 := by decide +kernel
theorem letB_len : letB.length ≤ 100000 := by decide +kernel
abbrev namesL (y n : Nat) : List Str := (List.range n).map (nameAt y)
def spLtr : Sp := fun vs H Q _ => ∃ (p : Addr) (ns : Cells) (t : Int) (g h : Nat), vs = [.ref p, .int (g : Int), .int (h : Int)] ∧ g + h ≤ 14 ∧ PenAt H p ns t ∧ ns.length ≤ 63 ∧ 0 ≤ t ∧ t ≤ 900000 ∧
  ∀ (y : Nat) (u : Int) (q : Addr) (H' : Hp), y < 3 → t ≤ u → u ≤ t + 1 → PenAt H' p ns u → But p H H' → H q = none → H' q = some (.lst ((namesL y (g + h)).map V.str)) → Q (.ref q) H'
/-- a thing that was not there when the pen was is written -/
theorem pen_upd {H0 H' : Hp} {p q : Addr} {ns : Cells} {t u : Int} {o : HO} (pen0 : PenAt H0 p ns t) (n : H0 q = none) (pen : PenAt H' p ns u) : PenAt (upd H' q o) p ns u := by
  obtain ⟨g0, a1, a2⟩ := pen0
  obtain ⟨g, b1, b2⟩ := pen
  exact ⟨g, (upd_ne (ne_of_none a1 n)).trans b1, (upd_ne (ne_of_none a2 n)).trans b2⟩
section
variable {P : Program} {w : World} {K : W.Frag} {mg : Str → Option Value} {base : Heap} {f fT : Addr} {fd dT : FuncData}
theorem rc_int1 {i : Int} {H : Hp} : RC (fun (xs : List V) (H : Hp) (Q : VK) => (∃ i, xs = [.int i] ∧ Q (.int i) H) ∨ ∃ b, xs = [.bl b] ∧ Q (.int (if b then 1 else 0)) H) [.int i] H (.int i) := fun H1 _ Q q => .inl ⟨i, rfl, q H1 (Ex.refl H1)⟩
theorem ok_letters (B : Bt mg) (D : Fn0 P w K mg base "_law_draw" 1 fT dT p_law_draw spTake) (F : FnP K "_law_letters" s_law_letters f fd) : FnOk P w K mg base CX0 2 f fd p_law_letters spLtr := by
  refine F.ok sc_law_letters (fun vs H Q E h => ?_) (fun cdv A outer s H vs Q E hr h => ?_)
  · obtain ⟨p, ns, t, g, h, rfl, _⟩ := h
    rfl
  · obtain ⟨p, ns, t, g, h, rfl, n14, pen, hn, t0, t1, k⟩ := h
    have nd := sc_law_letters.nd
    refine ⟨_, PSs.nox (pss_cons (ps_set (i := 3) nd rfl (Or.inr rfl) (pe_lst (pa_cons pe_str (pa_cons pe_str (pa_cons pe_str (pa_cons pe_str (pa_cons pe_str (pa_cons pe_str (pa_cons pe_str (pa_cons pe_str (pa_cons pe_str (pa_cons pe_str (pa_cons pe_str (pa_cons pe_str (pa_cons pe_str (pa_cons pe_str pa_nil))))))))))))))))
      (pss_cons (ps_set (i := 4) nd rfl (Or.inr rfl) (pe_call D.ok hr (by rfl) D.m D.k D.b .nil pass0 (pa_cons (pv 0) (pa_cons pe_int pa_nil))))
      (pss_cons (ps_set (i := 5) nd rfl (Or.inr rfl) pe_str)
      (pss_one (ps_ret (pe_lc (own := [("_law_k", 6)]) (g := gName 6) (tt := tYes) (te := tOp (rIxL K) (tLst (tCons (tOp rIxS (tC (.str letA)) (tVar 6)) (tCons (tOp rCatS (tC (.str "aaaaaaa")) (tOp rIxS (tVar 5) (tVar 6))) (tCons (tOp (rIxL K) (tVar 3) (tVar 6)) tNil)))) (tVar 4)) (by rfl) nd
        (pi_range1 (by rfl) B.range (pa_cons (pe_op op_add (pv 1) (pv 2)) pa_nil)) (blkOk_by (N := n_law_letters) (sc := defScope s_law_letters) (by decide +kernel)) (fun _ _ _ _ _ => pg_name (i := 6) nd rfl (Or.inl rfl)) (fun _ _ _ _ _ => pts_nil)
        (fun _ _ _ _ _ => pe_ix ix_list (pe_lst (pa_cons (pe_ix ix_str pe_str (pv 6) (fun _ _ => rfl)) (pa_cons (pe_op op_add_str pe_str (pe_ix ix_str (pv 5) (pv 6) (fun _ _ => rfl))) (pa_cons (pe_ix ix_list (pv 3) (pv 6) (fun _ _ => rfl)) pa_nil)))) (pv 4) (fun _ _ => rfl)))))))), ?_⟩
    refine q_asgL (xs := wordsL.map V.str) (el_lst (ea_cons ev_c (ea_cons ev_c (ea_cons ev_c (ea_cons ev_c (ea_cons ev_c (ea_cons ev_c (ea_cons ev_c (ea_cons ev_c (ea_cons ev_c (ea_cons ev_c (ea_cons ev_c (ea_cons ev_c (ea_cons ev_c (ea_cons ev_c ea_nil)))))))))))))) (by decide)) fun lw H2 nlw e2 hlw => ?_
    have pen2 := pen_mono e2 pen
    have nwp : lw ≠ p := pen_fresh pen nlw
    refine q_draw rfl ev_c pen2 hn t0 (by omega) (by decide) (by decide) fun d2 u2 H4 d20 d21 u20 u21 pen4 but4 => ?_
    obtain ⟨y, rfl⟩ := Int.eq_ofNat_of_zero_le d20
    have hy : y < 3 := by omega
    have b4 : But p H H4 := (but_ex e2).trans but4
    have w4 : H4 lw = some (.lst (wordsL.map V.str)) := but4 _ _ nwp hlw
    refine q_asg (v := .str letB) ev_c fun H5 e5 => ?_
    have key : EvL (tLc (iRng1 (tCons (tOp (rI0 fun i j => V.int (i + j)) (tVar 1) (tVar 2)) tNil)) (gName 6) tYes (tOp (rIxL K) (tLst (tCons (tOp rIxS (tC (.str letA)) (tVar 6)) (tCons (tOp rCatS (tC (.str "aaaaaaa")) (tOp rIxS (tVar 5) (tVar 6))) (tCons (tOp (rIxL K) (tVar 3) (tVar 6)) tNil)))) (tVar 4)) [6]) [some (.ref p), some (.int g), some (.int h), some (.ref lw), some (.int y), some (.str letB), none] H5 ((namesL y (g + h)).map V.str) := by
      have w := el_lcR1 (ta := tCons (tOp (rI0 fun i j => V.int (i + j)) (tVar 1) (tVar 2)) tNil) (j := 6) (t := tYes) (te := tOp (rIxL K) (tLst (tCons (tOp rIxS (tC (.str letA)) (tVar 6)) (tCons (tOp rCatS (tC (.str "aaaaaaa")) (tOp rIxS (tVar 5) (tVar 6))) (tCons (tOp (rIxL K) (tVar 3) (tVar 6)) tNil)))) (tVar 4)) (vs := [6]) (σ := [some (.ref p), some (.int g), some (.int h), some (.ref lw), some (.int y), some (.str letB), none]) (H := H5) (n := g + h) (fun _ => true) (fun i => V.str (nameAt y i))
        (ea_cons (ev_is (ev_op (ev_var rfl) (ev_var rfl) rv_int) (by push_cast; rfl)) ea_nil) (by omega) (fun _ => rfl) (fun i H9 e9 hi => fun H7 e7 Q7 q7 => q7 H7 (Ex.refl _)) (fun i H9 e9 hi _ => by
          have hi2 : i < 14 := by omega
          refine ev_opL1 (xs := ([lett (letA.cps.getD i 0), "aaaaaaa" ++ lett (97 + i), wordsL.getD i ""] : List Str).map V.str) (y := .int (y : Int)) (el_lst (ea_cons (ev_op ev_c (ev_var rfl) (rv_ixS letA_len (atI_nat (letA_at _ hi2)))) (ea_cons (ev_op ev_c (ev_op (ev_var rfl) (ev_var rfl) (rv_ixS letB_len (atI_nat (letB_at _ hi2)))) (rv_catS (Nat.le_of_ble_eq_true rfl)))
            (ea_cons (ev_op (ev_var rfl) (ev_var rfl) (rv_ixL (sq_of (e9 _ _ (e5 _ _ w4))) (atI_nat (by
              rw [List.getElem?_map, List.getD_eq_getElem?_getD]
              have hm : i < wordsL.length := hi2
              rw [List.getElem?_eq_getElem hm]
              rfl)))) ea_nil))) (Nat.le_of_ble_eq_true rfl)) (fun H9 e9 => ev_var rfl) (fun q H9 hq e9 => rv_ixL (sq_of hq) (atI_nat (by
                unfold nameAt
                rcases (show y = 0 ∨ y = 1 ∨ y = 2 by omega) with rfl | rfl | rfl <;> rfl))))
      rw [given_map fun _ => rfl] at w
      rw [List.map_map]
      exact w
    exact s_retL (by exact key) fun q H6 nq e6 hq => k y u2 q H6 hy (by omega) (by omega) (pen_mono (e5.trans e6) pen4) (b4.trans (but_ex (e5.trans e6))) (new_but pen4 b4 (fresh_back e5 nq)) hq
end
end L2.Mj
set_option maxRecDepth 100000
set_option maxHeartbeats 8000000
namespace L2.Mj
open PySem PySem.Spec PyProof.Rows L2 Mx L2.Mb Evl Mv TL LamX Sr Srt SrtO NdefX
section
variable {σ : L2.St} {H : Hp} {te : TE}
theorem rd_op {r : R2} {ta tb : TE} {Q : VK} (h : ta σ H fun x H1 => tb σ H1 fun y H2 => r x y H2 Q) : tOp r ta tb σ H Q := h
theorem rd_lst {ta : TA} {Q : VK} (h : ta σ H fun vs H1 => vs.length ≤ sizeLine ∧ ∀ p, H1 p = none → Q (.ref p) (upd H1 p (.lst vs))) : tLst ta σ H Q := h
theorem rd_tup {ta : TA} {Q : VK} (h : ta σ H fun xs H1 => xs.length ≤ sizeLine ∧ ∀ p, H1 p = none → Q (.ref p) (upd H1 p (.tup xs))) : tTup ta σ H Q := h
theorem rd_cons {ta : TA} {P : List V → Hp → Prop} (h : te σ H fun x H1 => ta σ H1 fun xs H2 => P (x :: xs) H2) : tCons te ta σ H P := h
theorem rd_c {v : V} {Q : VK} (h : Q v H) : tC v σ H Q := h
theorem rd_var {i : Nat} {v : V} {Q : VK} (hi : σ[i]? = some (some v)) (h : Q v H) : tVar i σ H Q := ⟨v, hi, h⟩
theorem rd_test {Q : Bool → Hp → Prop} (h : te σ H fun x H1 => ∃ b, x = .bl b ∧ Q b H1) : tTest te σ H Q := h
theorem q_asgR {D : Ends} {tz : TS} {i : Nat} (h : te σ H fun v H1 => tz D (σ.set i (some v)) H1) : tSeq (tAsg te (gName i)) tz D σ H := h
theorem s_retR {D : Ends} (h : te σ H D.rt) : tRet te D σ H := h
theorem ix_drawn' {α : Type} {f : α → V} {zs : List α} {d : Int} (d0 : 0 ≤ d) (d1 : d < zs.length) : ∃ a ∈ zs, atI (zs.map f) d = some (f a) := by
  obtain ⟨i, rfl⟩ := Int.eq_ofNat_of_zero_le d0
  have hi : i < zs.length := by omega
  exact ⟨zs[i], List.getElem_mem hi, atI_nat (by rw [List.getElem?_map, List.getElem?_eq_getElem hi]; rfl)⟩
/-- a list of words, one of them drawn -/
theorem c_pick {K : W.Frag} {p : Addr} {ns : Cells} {t : Int} {j n : Nat} {E : XK} {ta : TA} {td : TE} {Q : VK} {xs : List Str} (hn : xs.length = n) (hv : EvA ta σ H (xs.map V.str)) (n1 : 1 ≤ n) (n2 : n ≤ 1000) (hp : σ[j]? = some (some (.ref p)))
    (hd : ∀ H1, Ex H H1 → Ev td σ H1 (.int (n : Int))) (pen : PenAt H p ns t) (hc : ns.length ≤ 63) (t0 : 0 ≤ t) (t1 : t ≤ 1000000)
    (kk : ∀ x u H', x ∈ xs → t ≤ u → u ≤ t + 1 → PenAt H' p ns u → But p H H' → Q (.str x) H') : tOp (rIxL K) (tLst ta) (tCall spTake [] E (tCons (tVar j) (tCons td tNil))) σ H Q :=
  hv H (Ex.refl _) _ fun H1 e1 => ⟨by rw [List.length_map, hn]; exact Nat.le_trans n2 (by decide), fun q nq => by
    have e2 := e1.trans (Ex.new (o := .lst (xs.map V.str)) nq)
    refine c_draw hp (hd _ e2) (pen_mono e2 pen) hc t0 t1 (by omega) (by omega) fun d u H' d0 d1 u0 u1 pen' but' => ?_
    have nqp := pen_fresh (pen_mono e1 pen) nq
    obtain ⟨x, hx, ax⟩ := ix_drawn' (f := V.str) (zs := xs) d0 (by rw [hn]; exact d1)
    exact ⟨q, _, d, .str x, rfl, rfl, SqL.of (but' q _ nqp upd_same), ax, kk x u H' hx u0 u1 pen' ((but_ex e2).trans but')⟩⟩
end
/-! ### a kind as a tuple -/
abbrev sortV (k : Kd) : List V := [.str k.le, .str k.lt, .bl k.tu, optV k.re]
def SAt (H : Hp) (a : Addr) (k : Kd) : Prop := H a = some (.tup (sortV k))
theorem SAt.mono {H H' : Hp} {a : Addr} {k : Kd} (h : SAt H a k) (e : Ex H H') : SAt H' a k := e _ _ h
def spSort : Sp := fun vs H Q _ => ∃ (p : Addr) (ns : Cells) (t : Int), vs = [.ref p] ∧ PenAt H p ns t ∧ ns.length ≤ 63 ∧ 0 ≤ t ∧ t ≤ 900000 ∧
  ∀ (kd : Kd) (q : Addr) (u : Int) (H' : Hp), kd.ok = true → t ≤ u → u ≤ t + 6 → PenAt H' p ns u → But p H H' → H q = none → SAt H' q kd → Q (.ref q) H'
section
variable {P : Program} {w : World} {K : W.Frag} {mg : Str → Option Value} {base : Heap} {f fT : Addr} {fd dT : FuncData}
theorem ok_sort (B : Bt mg) (D : Fn0 P w K mg base "_law_draw" 1 fT dT p_law_draw spTake) (F : FnP K "_law_sort" s_law_sort f fd) : FnOk P w K mg base CX0 2 f fd p_law_sort spSort := by
  refine F.ok sc_law_sort (fun vs H Q E h => ?_) (fun cdv A outer s H vs Q E hr h => ?_)
  · obtain ⟨p, ns, t, rfl, _⟩ := h
    rfl
  · obtain ⟨p, ns, t, rfl, pen, hn, t0, t1, k⟩ := h
    have nd := sc_law_sort.nd
    refine ⟨_, PSs.nox (pss_cons (ps_set (i := 1) nd rfl (Or.inl rfl) (pe_lst (pa_cons pe_non (pa_cons pe_int (pa_cons (pe_op op_add pe_int (pe_call D.ok hr (by rfl) D.m D.k D.b .nil pass0 (pa_cons (pv 0) (pa_cons pe_int pa_nil)))) (pa_cons (pe_op op_sub (pe_op op_pow pe_int pe_int) (pe_call D.ok hr (by rfl) D.m D.k D.b .nil pass0 (pa_cons (pv 0) (pa_cons pe_int pa_nil)))) (pa_cons pe_non pa_nil)))))))
      (pss_cons (ps_set (i := 2) nd rfl (Or.inl rfl) (pe_tup (pa_cons (pe_ix ix_list (pe_lst (pa_cons pe_str (pa_cons pe_str (pa_cons pe_str pa_nil)))) (pe_call D.ok hr (by rfl) D.m D.k D.b .nil pass0 (pa_cons (pv 0) (pa_cons pe_int pa_nil))) (fun _ _ => rfl)) (pa_cons (pe_ix ix_list (pe_lst (pa_cons pe_str (pa_cons pe_str (pa_cons pe_str pa_nil)))) (pe_call D.ok hr (by rfl) D.m D.k D.b .nil pass0 (pa_cons (pv 0) (pa_cons pe_int pa_nil))) (fun _ _ => rfl)) pa_nil))))
      (pss_one (ps_ret (pe_op op_catA (pv 2) (pe_tup (pa_cons (pe_cmpR op_eq (pe_call D.ok hr (by rfl) D.m D.k D.b .nil pass0 (pa_cons (pv 0) (pa_cons pe_int pa_nil))) pe_int (nomark _)) (pa_cons (pe_ix ix_list (pv 1) (pe_call D.ok hr (by rfl) D.m D.k D.b .nil pass0 (pa_cons (pv 0) (pa_cons pe_int pa_nil))) (fun _ _ => rfl)) pa_nil)))))))), ?_⟩
    refine q_asgR (rd_lst (rd_cons (rd_c (rd_cons (rd_c (rd_cons (rd_op (rd_c (c_draw rfl ev_c pen hn t0 (by omega) (by decide) (by decide) fun d1 u1 H1 d10 d11 u10 u11 pen1 but1 => ⟨2, d1, rfl, rfl, rd_cons (rd_op (rd_op (rd_c (rd_c ⟨_, _, rfl, rfl, ⟨by decide, by decide, by decide⟩, c_draw rfl ev_c pen1 hn (by omega) (by omega) (by decide) (by decide) fun d2 u2 H2 d20 d21 u20 u21 pen2 but2 => ⟨_, d2, rfl, rfl, rd_cons (rd_c ⟨(by show 5 ≤ sizeLine; decide), fun q1 n1 => ?_⟩)⟩⟩))))⟩)))))))))
    have b2 := but1.trans but2
    have np1 := pen_fresh pen2 n1
    have pen3 := pen_mono (Ex.new (o := .lst [V.non, V.int 2, V.int (2 + d1), V.int (10 ^ Int.toNat 6 - d2), V.non]) n1) pen2
    have b3 : But p H _ := b2.trans (but_ex (Ex.new (o := .lst [V.non, V.int 2, V.int (2 + d1), V.int (10 ^ Int.toNat 6 - d2), V.non]) n1))
    have hq1 : (upd H2 q1 (.lst [V.non, V.int 2, V.int (2 + d1), V.int (10 ^ Int.toNat 6 - d2), V.non])) q1 = some (.lst [V.non, V.int 2, V.int (2 + d1), V.int (10 ^ Int.toNat 6 - d2), V.non]) := upd_same
    generalize upd H2 q1 (.lst [V.non, V.int 2, V.int (2 + d1), V.int (10 ^ Int.toNat 6 - d2), V.non]) = H3 at *
    try dsimp only [gName, List.set, start]
    refine q_asgR (rd_tup (rd_cons (c_pick (xs := ["both", "far", "one"]) (n := 3) rfl (ea_cons ev_c (ea_cons ev_c (ea_cons ev_c ea_nil))) (by decide) (by decide) rfl (fun _ _ => ev_c) pen3 hn (by omega) (by omega) fun x1 u3 H4 hx1 u30 u31 pen4 but4 => ?_)))
    refine rd_cons (c_pick (xs := ["both", "far", "any"]) (n := 3) rfl (ea_cons ev_c (ea_cons ev_c (ea_cons ev_c ea_nil))) (by decide) (by decide) rfl (fun _ _ => ev_c) pen4 hn (by omega) (by omega) fun x2 u4 H5 hx2 u40 u41 pen5 but5 => ⟨(by show 2 ≤ sizeLine; decide), fun q2 n2 => ?_⟩)
    have b5 := (b3.trans but4).trans but5
    have hq15 := but5 _ _ np1 (but4 _ _ np1 hq1)
    have np2 := pen_fresh pen5 n2
    have e6 := Ex.new (o := .tup [V.str x1, .str x2]) n2
    have pen6 := pen_mono e6 pen5
    have hq16 := e6 _ _ hq15
    have hq2 : (upd H5 q2 (.tup [V.str x1, .str x2])) q2 = some (.tup [V.str x1, .str x2]) := upd_same
    have b6 := b5.trans (but_ex e6)
    generalize upd H5 q2 (.tup [V.str x1, .str x2]) = H6 at *
    try dsimp only [gName, List.set, start]
    refine s_retR (rd_op (rd_var rfl (rd_tup (rd_cons (rd_op (c_draw rfl ev_c pen6 hn (by omega) (by omega) (by decide) (by decide) fun d7 u7 H7 d70 d71 u70 u71 pen7 but7 => ⟨rfl, rd_cons (rd_op (rd_var rfl (c_draw rfl ev_c pen7 hn (by omega) (by omega) (by decide) (by decide) fun d8 u8 H8 d80 d81 u80 u81 pen8 but8 => ?_)))⟩))))))
    generalize decide (V.int d7 = V.int 0) = tu
    have b8 := (b6.trans but7).trans but8
    obtain ⟨o, ho, ax⟩ := ix_drawn' (f := optV) (zs := ([none, some 2, some (2 + d1), some (10 ^ Int.toNat 6 - d2), none] : List (Option Int))) d80 (by show d8 < ((5 : Nat) : Int); omega)
    refine ⟨q1, _, d8, optV o, rfl, rfl, SqL.of (but8 _ _ np1 (but7 _ _ np1 hq16)), ax, (by show 2 ≤ sizeLine; decide), fun q3 n3 => ?_⟩
    have e9 := Ex.new (o := .tup [V.bl tu, optV o]) n3
    have hq28 := but8 _ _ np2 (but7 _ _ np2 hq2)
    refine ⟨q2, q3, [.str x1, .str x2], [.bl tu, optV o], rfl, rfl, st_of (e9 _ _ hq28), st_of upd_same, (by show 4 ≤ sizeLine; decide), (fun z => nomatch z), (fun _ z => nomatch z), fun _ _ q4 n4 => ?_⟩
    have e10 := Ex.new (o := .tup ([V.str x1, .str x2] ++ [V.bl tu, optV o])) n4
    have e910 := e9.trans e10
    refine k ⟨x1, x2, tu, o⟩ q4 u8 _ ?_ (by omega) (by omega) (pen_mono e910 pen8) (b8.trans (but_ex e910)) (new_but pen8 b8 (fresh_back e9 n4)) upd_same
    unfold Kd.ok
    have a1 : lendL.contains x1 = true := by
      simp only [List.mem_cons, List.not_mem_nil, or_false] at hx1
      rcases hx1 with rfl | rfl | rfl <;> decide +kernel
    have a2 : letL.contains x2 = true := by
      simp only [List.mem_cons, List.not_mem_nil, or_false] at hx2
      rcases hx2 with rfl | rfl | rfl <;> decide +kernel
    show (lendL.contains x1 && (letL.contains x2 && o.all inRest)) = true
    rw [a1, a2]
    have e6 : (10 : Int) ^ Int.toNat 6 = 1000000 := by decide
    rw [e6] at ho
    simp only [List.mem_cons, List.not_mem_nil, or_false] at ho
    rcases ho with rfl | rfl | rfl | rfl | rfl
    · rfl
    · decide
    · show inRest (2 + d1) = true
      unfold inRest
      rw [decide_eq_true (show (2 : Int) ≤ 2 + d1 by omega), decide_eq_true (show 2 + d1 ≤ (1000000 : Int) by omega)]
      rfl
    · show inRest (1000000 - d2) = true
      unfold inRest
      rw [decide_eq_true (show (2 : Int) ≤ 1000000 - d2 by omega), decide_eq_true (show 1000000 - d2 ≤ (1000000 : Int) by omega)]
      rfl
    · rfl
end
end L2.Mj
set_option maxRecDepth 100000
set_option maxHeartbeats 8000000
namespace L2.Mj
open PySem PySem.Spec PyProof.Rows L2 Mx L2.Mb Evl Mv TL LamX Sr Srt SrtO NdefX
/-! ### what the draws of a world keep -/
abbrev dDeep (rs : List Pt) : List (Key × V) := (Sum.inr "", V.int 0) :: (gts rs).reverse.map fun p => (Sum.inr p.nm, V.int ((chn rs p.nm).length : Int))
abbrev deepK (rs : List Pt) : List Str := "" :: (gts rs).reverse.map Pt.nm
theorem deep_keys (rs : List Pt) : (dDeep rs).map (·.1) = (deepK rs).map Sum.inr := by
  unfold dDeep deepK
  rw [List.map_cons, List.map_cons, List.map_map, List.map_map]
  rfl
theorem deep_mem {rs : List Pt} {r : Str} (h : r ∈ deepK rs) : r = "" ∨ hasG rs r = true := by
  rcases List.mem_cons.mp h with z | z
  · exact .inl z
  · obtain ⟨p, h1, h2⟩ := List.mem_map.mp z
    exact .inr (hasG_iff.mpr ⟨p, List.mem_reverse.mp h1, h2⟩)
theorem val_deep {rs : List Pt} (v : Vd rs) {r : Str} (h : r = "" ∨ hasG rs r = true) : valV (dDeep rs) (Sum.inr r) = some (.int ((chn rs r).length : Int)) := by
  by_cases z : r = ""
  · rw [z, chn_open v]
    exact valV_pos rfl
  · rcases h with y | y
    · exact absurd y z
    · obtain ⟨p, hp, e⟩ := hasG_iff.mp y
      show valV (((Sum.inr "" : Key), V.int 0) :: (gts rs).reverse.map fun p => ((Sum.inr p.nm : Key), V.int ((chn rs p.nm).length : Int))) (Sum.inr r) = _
      rw [valV_neg (fun y => z (inr_iff.mp y).symm), ← e, val_atG v hp fun p => V.int ((chn rs p.nm).length : Int)]
theorem deep_gate {rs : List Pt} {p : Pt} (hg : p.isG = true) (nn : newN rs p.nm = true) : dDeep (p :: rs) = dDeep rs ++ [(Sum.inr p.nm, .int (((chn rs p.rl).length : Int) + 1))] := by
  unfold dDeep
  rw [gts_cons, if_pos hg, List.reverse_cons, List.map_append]
  have e : ((gts rs).reverse.map fun q => ((Sum.inr q.nm : Key), V.int ((chn (p :: rs) q.nm).length : Int))) = (gts rs).reverse.map fun q => ((Sum.inr q.nm : Key), V.int ((chn rs q.nm).length : Int)) :=
    List.map_congr_left fun q hq => by
      have z := newN_iff.mp nn q (List.mem_filter.mp (List.mem_reverse.mp hq)).1
      rw [chn_ne (Ne.symm z)]
  rw [e]
  show _ :: (_ ++ [((Sum.inr p.nm : Key), V.int ((chn (p :: rs) p.nm).length : Int))]) = _
  rw [chn_self hg, List.length_cons]
  rfl
theorem deep_host {rs : List Pt} {p : Pt} (hg : p.isG = false) (nn : newN rs p.nm = true) : dDeep (p :: rs) = dDeep rs := by
  unfold dDeep
  rw [gts_cons, if_neg (by rw [hg]; simp)]
  have e : ((gts rs).reverse.map fun q => ((Sum.inr q.nm : Key), V.int ((chn (p :: rs) q.nm).length : Int))) = (gts rs).reverse.map fun q => ((Sum.inr q.nm : Key), V.int ((chn rs q.nm).length : Int)) :=
    List.map_congr_left fun q hq => by
      have z := newN_iff.mp nn q (List.mem_filter.mp (List.mem_reverse.mp hq)).1
      rw [chn_ne (Ne.symm z)]
  rw [e]
/-- a place taken -/
structure Tk where
  a : Addr
  r : Str
  n : Int
abbrev tkD (x : Tk) : PyData := .tuple [.str x.r, .int x.n]
theorem tk_dp {K : W.Frag} {H : Hp} : ∀ {ts : List Tk}, (∀ x ∈ ts, H x.a = some (.tup [.str x.r, .int x.n])) → DpAll K H (ts.map fun x => .ref x.a) (ts.map tkD)
  | [], _ => .nil
  | x :: ts, h => .cons (.tup (st_of (h x List.mem_cons_self)) (.cons (.str _) (.cons (.int _) .nil))) (tk_dp fun y hy => h y (List.mem_cons_of_mem _ hy))
theorem tk_lay1 {r : Str} {n : Int} (h : PyData.strOk r = true) : PyData.canLay0 (.tuple [.str r, .int n]) = true ∧ PyData.depth (.tuple [.str r, .int n]) ≤ 1 := by
  constructor
  · simp only [PyData.canLay0, PyData.canLayAll0, h, Bool.and_self]
  · simp only [PyData.depth, PyData.depthAll]
    decide
theorem tk_shaped1 {r : Str} {n : Int} (h : PyData.strOk r = true) : SeqAt.shaped (.tuple [.str r, .int n]) = true := by
  obtain ⟨h1, h2⟩ := tk_lay1 (n := n) h
  show (PyData.canLay0 (.tuple [.str r, .int n]) && decide (PyData.depth (.tuple [.str r, .int n]) ≤ 64)) = true
  rw [h1, decide_eq_true (Nat.le_trans h2 (by decide))]
  rfl
theorem tk_lay : ∀ {ts : List Tk}, (∀ x ∈ ts, PyData.strOk x.r = true) → PyData.canLayAll0 (ts.map tkD) = true ∧ PyData.depthAll (ts.map tkD) ≤ 1
  | [], _ => ⟨by simp [PyData.canLayAll0], by simp [PyData.depthAll]⟩
  | x :: ts, h => by
    obtain ⟨h1, h2⟩ := tk_lay fun y hy => h y (List.mem_cons_of_mem _ hy)
    obtain ⟨h3, h4⟩ := tk_lay1 (n := x.n) (h x List.mem_cons_self)
    constructor
    · simp only [List.map_cons, PyData.canLayAll0, h1, h3, Bool.and_self]
    · simp only [List.map_cons, PyData.depthAll]
      exact Nat.max_le.mpr ⟨h4, h2⟩
theorem tk_shaped {ts : List Tk} (h : ∀ x ∈ ts, PyData.strOk x.r = true) : SeqAt.shaped (.list (ts.map tkD)) = true := by
  obtain ⟨h1, h2⟩ := tk_lay h
  show (PyData.canLay0 (.list (ts.map tkD)) && decide (PyData.depth (.list (ts.map tkD)) ≤ 64)) = true
  have e : PyData.depth (.list (ts.map tkD)) ≤ 64 := by
    simp only [PyData.depth]
    omega
  rw [decide_eq_true e]
  simp only [PyData.canLay0, h1, Bool.and_self]
theorem tk_eqv (x : Tk) (r : Str) (n : Int) : PyData.eqv (tkD x) (.tuple [.str r, .int n]) = (decide (x.r = r) && decide (x.n = n)) := by
  simp only [PyData.eqv, PyData.eqvAll, Bool.and_true]
  by_cases h1 : x.r = r <;> by_cases h2 : x.n = n <;> simp [h1, h2]
/-- the pools of addresses -/
abbrev poolOk (ps : List Int) : Prop := ps ≠ [] ∧ ∀ a ∈ ps, 1 ≤ a ∧ a ≤ 99 ∧ a ≠ 42 ∧ okAd a
/-! ### what a turn of the loop over the names keeps -/
/-- all but these stays -/
def ButL (S : List Addr) (H H' : Hp) : Prop := ∀ c o, c ∉ S → H c = some o → H' c = some o
theorem ButL.ex {S : List Addr} {H H' : Hp} (e : Ex H H') : ButL S H H' := fun c o _ h => e c o h
theorem ButL.trans {S : List Addr} {H H1 H2 : Hp} (a : ButL S H H1) (b : ButL S H1 H2) : ButL S H H2 := fun c o n h => b c o n (a c o n h)
theorem ButL.up {S T : List Addr} {H H' : Hp} (b : ButL S H H') (h : ∀ c ∈ S, c ∈ T) : ButL T H H' := fun c o n h' => b c o (fun z => n (h c z)) h'
theorem ButL.pen {p : Addr} {S : List Addr} {H H' : Hp} (b : But p H H') (h : p ∈ S) : ButL S H H' := fun c o n h' => b c o (fun z => n (by rw [z]; exact h)) h'
theorem ButL.put {a : Addr} {S : List Addr} {H : Hp} {o : HO} (h : a ∈ S) : ButL S H (upd H a o) := fun c _ n h' => (upd_ne fun z => n (by rw [z]; exact h)).trans h'
/-- where the things stand -/
structure LA where
  p : Addr
  ld : Addr
  lt : Addr
  lf : Addr
  lp : Addr
  ll : Addr
structure LA.Ne (A : LA) (n : Addr) : Prop where
  pd : A.p ≠ A.ld
  pt : A.p ≠ A.lt
  pf : A.p ≠ A.lf
  pp : A.p ≠ A.lp
  pl : A.p ≠ A.ll
  dt : A.ld ≠ A.lt
  df : A.ld ≠ A.lf
  dp : A.ld ≠ A.lp
  dl : A.ld ≠ A.ll
  tf : A.lt ≠ A.lf
  tp : A.lt ≠ A.lp
  tl : A.lt ≠ A.ll
  fp : A.lf ≠ A.lp
  fl : A.lf ≠ A.ll
  nd : n ≠ A.ld
  nt : n ≠ A.lt
  nf : n ≠ A.lf
/-- a part whose kind is a tuple -/
structure PrtS (H : Hp) (t k : Addr) (p : Pt) : Prop where
  t : H t = some (.tup (ptV k p))
  k : ∀ kd, p.kd = some kd → SAt H k kd
theorem PrtS.mono {H H' : Hp} {t k : Addr} {p : Pt} (h : PrtS H t k p) (e : Ex H H') : PrtS H' t k p := ⟨e _ _ h.t, fun kd z => (h.k kd z).mono e⟩
/-- behind i turns -/
structure LS (A : LA) (ns : Cells) (ps : List Int) (y g n : Nat) (i : Nat) (l : List Pl) (tk : List Tk) (u : Int) (H' : Hp) : Prop where
  pen : PenAt H' A.p ns u
  hp : H' A.lp = some (.lst (ps.map V.int))
  hl : H' A.ll = some (.lst ((namesL y n).map V.str))
  hd : H' A.ld = some (.dK (dDeep (rsOf l)))
  ht : H' A.lt = some (.lst (tk.map fun x => .ref x.a))
  hf : H' A.lf = some (.lst (l.map fun x => .ref x.t))
  pt : ∀ x ∈ l, PrtS H' x.t x.k x.p
  vd : Vd (rsOf l)
  nm : ∀ x ∈ l, ∃ j < i, x.p.nm = nameAt y j
  ad : ∀ x ∈ l, x.p.ad ∈ ps
  tk1 : ∀ x ∈ tk, H' x.a = some (.tup [.str x.r, .int x.n]) ∧ PyData.strOk x.r = true
  tk2 : ∀ x ∈ l, ∃ z ∈ tk, z.r = x.p.rl ∧ z.n = x.p.ad
  tkl : tk.length ≤ i
  c1 : (gts (rsOf l)).length ≤ i ∧ (gts (rsOf l)).length ≤ g
  c2 : (rsOf l).length - (gts (rsOf l)).length ≤ i - g
section
variable {A : LA} {ns : Cells} {ps : List Int} {y g n i : Nat} {l : List Pl} {tk : List Tk} {u : Int} {H H' : Hp}
/-- things that are no lists and no dicts stay -/
theorem LS.tup (h : LS A ns ps y g n i l tk u H) (b : ButL [A.p, A.ld, A.lt, A.lf] H H') {c : Addr} {xs : List V} (e : H c = some (.tup xs)) : H' c = some (.tup xs) := by
  obtain ⟨g, hp, _⟩ := h.pen
  refine b c _ (fun z => ?_) e
  simp only [List.mem_cons, List.not_mem_nil, or_false] at z
  rcases z with z | z | z | z
  · exact ne_of_obj e hp (fun w => by cases w) z
  · exact ne_of_obj e h.hd (fun w => by cases w) z
  · exact ne_of_obj e h.ht (fun w => by cases w) z
  · exact ne_of_obj e h.hf (fun w => by cases w) z
theorem LS.part (h : LS A ns ps y g n i l tk u H) (b : ButL [A.p, A.ld, A.lt, A.lf] H H') {t ka : Addr} {p : Pt} (e : PrtS H t ka p) : PrtS H' t ka p := ⟨h.tup b e.t, fun k z => h.tup b (e.k k z)⟩
theorem LS.mono (h : LS A ns ps y g n i l tk u H) (e : Ex H H') : LS A ns ps y g n i l tk u H' :=
  ⟨pen_mono e h.pen, e _ _ h.hp, e _ _ h.hl, e _ _ h.hd, e _ _ h.ht, e _ _ h.hf, fun x hx => (h.pt x hx).mono e, h.vd, h.nm, h.ad, fun x hx => ⟨e _ _ (h.tk1 x hx).1, (h.tk1 x hx).2⟩, h.tk2, h.tkl, h.c1, h.c2⟩
/-- a turn in which nothing was found -/
theorem LS.skip (h : LS A ns ps y g n i l tk u H) (ne : A.Ne ns.l) {u' : Int} (pen : PenAt H' A.p ns u') (bl : ButL [A.p, A.ld, A.lt, A.lf] H H')
    (hd : H' A.ld = H A.ld) (ht : H' A.lt = H A.lt) (hf : H' A.lf = H A.lf) : LS A ns ps y g n (i + 1) l tk u' H' := by
  have c1 := h.c1
  have c2 := h.c2
  refine ⟨pen, bl _ _ ?_ h.hp, bl _ _ ?_ h.hl, hd.trans h.hd, ht.trans h.ht, hf.trans h.hf, fun x hx => h.part bl (h.pt x hx), h.vd, fun x hx => ?_, h.ad, fun x hx => ⟨h.tup bl (h.tk1 x hx).1, (h.tk1 x hx).2⟩, h.tk2, Nat.le_succ_of_le h.tkl, ⟨by omega, c1.2⟩, by omega⟩
  · simp only [List.mem_cons, List.not_mem_nil, or_false, not_or]
    exact ⟨ne.pp.symm, ne.dp.symm, ne.tp.symm, ne.fp.symm⟩
  · simp only [List.mem_cons, List.not_mem_nil, or_false, not_or]
    exact ⟨ne.pl.symm, ne.dl.symm, ne.tl.symm, ne.fl.symm⟩
  · obtain ⟨j, hj, e⟩ := h.nm x hx
    exact ⟨j, by omega, e⟩
/-- a turn in which a part was found -/
theorem LS.grow (h : LS A ns ps y g n i l tk u H) (ne : A.Ne ns.l) {u' : Int} {x : Pl} {z : Tk} (pen : PenAt H' A.p ns u') (bl : ButL [A.p, A.ld, A.lt, A.lf] H H')
    (hd : H' A.ld = some (.dK (dDeep (x.p :: rsOf l)))) (ht : H' A.lt = some (.lst ((tk ++ [z]).map fun x => .ref x.a))) (hf : H' A.lf = some (.lst ((l ++ [x]).map fun x => .ref x.t)))
    (hx : PrtS H' x.t x.k x.p) (ok : okA (rsOf l) x.p = true) (hn : x.p.nm = nameAt y i) (ha : x.p.ad ∈ ps) (hz : H' z.a = some (.tup [.str z.r, .int z.n]) ∧ PyData.strOk z.r = true) (hzx : z.r = x.p.rl ∧ z.n = x.p.ad) (hg : x.p.isG = decide (i < g)) :
    LS A ns ps y g n (i + 1) (l ++ [x]) (tk ++ [z]) u' H' := by
  have c1 := h.c1
  have c2 := h.c2
  have ln := okA_len h.vd
  refine ⟨pen, bl _ _ ?_ h.hp, bl _ _ ?_ h.hl, by rw [rs_snoc]; exact hd, ht, hf, fun w hw => ?_, by rw [rs_snoc]; exact ⟨h.vd, ok⟩, fun w hw => ?_, fun w hw => ?_, fun w hw => ?_, fun w hw => ?_, ?_, ?_, ?_⟩
  · simp only [List.mem_cons, List.not_mem_nil, or_false, not_or]
    exact ⟨ne.pp.symm, ne.dp.symm, ne.tp.symm, ne.fp.symm⟩
  · simp only [List.mem_cons, List.not_mem_nil, or_false, not_or]
    exact ⟨ne.pl.symm, ne.dl.symm, ne.tl.symm, ne.fl.symm⟩
  · rcases List.mem_append.mp hw with e | e
    · exact h.part bl (h.pt w e)
    · rw [List.mem_singleton.mp e]
      exact hx
  · rcases List.mem_append.mp hw with e | e
    · obtain ⟨j, hj, e2⟩ := h.nm w e
      exact ⟨j, by omega, e2⟩
    · rw [List.mem_singleton.mp e]
      exact ⟨i, by omega, hn⟩
  · rcases List.mem_append.mp hw with e | e
    · exact h.ad w e
    · rw [List.mem_singleton.mp e]
      exact ha
  · rcases List.mem_append.mp hw with e | e
    · exact ⟨h.tup bl (h.tk1 w e).1, (h.tk1 w e).2⟩
    · rw [List.mem_singleton.mp e]
      exact hz
  · rcases List.mem_append.mp hw with e | e
    · obtain ⟨v, hv, e2⟩ := h.tk2 w e
      exact ⟨v, List.mem_append_left _ hv, e2⟩
    · rw [List.mem_singleton.mp e]
      exact ⟨z, List.mem_append_right _ List.mem_cons_self, hzx⟩
  · rw [List.length_append]
    exact Nat.succ_le_succ h.tkl
  · rw [rs_snoc, gts_cons]
    split
    · rename_i e
      rw [hg, decide_eq_true_iff] at e
      rw [List.length_cons]
      omega
    · omega
  · rw [rs_snoc, gts_cons]
    split
    · rw [List.length_cons, List.length_cons]
      omega
    · rename_i e
      rw [hg, decide_eq_true_iff] at e
      rw [List.length_cons]
      omega
/-- the new part fits -/
theorem LS.fits (h : LS A ns ps y g n i l tk u H) (hps : poolOk ps) (hy : y < 3) (hi : i < 14) (g6 : g ≤ 6) (gn : n ≤ g + 8) (hin : i < n) {p : Pt} (hb : p.isG = decide (i < g)) (hn : p.nm = nameAt y i) (hr : p.rl = "" ∨ hasG (rsOf l) p.rl = true) (hd : i < g → (chn (rsOf l) p.rl).length < 3) (ha : p.ad ∈ ps)
    (hfree : ∀ z ∈ tk, ¬ (z.r = p.rl ∧ z.n = p.ad)) (hkd : p.kd.all Kd.ok = true) : okA (rsOf l) p = true := by
  obtain ⟨f1, f2, _, f3, f4⟩ := name_facts y hy i hi
  have mem : ∀ q ∈ rsOf l, ∃ x ∈ l, x.p = q := fun q hq => by
    obtain ⟨x, h1, h2⟩ := List.mem_map.mp (List.mem_reverse.mp hq)
    exact ⟨x, h1, h2⟩
  have nn : newN (rsOf l) p.nm = true := newN_iff.mpr fun q hq z => by
    obtain ⟨x, hx, rfl⟩ := mem q hq
    obtain ⟨j, hj, e⟩ := h.nm x hx
    rw [e, hn] at z
    exact f4 j hj z
  have na : newA (rsOf l) p.rl p.ad = true := newA_iff.mpr fun q hq z => by
    obtain ⟨x, hx, rfl⟩ := mem q hq
    obtain ⟨w, hw, e⟩ := h.tk2 x hx
    exact hfree w hw ⟨e.1.trans z.1, e.2.trans z.2⟩
  obtain ⟨a0, a1, _⟩ := hps.2 _ ha
  have okr : (decide (p.rl = "") || okW p.rl) = true := by
    rcases hr with z | z
    · rw [decide_eq_true z]
      rfl
    · obtain ⟨g, hg, e⟩ := hasG_iff.mp z
      have := (h.vd.okP g (mem_gts.mp hg).1).nm
      rw [← e, this, Bool.or_true]
  have hrl : (decide (p.rl = "") || hasG (rsOf l) p.rl) = true := by
    rcases hr with z | z
    · rw [decide_eq_true z]
      rfl
    · rw [z, Bool.or_true]
  have rm : room (rsOf l) p = true := by
    unfold room
    have c1 := h.c1
    have c2 := h.c2
    split
    · rename_i e
      rw [hb, decide_eq_true_iff] at e
      have := hd e
      rw [decide_eq_true (show (chn (rsOf l) p.rl).length < 3 by omega), decide_eq_true (show (gts (rsOf l)).length < 6 by omega)]
      rfl
    · rename_i e
      rw [hb, decide_eq_true_iff] at e
      exact decide_eq_true (by omega)
  unfold okA okP
  rw [hn, f1, ← hn, okr, decide_eq_true a0, decide_eq_true a1, hkd, hrl, nn, na, rm]
  rfl
theorem LS.new (h : LS A ns ps y g n i l tk u H) (hy : y < 3) (hi : i < 14) : newN (rsOf l) (nameAt y i) = true := newN_iff.mpr fun q hq z => by
  obtain ⟨x, hx, rfl⟩ := List.mem_map.mp (List.mem_reverse.mp hq)
  obtain ⟨j, hj, e⟩ := h.nm x hx
  rw [e] at z
  exact (name_facts y hy i hi).2.2.2.2 j hj z
/-- the names of realms can be shown -/
theorem LS.rok (h : LS A ns ps y g n i l tk u H) (hy : y < 3) (hi : i ≤ 14) : (∀ x ∈ l, PyData.strOk x.p.nm = true ∧ x.p.nm ∉ offL ∧ x.p.nm ≠ "lone") ∧ ∀ r : Str, (r = "" ∨ hasG (rsOf l) r = true) → PyData.strOk r = true := by
  have h1 : ∀ x ∈ l, PyData.strOk x.p.nm = true ∧ x.p.nm ∉ offL ∧ x.p.nm ≠ "lone" := fun x hx => by
    obtain ⟨j, hj, e⟩ := h.nm x hx
    have f := name_facts y hy j (by omega)
    rw [e]
    exact ⟨f.2.2.2.1, f.2.2.1, f.2.1⟩
  refine ⟨h1, fun r hr => ?_⟩
  rcases hr with z | z
  · rw [z]
    decide +kernel
  · obtain ⟨g, hg, e⟩ := hasG_iff.mp z
    obtain ⟨x, hx, e2⟩ := List.mem_map.mp (List.mem_reverse.mp (mem_gts.mp hg).1)
    rw [← e, ← e2]
    exact (h1 x hx).1
theorem LS.lone (h : LS A ns ps y g n i l tk u H) (hps : poolOk ps) (hy : y < 3) (hi : i ≤ 14) (he : (l.filter fun x => !x.p.isG) = []) {r : Str} (hr : r = "" ∨ hasG (rsOf l) r = true) : okA (rsOf l) ⟨none, "lone", r, 42⟩ = true := by
  have mem : ∀ q ∈ rsOf l, ∃ x ∈ l, x.p = q := fun q hq => by
    obtain ⟨x, h1, h2⟩ := List.mem_map.mp (List.mem_reverse.mp hq)
    exact ⟨x, h1, h2⟩
  have nn : newN (rsOf l) "lone" = true := newN_iff.mpr fun q hq z => by
    obtain ⟨x, hx, rfl⟩ := mem q hq
    exact ((h.rok hy hi).1 x hx).2.2 z
  have na : newA (rsOf l) r 42 = true := newA_iff.mpr fun q hq z => by
    obtain ⟨x, hx, rfl⟩ := mem q hq
    exact (hps.2 _ (h.ad x hx)).2.2.1 z.2
  have ag : gts (rsOf l) = rsOf l := List.filter_eq_self.mpr fun q hq => by
    obtain ⟨x, hx, rfl⟩ := mem q hq
    cases e : x.p.isG with
    | true => rfl
    | false =>
      have m : x ∈ l.filter fun x => !x.p.isG := List.mem_filter.mpr ⟨hx, by rw [e]; rfl⟩
      rw [he] at m
      cases m
  have okr : (decide (r = "") || okW r) = true := by
    rcases hr with z | z
    · rw [decide_eq_true z]
      rfl
    · obtain ⟨g, hg, e⟩ := hasG_iff.mp z
      have := (h.vd.okP g (mem_gts.mp hg).1).nm
      rw [← e, this, Bool.or_true]
  have hrl : (decide (r = "") || hasG (rsOf l) r) = true := by
    rcases hr with z | z
    · rw [decide_eq_true z]
      rfl
    · rw [z, Bool.or_true]
  have rm : room (rsOf l) ⟨none, "lone", r, 42⟩ = true := by
    unfold room
    rw [if_neg (show ¬ ((⟨none, "lone", r, 42⟩ : Pt).isG = true) from fun z => nomatch z), ag]
    exact decide_eq_true (by omega)
  have o : okP ⟨none, "lone", r, 42⟩ = true := by
    unfold okP
    rw [okr]
    show (okW "lone" && (true && (decide ((1 : Int) ≤ 42) && (decide ((42 : Int) ≤ 99) && true)))) = true
    decide +kernel
  show (okP ⟨none, "lone", r, 42⟩ && ((decide (r = "") || hasG (rsOf l) r) && (newN (rsOf l) "lone" && (newA (rsOf l) r 42 && room (rsOf l) ⟨none, "lone", r, 42⟩)))) = true
  rw [o, hrl, nn, na, rm]
  rfl
end
section
variable {K : W.Frag} {σ : L2.St} {H : Hp} {ta tb te : TE} {r : R2} {y z : V}
theorem ev_opU1 {xs : List V} (ha : EvU ta σ H xs) (hb : ∀ H1, Ex H H1 → Ev tb σ H1 y) (hr : ∀ p H1, H1 p = some (.tup xs) → Ex H H1 → RV r (.ref p) y H1 z) : Ev (tOp r ta tb) σ H z := fun H1 e Q q =>
  ha H1 e _ fun p H2 _ e2 hp => hb H2 (e.trans e2) H2 (Ex.refl _) _ fun H3 e3 => hr p H3 (e3 _ _ hp) ((e.trans e2).trans e3) H3 (Ex.refl _) _ fun H4 e4 => q H4 ((e2.trans e3).trans e4)
theorem rc_int1b {k : Bool} : RC (fun (xs : List V) (H : Hp) (Q : VK) => (∃ i, xs = [.int i] ∧ Q (.int i) H) ∨ ∃ b, xs = [.bl b] ∧ Q (.int (if b then 1 else 0)) H) [.bl k] H (.int (if k then 1 else 0)) := fun H1 _ Q q => .inr ⟨k, rfl, q H1 (Ex.refl H1)⟩
theorem eqv_nil (fr : List Int) : PyData.eqv (.list (fr.map PyData.int)) (.list []) = fr.isEmpty := by
  cases fr <;> simp [PyData.eqv, PyData.eqvAll]
theorem rv_neNil {q r : Addr} {fr : List Int} (hq : SqL K H q (fr.map V.int)) (hr : SqL K H r []) : RV (rNeD K) (.ref q) (.ref r) H (.bl (!fr.isEmpty)) := fun H1 e Q k => by
  refine ⟨_, _, .lst (ex_l e hq) (dp_is fr), .lst (ex_l e hr) .nil, is_shaped fr, rfl, ?_⟩
  rw [eqv_nil]
  exact k H1 (Ex.refl H1)
theorem seq_ix {d : Int} {n : Nat} (d0 : 0 ≤ d) (d1 : d < n) : PySem.seqIndex? d n = some d.toNat := by
  unfold PySem.seqIndex?
  simp only [if_neg (show ¬ d < 0 by omega), decide_eq_true d0, decide_eq_true d1, Bool.and_self, if_true]
theorem rv_ntk {q a : Addr} {tk : List Tk} {r0 : Str} {n : Int} (hq : SqT K H q [.str r0, .int n]) (ha : SqL K H a (tk.map fun x => .ref x.a)) (ht : ∀ x ∈ tk, H x.a = some (.tup [.str x.r, .int x.n]) ∧ PyData.strOk x.r = true) (hr : PyData.strOk r0 = true) : RV (rNotInD K) (.ref q) (.ref a) H (.bl (!tk.any fun x => decide (x.r = r0) && decide (x.n = n))) := fun H1 e Q k => by
  refine ⟨.tuple [.str r0, .int n], tk.map tkD, .tup (ex_t e hq) (.cons (.str _) (.cons (.int _) .nil)), .lst (ex_l e ha) (tk_dp fun x hx => e _ _ (ht x hx).1), tk_shaped1 hr, tk_shaped fun x hx => (ht x hx).2, ?_⟩
  rw [List.any_map]
  have ef : ((fun z => PyData.eqv z (.tuple [.str r0, .int n])) ∘ tkD) = fun x => decide (x.r = r0) && decide (x.n = n) := by
    funext x
    exact tk_eqv x r0 n
  rw [ef]
  exact k H1 (Ex.refl H1)
end
/-- a new list of which P is known -/
def EvLx (te : TE) (σ : L2.St) (H : Hp) (P : List V → Prop) : Prop := ∀ H1, Ex H H1 → ∀ Q : VK, (∀ xs p H2, P xs → H1 p = none → Ex H1 H2 → H2 p = some (.lst xs) → Q (.ref p) H2) → te σ H1 Q
theorem elx_lc {K : W.Frag} {σ : L2.St} {H : Hp} {te tl : TE} {t : TT} {P : List V → Prop} {j : Nat} {vs : List Nat} (f : List V → Nat → Bool) (g : List V → Nat → V) (h : EvLx tl σ H P) (hz : ∀ xs, P xs → xs.length ≤ 40000) (hw : ∀ x, wipe ((wipe σ vs).set j (some x)) vs = wipe σ vs)
    (ht : ∀ xs, P xs → ∀ (i : Nat) (x : V) H1, Ex H H1 → xs[i]? = some x → EvT t ((wipe σ vs).set j (some x)) H1 (f xs i)) (he : ∀ xs, P xs → ∀ (i : Nat) (x : V) H1, Ex H H1 → xs[i]? = some x → f xs i = true → Ev te ((wipe σ vs).set j (some x)) H1 (g xs i)) :
    EvLx (tLc (iList K tl) (gName j) t te vs) σ H (fun ys => ∃ xs, P xs ∧ ys = given xs.length (f xs) (g xs)) := fun H0 e Q q => h H0 e _ fun xs a H1 px na e1 hx => ⟨a, rfl, ⟨xs, sq_of hx⟩, fun Dl hD =>
  lc_it (walk_list (K := K) (xs := xs)) (Cw H1 (f xs) (g xs) Dl) ⟨hD, Ex.new hD, upd_same⟩ (fun _ H' _ p => sq_of (p.2.1 a _ hx)) (fun i x H2 H3 hi p y => by
    obtain ⟨rfl, hc⟩ := y
    have := hz xs px
    exact ⟨hw x, cw_turn p (by omega) (ht xs px i x H1 (e.trans e1) hc) (fun hf => he xs px i x H1 (e.trans e1) hc hf)⟩) (fun H' p => q _ Dl H' ⟨xs, px, rfl⟩ (fresh_back e1 p.1) (e1.trans p.2.1) p.2.2)⟩
theorem q_asgLx {σ : L2.St} {H : Hp} {D : Ends} {te : TE} {tz : TS} {P : List V → Prop} {i : Nat} (h : EvLx te σ H P) (k : ∀ xs p H1, P xs → H p = none → Ex H H1 → H1 p = some (.lst xs) → tz D (σ.set i (some (.ref p))) H1) : tSeq (tAsg te (gName i)) tz D σ H := h H (Ex.refl H) _ fun xs p H1 px hp e h1 => k xs p H1 px hp e h1
def rSDk : List V → Hp → VK → Prop := fun xs H Q => ∃ (a : Addr) (kvs : List (Key × V)) (ks : List Str), xs = [.ref a] ∧ Rd H a (.dK kvs) ∧ kvs.map (·.1) = ks.map Sum.inr ∧ ks.length < 64 ∧
    ∀ ys p, ys.Perm ks → sortedS ys = true → H p = none → Q (.ref p) (upd H p (.lst (ys.map V.str)))
theorem elx_sorted {σ : L2.St} {H : Hp} {te : TE} {a : Addr} {kvs : List (Key × V)} {ks : List Str} (h : Ev te σ H (.ref a)) (ha : H a = some (.dK kvs)) (hk : kvs.map (·.1) = ks.map Sum.inr) (hl : ks.length < 64) : EvLx (tCB rSDk (tCons te tNil)) σ H (fun xs => ∃ ys : List Str, ys.Perm ks ∧ xs = ys.map V.str) := fun H1 e Q q =>
  h H1 e _ fun H2 e2 => ⟨a, kvs, ks, rfl, .inl (e2 _ _ (e _ _ ha)), hk, hl, fun ys p pm _ np => q _ p _ ⟨ys, pm, rfl⟩ (fresh_back e2 np) (e2.trans (Ex.new np)) upd_same⟩
theorem map_erase' {α β : Type} (f : α → β) : ∀ (l : List α) (j : Nat), (l.eraseIdx j).map f = (l.map f).eraseIdx j
  | [], _ => rfl
  | _ :: _, 0 => rfl
  | a :: l, j + 1 => congrArg (f a :: ·) (map_erase' f l j)
theorem val_deep_new {rs : List Pt} {n : Str} (h : newN rs n = true) (hn : okW n = true) : valV (dDeep rs) (Sum.inr n) = none := by
  show valV (((Sum.inr "" : Key), V.int 0) :: (gts rs).reverse.map fun p => ((Sum.inr p.nm : Key), V.int ((chn rs p.nm).length : Int))) (Sum.inr n) = _
  rw [valV_neg fun z => okW_ne hn (inr_iff.mp z).symm]
  exact val_newG (f := fun p => V.int ((chn rs p.nm).length : Int)) h
/-! ### hosts as data -/
abbrev hostD (x : Pl) : PyData := .tuple [.str "host", .str x.p.nm, .str x.p.rl, .int x.p.ad]
abbrev hostsOf (l : List Pl) : List Pl := l.filter fun x => !x.p.isG
theorem kd_none {p : Pt} (h : p.isG = false) : p.kd = none := by
  cases hk : p.kd with
  | none => rfl
  | some k =>
    unfold Pt.isG at h
    rw [hk] at h
    cases h
theorem host_dp {K : W.Frag} {H : Hp} : ∀ {l : List Pl}, (∀ x ∈ l, PrtS H x.t x.k x.p ∧ x.p.isG = false) → DpAll K H (l.map fun x => .ref x.t) (l.map hostD)
  | [], _ => .nil
  | x :: l, h => by
    obtain ⟨h1, h2⟩ := h x List.mem_cons_self
    have e := h1.t
    unfold ptV at e
    rw [kd_none h2] at e
    exact .cons (.tup (st_of e) (.cons (.str _) (.cons (.str _) (.cons (.str _) (.cons (.int _) .nil))))) (host_dp fun y hy => h y (List.mem_cons_of_mem _ hy))
theorem host_lay1 {x : Pl} (h1 : PyData.strOk x.p.nm = true) (h2 : PyData.strOk x.p.rl = true) : PyData.canLay0 (hostD x) = true ∧ PyData.depth (hostD x) ≤ 1 := by
  have h0 : PyData.strOk "host" = true := by decide +kernel
  constructor
  · simp only [hostD, PyData.canLay0, PyData.canLayAll0, h0, h1, h2, Bool.and_self]
  · simp only [hostD, PyData.depth, PyData.depthAll]
    decide
theorem host_lay : ∀ {l : List Pl}, (∀ x ∈ l, PyData.strOk x.p.nm = true ∧ PyData.strOk x.p.rl = true) → PyData.canLayAll0 (l.map hostD) = true ∧ PyData.depthAll (l.map hostD) ≤ 1
  | [], _ => ⟨by simp [PyData.canLayAll0], by simp [PyData.depthAll]⟩
  | x :: l, h => by
    obtain ⟨h1, h2⟩ := host_lay fun y hy => h y (List.mem_cons_of_mem _ hy)
    obtain ⟨h3, h4⟩ := host_lay1 (h x List.mem_cons_self).1 (h x List.mem_cons_self).2
    constructor
    · simp only [List.map_cons, PyData.canLayAll0, h1, h3, Bool.and_self]
    · simp only [List.map_cons, PyData.depthAll]
      exact Nat.max_le.mpr ⟨h4, h2⟩
theorem host_shaped {l : List Pl} (h : ∀ x ∈ l, PyData.strOk x.p.nm = true ∧ PyData.strOk x.p.rl = true) : SeqAt.shaped (.list (l.map hostD)) = true := by
  obtain ⟨h1, h2⟩ := host_lay h
  show (PyData.canLay0 (.list (l.map hostD)) && decide (PyData.depth (.list (l.map hostD)) ≤ 64)) = true
  have e : PyData.depth (.list (l.map hostD)) ≤ 64 := by
    simp only [PyData.depth]
    omega
  rw [decide_eq_true e]
  simp only [PyData.canLay0, h1, Bool.and_self]
theorem host_eqv (l : List Pl) : PyData.eqv (.list (l.map hostD)) (.list []) = l.isEmpty := by
  cases l <;> simp [PyData.eqv, PyData.eqvAll]
theorem rv_noHosts {K : W.Frag} {H : Hp} {q r : Addr} {l : List Pl} (hq : SqL K H q (l.map fun x => .ref x.t)) (hr : SqL K H r []) (hp : ∀ x ∈ l, PrtS H x.t x.k x.p ∧ x.p.isG = false) (hs : ∀ x ∈ l, PyData.strOk x.p.nm = true ∧ PyData.strOk x.p.rl = true) : RV (rEqD K) (.ref q) (.ref r) H (.bl l.isEmpty) := fun H1 e Q k => by
  refine ⟨_, _, .lst (ex_l e hq) (host_dp fun x hx => ⟨(hp x hx).1.mono e, (hp x hx).2⟩), .lst (ex_l e hr) .nil, host_shaped hs, rfl, ?_⟩
  rw [host_eqv]
  exact k H1 (Ex.refl H1)
theorem gwd_host (p : Pt) : decide (V.str (gwd p) = V.str "host") = !p.isG := by
  unfold gwd
  cases p.isG <;> decide
end L2.Mj
set_option maxRecDepth 100000
set_option maxHeartbeats 8000000
namespace L2.Mj
open PySem PySem.Spec PyProof.Rows L2 Mx L2.Mb Evl Mv TL LamX Sr Srt SrtO NdefX
section
variable {K : W.Frag} {σ : L2.St} {H : Hp} {te tl ta : TE}
abbrev rLD : List V → Hp → VK → Prop := fun xs H Q => ∃ (a : Addr) (kvs : List (Key × V)), xs = [.ref a] ∧ Rd H a (.dK kvs) ∧ ∀ p, H p = none → Q (.ref p) (upd H p (.lst (kvs.map fun kv => kV kv.1)))
theorem el_listD {a : Addr} {kvs : List (Key × V)} (h : Ev te σ H (.ref a)) (ha : H a = some (.dK kvs)) : EvL (tCB rLD (tCons te tNil)) σ H (kvs.map fun kv => kV kv.1) := fun H1 e Q q =>
  h H1 e _ fun H2 e2 => ⟨a, kvs, rfl, .inl (e2 _ _ (e _ _ ha)), fun p np => q p _ (fresh_back e2 np) (e2.trans (Ex.new np)) upd_same⟩
theorem elx_of {xs : List V} (h : EvL te σ H xs) : EvLx te σ H (fun ys => ys = xs) := fun H1 e Q q => h H1 e _ fun p H2 np e2 hp => q _ p H2 rfl np e2 hp
theorem ev_neg1 : Ev (tUn (rU fun i => .int (-i)) (tC (.int 1))) σ H (.int (-1)) := fun H1 _ Q q => ⟨1, rfl, q H1 (Ex.refl H1)⟩
theorem ev_ptS {i : Nat} {t ka : Addr} {p : Pt} {d : Int} {v : V} (hi : σ[i]? = some (some (.ref t))) (h : PrtS H t ka p) (ha : atI (ptV ka p) d = some v) : Ev (tOp (rIxT K) (tVar i) (tC (.int d))) σ H v := ev_op (ev_var hi) ev_c (rv_ixT (st_of h.t) ha)
theorem s_when2 {D : Ends} {t : TT} {ta tb : TS} {b : Bool} (h : EvT t σ H b) (h1 : b = true → ∀ H1, Ex H H1 → ta D σ H1) (h2 : b = false → ∀ H1, Ex H H1 → tb D σ H1) : tIfS t ta tb D σ H := h H (Ex.refl H) _ fun H1 e1 => by
  cases b with
  | true => exact h1 rfl H1 e1
  | false => exact h2 rfl H1 e1
/-- for i, x in enumerate(list) -/
theorem q_forEn {D : Ends} {tu tz : TS} {i j : Nat} {a : Addr} {xs : List V} (h : Ev tl σ H (.ref a)) (hx : SqL K H a xs) (Pv : Nat → L2.St → Hp → Prop) (h0 : ∀ H1, Ex H H1 → Pv 0 σ H1) (hl : ∀ n σ' H', n ≤ xs.length → Pv n σ' H' → SqL K H' a xs)
    (hs : ∀ n x σ' H' H2, xs[n]? = some x → Pv n σ' H' → Ex H' H2 → tu { D with nx := Pv (n + 1), ct := Pv (n + 1), bk := tz D } ((σ'.set i (some (.int (n : Nat)))).set j (some x)) H2) (hd : ∀ σ' H', Pv xs.length σ' H' → tz D σ' H') :
    tSeq (tFor (iEnum K (tCons tl tNil)) (gTup K 2 (gCons (gName i) (gCons (gName j) gNil))) tu) tz D σ H := by
  refine h H (Ex.refl H) _ fun H1 e => ⟨a, xs, rfl, ex_l e hx, for_it (walk_enum (K := K) (a := a) (xs := xs)) Pv (h0 H1 e) hl (fun n x σ' H' H2 hn p y => ?_) hd⟩
  obtain ⟨T, v1, v2, rfl, nT, rfl, z1, z2⟩ := y
  obtain rfl : V.int (n : Nat) = v1 := Option.some.inj z1
  exact ⟨T, [.int (n : Nat), v2], rfl, st_of upd_same, rfl, _, [v2], rfl, v2, [], rfl, rfl, hs n v2 σ' H' _ z2 p (Ex.new nT)⟩
/-- an index that is told or drawn -/
theorem c_ifDraw {E : XK} {Q : VK} {tt : TT} {b : Bool} {p : Addr} {ns : Cells} {t m da : Int} {j : Nat} (ht : EvT tt σ H b) (ha : b = true → ∀ H1, Ex H H1 → Ev ta σ H1 (.int da)) (d0 : 0 ≤ da) (d1 : da < m) (hp : σ[j]? = some (some (.ref p))) (hb : ∀ H1, Ex H H1 → Ev te σ H1 (.int m))
    (pen : PenAt H p ns t) (hn : ns.length ≤ 63) (t0 : 0 ≤ t) (t1 : t ≤ 1000000) (m1 : m ≤ 1000000) (kk : ∀ d u H', 0 ≤ d → d < m → t ≤ u → u ≤ t + 1 → PenAt H' p ns u → But p H H' → Q (.int d) H') :
    tIf tt ta (tCall spTake [] E (tCons (tVar j) (tCons te tNil))) σ H Q := ht H (Ex.refl H) _ fun H1 e1 => by
  cases b with
  | true => exact ha rfl H1 e1 H1 (Ex.refl _) _ fun H2 e2 => kk da t H2 d0 d1 (Int.le_refl _) (by omega) (pen_mono (e1.trans e2) pen) (but_ex (e1.trans e2))
  | false => exact c_draw hp (hb H1 e1) (pen_mono e1 pen) hn t0 t1 (by omega) m1 fun d u H' x1 x2 x3 x4 x5 x6 => kk d u H' x1 x2 x3 x4 x5 ((but_ex e1).trans x6)
end
theorem rl_old {rs : List Pt} (v : Vd rs) {p : Pt} (h : p ∈ rs) : p.rl = "" ∨ hasG rs p.rl = true := by
  induction rs with
  | nil => cases h
  | cons q rs ih =>
    have up : ∀ r : Str, hasG rs r = true → hasG (q :: rs) r = true := fun r z => by
      show (_ || hasG rs r) = true
      rw [z, Bool.or_true]
    rcases List.mem_cons.mp h with z | z
    · rw [z]
      exact v.head.rl.imp id (up _)
    · exact (ih v.tail z).imp id (up _)
/-- how many there are -/
def lpC (g h : Nat) (l : List Pl) : Prop := l ≠ [] ∧ (gts (rsOf l)).length ≤ g ∧ (rsOf l).length ≤ (gts (rsOf l)).length + (if h = 0 then 1 else h) ∧ ∃ x ∈ l, x.p.isG = false
theorem lpC_lone {g h : Nat} {l : List Pl} {p : Pl} (hp : p.p.isG = false) (c1 : (gts (rsOf l)).length ≤ g) (he : hostsOf l = []) : lpC g h (l ++ [p]) := by
  have e1 : gts (rsOf l) = rsOf l := List.filter_eq_self.mpr fun q hq => by
    obtain ⟨x, hx, rfl⟩ := List.mem_map.mp (List.mem_reverse.mp hq)
    cases e : x.p.isG with
    | true => rfl
    | false =>
      have : x ∈ hostsOf l := List.mem_filter.mpr ⟨hx, by rw [e]; rfl⟩
      rw [he] at this
      cases this
  have e2 : gts (rsOf (l ++ [p])) = gts (rsOf l) := by
    rw [rs_snoc, gts_cons, if_neg (by rw [hp]; decide)]
  refine ⟨by simp, by rw [e2]; exact c1, ?_, p, List.mem_append_right _ List.mem_cons_self, hp⟩
  rw [e2, e1, rs_snoc, List.length_cons]
  split <;> omega
theorem lpC_some {g h : Nat} {l : List Pl} (c1 : (gts (rsOf l)).length ≤ g) (c2 : (rsOf l).length - (gts (rsOf l)).length ≤ g + h - g) (he : (hostsOf l).isEmpty = false) : lpC g h l := by
  cases e : hostsOf l with
  | nil => rw [e] at he; cases he
  | cons x t =>
    have m : x ∈ hostsOf l := by rw [e]; exact List.mem_cons_self
    obtain ⟨m1, m2⟩ := List.mem_filter.mp m
    refine ⟨(fun z => by rw [z] at m1; cases m1), c1, ?_, x, m1, by simpa using m2⟩
    split <;> omega
/-! ### the parts of a drawn world, none of offL -/
def spLP : Sp := fun vs H Q _ => ∃ (p : Addr) (g h : Nat) (ns : Cells) (t : Int), vs = [.ref p, .int (g : Int), .int (h : Int)] ∧ g ≤ 6 ∧ h ≤ 8 ∧ PenAt H p ns t ∧ ns.length ≤ 63 ∧ 0 ≤ t ∧ t ≤ 800000 ∧
  ∀ (l : List Pl) (u : Int) (q : Addr) (H' : Hp), Vd (rsOf l) → (∀ x ∈ l, PrtS H' x.t x.k x.p) → lpC g h l → (∀ x ∈ l, PyData.strOk x.p.nm = true ∧ x.p.nm ∉ offL ∧ okAd x.p.ad) → t ≤ u → u ≤ t + 200 → PenAt H' p ns u → But p H H' → H q = none → H' q = some (.lst (l.map fun x => .ref x.t)) → Q (.ref q) H'
section
variable {P : Program} {w : World} {K : W.Frag} {mg : Str → Option Value} {base : Heap} {f fT fN fK : Addr} {fd dT dN dK : FuncData}
theorem ok_lparts (B : Bt mg) (D : Fn0 P w K mg base "_law_draw" 1 fT dT p_law_draw spTake) (DN : Fn0 P w K mg base "_law_letters" 2 fN dN p_law_letters spLtr) (DK : Fn0 P w K mg base "_law_sort" 2 fK dK p_law_sort spSort) (F : FnP K "_law_parts" s_law_parts f fd) : FnOk P w K mg base CX0 3 f fd p_law_parts spLP := by
  refine F.ok sc_law_parts (fun vs H Q E h => ?_) (fun cdv A outer s H vs Q E hr h => ?_)
  · obtain ⟨p, g, h, ns, t, rfl, _⟩ := h
    rfl
  · obtain ⟨p, g, h, ns, t, rfl, g6, h8, pen, hn, t0, t1, k⟩ := h
    have nd := sc_law_parts.nd
    have hu := hr.units
    have hu0 := Nat.lt_of_le_of_lt (Nat.le_add_right _ _) hr.units
    have hu1 := Nat.lt_of_le_of_lt (Nat.add_le_add_left (show 1 ≤ 64 by decide) _) hr.units
    have hu65 : (A.deeper (envOfC "_law_parts" (defScope s_law_parts) s.heap.objs.size f cdv)).units + 65 < cLine := by
      have z : (A.deeper (envOfC "_law_parts" (defScope s_law_parts) s.heap.objs.size f cdv)).units + 1 + 64 < cLine := (hr.mono (show 1 ≤ 2 by decide)).in1.units
      omega
    refine ⟨_, PSs.nox (pss_cons (ps_set (i := 3) nd rfl (Or.inl rfl) (pe_ix ix_list (pe_lst (pa_cons (pe_lst (pa_cons pe_int (pa_cons pe_int (pa_cons pe_int (pa_cons pe_int pa_nil))))) (pa_cons (pe_lst (pa_cons pe_int (pa_cons pe_int (pa_cons pe_int (pa_cons pe_int (pa_cons pe_int (pa_cons pe_int pa_nil)))))))
        (pa_cons (pe_lst (pa_cons pe_int (pa_cons pe_int (pa_cons pe_int (pa_cons pe_int pa_nil))))) pa_nil)))) (pe_call D.ok (hr.mono (by decide)) (by rfl) D.m D.k D.b .nil pass0 (pa_cons (pv 0) (pa_cons pe_int pa_nil))) (fun _ _ => rfl)))
      (pss_cons (ps_set (i := 4) nd rfl (Or.inl rfl) (pe_call DN.ok (hr.mono (by decide)) (by rfl) DN.m DN.k DN.b .nil pass0 (pa_cons (pv 0) (pa_cons (pv 1) (pa_cons (pv 2) pa_nil)))))
      (pss_cons (ps_set (i := 5) nd rfl (Or.inl rfl) (pe_cmpR op_eq (pe_call D.ok (hr.mono (by decide)) (by rfl) D.m D.k D.b .nil pass0 (pa_cons (pv 0) (pa_cons pe_int pa_nil))) pe_int (nomark _)))
      (pss_cons (ps_asg (pe_tup (pa_cons (pe_disp (pps_cons pe_str pe_int pps_nil) rfl rfl (by simp) (by decide)) (pa_cons (pe_lst pa_nil) (pa_cons (pe_lst pa_nil) pa_nil)))) (pg_tup rfl (pgs_cons (pg_name (i := 6) nd rfl (Or.inr rfl)) (pgs_cons (pg_name (i := 7) nd rfl (Or.inr rfl)) (pgs_cons (pg_name (i := 8) nd rfl (Or.inl rfl)) pgs_nil)))))
      (pss_cons (ps_for PassesOwn.never rfl (pi_enum (by rfl) B.enumerate (pa_cons (pv 4) pa_nil)) (pg_tup rfl (pgs_cons (pg_name (i := 9) nd rfl (Or.inr rfl)) (pgs_cons (pg_name (i := 10) nd rfl (Or.inl rfl)) pgs_nil)))
        (pss_cons (ps_setLc (i := 11) (own := [("_law_realm", 12)]) (g := gName 12) (tt := tOr (tTest (tOp (rI0 fun i j => .bl (decide (j ≤ i))) (tVar 9) (tVar 1))) (tTest (tOp (rI0 fun i j => .bl (decide (i < j))) (tDGet (tVar 6) (tVar 12)) (tC (.int 3))))) (te := tVar 12) (by rfl) nd rfl rfl (sw_true rfl rfl rfl (by decide +kernel)) (pi_list (pe_callTy (call_listD rfl) (by rfl) B.list (by decide +kernel) (pa_cons (pv 6) pa_nil))) (blkOk_by (N := n_law_parts) (sc := defScope s_law_parts) (by decide +kernel)) (fun _ _ _ _ _ => pg_name (i := 12) nd rfl (Or.inl rfl))
          (fun _ _ _ _ _ => pts_one ((pw_or (pt_cmpR op_ge (pv 9) (pv 1) (nomark _)) (pw_or1 (pt_cmpR op_lt (pe_dget hu1 (pv 6) (pv 12) (fun _ _ => rfl)) pe_int (nomark _)))).pt)) (fun _ _ _ _ _ => pv 12))
        (pss_cons (ps_set (i := 12) nd rfl (Or.inr rfl) (pe_ix ix_list (pv 11) (pe_ifExp ((pw_and (pt_val (pv 5)) (pw_and1 (pt_cmpR op_lt (pv 9) (pv 1) (nomark _)))).pt) (pe_op op_sub (pe_callB call_len_seq (by rfl) B.len (by decide +kernel) (pa_cons (pv 11) pa_nil)) pe_int) (pe_call D.ok (hr.mono (by decide)) (by rfl) D.m D.k D.b .nil pass0 (pa_cons (pv 0) (pa_cons (pe_callB call_len_seq (by rfl) B.len (by decide +kernel) (pa_cons (pv 11) pa_nil)) pa_nil)))) (fun _ _ => rfl)))
        (pss_cons (ps_setLc (i := 13) (own := [("_law_spot", 14)]) (g := gName 14) (tt := tTest (tOp (rNotInD K) (tTup (tCons (tVar 12) (tCons (tVar 14) tNil))) (tVar 7))) (by rfl) nd rfl rfl (sw_true rfl rfl rfl (by decide +kernel)) (pi_list (pv 3)) (blkOk_by (N := n_law_parts) (sc := defScope s_law_parts) (by decide +kernel)) (fun _ _ _ _ _ => pg_name (i := 14) nd rfl (Or.inl rfl))
          (fun _ _ _ _ _ => pts_one (pt_cmpR (op_notInD hu65) (pe_tup (pa_cons (pv 12) (pa_cons (pv 14) pa_nil))) (pv 7) rfl)) (fun _ _ _ _ _ => pv 14))
        (pss_one (ps_if (pt_cmpR (op_neD hu) (pv 13) (pe_lst pa_nil) (nomark _))
          (pss_cons (ps_set (i := 14) nd rfl (Or.inl rfl) (pe_ix ix_list (pv 13) (pe_call D.ok (hr.mono (by decide)) (by rfl) D.m D.k D.b .nil pass0 (pa_cons (pv 0) (pa_cons (pe_callB call_len_seq (by rfl) B.len (by decide +kernel) (pa_cons (pv 13) pa_nil)) pa_nil))) (fun _ _ => rfl)))
          (pss_cons (ps_expr (pe_bm PySem.F.plainAttrs_list PySem.F.slot_list_append PySem.F.type_list_append mt_append (pv 7) (pa_cons (pe_tup (pa_cons (pv 12) (pa_cons (pv 14) pa_nil))) pa_nil)))
          (pss_one (ps_if (pt_cmpR op_lt (pv 9) (pv 1) (nomark _))
            (pss_cons (ps_expr (pe_bm PySem.F.plainAttrs_list PySem.F.slot_list_append PySem.F.type_list_append mt_append (pv 8) (pa_cons (pe_tup (pa_cons pe_str (pa_cons (pv 10) (pa_cons (pv 12) (pa_cons (pv 14) (pa_cons (pe_call DK.ok hr (by rfl) DK.m DK.k DK.b .nil pass0 (pa_cons (pv 0) pa_nil)) pa_nil)))))) pa_nil)))
            (pss_one (ps_dput hu1 (pv 6) (pv 10) (pe_op op_add (pe_dget hu1 (pv 6) (pv 12) (fun _ _ => rfl)) pe_int) (by rfl))))
            (pss_one (ps_expr (pe_bm PySem.F.plainAttrs_list PySem.F.slot_list_append PySem.F.type_list_append mt_append (pv 8) (pa_cons (pe_tup (pa_cons pe_str (pa_cons (pv 10) (pa_cons (pv 12) (pa_cons (pv 14) pa_nil))))) pa_nil)))))))) pss_nil))))))
      (Evl.pss_cut (ps_if (pt_cmpR (op_eqD hu) (pe_lc (own := [("_law_part", 15)]) (g := gName 15) (tt := tTest (tOp rEq (tOp (rIxT K) (tVar 15) (tC (.int 0))) (tC (.str "host")))) (by rfl) nd (pi_list (pv 8)) (blkOk_by (N := n_law_parts) (sc := defScope s_law_parts) (by decide +kernel)) (fun _ _ _ _ _ => pg_name (i := 15) nd rfl (Or.inl rfl))
          (fun _ _ _ _ _ => pts_one (pt_cmpR op_eq (pe_ix ix_tup (pv 15) pe_int (fun _ _ => rfl)) pe_str (nomark _))) (fun _ _ _ _ _ => pv 15)) (pe_lst pa_nil) (nomark _))
        (pss_one (ps_expr (pe_bm PySem.F.plainAttrs_list PySem.F.slot_list_append PySem.F.type_list_append mt_append (pv 8) (pa_cons (pe_tup (pa_cons pe_str (pa_cons pe_str (pa_cons (pe_ix ix_list (pe_callTy (call_listD rfl) (by rfl) B.list (by decide +kernel) (pa_cons (pv 6) pa_nil)) (pe_un un_neg pe_int) (fun _ _ => rfl)) (pa_cons pe_int pa_nil))))) pa_nil)))) pss_nil)
      (pss_one (ps_ret (pv 8))))))))), ?_⟩
    -- the pool
    refine ⟨(by show 4 ≤ sizeLine; decide), fun q1 n1 => ⟨(by show 6 ≤ sizeLine; decide), fun q2 n2 => ⟨(by show 4 ≤ sizeLine; decide), fun q3 n3 => ⟨(by show 3 ≤ sizeLine; decide), fun q4 n4 => ?_⟩⟩⟩⟩
    have x1 := Ex.new (o := .lst (([1, 5, 7, 9] : List Int).map V.int)) n1
    have x2 := Ex.new (o := .lst (([10, 20, 5, 1, 7, 22] : List Int).map V.int)) n2
    have x3 := Ex.new (o := .lst (([2, 3, 99, 50] : List Int).map V.int)) n3
    have x4 := Ex.new (o := .lst [.ref q1, .ref q2, .ref q3]) n4
    have penA := pen_mono (((x1.trans x2).trans x3).trans x4) pen
    refine c_draw rfl ev_c penA hn t0 (by omega) (by decide) (by decide) fun d1 u1 H1 d10 d11 u10 u11 pen1 but1 => ?_
    have b1 : But p H H1 := (but_ex (((x1.trans x2).trans x3).trans x4)).trans but1
    have nq4 : q4 ≠ p := pen_fresh (pen_mono ((x1.trans x2).trans x3) pen) n4
    obtain ⟨lp, ps, hps, hpl, hlp, hat⟩ : ∃ lp ps, poolOk ps ∧ ps.length ≤ 8 ∧ H1 lp = some (.lst (ps.map V.int)) ∧ atI [V.ref q1, .ref q2, .ref q3] d1 = some (.ref lp) := by
      have y1 : q1 ≠ p := pen_fresh pen n1
      have y2 : q2 ≠ p := pen_fresh (pen_mono x1 pen) n2
      have y3 : q3 ≠ p := pen_fresh (pen_mono (x1.trans x2) pen) n3
      rcases (show d1 = 0 ∨ d1 = 1 ∨ d1 = 2 by omega) with rfl | rfl | rfl
      · exact ⟨q1, [1, 5, 7, 9], ⟨by simp, by decide⟩, by decide, but1 _ _ y1 (x4 _ _ (x3 _ _ (x2 _ _ upd_same))), atI_nat (j := 0) rfl⟩
      · exact ⟨q2, [10, 20, 5, 1, 7, 22], ⟨by simp, by decide⟩, by decide, but1 _ _ y2 (x4 _ _ (x3 _ _ upd_same)), atI_nat (j := 1) rfl⟩
      · exact ⟨q3, [2, 3, 99, 50], ⟨by simp, by decide⟩, by decide, but1 _ _ y3 (x4 _ _ upd_same), atI_nat (j := 2) rfl⟩
    refine ⟨q4, _, d1, .ref lp, rfl, rfl, SqL.of (but1 _ _ nq4 upd_same), hat, ?_⟩
    have nlp : lp ≠ p := fun z => by
      obtain ⟨g, hp, _⟩ := pen1
      rw [z, hp] at hlp
      have e := HO.lst.inj (Option.some.inj hlp)
      cases ps with
      | nil => cases e
      | cons a r => cases e
    -- the names
    refine ⟨_, rfl, _, rfl, _, rfl, p, ns, u1, g, h, rfl, by omega, pen1, hn, by omega, by omega, fun yN u7 ll H7 yN0 u70 u71 pen7 but7 nll hll => ?_⟩
    have b7 := b1.trans but7
    have p7 := but7 _ _ nlp hlp
    have nllp : ll ≠ p := pen_fresh pen1 nll
    have lpl' : lp ≠ ll := ne_of_none hlp nll
    try dsimp only [gName, List.set, start]
    -- in a line
    refine q_asgR (rd_op (c_draw rfl ev_c pen7 hn (by omega) (by omega) (by decide) (by decide) fun d3 u3 H7a d30 d31 u30 u31 pen7a but7a => ⟨rfl, ?_⟩))
    have b7a := b7.trans but7a
    have p7a := but7a _ _ nlp p7
    have l7a := but7a _ _ nllp hll
    generalize decide (V.int d3 = V.int 0) = ln
    try dsimp only [gName, List.set, start]
    -- what grows
    refine fun ld nld => ⟨upd_same, [(Sum.inr "", .int 0)], rfl, (by show 1 ≤ 15; decide), ?_⟩
    have x8' : Ex H7a (upd (upd H7a ld (.dK [])) ld (.dK (mergeK [] [(Sum.inr "", .int 0)]))) := fun c o hc => by
      rw [upd_ne (ne_of_none hc nld), upd_ne (ne_of_none hc nld)]
      exact hc
    have d8 : (upd (upd H7a ld (.dK [])) ld (.dK (mergeK [] [(Sum.inr "", .int 0)]))) ld = some (.dK (dDeep (rsOf ([] : List Pl)))) := upd_same
    have pen8 := pen_mono x8' pen7a
    generalize hH8 : upd (upd H7a ld (.dK [])) ld (.dK (mergeK [] [(Sum.inr "", .int 0)])) = H8 at x8' d8 pen8 ⊢
    refine ⟨(by show 0 ≤ sizeLine; decide), fun lt nlt => ⟨(by show 0 ≤ sizeLine; decide), fun lf nlf => ⟨(by show 3 ≤ sizeLine; decide), fun tq ntq => ?_⟩⟩⟩
    have e9 := Ex.new (o := .lst []) nlt
    have e10' := Ex.new (o := .lst []) nlf
    have e10t := Ex.new (o := .tup [V.ref ld, .ref lt, .ref lf]) ntq
    have e10 := e10'.trans e10t
    have hlt : (upd H8 lt (.lst [])) lt = some (.lst []) := upd_same
    have hlf' : (upd (upd H8 lt (.lst [])) lf (.lst [])) lf = some (.lst []) := upd_same
    have hlf := e10t _ _ hlf'
    have htq : (upd (upd (upd H8 lt (.lst [])) lf (.lst [])) tq (.tup [V.ref ld, .ref lt, .ref lf])) tq = some (.tup [V.ref ld, .ref lt, .ref lf]) := upd_same
    refine ⟨tq, [V.ref ld, .ref lt, .ref lf], rfl, st_of htq, rfl, _, _, rfl, _, _, rfl, _, _, rfl, rfl, ?_⟩
    generalize upd H8 lt (.lst []) = H9 at *
    generalize upd (upd H9 lf (.lst [])) tq (.tup [V.ref ld, .ref lt, .ref lf]) = H10 at *
    try dsimp only [gName, List.set, start]
    have e810 := e9.trans e10
    have pen9 := pen_mono e9 pen8
    have pen10 := pen_mono e10 pen9
    let A9 : LA := ⟨p, ld, lt, lf, lp, ll⟩
    have pn : ∀ {G : Hp} {q : Addr} {v : Int}, PenAt G p ns v → G q = none → ns.l ≠ q := fun h n => by
      obtain ⟨g, _, h2⟩ := h
      exact ne_of_none h2 n
    have ne : A9.Ne ns.l := {
      pd := (pen_fresh pen7a nld).symm
      pt := (pen_fresh pen8 nlt).symm
      pf := (pen_fresh pen9 nlf).symm
      pp := nlp.symm
      pl := nllp.symm
      dt := ne_of_none d8 nlt
      df := ne_of_none (e9 _ _ d8) nlf
      dp := (ne_of_none p7a nld).symm
      dl := (ne_of_none l7a nld).symm
      tf := ne_of_none hlt nlf
      tp := (ne_of_none (x8' _ _ p7a) nlt).symm
      tl := (ne_of_none (x8' _ _ l7a) nlt).symm
      fp := (ne_of_none (e9 _ _ (x8' _ _ p7a)) nlf).symm
      fl := (ne_of_none (e9 _ _ (x8' _ _ l7a)) nlf).symm
      nd := pn pen7a nld
      nt := pn pen8 nlt
      nf := pn pen9 nlf }
    have b10 : But p H H10 := (b7a.trans (but_ex x8')).trans (but_ex e810)
    have fd' : H ld = none := new_but pen7a b7a nld
    have ft : H lt = none := new_but pen8 (b7a.trans (but_ex x8')) nlt
    have ff : H lf = none := new_but pen9 ((b7a.trans (but_ex x8')).trans (but_ex e9)) nlf
    have gh : g + h ≤ 14 := by omega
    have ls0 : LS A9 ns ps yN g (g + h) 0 [] [] u3 H10 := {
      pen := pen10
      hp := e810 _ _ (x8' _ _ p7a)
      hl := e810 _ _ (x8' _ _ l7a)
      hd := e810 _ _ d8
      ht := e10 _ _ hlt
      hf := hlf
      pt := fun x hx => by cases hx
      vd := trivial
      nm := fun x hx => by cases hx
      ad := fun x hx => by cases hx
      tk1 := fun x hx => by cases hx
      tk2 := fun x hx => by cases hx
      tkl := Nat.le_refl _
      c1 := ⟨Nat.le_refl _, Nat.zero_le _⟩
      c2 := Nat.zero_le _ }
    have S5 : ∀ {H' : Hp}, ButL [p, ld, lt, lf] H10 H' → But p H H' := fun bl c o hc h => bl c o (by
      simp only [List.mem_cons, List.not_mem_nil, or_false, not_or]
      exact ⟨hc, ne_of_none h fd', ne_of_none h ft, ne_of_none h ff⟩) (b10 c o hc h)
    refine q_forEn (K := K) (a := ll) (xs := (namesL yN (g + h)).map V.str) (ev_var rfl) (sq_of (e810 _ _ (x8' _ _ l7a))) (fun i σ' H' => ∃ l tk u, ∃ x9 x10 x11 x12 x13 x14, σ' = [some (.ref p), some (.int (g : Int)), some (.int (h : Int)), some (.ref lp), some (.ref ll), some (.bl ln), some (.ref ld), some (.ref lt), some (.ref lf), x9, x10, x11, x12, x13, x14, none] ∧ LS A9 ns ps yN g (g + h) i l tk u H' ∧ ButL [p, ld, lt, lf] H10 H' ∧ t ≤ u ∧ u ≤ t + 3 + 8 * (i : Int))
      (fun H11 e11 => ⟨[], [], u3, none, none, none, none, none, none, rfl, ls0.mono e11, ButL.ex e11, by omega, by omega⟩) (fun i σ' H' hi ⟨l, tk, u, x9, x10, x11, x12, x13, x14, _, ls, _⟩ => sq_of ls.hl) (fun i x σ' H0' H' hx hh e0' => ?_) (fun σ' H' hh => ?_)
    · obtain ⟨l, tk, u, x9, x10, x11, x12, x13, x14, rfl, ls, bl, ul, uu⟩ := hh
      replace ls := ls.mono e0'
      replace bl := bl.trans (ButL.ex e0')
      rw [List.getElem?_map] at hx
      obtain ⟨hi, rfl⟩ : i < g + h ∧ x = .str (nameAt yN i) := by
        cases e : (namesL yN (g + h))[i]? with
        | none => rw [e] at hx; cases hx
        | some w =>
          rw [e] at hx
          have l1 := (List.getElem?_eq_some_iff.mp e)
          obtain ⟨l2, l3⟩ := l1
          rw [List.length_map, List.length_range] at l2
          refine ⟨l2, ?_⟩
          rw [← Option.some.inj hx, ← l3]
          simp
      have i14 : i < 14 := by omega
      dsimp only [List.set]
      -- where it may stand
      have dk14 : (deepK (rsOf l)).length ≤ 14 := by
        have := okA_len ls.vd
        show (_ :: _).length ≤ 14
        rw [List.length_cons, List.length_map, List.length_reverse]
        omega
      have ekeys : ((dDeep (rsOf l)).map fun kv => kV kv.1) = (deepK (rsOf l)).map V.str := by
        have e := congrArg (List.map kV) (deep_keys (rsOf l))
        rw [List.map_map, List.map_map] at e
        exact e
      have strV : ∀ {ys : List Str} {j : Nat} {x : V}, (ys.map V.str)[j]? = some x → ∃ r ∈ ys, x = .str r ∧ (ys.map V.str).getD j .non = .str r := fun {ys j x} hx => by
        have hx2 := hx
        rw [List.getElem?_map] at hx
        cases e : ys[j]? with
        | none => rw [e] at hx; cases hx
        | some r =>
          rw [e] at hx
          obtain rfl : V.str r = x := Option.some.inj hx
          exact ⟨r, List.mem_of_getElem? e, rfl, by rw [List.getD_eq_getElem?_getD, hx2]; rfl⟩
      let fV : V → Bool := fun v => match v with
        | .str r => decide ((g : Int) ≤ (i : Int)) || decide (((chn (rsOf l) r).length : Int) < 3)
        | _ => false
      refine q_asgLx (elx_lc (K := K) (fun xs j => fV (xs.getD j .non)) (fun xs j => xs.getD j .non) (elx_of (el_listD (ev_var rfl) ls.hd)) (fun xs e => by rw [e, ekeys, List.length_map]; omega) (fun _ => rfl)
        (fun xs e j x H9 e9 hx => ?_) (fun xs e j x H9 e9 hx _ => ?_)) fun xs lpl H4 ⟨ws, e, ex⟩ nlpl e4 hlpl => ?_
      · rw [ekeys] at e
        subst e
        obtain ⟨r, hr, rfl, eg⟩ := strV hx
        rw [eg]
        exact et_or (et_test (ev_op (ev_var rfl) (ev_var rfl) rv_int)) fun _ => et_test (ev_op (ev_dget (k := Sum.inr r) (ev_var rfl) (ev_var rfl) (e9 _ _ ls.hd) (val_deep ls.vd (deep_mem hr))) ev_c rv_int)
      · rw [ekeys] at e
        subst e
        obtain ⟨r, hr, rfl, eg⟩ := strV hx
        rw [eg]
        exact ev_var rfl
      rw [ekeys] at e
      subst e
      rw [given_getD ((deepK (rsOf l)).map V.str) .non fV (fun v => v), List.map_id', List.filter_map] at ex
      subst ex
      have efV : (fV ∘ V.str) = fun r => decide ((g : Int) ≤ (i : Int)) || decide (((chn (rsOf l) r).length : Int) < 3) := rfl
      rw [efV] at hlpl
      generalize hzs : (deepK (rsOf l)).filter (fun r => decide ((g : Int) ≤ (i : Int)) || decide (((chn (rsOf l) r).length : Int) < 3)) = zs at hlpl
      have zmem : ∀ r ∈ zs, (r = "" ∨ hasG (rsOf l) r = true) ∧ (i < g → (chn (rsOf l) r).length < 3) := fun r hr => by
        rw [← hzs] at hr
        obtain ⟨h1, h2⟩ := List.mem_filter.mp hr
        refine ⟨deep_mem h1, fun hg => ?_⟩
        rw [decide_eq_false (show ¬ ((g : Int) ≤ (i : Int)) by omega), Bool.false_or] at h2
        have z := of_decide_eq_true h2
        omega
      have z0 : 0 < zs.length := by
        have m : ("" : Str) ∈ zs := by
          rw [← hzs]
          refine List.mem_filter.mpr ⟨List.mem_cons_self, ?_⟩
          rw [chn_open ls.vd]
          simp
        exact List.length_pos_of_mem m
      have zl : zs.length ≤ 14 := by
        rw [← hzs]
        exact Nat.le_trans (List.length_filter_le _ _) dk14
      have pen4 := pen_mono e4 ls.pen
      have nlplp : lpl ≠ p := pen_fresh ls.pen nlpl
      try dsimp only [gName, List.set]
      -- the place
      refine q_asgR (rd_op (rd_var rfl (c_ifDraw (m := ((zs.map V.str).length : Int)) (da := ((zs.map V.str).length : Int) - 1) (b := ln && decide ((i : Int) < (g : Int))) (et_and (et_B (ev_var rfl)) fun _ => et_test (ev_op (ev_var rfl) (ev_var rfl) rv_int)) (fun _ H1 e1 => ev_op (ev_len (K := K) (ev_var rfl) (sq_of (e1 _ _ hlpl))) ev_c rv_int) (by rw [List.length_map]; omega) (by omega) rfl (fun H1 e1 => ev_len (K := K) (ev_var rfl) (sq_of (e1 _ _ hlpl))) pen4 hn (by omega) (by omega) (by rw [List.length_map]; omega) fun d2 v2 H5 d20' d21' v20 v21 pen5' but5' => ?_)))
      obtain ⟨r, hr, har⟩ := ix_drawn (f := V.str) d20' d21'
      obtain ⟨hrg, hrd⟩ := zmem r hr
      refine ⟨lpl, _, d2, .str r, rfl, rfl, SqL.of (but5' _ _ nlplp hlpl), har, ?_⟩
      have B5 : ButL [p] H' H5 := (ButL.ex e4).trans (ButL.pen but5' (by simp))
      have k5 : ∀ {c : Addr} {o : HO}, c ≠ p → H' c = some o → H5 c = some o := fun h1 h => B5 _ _ (by simp; exact h1) h
      have hp5 : H5 lp = some (.lst (ps.map V.int)) := k5 ne.pp.symm ls.hp
      have ht5 : H5 lt = some (.lst (tk.map fun x => .ref x.a)) := k5 ne.pt.symm ls.ht
      have hf5 : H5 lf = some (.lst (l.map fun x => .ref x.t)) := k5 ne.pf.symm ls.hf
      have hd5 : H5 ld = some (.dK (dDeep (rsOf l))) := k5 ne.pd.symm ls.hd
      have B5' : ButL [p, ld, lt, lf] H' H5 := B5.up (by simp)
      have tk5 : ∀ x ∈ tk, H5 x.a = some (.tup [.str x.r, .int x.n]) ∧ PyData.strOk x.r = true := fun x hx => ⟨ls.tup B5' (ls.tk1 x hx).1, (ls.tk1 x hx).2⟩
      obtain ⟨rok1, rok2⟩ := ls.rok yN0 (by omega)
      have hro := rok2 r hrg
      try dsimp only [gName, List.set]
      -- the free addresses
      refine q_asgL (xs := (ps.filter fun a => !tk.any fun x => decide (x.r = r) && decide (x.n = a)).map V.int) ?_ fun lfr H6 nlfr e6 hlfr => ?_
      · have w9 := el_lcL (K := K) (σ := [some (.ref p), some (.int (g : Int)), some (.int (h : Int)), some (.ref lp), some (.ref ll), some (.bl ln), some (.ref ld), some (.ref lt), some (.ref lf), some (.int (i : Nat)), some (.str (nameAt yN i)), some (.ref lpl), some (.str r), x13, x14, none]) (H := H5) (a := lp) (xs := ps.map V.int) (tl := tVar 3) (te := tVar 14) (t := tTest (tOp (rNotInD K) (tTup (tCons (tVar 12) (tCons (tVar 14) tNil))) (tVar 7))) (vs := [14]) (j := 14) (fun j => !tk.any fun x => decide (x.r = r) && decide (x.n = ps.getD j 0)) (fun j => .int (ps.getD j 0)) (ev_var rfl) (sq_of hp5) (by rw [List.length_map]; omega) (fun _ => rfl)
          (fun j x H9 e9 hx => by
            rw [List.getElem?_map] at hx
            cases e : ps[j]? with
            | none => rw [e] at hx; cases hx
            | some a =>
              rw [e] at hx
              obtain rfl : V.int a = x := Option.some.inj hx
              have ej : ps.getD j 0 = a := by rw [List.getD_eq_getElem?_getD, e]; rfl
              rw [ej]
              exact et_test (ev_opU1 (eu_tup (ea_cons (ev_var rfl) (ea_cons (ev_var rfl) ea_nil)) (by show 2 ≤ 100000; decide)) (fun H1 e1 => ev_var rfl) fun q H8 hq e8 => rv_ntk (st_of hq) (sq_of ((e9.trans e8) _ _ ht5)) (fun x hx => ⟨(e9.trans e8) _ _ (tk5 x hx).1, (tk5 x hx).2⟩) hro))
          (fun j x H9 e9 hx _ => by
            rw [List.getElem?_map] at hx
            cases e : ps[j]? with
            | none => rw [e] at hx; cases hx
            | some a =>
              rw [e] at hx
              obtain rfl : V.int a = x := Option.some.inj hx
              have ej : ps.getD j 0 = a := by rw [List.getD_eq_getElem?_getD, e]; rfl
              rw [ej]
              exact ev_var rfl)
        rw [List.length_map, given_getD ps 0 (fun a => !tk.any fun x => decide (x.r = r) && decide (x.n = a)) V.int] at w9
        exact w9
      generalize hfr : ps.filter (fun a => !tk.any fun x => decide (x.r = r) && decide (x.n = a)) = fr at hlfr
      have fmem : ∀ a ∈ fr, a ∈ ps ∧ ∀ z ∈ tk, ¬ (z.r = r ∧ z.n = a) := fun a ha => by
        rw [← hfr] at ha
        obtain ⟨h1, h2⟩ := List.mem_filter.mp ha
        refine ⟨h1, fun z hz w => ?_⟩
        have y : (tk.any fun x => decide (x.r = r) && decide (x.n = a)) = true := List.any_eq_true.mpr ⟨z, hz, by rw [decide_eq_true w.1, decide_eq_true w.2]; rfl⟩
        rw [y] at h2
        cases h2
      have pen6' := pen_mono e6 pen5'
      try dsimp only [gName, List.set]
      refine s_when (b := !fr.isEmpty) (et_test (ev_opL (ev_var rfl) (el_lst ea_nil (by decide)) fun q H8 hq e8 => rv_neNil (sq_of (e8 _ _ hlfr)) (sq_of hq))) (fun hfe H7' e7' => ?_) (fun hfe H7' e7' => ?_)
      · have f0 : 0 < fr.length := by
          cases fr with
          | nil => cases hfe
          | cons a r => exact Nat.succ_pos _
        have frl : fr.length ≤ 8 := by
          rw [← hfr]
          exact Nat.le_trans (List.length_filter_le _ _) hpl
        have nlfrp : lfr ≠ p := pen_fresh pen5' nlfr
        -- the address
        refine q_asgR (rd_op (rd_var rfl (c_draw (j := 0) rfl (ev_len (K := K) (ev_var rfl) (sq_of (e7' _ _ hlfr))) (pen_mono e7' pen6') hn (by omega) (by omega) (by rw [List.length_map]; omega) (by rw [List.length_map]; omega) fun d3 v3 H8 d30' d31' v30 v31 pen8' but8' => ?_)))
        obtain ⟨a, ha, haa⟩ := ix_drawn (f := V.int) d30' d31'
        refine ⟨lfr, _, d3, .int a, rfl, rfl, SqL.of (but8' _ _ nlfrp (e7' _ _ hlfr)), haa, ?_⟩
        dsimp only [gName, List.set]
        obtain ⟨ha1, ha2⟩ := fmem a ha
        have e67 := e6.trans e7'
        have k8 : ∀ {c : Addr} {o : HO}, c ≠ p → H5 c = some o → H8 c = some o := fun h1 h => but8' _ _ h1 (e67 _ _ h)
        have B8 : ButL [p, ld, lt, lf] H' H8 := (B5'.trans (ButL.ex e67)).trans (ButL.pen but8' (by simp))
        have ht8 := k8 ne.pt.symm ht5
        have tkl := ls.tkl
        -- taken
        refine q_appU ht8 (ev_var rfl) (eu_tup (ea_cons (ev_var rfl) (ea_cons (ev_var rfl) ea_nil)) (by show 2 ≤ 100000; decide)) (by rw [List.length_map]; omega) fun zt H9' nzt e9' hzt => ?_
        have pen9' : PenAt (upd H9' lt (.lst (tk.map (fun x => V.ref x.a) ++ [.ref zt]))) p ns v3 := by
          obtain ⟨gg, y1, y2⟩ := pen_mono e9' pen8'
          exact ⟨gg, (upd_ne ne.pt).trans y1, (upd_ne ne.nt).trans y2⟩
        have B9 : ButL [p, ld, lt, lf] H' (upd H9' lt (.lst (tk.map (fun x => V.ref x.a) ++ [.ref zt]))) := (B8.trans (ButL.ex e9')).trans (ButL.put (by simp))
        have nzl : zt ≠ lt := (ne_of_none ht8 nzt).symm
        have hz9 : (upd H9' lt (.lst (tk.map (fun x => V.ref x.a) ++ [.ref zt]))) zt = some (.tup [.str r, .int a]) := (upd_ne nzl).trans hzt
        have ht9 : (upd H9' lt (.lst (tk.map (fun x => V.ref x.a) ++ [.ref zt]))) lt = some (.lst (tk.map (fun x => V.ref x.a) ++ [.ref zt])) := upd_same
        have hd9 : (upd H9' lt (.lst (tk.map (fun x => V.ref x.a) ++ [.ref zt]))) ld = some (.dK (dDeep (rsOf l))) := (upd_ne ne.dt).trans (e9' _ _ (k8 ne.pd.symm hd5))
        have hf9 : (upd H9' lt (.lst (tk.map (fun x => V.ref x.a) ++ [.ref zt]))) lf = some (.lst (l.map fun x => .ref x.t)) := (upd_ne ne.tf.symm).trans (e9' _ _ (k8 ne.pf.symm hf5))
        generalize upd H9' lt (.lst (tk.map (fun x => V.ref x.a) ++ [.ref zt])) = G9 at pen9' B9 hz9 ht9 hd9 hf9 ⊢
        have nn := ls.new yN0 i14
        have okn := (name_facts yN yN0 i i14).1
        have lgt := okA_len ls.vd
        have llen := len14 ls.vd
        have ll2 : l.length ≤ 14 := by
          unfold rsOf at llen
          rw [List.length_reverse, List.length_map] at llen
          exact llen
        -- a part found: the list grows
        have fin : ∀ (tt ka : Addr) (P : L2.Mj.Pt) (v4 : Int) (G1 G3 : Hp), P.isG = decide (i < g) → P.nm = nameAt yN i → P.rl = r → P.ad = a → P.kd.all Kd.ok = true → But p G9 G1 → PenAt G1 p ns v4 → PrtS G1 tt ka P → ButL [ld] (upd G1 lf (.lst (l.map (fun x => V.ref x.t) ++ [.ref tt]))) G3 → PenAt G3 p ns v4 → G3 ld = some (.dK (dDeep (P :: rsOf l))) →
            LS A9 ns ps yN g (g + h) (i + 1) (l ++ [⟨tt, ka, P⟩]) (tk ++ [⟨zt, r, a⟩]) v4 G3 ∧ ButL [p, ld, lt, lf] H' G3 := fun tt ka P v4 G1 G3 pg pn' pr pa pk bG penG1 ptG bG3 pen3 hd3 => by
          have BB : ButL [p, ld, lt, lf] H' G3 := ((B9.trans (ButL.pen bG (by simp))).trans (ButL.put (by simp))).trans (bG3.up (by simp))
          have hfG1 : G1 lf = some (.lst (l.map fun x => .ref x.t)) := bG _ _ ne.pf.symm hf9
          have k3 : ∀ {c : Addr} {o : HO}, c ≠ ld → c ≠ lf → G1 c = some o → G3 c = some o := fun h1 h2 h => bG3 _ _ (by simp; exact h1) ((upd_ne h2).trans h)
          have tupd : ∀ {c : Addr} {xs : List V}, G1 c = some (.tup xs) → G3 c = some (.tup xs) := fun h => k3 (fun z => by
            have hdG1 := bG _ _ ne.pd.symm hd9
            rw [z, hdG1] at h
            cases h) (ne_of_obj h hfG1 fun w => by cases w) h
          refine ⟨ls.grow ne pen3 BB hd3 ?_ ?_ ?_ ?_ pn' ?_ ?_ ⟨pr.symm, pa.symm⟩ pg, BB⟩
          · rw [List.map_append]
            exact k3 ne.dt.symm ne.tf (bG _ _ ne.pt.symm ht9)
          · rw [List.map_append]
            exact bG3 _ _ (by simp; exact ne.df.symm) upd_same
          · exact ⟨tupd ptG.t, fun k hk => tupd (ptG.k k hk)⟩
          · refine ls.fits hps yN0 i14 g6 (by omega) hi pg pn' (by rw [pr]; exact hrg) (by rw [pr]; exact hrd) (by rw [pa]; exact ha1) (fun z hz w => ha2 z hz ?_) pk
            rw [pr, pa] at w
            exact w
          · rw [pa]
            exact ha1
          · exact ⟨tupd (bG _ _ (pen_fresh pen8' nzt) hz9), hro⟩
        refine s_when2 (b := decide ((i : Int) < (g : Int))) (et_test (ev_op (ev_var rfl) (ev_var rfl) rv_int)) (fun hb Ga ea => ?_) (fun hb Ga ea => ?_)
        · have hig : i < g := by have := of_decide_eq_true hb; omega
          refine ⟨_, rfl, Or.inl ⟨rfl, _, sq_of (ea _ _ hf9)⟩, _, rfl, _, rfl, _, rfl, _, rfl, p, ns, v3, rfl, pen_mono ea pen9', hn, by omega, by omega, fun kd ka v4 G1 okk v40 v41 penG1 bG1 nka hka => ⟨(by show 5 ≤ sizeLine; decide), fun tt ntt => ?_⟩⟩
          have bG1' : But p G9 G1 := (but_ex ea).trans bG1
          have et := Ex.new (o := .tup [.str "gate", .str (nameAt yN i), .str r, .int a, .ref ka]) ntt
          have hfT := et _ _ (bG1' _ _ ne.pf.symm hf9)
          refine ⟨lf, _, .ref tt, rfl, rfl, hfT, sz_lt (by rw [List.length_map]; omega), ?_⟩
          have penT := pen_mono et penG1
          have hdT := et _ _ (bG1' _ _ ne.pd.symm hd9)
          have bT : But p G9 (upd G1 tt (.tup [.str "gate", .str (nameAt yN i), .str r, .int a, .ref ka])) := bG1'.trans (but_ex et)
          have ptT : PrtS (upd G1 tt (.tup [.str "gate", .str (nameAt yN i), .str r, .int a, .ref ka])) tt ka ⟨some kd, nameAt yN i, r, a⟩ := ⟨upd_same, fun k hk => by
            rw [← Option.some.inj hk]
            exact hka.mono et⟩
          generalize upd G1 tt (.tup [.str "gate", .str (nameAt yN i), .str r, .int a, .ref ka]) = GT at *
          have hdU : (upd GT lf (.lst (l.map (fun x => V.ref x.t) ++ [.ref tt]))) ld = some (.dK (dDeep (rsOf l))) := (upd_ne ne.df).trans hdT
          refine s_dputK (k := Sum.inr (nameAt yN i)) (v := .int (((chn (rsOf l) r).length : Int) + 1)) (ev_op (ev_dget (k := Sum.inr r) (ev_var rfl) (ev_var rfl) hdU (val_deep ls.vd hrg)) ev_c rv_int) (ev_var rfl) (ev_var rfl) hdU (val_deep_new nn okn) (by show (_ :: _).length < 100000; rw [List.length_cons, List.length_map, List.length_reverse]; omega) fun G2 e2 => ?_
          have f1 := fin tt ka ⟨some kd, nameAt yN i, r, a⟩ v4 GT (upd G2 ld (.dK (dDeep (rsOf l) ++ [(Sum.inr (nameAt yN i), .int (((chn (rsOf l) r).length : Int) + 1))]))) (decide_eq_true hig).symm rfl rfl rfl okk bT penT ptT ((ButL.ex e2).trans (ButL.put (by simp))) (by
            obtain ⟨gg, y1, y2⟩ := penT
            exact ⟨gg, (upd_ne ne.pd).trans (e2 _ _ ((upd_ne ne.pf).trans y1)), (upd_ne ne.nd).trans (e2 _ _ ((upd_ne ne.nf).trans y2))⟩) (by rw [upd_same, deep_gate (p := ⟨some kd, nameAt yN i, r, a⟩) rfl nn])
          exact ⟨_, _, v4, _, _, _, _, _, _, rfl, f1.1, bl.trans f1.2, by omega, by omega⟩
        · have hig : ¬ i < g := by have := of_decide_eq_false hb; omega
          refine ⟨_, rfl, Or.inl ⟨rfl, _, sq_of (ea _ _ hf9)⟩, _, rfl, _, rfl, _, rfl, (by show 4 ≤ sizeLine; decide), fun tt ntt => ?_⟩
          have et := Ex.new (o := .tup [.str "host", .str (nameAt yN i), .str r, .int a]) ntt
          have hfT := et _ _ (ea _ _ hf9)
          have f1 := fin tt 0 ⟨none, nameAt yN i, r, a⟩ v3 (upd Ga tt (.tup [.str "host", .str (nameAt yN i), .str r, .int a])) _ (decide_eq_false hig).symm rfl rfl rfl rfl ((but_ex ea).trans (but_ex et)) (pen_mono (ea.trans et) pen9') ⟨upd_same, fun k hk => by cases hk⟩ (ButL.ex (Ex.refl _)) (by
            obtain ⟨gg, y1, y2⟩ := pen_mono (ea.trans et) pen9'
            exact ⟨gg, (upd_ne ne.pf).trans y1, (upd_ne ne.nf).trans y2⟩) (by rw [deep_host (p := ⟨none, nameAt yN i, r, a⟩) rfl nn]; exact (upd_ne ne.df).trans (et _ _ (ea _ _ hd9)))
          exact ⟨lf, _, .ref tt, rfl, rfl, hfT, sz_lt (by rw [List.length_map]; omega), _, _, v3, _, _, _, _, _, _, rfl, f1.1, bl.trans f1.2, by omega, by omega⟩
      · have e67 := e6.trans e7'
        refine ⟨l, tk, v2, _, _, _, _, _, _, rfl, ls.skip ne (pen_mono e7' pen6') (B5'.trans (ButL.ex e67)) ?_ ?_ ?_, bl.trans (B5'.trans (ButL.ex e67)), by omega, by omega⟩
        · rw [e67 _ _ hd5, ls.hd]
        · rw [e67 _ _ ht5, ls.ht]
        · rw [e67 _ _ hf5, ls.hf]
    · obtain ⟨l, tk, u, x9, x10, x11, x12, x13, x14, rfl, ls, bl, ul, uu⟩ := hh
      rw [List.length_map, List.length_map, List.length_range] at ls uu
      try dsimp only
      have ilen : g + h ≤ 14 := gh
      have lsc2 : (rsOf l).length - (gts (rsOf l)).length ≤ g + h - g := ls.c2
      obtain ⟨rok1, rok2⟩ := ls.rok yN0 ilen
      have llen := len14 ls.vd
      have ll2 : l.length ≤ 14 := by
        unfold rsOf at llen
        rw [List.length_reverse, List.length_map] at llen
        exact llen
      have okl : ∀ x ∈ l, PyData.strOk x.p.nm = true ∧ PyData.strOk x.p.rl = true := fun x hx => ⟨(rok1 x hx).1, rok2 _ (rl_old ls.vd (List.mem_reverse.mpr (List.mem_map_of_mem hx)))⟩
      have oks : ∀ x ∈ l, PyData.strOk x.p.nm = true ∧ x.p.nm ∉ offL ∧ okAd x.p.ad := fun x hx => ⟨(rok1 x hx).1, (rok1 x hx).2.1, (hps.2 _ (ls.ad x hx)).2.2.2⟩
      refine q_cut (M := fun σ2 G => ∃ l2, σ2 = [some (.ref p), some (.int (g : Int)), some (.int (h : Int)), some (.ref lp), some (.ref ll), some (.bl ln), some (.ref ld), some (.ref lt), some (.ref lf), x9, x10, x11, x12, x13, x14, none] ∧ Vd (rsOf l2) ∧ (∀ x ∈ l2, PrtS G x.t x.k x.p) ∧ lpC g h l2 ∧ (∀ x ∈ l2, PyData.strOk x.p.nm = true ∧ x.p.nm ∉ offL ∧ okAd x.p.ad) ∧ PenAt G p ns u ∧ But p H G ∧ G lf = some (.lst (l2.map fun x => .ref x.t))) ?_ ?_
      · refine s_when (b := (hostsOf l).isEmpty) (et_test (ev_opLL (xs := (hostsOf l).map fun x => .ref x.t) (ys := []) ?_ (el_lst ea_nil (by decide)) fun q r H8 hq hr e8 => rv_noHosts (sq_of hq) (sq_of hr) (fun x hx => ⟨(ls.pt x (List.mem_filter.mp hx).1).mono e8, by simpa using (List.mem_filter.mp hx).2⟩) (fun x hx => okl x (List.mem_filter.mp hx).1))) (fun he G eG => ?_) (fun he G eG => ?_)
        · have w9 := el_lcL (K := K) (σ := [some (.ref p), some (.int (g : Int)), some (.int (h : Int)), some (.ref lp), some (.ref ll), some (.bl ln), some (.ref ld), some (.ref lt), some (.ref lf), x9, x10, x11, x12, x13, x14, none]) (H := H') (a := lf) (xs := l.map fun x => .ref x.t) (tl := tVar 8) (te := tVar 15) (t := tTest (tOp rEq (tOp (rIxT K) (tVar 15) (tC (.int 0))) (tC (.str "host")))) (vs := [15]) (j := 15) (fun j => !(l.getD j ⟨0, 0, ⟨none, "", "", 0⟩⟩).p.isG) (fun j => .ref (l.getD j ⟨0, 0, ⟨none, "", "", 0⟩⟩).t) (ev_var rfl) (sq_of ls.hf) (by rw [List.length_map]; omega) (fun _ => rfl)
            (fun j x H9 e9 hx => by
              rw [List.getElem?_map] at hx
              cases e : l[j]? with
              | none => rw [e] at hx; cases hx
              | some y =>
                rw [e] at hx
                obtain rfl : V.ref y.t = x := Option.some.inj hx
                have ej : l.getD j ⟨0, 0, ⟨none, "", "", 0⟩⟩ = y := by rw [List.getD_eq_getElem?_getD, e]; rfl
                rw [ej]
                exact et_test (ev_is (ev_op (ev_ptS rfl ((ls.pt y (List.mem_of_getElem? e)).mono e9) at_w) ev_c (rv_eq rfl)) (by rw [gwd_host])))
            (fun j x H9 e9 hx _ => by
              rw [List.getElem?_map] at hx
              cases e : l[j]? with
              | none => rw [e] at hx; cases hx
              | some y =>
                rw [e] at hx
                obtain rfl : V.ref y.t = x := Option.some.inj hx
                have ej : l.getD j ⟨0, 0, ⟨none, "", "", 0⟩⟩ = y := by rw [List.getD_eq_getElem?_getD, e]; rfl
                rw [ej]
                exact ev_var rfl)
          rw [List.length_map, given_getD l ⟨0, 0, ⟨none, "", "", 0⟩⟩ (fun x => !x.p.isG) (fun x => V.ref x.t)] at w9
          exact w9
        · have he2 : hostsOf l = [] := List.isEmpty_iff.mp he
          have ekeys : ((dDeep (rsOf l)).map fun kv => kV kv.1) = (deepK (rsOf l)).map V.str := by
            have e := congrArg (List.map kV) (deep_keys (rsOf l))
            rw [List.map_map, List.map_map] at e
            exact e
          obtain ⟨ini, r, er⟩ : ∃ ini r, deepK (rsOf l) = ini ++ [r] := by
            rcases List.eq_nil_or_concat (deepK (rsOf l)) with z | ⟨ini, r, z⟩
            · cases z
            · exact ⟨ini, r, by rw [z, List.concat_eq_append]⟩
          have hr : r = "" ∨ hasG (rsOf l) r = true := deep_mem (by rw [er]; exact List.mem_append_right _ List.mem_cons_self)
          refine s_appU (eG _ _ ls.hf) (ev_var rfl) (eu_tup (vs := [.str "host", .str "lone", .str r, .int 42]) (ea_cons ev_c (ea_cons ev_c (ea_cons (ev_opL1 (el_listD (ev_var rfl) (eG _ _ ls.hd)) (fun H9 e9 => ev_neg1) fun q H9 hq e9 => rv_ixL (sq_of hq) (by rw [ekeys, er, List.map_append]; exact atI_last _ _)) (ea_cons ev_c ea_nil)))) (by show 4 ≤ 100000; decide)) (by rw [List.length_map]; omega) fun tt G2 ntt e2 htt => ?_
          have hfG := eG _ _ ls.hf
          have lsG := ls.mono (eG.trans e2)
          have ntf : tt ≠ lf := (ne_of_none hfG ntt).symm
          have BB : ButL [p, ld, lt, lf] H' (upd G2 lf (.lst (l.map (fun x => V.ref x.t) ++ [.ref tt]))) := (ButL.ex (eG.trans e2)).trans (ButL.put (by simp))
          refine ⟨l ++ [⟨tt, 0, ⟨none, "lone", r, 42⟩⟩], rfl, ?_, fun x hx => ?_, lpC_lone rfl ls.c1.2 he2, fun x hx => ?_, ?_, S5 (bl.trans BB), ?_⟩
          · rw [rs_snoc]
            exact ⟨ls.vd, ls.lone hps yN0 ilen he2 hr⟩
          · rcases List.mem_append.mp hx with e | e
            · exact ls.part BB (ls.pt x e)
            · rw [List.mem_singleton.mp e]
              exact ⟨(upd_ne ntf).trans htt, fun k hk => by cases hk⟩
          · rcases List.mem_append.mp hx with e | e
            · exact oks x e
            · rw [List.mem_singleton.mp e]
              exact ⟨(by decide +kernel : PyData.strOk "lone" = true), (by decide +kernel : ("lone" : Str) ∉ offL), (by decide : okAd 42)⟩
          · obtain ⟨gg, y1, y2⟩ := lsG.pen
            exact ⟨gg, (upd_ne ne.pf).trans y1, (upd_ne ne.nf).trans y2⟩
          · rw [List.map_append]
            exact upd_same
        · have lsG := ls.mono eG
          exact ⟨l, rfl, ls.vd, lsG.pt, lpC_some ls.c1.2 lsc2 he, oks, lsG.pen, S5 (bl.trans (ButL.ex eG)), lsG.hf⟩
      · rintro σ2 G ⟨l2, rfl, v2, pt2, hh2, ok2, pen2, b2, hf2⟩
        exact s_ret (ev_var rfl) fun G3 e3 => k l2 u lf G3 v2 (fun x hx => (pt2 x hx).mono e3) hh2 ok2 (by omega) (by omega) (pen_mono e3 pen2) (b2.trans (but_ex e3)) ff (e3 _ _ hf2)
end
end L2.Mj
set_option maxRecDepth 100000
set_option maxHeartbeats 8000000
namespace L2.Mj
open PySem PySem.Spec PyProof.Rows L2 Mx L2.Mb Evl Mv TL LamX Sr Srt SrtO NdefX
/-! ### a world out of parts whose kinds are tuples -/
theorem PrtS.extn {H H' : Hp} {t ka : Addr} {p : Pt} (h : PrtS H t ka p) (e : ExtN H H') : PrtS H' t ka p := ⟨tup_n e h.t, fun k z => tup_n e (h.k k z)⟩
theorem gwd_gate (p : Pt) : decide (V.str (gwd p) = V.str "gate") = p.isG := by
  unfold gwd
  cases p.isG <;> decide
theorem kd_some {p : Pt} (h : p.isG = true) : ∃ k, p.kd = some k := by
  unfold Pt.isG at h
  exact Option.isSome_iff_exists.mp h
theorem at_kt {p : Pt} {k : Kd} {ka : Addr} (h : p.kd = some k) : atI (ptV ka p) 4 = some (.ref ka) := by
  unfold ptV
  rw [h]
  exact atI_nat (j := 4) rfl
theorem vd_take {l : List Pl} (v : Vd (rsOf l)) (n : Nat) : Vd (rsOf (l.take n)) := by
  refine Vd.app (xs := rsOf (l.drop n)) ?_
  unfold rsOf at v ⊢
  rw [← List.reverse_append, ← List.map_append, List.take_append_drop]
  exact v
section
variable {K : W.Frag} {σ : L2.St} {H : Hp} {te : TE}
/-- part[:4] of a gate -/
theorem eu_cutG {t ka : Addr} {p : Pt} {k : Kd} (h : Ev te σ H (.ref t)) (hp : PrtS H t ka p) (hk : p.kd = some k) : EvU (tSl (rSlA K) te tNoPart (tPart (tC (.int 4)))) σ H [.str "gate", .str p.nm, .str p.rl, .int p.ad] := fun H0 e0 Q q => h H0 e0 _ fun H1 e1 => by
  have h1 := (hp.mono (e0.trans e1)).t
  unfold ptV at h1
  rw [hk] at h1
  refine ⟨4, rfl, t, _, rfl, st_of h1, fun hw => ?_, fun _ a na => q a _ (fresh_back e1 na) (e1.trans (Ex.new na)) upd_same⟩
  exact absurd (show (4 : Nat) = 5 from hw.2) (by decide)
theorem q_asgR' {D : Ends} {i : Nat} (h : te σ H fun v H1 => D.nx (σ.set i (some v)) H1) : tAsg te (gName i) D σ H := h
end
def spWld (K : W.Frag) (C CK : Addr) (Tt : List (Addr × Str)) : Sp := fun vs H Q _ => ∃ (q : Addr) (l : List Pl), vs = [.ref q] ∧ H q = some (.lst (l.map fun x => .ref x.t)) ∧ (∀ x ∈ l, PrtS H x.t x.k x.p) ∧ Vd (rsOf l) ∧ Tabs Tt H ∧
  ∀ b (m : List Pl) H', ExtN H H' → m.map Pl.p = l.map Pl.p → WAt K C CK H' b m → Tabs Tt H' → Q (.ref b) H'
theorem rs_same {l m : List Pl} (h : m.map Pl.p = l.map Pl.p) : rsOf m = rsOf l := congrArg List.reverse h
section
variable {P : Program} {w : World} {K : W.Frag} {mg : Str → Option Value} {base : Heap} {f fI f1 C CK CE fK aL aT : Addr} {fd d1 dK : FuncData} {mc mk : Value} {Tt : List (Addr × Str)} {σ : L2.St} {H : Hp}
theorem mk_by {E : XK} {ta : TA} {l : List Pl} {Q : VK} (he : EvA ta σ H (l.map fun x => .ref x.t)) (hp : ∀ x ∈ l, PartAt K CK H x.t x.k x.p) (vd : Vd (rsOf l)) (hT : Tabs Tt H) (k : ∀ b H', ExtN H H' → WAt K C CK H' b l → Tabs Tt H' → Q (.ref b) H') : StX.tMakeR C (spWM K C CK Tt) E ta σ H Q :=
  he H (Ex.refl H) _ fun H1 e1 => mk_world (fun x hx => (hp x hx).mono e1) vd (hT.ext e1) fun b H' _ eN wt t => k b H' ((ex_extn e1).trans eN) wt t
theorem ok_lworld {g : List Value → List Value → List Value} {gV : List V → List V → List V} (B : Bt mg) (T : WF K mg C mc) (M : WMk P w K mg base C CK Tt fI) (TK : KF K mg CK mk aL aT) (MK : KM P w K mg base CK CE fK dK g gV) (MW : Mt P w K mg base C "with_part" 7 ["self", "part"] (spWith K C CK Tt) f1 d1) (F : FnP K "_law_world" s_law_world f fd) : FnOk P w K mg base CX0 8 f fd p_law_world (spWld K C CK Tt) := by
  refine F.ok sc_law_world (fun vs H Q E h => ?_) (fun cdv A outer s H vs Q E hr h => ?_)
  · obtain ⟨q, l, rfl, _⟩ := h
    rfl
  · obtain ⟨q, l, rfl, hq, hp, vd, hT, k⟩ := h
    have nd := sc_law_world.nd
    refine ⟨_, PSs.nox (pss_cons (ps_set (i := 1) nd rfl (Or.inl rfl) (pe_makeR0 M.made M.ok (hr.mono (by decide)) (by rfl) T.m pass0))
      (pss_cons (ps_for PassesOwn.never rfl (pi_list (pv 0)) (pg_name (i := 2) nd rfl (Or.inl rfl))
        (Evl.pss_cut (ps_if (pt_cmpR op_eq (pe_ix ix_tup (pv 2) pe_int (fun _ _ => rfl)) pe_str (nomark _))
          (pss_cons (ps_set (i := 3) nd rfl (Or.inl rfl) (pe_ix ix_tup (pv 2) pe_int (fun _ _ => rfl)))
          (pss_one (ps_set (i := 2) nd rfl (Or.inl rfl) (pe_op op_catA (pe_slice sl_tupA (pv 2) po_none (po_some pe_int)) (pe_tup (pa_cons (pe_makeK (E := fun _ _ _ => False) MK.made MK.ok (hr.mono (by decide)) (by rfl) TK.m MK.kb passF (pa_cons (pe_ix ix_tup (pv 3) pe_int (fun _ _ => rfl)) (pa_cons (pe_ix ix_tup (pv 3) pe_int (fun _ _ => rfl)) pa_nil)) (pk_cons (pe_ix ix_tup (pv 3) pe_int (fun _ _ => rfl)) (pk_cons (pe_ix ix_tup (pv 3) pe_int (fun _ _ => rfl)) pk_nil))) pa_nil)))))) pss_nil)
        (pss_one (ps_set (i := 1) nd rfl (Or.inl rfl) (pe_meth (pv 1) T.cl MW.me MW.ok hr MW.b .nil pass0 (pa_cons (pv 2) pa_nil))))))
      (pss_one (ps_ret (pv 1))))), ?_⟩
    refine q_asgR (mk_by (l := []) (ta := tNil) ea_nil (fun x hx => by cases hx) trivial hT fun b0 H2 n2 wt2 T2 => ?_)
    try dsimp only [gName, List.set, start]
    refine q_forLn (K := K) (a := q) (xs := l.map fun x => V.ref x.t) (ev_var rfl) (sq_of (lst_n n2 hq)) (fun i σ' H' => ∃ b x2 x3 l2, σ' = [some (.ref q), some (.ref b), x2, x3] ∧ l2.map Pl.p = (l.take i).map Pl.p ∧ WAt K C CK H' b l2 ∧ ExtN H H' ∧ Tabs Tt H')
      (fun H4 e4 => ⟨b0, none, none, [], rfl, rfl, wt2.extn (ex_extn e4), n2.trans (ex_extn e4), T2.ext e4⟩) (fun i σ' H' _ hh => by
        obtain ⟨_, _, _, _, _, _, _, n, _⟩ := hh
        exact sq_of (lst_n n hq)) (fun i x σ' H4 hx hh => ?_) (fun σ' H4 hh => ?_)
    · obtain ⟨b, x2, x3, l2, rfl, el, wt, eN, T4⟩ := hh
      rw [List.getElem?_map] at hx
      cases e : l[i]? with
      | none => rw [e] at hx; cases hx
      | some y =>
        rw [e] at hx
        obtain rfl : V.ref y.t = x := Option.some.inj hx
        have my : y ∈ l := List.mem_of_getElem? e
        have py := (hp y my).extn eN
        obtain ⟨rr, hrr⟩ := rs_split e
        have vd2 : Vd (y.p :: rsOf (l.take i)) := Vd.app (xs := rr) (by rw [← hrr]; exact vd)
        have okK := (vd2.okP y.p List.mem_cons_self).kd
        try dsimp only [gName, List.set]
        refine ⟨fun σ2 H2 => ∃ (z : Pl) (x3 : Option V), σ2 = [some (.ref q), some (.ref b), some (.ref z.t), x3] ∧ z.p = y.p ∧ PartAt K CK H2 z.t z.k z.p ∧ Ex H4 H2, ?_, ?_⟩
        · refine s_when (b := y.p.isG) (et_test (ev_is (ev_op (ev_ptS rfl py at_w) ev_c (rv_eq rfl)) (by rw [gwd_gate]))) (fun hg H5 e5 => ?_) (fun hg H5 e5 => ⟨y, x3, rfl, rfl, ⟨e5 _ _ py.t, fun k hk => by rw [kd_none hg] at hk; cases hk⟩, e5⟩)
          obtain ⟨kd, hkd⟩ := kd_some hg
          have hs := (py.k kd hkd).mono e5
          have okk : kd.ok = true := by
            rw [hkd] at okK
            exact okK
          refine q_asg (v := .ref y.k) (ev_ptS rfl (py.mono e5) (at_kt hkd)) fun H6 e6 => ?_
          try dsimp only [gName, List.set]
          have py6 := py.mono (e5.trans e6)
          refine q_asgR' (rd_op (eu_cutG (K := K) (ev_var rfl) py6 hkd H6 (Ex.refl _) _ fun t1 H7 nt1 e7 ht1 => rd_tup (rd_cons (e_make (C := CK) (CE := CE) MK.gv
            (ea_cons (ev_op (ev_var rfl) ev_c (rv_ixT (st_of (hs.mono (e6.trans e7))) (atI_nat (j := 0) rfl))) (ea_cons (ev_op (ev_var rfl) ev_c (rv_ixT (st_of (hs.mono (e6.trans e7))) (atI_nat (j := 1) rfl))) ea_nil))
            (ea_cons (ev_op (ev_var rfl) ev_c (rv_ixT (st_of (hs.mono (e6.trans e7))) (atI_nat (j := 2) rfl))) (ea_cons (ev_op (ev_var rfl) ev_c (rv_ixT (st_of (hs.mono (e6.trans e7))) (atI_nat (j := 3) rfl))) ea_nil)) okk H7 (Ex.refl _) _ fun a H8 e8 ka => ⟨(by show 1 ≤ sizeLine; decide), fun t2 nt2 => ?_⟩))))
          have e9 := Ex.new (o := .tup [V.ref a]) nt2
          refine ⟨t1, t2, [.str "gate", .str y.p.nm, .str y.p.rl, .int y.p.ad], [.ref a], rfl, rfl, st_of (e9 _ _ (e8 _ _ ht1)), st_of upd_same, (by show 5 ≤ sizeLine; decide), (fun z => nomatch z), (fun _ z => nomatch z), fun _ _ t3 nt3 => ?_⟩
          have e10 := Ex.new (o := .tup ([V.str "gate", .str y.p.nm, .str y.p.rl, .int y.p.ad] ++ [V.ref a])) nt3
          refine ⟨⟨t3, a, y.p⟩, _, rfl, rfl, ⟨?_, fun k hk => ?_⟩, ((((e5.trans e6).trans e7).trans e8).trans e9).trans e10⟩
          · unfold ptV
            rw [hkd]
            exact upd_same
          · rw [hkd] at hk
            rw [← Option.some.inj hk]
            exact (ka.mono e9).mono e10
        · rintro σ2 H2 ⟨z, x3, rfl, ez, pz, e42⟩
          have wt3 := wt.extn (ex_extn e42)
          have wt0 := wt3
          obtain ⟨d, fs, kA, aA, ag, ah, gs, hs', zz⟩ := wt3
          obtain ⟨dx, ha⟩ := zz.fl.at_
          have er : rsOf l2 = rsOf (l.take i) := rs_same el
          refine ⟨_, rfl, b, dx, fs, rfl, ha, zz.fl.me _ (by simp [methW]), _, rfl, b, z, l2, rfl, wt0, pz, by rw [er, ez]; exact vd2.2, T4.ext e42, fun b' H5 nb' e5 wt5 t5 => ⟨b', _, _, l2 ++ [z], rfl, ?_, wt5, (eN.trans (ex_extn e42)).trans e5, t5⟩⟩
          rw [List.map_append, el, List.take_add_one, e, List.map_append]
          show _ ++ [z.p] = _ ++ [y.p]
          rw [ez]
    · obtain ⟨b, x2, x3, l2, rfl, el, wt, eN, T4⟩ := hh
      rw [List.length_map, List.take_length] at el
      exact s_ret (ev_var rfl) fun H5 e5 => k b l2 H5 (eN.trans (ex_extn e5)) el (wt.extn (ex_extn e5)) (T4.ext e5)
end
end L2.Mj
set_option maxRecDepth 100000
set_option maxHeartbeats 8000000
namespace L2.Mj
open PySem PySem.Spec PyProof.Rows L2 Mx L2.Mb Evl Mv TL LamX Sr Srt SrtO NdefX
theorem hasG_up {q : Pt} {rs : List Pt} {r : Str} (h : hasG rs r = true) : hasG (q :: rs) r = true := by
  unfold hasG at h ⊢
  rw [List.any_cons, h, Bool.or_true]
theorem rl_ok : ∀ {rs : List Pt}, Vd rs → ∀ p ∈ rs, p.rl = "" ∨ hasG rs p.rl = true
  | q :: rs, v, p, h => by
    rcases List.mem_cons.mp h with z | z
    · rw [z]
      exact v.head.rl.imp id hasG_up
    · exact (rl_ok v.tail p z).imp id hasG_up
theorem hasR_iff {rs : List Pt} {r : Str} : hasR rs r = true ↔ r = "" ∨ hasG rs r = true := by
  rw [hasR, Bool.or_eq_true, decide_eq_true_iff]
def spCRe (K : W.Frag) (C CK CS : Addr) : Sp := fun vs H Q E => ∃ (a : Addr) (y : V) (l : List Pl), vs = [.ref a, y] ∧ WAt K C CK H a l ∧ AnyV H y ∧
  (strB (hasR (rsOf l)) y = true → ∀ H', Ex H H' → Q .non H') ∧ (strB (hasR (rsOf l)) y = false → ∀ d H', Ex H H' → H' d = some (.xd [("name", y)]) → E (.ref CS) (some d) H')
/-- the station at an address, any value -/
def stV (rs : List Pt) (r : Str) (n : V) : V := match n with
  | .int i => statV rs r i
  | _ => .non
def spSte (K : W.Frag) (C CK CS : Addr) : Sp := fun vs H Q E => ∃ (a : Addr) (y n : V) (l : List Pl), vs = [.ref a, y, n] ∧ WAt K C CK H a l ∧ AnyV H y ∧ AnyV H n ∧
  (∀ r, y = .str r → hasR (rsOf l) r = true → ∀ H', Ex H H' → Q (stV (rsOf l) r n) H') ∧ (strB (hasR (rsOf l)) y = false → ∀ d H', Ex H H' → H' d = some (.xd [("name", y)]) → E (.ref CS) (some d) H')
structure MtE (P : Program) (w : World) (K : W.Frag) (mg : Str → Option Value) (base : Heap) (C : Addr) (m : Str) (k : Nat) (ps : List Str) (sp : Sp) (f : Addr) (fd : FuncData) : Prop where
  me : Meth K C m f
  ok : FnOk P w K mg base (L2.CX P w) k f fd ps sp
  b : Binds K fd ps []
theorem statV_out {rs : List Pt} (v : Vd rs) {r : Str} {n : Int} (h : isI (.int n) 1 99 = false) : statV rs r n = .non := by
  unfold statV
  cases hs : statAt rs r n with
  | none => rfl
  | some p =>
    obtain ⟨m1, m2, m3⟩ := statAt_mem hs
    have o := v.okP p m1
    have hb : (decide (1 ≤ n) && decide (n ≤ 99)) = false := h
    rw [← m3, decide_eq_true o.a0, decide_eq_true o.a1] at hb
    cases hb
section
variable {P : Program} {w : World} {K : W.Frag} {mg : Str → Option Value} {base : Heap} {f C CK CS fS f1 f2 fA : Addr} {fd d1 d2 dA dS : FuncData} {mc : Value} {q : Str} {bS : EB}
theorem ok_check_realm_e (B : Bt mg) (T : WF K mg C mc) (XS : X1 P w K mg base "NoStation" "name" bS CS fS dS) (F : FnC K "_check_realm" q s_World_check_realm [] f fd) : FnOk P w K mg base (L2.CX P w) 3 f fd ["self", "realm"] (spCRe K C CK CS) := by
  refine F.ok sc_World_check_realm (fun vs H Q E h => ?_) (fun cdv A outer s H vs Q E hr h => ?_)
  · obtain ⟨a, y, l, rfl, _⟩ := h
    rfl
  · obtain ⟨a, y, l, rfl, ⟨d, fs, kA, aA, ag, ah, gs, hs, z⟩, hy, k, ke⟩ := h
    have hu := Nat.lt_of_le_of_lt (Nat.add_le_add_left (show 1 ≤ 64 by decide) _) hr.units
    refine ⟨_, pss_one (ps_if (pt_not (pw_and (pt_val (pe_callB call_isi (by rfl) B.isinstance (by decide +kernel) (pa_cons (pv 1) (pa_cons (pe_bltn (v := .ty "str") (by rfl) B.str (by decide +kernel) rfl) pa_nil)))) (pw_and1 (pt_cmp (pc_din hu (pv 1) (pe_fld (pv 0) rfl))))).pt) (pss_one (ps_raise rfl (takes_of rfl rfl rfl rfl) (pmk_X XS.ec XS.ty XS.ok (hr.mono (by decide)) XS.b .nil pass0 (by rfl) XS.m (pa_cons (pv 1) pa_nil)))) pss_nil), ?_⟩
    refine s_when (b := !strB (hasR (rsOf l)) y) (et_not (et_strIn rfl hy (ev_f T.cl T.nU (ev_var rfl) z.fl.at_ z.fl.du) z.bs.u fun t => some_ar z.vd t)) (fun hn H1 e1 => ?_) (fun hn H1 e1 => ?_)
    · rw [Bool.not_eq_true'] at hn
      exact s_raise1 (W := fun cls d _ H' => E cls d H') (ea_cons (ev_var rfl) ea_nil) fun dx H4 e4 hd => ke hn dx H4 (e1.trans e4) hd
    · rw [Bool.not_eq_false'] at hn
      exact k hn H1 e1
theorem ok_station_e (T : WF K mg C mc) (MR : MtE P w K mg base C "_check_realm" 3 ["self", "realm"] (spCRe K C CK CS) f1 d1) (DA : Fn0 P w K mg base "is_address" 2 fA dA p_is_address spAdr) (F : FnC K "station" q s_World_station [] f fd) : FnOk P w K mg base (L2.CX P w) 5 f fd ["self", "realm", "address"] (spSte K C CK CS) := by
  refine F.ok sc_World_station (fun vs H Q E h => ?_) (fun cdv A outer s H vs Q E hr h => ?_)
  · obtain ⟨a, y, n, l, rfl, _⟩ := h
    rfl
  · obtain ⟨a, y, n, l, rfl, wt, hy, hv, k, ke⟩ := h
    have hu := Nat.lt_of_le_of_lt (Nat.add_le_add_left (show 1 ≤ 64 by decide) _) hr.units
    refine ⟨_, pss_cons (ps_expr (pe_meth (pv 0) T.cl MR.me MR.ok (hr.mono (by decide)) MR.b .nil (passes_call (takes_of rfl rfl rfl rfl) (fun _ _ _ _ h => h)) (pa_cons (pv 1) pa_nil)))
      (pss_cons (ps_if (pt_not (pt_val (pe_call DA.ok (hr.mono (by decide)) (by rfl) DA.m DA.k DA.b .nil pass0 (pa_cons (pv 2) pa_nil)))) (pss_one (ps_ret pe_non)) pss_nil)
      (pss_one (ps_ret (pe_dget1 hu (pe_fld (pv 0) rfl) (pe_tup (pa_cons (pv 1) (pa_cons (pv 2) pa_nil))) ⟨rfl, rfl, rfl, rfl⟩)))), ?_⟩
    obtain ⟨d, fs, kA, aA, ag, ah, gs, hs, z⟩ := wt
    obtain ⟨dx, ha⟩ := z.fl.at_
    refine ⟨_, rfl, a, dx, fs, rfl, ha, z.fl.me _ (by simp [methW]), _, rfl, a, y, l, rfl, ⟨d, fs, kA, aA, ag, ah, gs, hs, z⟩, hy, fun hT H1 e1 => ?_, fun hF d2 H1 e1 hd => ke hF d2 H1 e1 hd⟩
    obtain ⟨r, rfl, hR⟩ := str_of hT
    have hv1 := any_ex hv e1
    refine q_when (b := !isI n 1 99) (et_not (et_B (ev_call (z := .bl (isI n 1 99)) (ea_cons (ev_var rfl) ea_nil) (fun H9 e9 Q q E => ⟨n, rfl, any_ex hv1 e9, fun H8 e8 => q H8 e8⟩)))) (fun hn H2 e2 => ?_) (fun hn H2 e2 => ?_)
    · rw [Bool.not_eq_true'] at hn
      refine s_ret ev_c fun H3 e3 => ?_
      have q := k r rfl hR H3 ((e1.trans e2).trans e3)
      have e : stV (rsOf l) r n = .non := by
        cases n with
        | int i => exact statV_out z.vd hn
        | _ => rfl
      rw [e] at q
      exact q
    · rw [Bool.not_eq_false'] at hn
      cases n with
      | int i =>
        have z2 := z.extn (ex_extn (e1.trans e2))
        obtain ⟨dx, ha⟩ := z2.fl.at_
        refine ⟨_, rfl, a, C, dx, fs, _, rfl, ha, T.cl, T.nL, z2.fl.dp, d.dp, rfl, .inr ⟨_, .inl z2.bs.p⟩, _, rfl, _, rfl, (by show 2 ≤ sizeLine; decide), fun t nt => ?_⟩
        have e3 : Ex H2 (upd H2 t (.tup [.str r, .int i])) := Ex.new nt
        refine ⟨_, DGet.t (k := [Sum.inr r, Sum.inl i]) (e3 _ _ z2.bs.p) upd_same, ?_⟩
        have q : Q (statV (rsOf l) r i) (upd H2 t (.tup [.str r, .int i])) := k r rfl hR _ ((e1.trans e2).trans e3)
        rw [val_place z2.vd]
        unfold statV at q
        cases hs : statAt (rsOf l) r i with
        | none =>
          rw [hs] at q
          exact q
        | some p =>
          rw [hs] at q
          exact q
      | _ => cases hn
end
end L2.Mj
set_option maxRecDepth 100000
set_option maxHeartbeats 8000000
namespace L2.Mj
open PySem PySem.Spec PyProof.Rows L2 Mx L2.Mb Evl Mv TL LamX Sr Srt SrtO NdefX
theorem statAt_self {rs : List Pt} (v : Vd rs) {p : Pt} (hp : p ∈ rs) : statAt rs p.rl p.ad = some p := by
  cases h : statAt rs p.rl p.ad with
  | none =>
    unfold statAt at h
    exact absurd (List.find?_eq_none.mp h p hp) (by simp)
  | some q =>
    obtain ⟨h1, h2, h3⟩ := statAt_mem h
    rw [same_ad v h1 hp h2 h3]
/-- the places of a realm, as their keys stand -/
def PlcL (H : Hp) (p : Addr) (qs : List (Addr × Pt)) : Prop := H p = some (.lst (qs.map fun z => .ref z.1)) ∧ ∀ z ∈ qs, H z.1 = some (.tup [.str z.2.rl, .int z.2.ad])
theorem PlcL.mono {H H' : Hp} {p : Addr} {qs : List (Addr × Pt)} (h : PlcL H p qs) (e : Ex H H') : PlcL H' p qs := ⟨e _ _ h.1, fun z hz => e _ _ (h.2 z hz)⟩
def rTupO (K : W.Frag) : List V → Hp → VK → Prop := fun xs H Q => ∃ p ys, xs = [.ref p] ∧ ((SqL K H p ys ∧ ∀ l, H l = none → Q (.ref l) (upd H l (.tup ys))) ∨ (SqT K H p ys ∧ Q (.ref p) H))
section
variable {P : Program} {w : World} {K : W.Frag} {mg : Str → Option Value} {base : Heap} {f C CK CS f1 : Addr} {fd d1 : FuncData} {mc : Value} {q : Str} {σ : L2.St} {H : Hp}
theorem el_places {a ag ah : Addr} {l : List Pl} {d : WD} {fs : List (Str × V)} {kA aA : Str → Addr} {gs hs : List Str} {r : Str} (T : WF K mg C mc) (z : WX K C CK H a l d fs kA aA ag ah gs hs) (Q : VK)
    (k : ∀ p H1 qs, H p = none → Ex H H1 → PlcL H1 p qs → qs.map Prod.snd = (rsOf l).reverse.filter (fun p => decide (p.rl = r)) → Q (.ref p) H1) :
    tLockE (tLc (iKeys (tFld K (tVar 0) "_places")) (gName 3) (tTest (tOp rEq (tOp (rIxT K) (tVar 3) (tC (.int 0))) (tVar 1))) (tVar 3) [3]) [some (.ref a), some (.str r), none, none] H Q := by
  refine ⟨d.dp, .dT (dPlace (rsOf l)), z.bs.p, True.intro, fun od => ?_⟩
  generalize hF : upd H d.dp (.frz od (.dT (dPlace (rsOf l)))) = F
  have Fr : F d.dp = some (.frz od (.dT (dPlace (rsOf l)))) := by rw [← hF]; exact upd_same
  have Fo : ∀ {c : Addr} {o : HO}, c ≠ d.dp → H c = some o → F c = some o := fun n h => by rw [← hF, upd_ne n]; exact h
  obtain ⟨dx, ha⟩ := z.fl.at_
  have Fa : F a = some (.ins C dx fs) := Fo (ne_of_obj ha z.bs.p fun z => by cases z) ha
  refine ⟨.ref a, rfl, a, C, dx, fs, _, rfl, Fa, T.cl, T.nL, z.fl.dp, d.dp, od, rfl, .inr ⟨_, Fr, fun Dl hD => ?_⟩⟩
  have l14 := len14 z.vd
  generalize hrs : rsOf l = rs at *
  have lr : (dPlace rs).length = rs.length := by unfold dPlace; rw [List.length_map, List.length_reverse]
  have kvi : ∀ {i : Nat} {k : List Key} {v : V}, (dPlace rs)[i]? = some (k, v) → ∃ p, rs.reverse[i]? = some p ∧ k = [Sum.inr p.rl, Sum.inl p.ad] := fun {i k v} h => by
    unfold dPlace at h
    rw [List.getElem?_map] at h
    cases e : rs.reverse[i]? with
    | none => rw [e] at h; cases h
    | some p =>
      rw [e] at h
      exact ⟨p, rfl, (congrArg Prod.fst (Option.some.inj h)).symm⟩
  refine lc_it walk_keysT (fun i H' => ∃ qs : List (Addr × Pt), Ex F H' ∧ PlcL H' Dl qs ∧ qs.length ≤ i ∧ qs.map Prod.snd = (rs.reverse.take i).filter (fun p => decide (p.rl = r))) ⟨[], Ex.new hD, ⟨upd_same, fun z hz => by cases hz⟩, Nat.le_refl _, rfl⟩ (fun _ _ _ ⟨_, p, _⟩ => p _ _ Fr) (fun i x H2 H3 hi hp y => ?_) (fun H' ⟨qs, p, hl, hn, hm⟩ => ⟨p _ _ Fr, ?_⟩)
  · obtain ⟨qs, e2, hl, hn, hm⟩ := hp
    obtain ⟨rfl, kk, v, c, hk, rfl, hc⟩ := y
    obtain ⟨p, hpi, rfl⟩ := kvi hk
    have hc2 : H3 c = some (.tup [.str p.rl, .int p.ad]) := hc
    have hti : (rs.reverse.take (i + 1)).filter (fun p => decide (p.rl = r)) = (rs.reverse.take i).filter (fun p => decide (p.rl = r)) ++ (if decide (p.rl = r) = true then [p] else []) := by
      rw [List.take_succ, hpi, List.filter_append]
      simp only [Option.toList, List.filter_cons, List.filter_nil]
    refine ⟨rfl, (et_test (b := decide (p.rl = r)) (ev_is (ev_op (z := .bl (decide (V.str p.rl = V.str r))) (ev_op (ev_var rfl) ev_c (rv_ixT (v := .str p.rl) (st_of hc2) rfl)) (ev_var rfl) (rv_eq rfl)) (by simp))) H3 (Ex.refl _) _ fun H4 e4 => ?_⟩
    cases hd : decide (p.rl = r) with
    | true =>
      rw [if_pos rfl]
      have hl4 := hl.mono e4
      refine ⟨_, rfl, _, hl4.1, sz_lt (by rw [List.length_map, lr] at *; omega), qs ++ [(c, p)], ?_, ⟨?_, fun z hz => ?_⟩, by rw [List.length_append]; exact Nat.succ_le_succ hn, ?_⟩
      · intro x o ho
        have ne : x ≠ Dl := ne_of_none ho hD
        rw [upd_ne ne]
        exact (e2.trans e4) x o ho
      · rw [upd_same, List.map_append]
        rfl
      · have ne : ∀ {b : Addr} {vs : List V}, H4 b = some (.tup vs) → b ≠ Dl := fun hb z => by
          rw [z, hl4.1] at hb
          cases hb
        rcases List.mem_append.mp hz with h | h
        · rw [upd_ne (ne (hl4.2 z h))]
          exact hl4.2 z h
        · rw [List.mem_singleton.mp h, upd_ne (ne (e4 _ _ hc2))]
          exact e4 _ _ hc2
      · rw [hti, hd, List.map_append, hm, if_pos rfl]
        rfl
    | false =>
      rw [if_neg Bool.false_ne_true]
      exact ⟨qs, e2.trans e4, hl.mono e4, Nat.le_succ_of_le hn, by rw [hti, hd, if_neg Bool.false_ne_true, List.append_nil, hm]⟩
  · have nD : Dl ≠ d.dp := (ne_of_none Fr hD).symm
    have HD : H Dl = none := by
      rw [← hF, upd_ne nD] at hD
      exact hD
    have zb := z.bs.p
    rw [hrs] at zb
    refine k Dl _ qs HD (fun c o h => ?_) ⟨?_, fun y hy => ?_⟩ ?_
    · by_cases zc : c = d.dp
      · rw [zc, zb] at h
        rw [zc, ← Option.some.inj h]
        exact upd_same
      · rw [upd_ne zc]
        exact p _ _ (Fo zc h)
    · rw [upd_ne nD]
      exact hl.1
    · have hy2 := hl.2 y hy
      rw [upd_ne (fun z => by rw [z, p _ _ Fr] at hy2; cases hy2)]
      exact hy2
    · rw [hm, lr, ← List.length_reverse, List.take_length]
theorem rd_ret {te : TE} {D : Ends} (h : te σ H D.rt) : tRet te D σ H := h
theorem tcb_of {r : List V → Hp → VK → Prop} {te : TE} {Q : VK} (h : te σ H (fun v H1 => r [v] H1 Q)) : tCB r (tCons te tNil) σ H Q := h
/-- the stations of a realm by their addresses -/
def spSts (K : W.Frag) (C CK CS : Addr) : Sp := fun vs H Q E => ∃ (a : Addr) (y : V) (l : List Pl), vs = [.ref a, y] ∧ WAt K C CK H a l ∧ AnyV H y ∧
  (∀ r, y = .str r → hasR (rsOf l) r = true → ∀ (t : Addr) (m : List Pt) (H' : Hp), Ex H H' → m.Perm ((rsOf l).filter fun p => decide (p.rl = r)) → m.Pairwise (fun x y => x.ad ≤ y.ad) → H' t = some (.tup (m.map fun p => .str p.nm)) → Q (.ref t) H') ∧ (strB (hasR (rsOf l)) y = false → ∀ d H', Ex H H' → H' d = some (.xd [("name", y)]) → E (.ref CS) (some d) H')
theorem ev_dgetT {ty td : TE} {a b : Addr} {kvs : List (List Key × V)} {k : List Key} {v : V} (hd : Ev td σ H (.ref a)) (hy : Ev ty σ H (.ref b)) (hb : H b = some (.tup (k.map kV))) (h : H a = some (.dT kvs)) (hv : valV kvs k = some v) : Ev (tDGet td ty) σ H v := fun H1 e Q q =>
  hd H1 e _ fun H2 e2 => hy H2 (e.trans e2) _ fun H3 e3 => ⟨a, v, rfl, by
    have z := DGet.t (k := k) (e3 _ _ (e2 _ _ (e _ _ h))) (e3 _ _ (e2 _ _ (e _ _ hb)))
    rw [hv] at z
    exact z, q H3 (e2.trans e3)⟩
/-- keys of places, sorted -/
theorem sort_places {p : Addr} {qs : List (Addr × Pt)} {r : Str} {Q : VK} (h : PlcL H p qs) (hr : ∀ z ∈ qs, z.2.rl = r) (k : ∀ (zs : List (Addr × Pt)) (t : Addr), zs.Perm qs → (zs.map Prod.snd).Pairwise (fun x y => x.ad ≤ y.ad) → H t = none → Q (.ref t) (upd H t (.lst (zs.map fun z => .ref z.1)))) : rSortD K [.ref p] H Q := by
  let kf : V → KD := fun v => match v with
    | .ref b => (match H b with | some (.tup [.str s, .int n]) => .l [.k (.inr s), .k (.inl n)] | _ => .l [])
    | _ => .l []
  have kk : ∀ z ∈ qs, kf (.ref z.1) = .l [.k (.inr r), .k (.inl z.2.ad)] := fun z hz => by
    show (match H z.1 with | some (.tup [.str s, .int n]) => KD.l [.k (.inr s), .k (.inl n)] | _ => .l []) = _
    rw [h.2 z hz, hr z hz]
  refine ⟨p, _, kf, .l fun i => if i = 0 then .s else .i, rfl, .inl (sq_of h.1), fun x hx => ?_, fun ys q s pm nq => ?_⟩
  · obtain ⟨z, hz, rfl⟩ := List.mem_map.mp hx
    rw [kk z hz]
    have hz2 := h.2 z hz
    rw [hr z hz] at hz2
    refine ⟨⟨z.1, _, rfl, st_of hz2, .cons rfl (.cons rfl .nil)⟩, by simp, ?_⟩
    intro i d hd
    match i, hd with
    | 0, hd => cases hd; rfl
    | 1, hd => cases hd; rfl
  · obtain ⟨zs, h1, rfl⟩ := perm_map pm qs rfl
    refine k zs q h1 (List.pairwise_map.mpr ((List.pairwise_map.mp s).imp_of_mem fun {x y} hx hy z => ?_)) nq
    replace z : ltKD (kf (.ref y.1)) (kf (.ref x.1)) = false := z
    rw [kk x (h1.subset hx), kk y (h1.subset hy)] at z
    have z2 : lexG ltD [.k (.inr r), .k (.inl y.2.ad)] [.k (.inr r), .k (.inl x.2.ad)] = false := z
    rw [lexG_cons, if_pos rfl, lexG_cons] at z2
    by_cases e : y.2.ad = x.2.ad
    · omega
    · rw [if_neg (by simpa using e)] at z2
      have z3 : decide (y.2.ad < x.2.ad) = false := z2
      have := of_decide_eq_false z3
      omega
theorem ok_stations_e (B : Bt mg) (T : WF K mg C mc) (MR : MtE P w K mg base C "_check_realm" 3 ["self", "realm"] (spCRe K C CK CS) f1 d1) (F : FnC K "stations" q s_World_stations [] f fd) : FnOk P w K mg base (L2.CX P w) 5 f fd ["self", "realm"] (spSts K C CK CS) := by
  refine F.ok sc_World_stations (fun vs H Q E h => ?_) (fun cdv A outer s H vs Q E hr h => ?_)
  · obtain ⟨a, y, l, rfl, _⟩ := h
    rfl
  · obtain ⟨a, y, l, rfl, wt, hy, k, ke⟩ := h
    have nd := sc_World_stations.nd
    have hu := Nat.lt_of_le_of_lt (Nat.add_le_add_left (show 1 ≤ 64 by decide) _) hr.units
    have hu2 := (hr.mono (show 2 ≤ 4 by decide)).in1.in1.units0
    refine ⟨_, pss_cons (ps_expr (pe_meth (pv 0) T.cl MR.me MR.ok (hr.mono (by decide)) MR.b .nil (passes_call (takes_of rfl rfl rfl rfl) (fun _ _ _ _ h => h)) (pa_cons (pv 1) pa_nil)))
      (pss_cons (ps_set (i := 2) nd rfl (Or.inl rfl) (pe_callB (cr_sortD hu2) (by rfl) B.sorted (by decide +kernel) (pa_cons (pe_lock (pe_lc (own := [("place", 3)]) (g := gName 3) (tt := tTest (tOp rEq (tOp (rIxT K) (tVar 3) (tC (.int 0))) (tVar 1))) (te := tVar 3) (by rfl) nd (pi_keys (pe_fld (pv 0) rfl)) (blkOk_by (N := n_World_stations) (sc := defScope s_World_stations) (by decide +kernel)) (fun _ _ _ _ _ => pg_name (i := 3) nd rfl (Or.inl rfl))
        (fun _ _ _ _ _ => pts_one (pt_cmpR op_eq (pe_ix ix_tup (pv 3) pe_int (fun _ _ => rfl)) (pv 1) (nomark _))) (fun _ _ _ _ _ => pv 3))) pa_nil)))
      (pss_one (ps_ret (pe_callTy (r := rTupO K) call_tuple_of (by rfl) B.tuple (by decide +kernel) (pa_cons (pe_lc (own := [("place", 3)]) (g := gName 3) (tt := tYes) (te := tDGet (tFld K (tVar 0) "_places") (tVar 3)) (by rfl) nd (pi_list (pv 2)) (blkOk_by (N := n_World_stations) (sc := defScope s_World_stations) (by decide +kernel)) (fun _ _ _ _ _ => pg_name (i := 3) nd rfl (Or.inl rfl))
        (fun _ _ _ _ _ => pts_nil) (fun _ _ _ _ _ => pe_dget hu (pe_fld (pv 0) rfl) (pv 3) (fun _ _ => rfl))) pa_nil))))), ?_⟩
    obtain ⟨d, fs, kA, aA, ag, ah, gs, hs, z⟩ := wt
    obtain ⟨dx, ha⟩ := z.fl.at_
    refine ⟨_, rfl, a, dx, fs, rfl, ha, z.fl.me _ (by simp [methW]), _, rfl, a, y, l, rfl, ⟨d, fs, kA, aA, ag, ah, gs, hs, z⟩, hy, fun hT H1 e1 => ?_, fun hF d2 H1 e1 hd => ke hF d2 H1 e1 hd⟩
    obtain ⟨r, rfl, hR⟩ := str_of hT
    have z1 := z.extn (ex_extn e1)
    have l14 := len14 z.vd
    -- the places, sorted
    refine el_places T z1 _ fun p H2 qs np e2 hp hm => ?_
    have memq : ∀ z ∈ qs, z.2 ∈ (rsOf l).reverse.filter (fun p => decide (p.rl = r)) := fun z hz => by
      rw [← hm]
      exact List.mem_map_of_mem hz
    refine sort_places (r := r) hp (fun z hz => of_decide_eq_true (List.mem_filter.mp (memq z hz)).2) fun zs t pm srt nt => ?_
    have e3 := Ex.new (o := .lst (zs.map fun z : Addr × Pt => V.ref z.1)) nt
    have e13 := (e1.trans e2).trans e3
    have z3 := z.extn (ex_extn e13)
    have hz3 : ∀ x ∈ zs, upd H2 t (.lst (zs.map fun z : Addr × Pt => V.ref z.1)) x.1 = some (.tup [.str x.2.rl, .int x.2.ad]) := fun x hx => e3 _ _ (hp.2 x (pm.subset hx))
    have hin : ∀ x ∈ zs, x.2 ∈ rsOf l := fun x hx => List.mem_reverse.mp (List.mem_filter.mp (memq x (pm.subset hx))).1
    have zl : zs.length ≤ 14 := by
      rw [pm.length_eq, ← List.length_map (f := Prod.snd), hm]
      refine Nat.le_trans (List.length_filter_le _ _) ?_
      rw [List.length_reverse]
      exact l14
    try dsimp only [gName, List.set, start]
    have key := el_lcL (K := K) (σ := [some (.ref a), some (.str r), some (.ref t), none]) (H := upd H2 t (.lst (zs.map fun z : Addr × Pt => V.ref z.1))) (tl := tVar 2) (a := t) (xs := zs.map fun z => V.ref z.1) (t := tYes) (te := tDGet (tFld K (tVar 0) "_places") (tVar 3)) (j := 3) (vs := [3]) (fun _ => true) (fun i => .str (zs.getD i (0, ⟨none, "", "", 0⟩)).2.nm) (ev_var rfl) (sq_of upd_same) (by rw [List.length_map]; omega) (fun _ => rfl)
      (fun i x H9 e9 hx => fun H7 e7 Q7 q7 => q7 H7 (Ex.refl _)) (fun i x H9 e9 hx _ => by
        rw [List.getElem?_map] at hx
        cases e : zs[i]? with
        | none => rw [e] at hx; cases hx
        | some y =>
          rw [e] at hx
          cases hx
          have my := List.mem_of_getElem? e
          have z9 := z3.extn (ex_extn e9)
          rw [List.getD_eq_getElem?_getD, e]
          refine ev_dgetT (k := [Sum.inr y.2.rl, Sum.inl y.2.ad]) (ev_f T.cl T.nL (ev_var rfl) z9.fl.at_ z9.fl.dp) (ev_var rfl) (e9 _ _ (hz3 y my)) z9.bs.p ?_
          rw [val_place z.vd, statAt_self z.vd (hin y my)]
          rfl)
    rw [List.length_map, given_getD zs (0, ⟨none, "", "", 0⟩) (fun _ => true) (fun z => V.str z.2.nm), List.filter_eq_self.mpr fun _ _ => rfl] at key
    refine rd_ret (tcb_of (key _ (Ex.refl _) _ fun u H4 nu e4 hu4 => ⟨u, _, rfl, .inl ⟨sq_of hu4, fun v nv => ?_⟩⟩))
    have e5 := Ex.new (o := .tup (zs.map fun z : Addr × Pt => V.str z.2.nm)) nv
    refine k r rfl hR v (zs.map Prod.snd) _ ((e13.trans e4).trans e5) ?_ srt ?_
    · have z1 := pm.map Prod.snd
      rw [hm] at z1
      refine z1.trans ?_
      rw [List.filter_reverse]
      exact List.reverse_perm _
    · rw [upd_same, List.map_map]
      rfl
end
end L2.Mj
set_option maxRecDepth 100000
set_option maxHeartbeats 4000000
namespace L2.Sr
open PySem PySem.Spec PyProof.Rows L2 PySem.SeqAt
/-! ### xs != [], xs == [] of any list -/
def rNil (K : PySem.W.Frag) (neg : Bool) : R2 := fun x y H Q => ∃ a b xs, x = .ref a ∧ y = .ref b ∧ SqL K H a xs ∧ SqL K H b [] ∧ Q (.bl (if neg then !xs.isEmpty else xs.isEmpty)) H
section
variable {X : Cx}
theorem op_neNil (hu : X.A.units < cLine) : OpR X (compareOp .NotEq) (rNil X.K true) := by
  intro pins s σ H x y v u Q I rx ry h
  obtain ⟨a, b, xs, rfl, rfl, ha, hb, q⟩ := h
  cases rx
  cases ry
  obtain ⟨its, r, pl, hz⟩ := I.list ha
  obtain ⟨its2, r2, pl2, hz2⟩ := I.list hb
  have e2 : its2 = [] := by cases r2; rfl
  subst e2
  cases xs with
  | nil =>
    have e1 : its = [] := by cases r; rfl
    subst e1
    exact RcNeAt.lists (e := fun _ => true) pl.isList pl2.isList rfl hu (fun j h1 h2 => absurd h1 (Nat.not_lt_zero _)) _ _ _ _ ⟨.bl false, H, I, rfl, q⟩
  | cons z zs =>
    have hl : its.length = (z :: zs).length := r.length.symm
    exact RcNeAt.lists_lengths pl.isList pl2.isList (by simp [hl]) hu _ _ _ _ ⟨.bl true, H, I, rfl, q⟩
theorem op_eqNil (hu : X.A.units < cLine) : OpR X (compareOp .Eq) (rNil X.K false) := by
  intro pins s σ H x y v u Q I rx ry h
  obtain ⟨a, b, xs, rfl, rfl, ha, hb, q⟩ := h
  cases rx
  cases ry
  obtain ⟨its, r, pl, hz⟩ := I.list ha
  obtain ⟨its2, r2, pl2, hz2⟩ := I.list hb
  have e2 : its2 = [] := by cases r2; rfl
  subst e2
  cases xs with
  | nil =>
    have e1 : its = [] := by cases r; rfl
    subst e1
    exact RcAt.lists (e := fun _ => true) pl.isList pl2.isList rfl hu (fun j h1 h2 => absurd h1 (Nat.not_lt_zero _)) _ _ _ _ ⟨.bl true, H, I, rfl, q⟩
  | cons z zs =>
    have hl : its.length = (z :: zs).length := r.length.symm
    exact RcAt.lists_lengths pl.isList pl2.isList (by simp [hl]) hu _ _ _ _ ⟨.bl false, H, I, rfl, q⟩
end
end L2.Sr
set_option maxRecDepth 100000
set_option maxHeartbeats 4000000
namespace L2.Mb
open PySem PySem.Spec PyProof.Rows L2
/-! ### l.remove(x) where items are data of any depth -/
section
variable {X : Cx}
def rRemD (K : PySem.W.Frag) : V → List V → Hp → VK → Prop := fun x vs H Q => ∃ (l : Addr) (xs : List V) (y : V) (d : PyData) (ds : List PyData) (j : Nat) (z : PyData), x = V.ref l ∧ vs = [y] ∧ H l = some (.lst xs) ∧ DpAll K H xs ds ∧ Dp K H y d ∧
  SeqAt.shaped (.list ds) = true ∧ SeqAt.shaped d = true ∧ ds[j]? = some z ∧ PyData.eqv z d = true ∧ (∀ (m : Nat) (z' : PyData), m < j → ds[m]? = some z' → PyData.eqv z' d = false) ∧ Q .non (upd H l (.lst (xs.eraseIdx j)))
theorem mt_removeD (hu : X.A.units + 65 < cLine) : MtM X "list.remove" (rRemD X.K) := by
  intro pins s σ H x vs v us Q I rx rxs h
  obtain ⟨l, xs, y, d, ds, j, z, rfl, rfl, hH, ha, hy, sl, sd, hz, hzj, hno, q⟩ := h
  cases rx
  cases rxs with
  | cons ry rt =>
    rename_i uy ut
    cases rt
    obtain ⟨bs, r1⟩ := Dp.reads I d y uy hy ry
    have hxs : PyData.canLayAll0 ds = true := SeqAt.canLay_of_shaped sl
    have hroom : X.A.units + 1 + min (PyData.depthAll ds) d.depth < cLine := room_in_shaped sd hu
    obtain ⟨zs, its, n, rv, hl, e⟩ := I.lstM hH
    obtain ⟨as, h4⟩ := Dp.readsAll I ds _ its ha rv
    have hn : its.length = ds.length := SeqAt.ReadsAll.length ds its as h4
    have hmap : its.map (SeqAt.readOf s.heap) = ds := SeqAt.readsAll_map ds its as hxs h4
    have hvl := rv.length
    have hsl := sizeLine_eq
    obtain ⟨hjd, _⟩ := List.getElem?_eq_some_iff.mp hz
    have hjl : j < its.length := by omega
    have hj : j < its.toArray.size := by simpa using hjl
    have at_ : ∀ (m : Nat) (hm : m < its.toArray.size) (z' : PyData), ds[m]? = some z' → SeqAt.readOf s.heap its.toArray[m] = z' := by
      intro m hm z' hz'
      have hml : m < its.length := by simpa using hm
      rw [← hmap, List.getElem?_map, List.getElem?_eq_getElem hml] at hz'
      have e1 : SeqAt.readOf s.heap its[m] = z' := Option.some.inj (show some (SeqAt.readOf s.heap its[m]) = some z' from hz')
      simpa using e1
    refine call_meets PySem.F.slot_list_remove ⟨_, e, rfl⟩ PySem.F.entry_list_remove (PySem.F.args_list_remove_2 _ _)
      (SeqAt.list_removeAt l its.toArray n _ _ uy (fun u => PyData.eqv (SeqAt.readOf s.heap u) d) j hj ?_ ?_ (by rw [List.size_toArray]; omega)) ⟨e, SeqAt.items_eqAt (vs := its.toArray) (show ReadsAll s.heap its.toArray.toList ds as from h4) r1 hxs (SeqAt.canLay_of_shaped sd) hroom, ?_⟩
    · show PyData.eqv (SeqAt.readOf s.heap its.toArray[j]) d = true
      rw [at_ j hj z hz]
      exact hzj
    · intro m hm hmj
      have hmd : m < ds.length := by omega
      have hz' : ds[m]? = some ds[m] := List.getElem?_eq_getElem hmd
      show PyData.eqv (SeqAt.readOf s.heap its.toArray[m]) d = false
      rw [at_ m hm _ hz']
      exact hno m _ hmj hz'
    · refine ⟨.non, _, I.lset (its' := its.eraseIdx j) (t' := s.toks) hH e ?_ (rv.eraseIdx j) ?_, rfl, q⟩
      · show its.toArray.eraseIdxIfInBounds j = (its.eraseIdx j).toArray
        rw [List.eraseIdxIfInBounds_toArray]
      · have z2 := List.length_eraseIdx_le (l := xs) (i := j)
        omega
end
end L2.Mb
set_option maxRecDepth 100000
set_option maxHeartbeats 8000000
namespace L2.Mj
open PySem PySem.Spec PyProof.Rows L2 Mx L2.Mb Evl Mv TL LamX Sr Srt SrtO NdefX
theorem chn_gate : ∀ {rs : List Pt}, Vd rs → ∀ {p : Pt}, p ∈ gts rs → chn rs p.nm = p.nm :: chn rs p.rl
  | q :: rs, v, p, h => by
    have m := mem_gts.mp h
    have nr : ∀ {r : Pt}, r ∈ rs → q.nm ≠ r.nm := fun hr z => newN_iff.mp v.head.nn _ hr z.symm
    have nrl : ∀ {r : Pt}, (r.rl = "" ∨ hasG rs r.rl = true) → q.nm ≠ r.rl := fun hr z => by
      rcases hr with y | y
      · exact okW_ne (okP_of v.head.ok).nm (z.trans y)
      · obtain ⟨g, hg, e⟩ := hasG_iff.mp y
        exact nr (mem_gts.mp hg).1 (z.trans e.symm)
    rcases List.mem_cons.mp m.1 with z | z
    · rw [z] at m ⊢
      rw [chn_self m.2, chn_ne (nrl v.head.rl)]
    · rw [chn_ne (nr z), chn_gate v.tail (mem_gts.mpr ⟨z, m.2⟩), chn_ne (nrl (rl_old v.tail z))]
theorem chn_len {rs : List Pt} (v : Vd rs) : ∀ r, (chn rs r).length ≤ 3 := by
  induction rs with
  | nil => intro r; exact Nat.zero_le _
  | cons p rs ih =>
    intro r
    by_cases h : p.isG = true ∧ p.nm = r
    · have rm := v.head.rm
      unfold room at rm
      rw [if_pos h.1] at rm
      have z := of_decide_eq_true (ba2 rm).1
      show (if p.isG = true ∧ p.nm = r then r :: chn rs p.rl else chn rs r).length ≤ 3
      rw [if_pos h, List.length_cons]
      omega
    · show (if p.isG = true ∧ p.nm = r then r :: chn rs p.rl else chn rs r).length ≤ 3
      rw [if_neg h]
      exact ih v.tail r
theorem okP_back {p : Pt} (h : OkP p) : okP p = true := by
  unfold okP
  rw [h.nm, decide_eq_true h.a0, decide_eq_true h.a1, h.kd]
  rcases h.rl with z | z
  · rw [decide_eq_true z]; rfl
  · rw [z, Bool.or_true]; rfl
theorem mem_rs {l : List Pl} {x : Pl} (h : x ∈ l) : x.p ∈ rsOf l := List.mem_reverse.mpr (List.mem_map_of_mem h)
theorem chn_same {rl : List Pt} (vl : Vd rl) : ∀ {rs : List Pt}, Vd rs → (∀ p ∈ rs, p ∈ rl) → ∀ r : Str, (r = "" ∨ hasG rs r = true) → chn rs r = chn rl r
  | [], _, _, r, h => by
    rcases h with h | h
    · rw [h, chn_open vl]
      rfl
    · cases h
  | p :: rs, v, sub, r, h => by
    have ih := chn_same vl v.tail fun q hq => sub q (List.mem_cons_of_mem _ hq)
    by_cases hp : p.isG = true ∧ p.nm = r
    · obtain ⟨h1, h2⟩ := hp
      subst h2
      rw [chn_self h1, ih p.rl v.head.rl, chn_gate vl (mem_gts.mpr ⟨sub p List.mem_cons_self, h1⟩)]
    · have e : chn (p :: rs) r = chn rs r := by
        show (if p.isG = true ∧ p.nm = r then r :: chn rs p.rl else chn rs r) = chn rs r
        rw [if_neg hp]
      rw [e]
      refine ih r (h.imp id fun h => ?_)
      obtain ⟨q, hq, e2⟩ := hasG_iff.mp h
      obtain ⟨m1, m2⟩ := mem_gts.mp hq
      rcases List.mem_cons.mp m1 with z | z
      · exact absurd ⟨by rw [← z]; exact m2, by rw [← z]; exact e2⟩ hp
      · exact hasG_iff.mpr ⟨q, mem_gts.mpr ⟨z, m2⟩, e2⟩
theorem len_rs (l : List Pl) : (rsOf l).length = l.length := by
  unfold rsOf
  rw [List.length_reverse, List.length_map]
theorem gts_len (l : List Pl) : (gts (rsOf l)).length = (l.filter fun x => x.p.isG).length := by
  unfold gts rsOf
  rw [List.filter_reverse, List.length_reverse, List.filter_map, List.length_map]
  rfl
theorem okA_any {l F L : List Pl} (v : Vd (rsOf l)) (vF : Vd (rsOf F)) (pm : (F ++ L).Perm l) {x : Pl} (hx : x ∈ L) (hr : x.p.rl = "" ∨ x.p.rl ∈ F.map fun y => y.p.nm) : okA (rsOf F) x.p = true := by
  have hxl : x ∈ l := pm.subset (List.mem_append_right _ hx)
  have subF : ∀ y ∈ F, y ∈ l := fun y hy => pm.subset (List.mem_append_left _ hy)
  have subR : ∀ p ∈ rsOf F, p ∈ rsOf l := fun p hp => by
    obtain ⟨y, hy, rfl⟩ := List.mem_map.mp (List.mem_reverse.mp hp)
    exact mem_rs (subF y hy)
  have ndn : ((F ++ L).map fun y => y.p.nm).Nodup := by
    have z := Vd.nodup v
    unfold rsOf at z
    rw [List.map_reverse, List.map_map] at z
    exact (pm.map _).nodup_iff.mpr ((List.reverse_perm _).nodup_iff.mp z)
  rw [List.map_append] at ndn
  have nn : ∀ q ∈ rsOf F, q.nm ≠ x.p.nm := fun q hq e => by
    obtain ⟨y, hy, rfl⟩ := List.mem_map.mp (List.mem_reverse.mp hq)
    exact (List.nodup_append.mp ndn).2.2 _ (List.mem_map_of_mem hy) _ (List.mem_map_of_mem hx) e
  have ok := v.okP x.p (mem_rs hxl)
  have hG : x.p.rl = "" ∨ hasG (rsOf F) x.p.rl = true := by
    rcases hr with h | h
    · exact .inl h
    · obtain ⟨y, hy, e⟩ := List.mem_map.mp h
      rcases rl_ok v x.p (mem_rs hxl) with z | z
      · exact .inl z
      · obtain ⟨g, hg, e2⟩ := hasG_iff.mp z
        obtain ⟨g1, g2⟩ := mem_gts.mp hg
        have := same_nm v (mem_rs (subF y hy)) g1 (e.trans e2.symm)
        exact .inr (hasG_iff.mpr ⟨y.p, mem_gts.mpr ⟨mem_rs hy, by rw [this]; exact g2⟩, e⟩)
  have na : newA (rsOf F) x.p.rl x.p.ad = true := newA_iff.mpr fun q hq z => nn q hq (by rw [same_ad v (subR q hq) (mem_rs hxl) z.1 z.2])
  have cnt : ∀ P : Pl → Bool, P x = true → (F.filter P).length < (l.filter P).length := fun P hP => by
    have z := (pm.filter P).length_eq
    rw [List.filter_append, List.length_append] at z
    have : 0 < (L.filter P).length := List.length_pos_of_mem (List.mem_filter.mpr ⟨hx, hP⟩)
    omega
  have okl := okA_len v
  have rm : room (rsOf F) x.p = true := by
    unfold room
    by_cases hg : x.p.isG = true
    · rw [if_pos hg]
      have c1 := chn_same v vF subR x.p.rl hG
      have c2 := chn_gate v (mem_gts.mpr ⟨mem_rs hxl, hg⟩)
      have c3 := chn_len v x.p.nm
      rw [c2, List.length_cons] at c3
      have c4 := cnt (fun y => y.p.isG) hg
      rw [← gts_len, ← gts_len] at c4
      rw [c1, decide_eq_true (show (chn (rsOf l) x.p.rl).length < 3 by omega), decide_eq_true (show (gts (rsOf F)).length < 6 by omega)]
      rfl
    · rw [if_neg hg]
      have c4 := cnt (fun y => !y.p.isG) (by simpa using hg)
      have e1 := (List.filter_append_perm (fun y : Pl => y.p.isG) F).length_eq
      have e2 := (List.filter_append_perm (fun y : Pl => y.p.isG) l).length_eq
      rw [List.length_append] at e1 e2
      have g1 := gts_len F
      have g2 := gts_len l
      have l1 := len_rs F
      have l2 := len_rs l
      refine decide_eq_true ?_
      omega
  unfold okA
  rw [okP_back ok, rm, na, newN_iff.mpr nn]
  rcases hG with h | h
  · rw [decide_eq_true h]; rfl
  · rw [h, Bool.or_true]; rfl
theorem next_ex {l F L : List Pl} (v : Vd (rsOf l)) (pm : (F ++ L).Perm l) : ∀ n (x : Pl), x ∈ L → (chn (rsOf l) x.p.rl).length = n → ∃ y ∈ L, y.p.rl = "" ∨ y.p.rl ∈ F.map fun y => y.p.nm := fun n => by
  induction n using Nat.strongRecOn with
  | _ n ih =>
    intro x hx hn
    have hxl : x ∈ l := pm.subset (List.mem_append_right _ hx)
    rcases rl_ok v x.p (mem_rs hxl) with z | z
    · exact ⟨x, hx, .inl z⟩
    · obtain ⟨g, hg, e2⟩ := hasG_iff.mp z
      obtain ⟨g1, g2⟩ := mem_gts.mp hg
      obtain ⟨y, hy, rfl⟩ := List.mem_map.mp (List.mem_reverse.mp g1)
      rcases List.mem_append.mp (pm.mem_iff.mpr hy) with w | w
      · exact ⟨x, hx, .inr (by rw [← e2]; exact List.mem_map_of_mem w)⟩
      · have c := chn_gate v hg
        rw [e2] at c
        refine ih _ ?_ y w rfl
        rw [← hn, c, List.length_cons]
        omega
theorem inV_strs (z : Str) (xs : List Str) : inV (.str z) (xs.map V.str) = decide (z ∈ xs) := by
  unfold inV
  rw [List.any_map, Bool.eq_iff_iff, List.any_eq_true, decide_eq_true_iff]
  constructor
  · rintro ⟨y, hy, e⟩
    have e2 : y = z := by
      have : (y == z) = true := e
      exact beq_iff_eq.mp this
    rw [← e2]
    exact hy
  · intro h
    exact ⟨z, h, by show (z == z) = true; simp⟩
theorem lst_pen {H : Hp} {p q : Addr} {ns : Cells} {t : Int} {l : List Pl} (pen : PenAt H p ns t) (hq : H q = some (.lst (l.map fun x => .ref x.t))) : q ≠ p := fun z => by
  obtain ⟨g, hp, _⟩ := pen
  rw [z, hp] at hq
  injection hq with hq
  injection hq with hq
  cases l with
  | nil => cases hq
  | cons a l =>
    rw [List.map_cons] at hq
    have h2 := (List.cons.inj hq).2
    cases l with
    | nil => cases h2
    | cons b l =>
      rw [List.map_cons] at h2
      cases (List.cons.inj h2).1
theorem rv_inS {K : W.Frag} {H : Hp} {kn : Addr} {z : Str} {xs : List Str} (h : H kn = some (.lst (xs.map V.str))) : RV (rIn K false) (.str z) (.ref kn) H (.bl (decide (z ∈ xs))) := fun H1 e Q q => ⟨kn, _, rfl, .inl (sq_of (e _ _ h)), rfl, flat_strs _, by
  rw [if_neg (by decide), inV_strs]
  exact q H1 (Ex.refl _)⟩
theorem pen_cells {p q : Addr} {ns : Cells} {t : Int} (pen : PenAt H p ns t) (n : H q = none) : q ≠ ns.l := fun z => by
  obtain ⟨_, _, hp⟩ := pen
  rw [z, hp] at n
  cases n
section
variable {K : W.Frag} {σ : L2.St} {H : Hp} {te : TE}
theorem ev_neNilV {i : Nat} {p : Addr} {xs : List V} (hi : σ[i]? = some (some (.ref p))) (hp : H p = some (.lst xs)) : Ev (tOp (rNil K true) (tVar i) (tLst tNil)) σ H (.bl (!xs.isEmpty)) := fun H1 e Q q =>
  ⟨_, hi, (by show 0 ≤ sizeLine; decide), fun r nr => ⟨p, r, xs, rfl, rfl, sq_of (Ex.new nr _ _ (e _ _ hp)), sq_of upd_same, q _ (Ex.new nr)⟩⟩
theorem el_parts {te tl : TE} {t : TT} {q : Addr} {l : List Pl} {j : Nat} {vs : List Nat} (Pr : Pl → Bool) (g : Pl → V) (h : Ev tl σ H (.ref q)) (hq : H q = some (.lst (l.map fun x => .ref x.t))) (hz : l.length ≤ 14) (hw : ∀ x, wipe ((wipe σ vs).set j (some x)) vs = wipe σ vs)
    (ht : ∀ y ∈ l, ∀ H1, Ex H H1 → EvT t ((wipe σ vs).set j (some (.ref y.t))) H1 (Pr y)) (he : ∀ y ∈ l, ∀ H1, Ex H H1 → Ev te ((wipe σ vs).set j (some (.ref y.t))) H1 (g y)) : EvL (tLc (iList K tl) (gName j) t te vs) σ H ((l.filter Pr).map g) := by
  have pick : ∀ {i : Nat} {x : V}, (l.map fun x => V.ref x.t)[i]? = some x → ∃ y ∈ l, x = .ref y.t ∧ l.getD i ⟨0, 0, ⟨none, "", "", 0⟩⟩ = y := fun {i x} hx => by
    rw [List.getElem?_map] at hx
    cases e : l[i]? with
    | none => rw [e] at hx; cases hx
    | some y =>
      rw [e] at hx
      exact ⟨y, List.mem_of_getElem? e, (Option.some.inj hx).symm, by rw [List.getD_eq_getElem?_getD, e]; rfl⟩
  have w9 := el_lcL (K := K) (xs := l.map fun x => V.ref x.t) (fun i => Pr (l.getD i ⟨0, 0, ⟨none, "", "", 0⟩⟩)) (fun i => g (l.getD i ⟨0, 0, ⟨none, "", "", 0⟩⟩)) h (sq_of hq) (by rw [List.length_map]; omega) hw
    (fun i x H1 e1 hx => by
      obtain ⟨y, hy, rfl, ey⟩ := pick hx
      rw [ey]
      exact ht y hy H1 e1) (fun i x H1 e1 hx _ => by
      obtain ⟨y, hy, rfl, ey⟩ := pick hx
      rw [ey]
      exact he y hy H1 e1)
  rw [List.length_map, given_getD l ⟨0, 0, ⟨none, "", "", 0⟩⟩ Pr g] at w9
  exact w9
def rListO (K : W.Frag) : List V → Hp → VK → Prop := fun xs H Q => ∃ p ys, xs = [.ref p] ∧ (SqL K H p ys ∨ SqT K H p ys) ∧ ∀ q, H q = none → Q (.ref q) (upd H q (.lst ys))
theorem tcb_of' {r : List V → Hp → VK → Prop} {te : TE} {Q : VK} (h : te σ H (fun v H1 => r [v] H1 Q)) : tCB r (tCons te tNil) σ H Q := h
end
/-! ### parts as data -/
def restD : Option Int → PyData
  | some n => .int n
  | none => .none
abbrev sortD (k : Kd) : PyData := .tuple [.str k.le, .str k.lt, .bool k.tu, restD k.re]
def partD (p : Pt) : PyData := match p.kd with
  | some k => .tuple [.str "gate", .str p.nm, .str p.rl, .int p.ad, sortD k]
  | none => .tuple [.str "host", .str p.nm, .str p.rl, .int p.ad]
theorem rest_dp {K : W.Frag} {H : Hp} (r : Option Int) : Dp K H (optV r) (restD r) := by
  cases r with
  | none => exact .non
  | some n => exact .int n
theorem sort_dp {K : W.Frag} {H : Hp} {a : Addr} {k : Kd} (h : SAt H a k) : Dp K H (.ref a) (sortD k) := .tup (st_of h) (.cons (.str _) (.cons (.str _) (.cons (.bl _) (.cons (rest_dp _) .nil))))
theorem part_dp {K : W.Frag} {H : Hp} {x : Pl} (h : PrtS H x.t x.k x.p) : Dp K H (.ref x.t) (partD x.p) := by
  have ht := h.t
  unfold ptV at ht
  unfold partD
  cases hk : x.p.kd with
  | none =>
    rw [hk] at ht
    exact .tup (st_of ht) (.cons (.str _) (.cons (.str _) (.cons (.str _) (.cons (.int _) .nil))))
  | some k =>
    rw [hk] at ht
    exact .tup (st_of ht) (.cons (.str _) (.cons (.str _) (.cons (.str _) (.cons (.int _) (.cons (sort_dp (h.k k hk)) .nil)))))
theorem parts_dp {K : W.Frag} {H : Hp} : ∀ {l : List Pl}, (∀ x ∈ l, PrtS H x.t x.k x.p) → DpAll K H (l.map fun x => .ref x.t) (l.map fun x => partD x.p)
  | [], _ => .nil
  | x :: l, h => .cons (part_dp (h x List.mem_cons_self)) (parts_dp fun y hy => h y (List.mem_cons_of_mem _ hy))
/-- what of a part can be shown -/
def okS' (p : Pt) : Prop := PyData.strOk p.nm = true ∧ PyData.strOk p.rl = true ∧ p.kd.all Kd.ok = true
theorem word_ok {x : Str} (h : x ∈ (["both", "far", "one", "any"] : List Str)) : PyData.strOk x = true := by
  revert x
  decide +kernel
theorem kd_words {k : Kd} (h : k.ok = true) : PyData.strOk k.le = true ∧ PyData.strOk k.lt = true := by
  unfold Kd.ok at h
  simp only [Bool.and_eq_true] at h
  exact ⟨word_ok (by
    have := List.contains_iff_mem.mp h.1
    simp only [List.mem_cons, List.not_mem_nil, or_false] at this ⊢
    rcases this with z | z | z <;> simp [z]), word_ok (by
    have := List.contains_iff_mem.mp h.2.1
    simp only [List.mem_cons, List.not_mem_nil, or_false] at this ⊢
    rcases this with z | z | z <;> simp [z])⟩
theorem sort_lay {k : Kd} (h : k.ok = true) : PyData.canLay0 (sortD k) = true ∧ PyData.depth (sortD k) ≤ 1 := by
  obtain ⟨h1, h2⟩ := kd_words h
  cases hr : k.re <;> simp [sortD, restD, hr, PyData.canLay0, PyData.canLayAll0, PyData.depth, PyData.depthAll, h1, h2]
theorem part_lay {p : Pt} (h : okS' p) : PyData.canLay0 (partD p) = true ∧ PyData.depth (partD p) ≤ 2 := by
  obtain ⟨h1, h2, h3⟩ := h
  have g0 : PyData.strOk "gate" = true := by decide +kernel
  have h0 : PyData.strOk "host" = true := by decide +kernel
  unfold partD
  cases hk : p.kd with
  | none => simp [PyData.canLay0, PyData.canLayAll0, PyData.depth, PyData.depthAll, h0, h1, h2]
  | some k =>
    rw [hk] at h3
    obtain ⟨h4, h5⟩ := kd_words h3
    cases hr : k.re <;> simp [sortD, restD, hr, PyData.canLay0, PyData.canLayAll0, PyData.depth, PyData.depthAll, h1, h2, g0, h4, h5]
theorem part_shaped {p : Pt} (h : okS' p) : SeqAt.shaped (partD p) = true := by
  obtain ⟨h1, h2⟩ := part_lay h
  show (PyData.canLay0 (partD p) && decide (PyData.depth (partD p) ≤ 64)) = true
  rw [h1, decide_eq_true (Nat.le_trans h2 (by decide))]
  rfl
theorem parts_lay : ∀ {l : List Pl}, (∀ x ∈ l, okS' x.p) → PyData.canLayAll0 (l.map fun x => partD x.p) = true ∧ PyData.depthAll (l.map fun x => partD x.p) ≤ 2
  | [], _ => ⟨by simp [PyData.canLayAll0], by simp [PyData.depthAll]⟩
  | x :: l, h => by
    obtain ⟨h1, h2⟩ := parts_lay fun y hy => h y (List.mem_cons_of_mem _ hy)
    obtain ⟨h3, h4⟩ := part_lay (h x List.mem_cons_self)
    constructor
    · simp only [List.map_cons, PyData.canLayAll0, h1, h3, Bool.and_self]
    · simp only [List.map_cons, PyData.depthAll]
      exact Nat.max_le.mpr ⟨h4, h2⟩
theorem parts_shaped {l : List Pl} (h : ∀ x ∈ l, okS' x.p) : SeqAt.shaped (.list (l.map fun x => partD x.p)) = true := by
  obtain ⟨h1, h2⟩ := parts_lay h
  show (PyData.canLay0 (.list (l.map fun x => partD x.p)) && decide (PyData.depth (.list (l.map fun x => partD x.p)) ≤ 64)) = true
  have e : PyData.depth (.list (l.map fun x => partD x.p)) ≤ 64 := by
    simp only [PyData.depth]
    omega
  rw [decide_eq_true e]
  simp only [PyData.canLay0, h1, Bool.and_self]
theorem part_ne {p q : Pt} (h : p.nm ≠ q.nm) : PyData.eqv (partD p) (partD q) = false := by
  unfold partD
  cases p.kd <;> cases q.kd <;> simp [PyData.eqv, PyData.eqvAll, h]
theorem sort_self (k : Kd) : PyData.eqv (sortD k) (sortD k) = true := by
  cases hr : k.re <;> simp [sortD, restD, hr, PyData.eqv, PyData.eqvAll]
theorem part_self (p : Pt) : PyData.eqv (partD p) (partD p) = true := by
  unfold partD
  cases hk : p.kd with
  | none => simp [PyData.eqv, PyData.eqvAll]
  | some k => cases hr : k.re <;> simp [sortD, restD, hr, PyData.eqv, PyData.eqvAll]
theorem cons_erase {α : Type} : ∀ {l : List α} {j : Nat} (h : j < l.length), (l[j] :: l.eraseIdx j).Perm l
  | a :: l, 0, _ => List.Perm.refl _
  | a :: l, j + 1, h => (List.Perm.swap a _ _).trans ((cons_erase (l := l) (j := j) (Nat.lt_of_succ_lt_succ h)).cons a)
theorem okS_of {l : List Pl} (v : Vd (rsOf l)) (h : ∀ x ∈ l, PyData.strOk x.p.nm = true) : ∀ x ∈ l, okS' x.p := fun x hx => by
  refine ⟨h x hx, ?_, (v.okP x.p (mem_rs hx)).kd⟩
  rcases rl_ok v x.p (mem_rs hx) with z | z
  · rw [z]
    decide +kernel
  · obtain ⟨g, hg, e⟩ := hasG_iff.mp z
    obtain ⟨y, hy, e2⟩ := List.mem_map.mp (List.mem_reverse.mp (mem_gts.mp hg).1)
    rw [← e, ← e2]
    exact h y hy
/-! ### the same parts in another order that hangs together -/
def spMix : Sp := fun vs H Q _ => ∃ (p a : Addr) (l : List Pl) (ns : Cells) (t : Int), vs = [.ref p, .ref a] ∧ PenAt H p ns t ∧ ns.length ≤ 63 ∧ 0 ≤ t ∧ t ≤ 850000 ∧ H a = some (.lst (l.map fun x => .ref x.t)) ∧ (∀ x ∈ l, PrtS H x.t x.k x.p) ∧ Vd (rsOf l) ∧ (∀ x ∈ l, PyData.strOk x.p.nm = true) ∧
  ∀ (q : Addr) (m : List Pl) (u : Int) (H' : Hp), m.Perm l → Vd (rsOf m) → H' q = some (.lst (m.map fun x => .ref x.t)) → t ≤ u → u ≤ t + 14 → PenAt H' p ns u → But p H H' → Q (.ref q) H'
section
variable {P : Program} {w : World} {K : W.Frag} {mg : Str → Option Value} {base : Heap} {f C CK fT : Addr} {fd dT : FuncData} {mc : Value}
theorem prt_but {H H' : Hp} {p t ka : Addr} {x : Pt} {ns : Cells} {u : Int} (h : PrtS H t ka x) (pen : PenAt H p ns u) (b : But p H H') : PrtS H' t ka x := by
  obtain ⟨g, hp, _⟩ := pen
  exact ⟨b _ _ (ne_of_obj h.t hp fun w => by cases w) h.t, fun k z => b _ _ (ne_of_obj (h.k k z) hp fun w => by cases w) (h.k k z)⟩
theorem ok_lmixed (B : Bt mg) (D : Fn0 P w K mg base "_law_draw" 1 fT dT p_law_draw spTake) (F : FnP K "_law_mixed" s_law_mixed f fd) : FnOk P w K mg base CX0 3 f fd p_law_mixed spMix := by
  refine F.ok sc_law_mixed (fun vs H Q E h => ?_) (fun cdv A outer s H vs Q E hr h => ?_)
  · obtain ⟨p, a, l, ns, t, rfl, _⟩ := h
    rfl
  · obtain ⟨p, a, l, ns, t, rfl, pen, hn, t0, t1, hA, hP, vd, hS, k⟩ := h
    have nd := sc_law_mixed.nd
    have hu0 := Nat.lt_of_le_of_lt (Nat.le_add_right _ _) hr.units
    have hu65 : (A.deeper (envOfC "_law_mixed" (defScope s_law_mixed) s.heap.objs.size f cdv)).units + 65 < cLine := by
      have z : (A.deeper (envOfC "_law_mixed" (defScope s_law_mixed) s.heap.objs.size f cdv)).units + 1 + 64 < cLine := (hr.mono (show 1 ≤ 2 by decide)).in1.units
      omega
    refine ⟨_, PSs.nox (pss_cons (ps_asg (pe_tup (pa_cons (pe_callTy (r := rListO K) call_list_of (by rfl) B.list (by decide +kernel) (pa_cons (pv 1) pa_nil)) (pa_cons (pe_lst (pa_cons pe_str pa_nil)) (pa_cons (pe_lst pa_nil) pa_nil)))) (pg_tup rfl (pgs_cons (pg_name (i := 2) nd rfl (Or.inl rfl)) (pgs_cons (pg_name (i := 3) nd rfl (Or.inr rfl)) (pgs_cons (pg_name (i := 4) nd rfl (Or.inl rfl)) pgs_nil)))))
      (pss_cons (ps_while PassesOwn.never (pt_cmpR (op_neNil hu0) (pv 2) (pe_lst pa_nil) (nomark _))
        (pss_cons (ps_setLc (i := 5) (own := [("_law_part", 6)]) (g := gName 6) (tt := tTest (tOp (rIn K false) (tOp (rIxT K) (tVar 6) (tC (.int 2))) (tVar 3))) (te := tVar 6) (by rfl) nd rfl rfl (sw_true rfl rfl rfl (by decide +kernel)) (pi_list (pv 2)) (blkOk_by (N := n_law_mixed) (sc := defScope s_law_mixed) (by decide +kernel)) (fun _ _ _ _ _ => pg_name (i := 6) nd rfl (Or.inl rfl))
          (fun _ _ _ _ _ => pts_one (pt_cmpR op_in_seq (pe_ix ix_tup (pv 6) pe_int (fun _ _ => rfl)) (pv 3) rfl)) (fun _ _ _ _ _ => pv 6))
        (pss_cons (ps_set (i := 6) nd rfl (Or.inl rfl) (pe_ix ix_list (pv 5) (pe_call D.ok (hr.mono (by decide)) (by rfl) D.m D.k D.b .nil pass0 (pa_cons (pv 0) (pa_cons (pe_callB call_len_seq (by rfl) B.len (by decide +kernel) (pa_cons (pv 5) pa_nil)) pa_nil))) (fun _ _ => rfl)))
        (pss_cons (ps_expr (pe_bm PySem.F.plainAttrs_list PySem.F.slot_list_remove PySem.F.type_list_remove (mt_removeD hu65) (pv 2) (pa_cons (pv 6) pa_nil)))
        (pss_cons (ps_expr (pe_bm PySem.F.plainAttrs_list PySem.F.slot_list_append PySem.F.type_list_append mt_append (pv 4) (pa_cons (pv 6) pa_nil)))
        (pss_one (ps_expr (pe_bm PySem.F.plainAttrs_list PySem.F.slot_list_append PySem.F.type_list_append mt_append (pv 3) (pa_cons (pe_ix ix_tup (pv 6) pe_int (fun _ _ => rfl)) pa_nil)))))))))
      (pss_one (ps_ret (pv 4))))), ?_⟩
    have l14 : l.length ≤ 14 := by
      have z := len14 vd
      unfold rsOf at z
      rw [List.length_reverse, List.length_map] at z
      exact z
    -- the three lists
    refine ⟨_, rfl, a, _, rfl, .inl (sq_of hA), fun lf nlf => ⟨(by show 1 ≤ sizeLine; decide), fun kn nkn => ⟨(by show 0 ≤ sizeLine; decide), fun fo nfo => ⟨(by show 3 ≤ sizeLine; decide), fun tq ntq => ?_⟩⟩⟩⟩
    have e1 := Ex.new (o := .lst (l.map fun x => V.ref x.t)) nlf
    have e2 := Ex.new (o := .lst [V.str ""]) nkn
    have e3 := Ex.new (o := .lst []) nfo
    have e4 := Ex.new (o := .tup [V.ref lf, .ref kn, .ref fo]) ntq
    have hlf : (upd H lf (.lst (l.map fun x => V.ref x.t))) lf = some (.lst (l.map fun x => V.ref x.t)) := upd_same
    have hkn : (upd (upd H lf (.lst (l.map fun x => V.ref x.t))) kn (.lst [V.str ""])) kn = some (.lst [V.str ""]) := upd_same
    have hfo : (upd (upd (upd H lf (.lst (l.map fun x => V.ref x.t))) kn (.lst [V.str ""])) fo (.lst [])) fo = some (.lst []) := upd_same
    have htq : (upd (upd (upd (upd H lf (.lst (l.map fun x => V.ref x.t))) kn (.lst [V.str ""])) fo (.lst [])) tq (.tup [V.ref lf, .ref kn, .ref fo])) tq = some (.tup [V.ref lf, .ref kn, .ref fo]) := upd_same
    refine ⟨tq, [V.ref lf, .ref kn, .ref fo], rfl, st_of htq, rfl, _, _, rfl, _, _, rfl, _, _, rfl, rfl, ?_⟩
    generalize upd H lf (.lst (l.map fun x => V.ref x.t)) = H1 at *
    generalize upd H1 kn (.lst [V.str ""]) = H2 at *
    generalize upd H2 fo (.lst []) = H3 at *
    generalize upd H3 tq (.tup [V.ref lf, .ref kn, .ref fo]) = H4 at *
    try dsimp only [gName, List.set, start]
    have e04 := ((e1.trans e2).trans e3).trans e4
    have pen4 := pen_mono e04 pen
    have nkn0 : H kn = none := fresh_back e1 nkn
    have nfo0 : H fo = none := fresh_back (e1.trans e2) nfo
    have plf := pen_fresh pen nlf
    have pkn := pen_fresh pen nkn0
    have pfo := pen_fresh pen nfo0
    have clf := pen_cells pen nlf
    have ckn := pen_cells pen nkn0
    have cfo := pen_cells pen nfo0
    have nlk : lf ≠ kn := ne_of_none hlf nkn
    have nlo : lf ≠ fo := ne_of_none (e2 _ _ hlf) nfo
    have nko : kn ≠ fo := ne_of_none hkn nfo
    have hlf4 := e4 _ _ (e3 _ _ (e2 _ _ hlf))
    have hkn4 := e4 _ _ (e3 _ _ hkn)
    have hfo4 := e4 _ _ hfo
    refine q_while (fun m σ' H' => ∃ (L F : List Pl) (u : Int) (z5 z6 : Option V), m = L.length ∧ σ' = [some (.ref p), some (.ref a), some (.ref lf), some (.ref kn), some (.ref fo), z5, z6] ∧ H' lf = some (.lst (L.map fun x => .ref x.t)) ∧ H' kn = some (.lst ((("" : Str) :: F.map fun y => y.p.nm).map V.str)) ∧ H' fo = some (.lst (F.map fun x => .ref x.t)) ∧ (F ++ L).Perm l ∧ Vd (rsOf F) ∧ t ≤ u ∧ u ≤ t + (F.length : Int) ∧ PenAt H' p ns u ∧ But p H H') _
      ⟨l, [], t, _, _, rfl, rfl, hlf4, hkn4, hfo4, List.Perm.refl _, trivial, Int.le_refl _, by simp, pen4, but_ex e04⟩ (fun m σ' H4 hh => ?_)
    obtain ⟨L, F', u, z5, z6, rfl, rfl, hL, hK, hF, pm, vF, u0, u1, pen4, but4⟩ := hh
    have subL : ∀ x ∈ L, x ∈ l := fun x hx => pm.subset (List.mem_append_right _ hx)
    have subF : ∀ x ∈ F', x ∈ l := fun x hx => pm.subset (List.mem_append_left _ hx)
    have lnp := pm.length_eq
    rw [List.length_append] at lnp
    have ptA : ∀ {Hx : Hp}, But p H Hx → ∀ x ∈ l, PrtS Hx x.t x.k x.p := fun b x hx => prt_but (hP x hx) pen b
    have ndL : (L.map fun y => y.p.nm).Nodup := by
      have z := Vd.nodup vd
      unfold rsOf at z
      rw [List.map_reverse, List.map_map] at z
      have z2 := (pm.map fun y : Pl => y.p.nm).nodup_iff.mpr ((List.reverse_perm _).nodup_iff.mp z)
      rw [List.map_append] at z2
      exact (List.nodup_append.mp z2).2.1
    refine ⟨!(L.map fun x => V.ref x.t).isEmpty, et_test (ev_neNilV rfl hL), fun hb H5 e5 => ?_, fun hb H5 e5 => ?_⟩
    · have hLne : L ≠ [] := fun w => by rw [w] at hb; cases hb
      obtain ⟨x0, hx0⟩ : ∃ x, x ∈ L := List.exists_mem_of_ne_nil _ hLne
      obtain ⟨y0, hy0, hyk⟩ := next_ex vd pm _ x0 hx0 rfl
      have hL5 := e5 _ _ hL
      have hK5 := e5 _ _ hK
      have hF5 := e5 _ _ hF
      have b5 := but4.trans (but_ex (p := p) e5)
      refine ⟨fun σ2 H2' => ∃ (m' : Nat), m' < L.length ∧ ∃ (L F : List Pl) (u : Int) (z5 z6 : Option V), m' = L.length ∧ σ2 = [some (.ref p), some (.ref a), some (.ref lf), some (.ref kn), some (.ref fo), z5, z6] ∧ H2' lf = some (.lst (L.map fun x => .ref x.t)) ∧ H2' kn = some (.lst ((("" : Str) :: F.map fun y => y.p.nm).map V.str)) ∧ H2' fo = some (.lst (F.map fun x => .ref x.t)) ∧ (F ++ L).Perm l ∧ Vd (rsOf F) ∧ t ≤ u ∧ u ≤ t + (F.length : Int) ∧ PenAt H2' p ns u ∧ But p H H2', fun σ2 H2' h => h, ?_⟩
      -- those that can come
      have key2 : EvL (tLc (iList K (tVar 2)) (gName 6) (tTest (tOp (rIn K false) (tOp (rIxT K) (tVar 6) (tC (.int 2))) (tVar 3))) (tVar 6) [6]) [some (.ref p), some (.ref a), some (.ref lf), some (.ref kn), some (.ref fo), z5, z6] H5 ((L.filter fun y : Pl => decide (y.p.rl ∈ ("" : Str) :: F'.map fun y => y.p.nm)).map fun x => V.ref x.t) :=
        el_parts (K := K) (j := 6) (vs := [6]) (l := L) (fun y => decide (y.p.rl ∈ ("" : Str) :: F'.map fun y => y.p.nm)) (fun x => V.ref x.t) (ev_var rfl) hL5 (by omega) (fun _ => rfl)
          (fun y hy Ha ea => et_test (ev_op (ev_ptS rfl ((ptA b5 y (subL y hy)).mono ea) at_rl) (ev_var rfl) (rv_inS (ea _ _ hK5)))) (fun y hy Ha ea => ev_var rfl)
      refine q_asgL (xs := (L.filter fun y : Pl => decide (y.p.rl ∈ ("" : Str) :: F'.map fun y => y.p.nm)).map fun x => V.ref x.t) (by exact key2) fun sm H7 nsm e7 hsm => ?_
      try dsimp only [gName, List.set]
      generalize hS2 : (L.filter fun y : Pl => decide (y.p.rl ∈ ("" : Str) :: F'.map fun y => y.p.nm)) = S at hsm
      have hyS : y0 ∈ S := by
        rw [← hS2]
        refine List.mem_filter.mpr ⟨hy0, decide_eq_true ?_⟩
        rcases hyk with w | w
        · rw [w]; exact List.mem_cons_self
        · exact List.mem_cons_of_mem _ w
      have S1 : 1 ≤ S.length := List.length_pos_of_mem hyS
      have S14 : S.length ≤ 14 := by
        have := List.length_filter_le (fun y : Pl => decide (y.p.rl ∈ ("" : Str) :: F'.map fun y => y.p.nm)) L
        rw [hS2] at this
        omega
      have e57 := e5.trans e7
      have pen7 := pen_mono e57 pen4
      have smp : sm ≠ p := pen_fresh (pen_mono e5 pen4) nsm
      -- one of them
      refine q_asgR (rd_op (rd_var rfl (c_draw (m := (S.length : Int)) rfl (ev_is (ev_len (K := K) (ev_var rfl) (sq_of hsm)) (by rw [List.length_map])) pen7 hn (by omega) (by omega) (by omega) (by omega) fun d0 u' H8 d00 d01 v0 v1 pen8 b8 => ?_)))
      obtain ⟨x, hxS, at1⟩ := ix_drawn (f := fun x : Pl => V.ref x.t) (zs := S) d00 (by rw [List.length_map]; omega)
      refine ⟨sm, _, d0, .ref x.t, rfl, rfl, sq_of (b8 _ _ smp hsm), at1, ?_⟩
      try dsimp only [gName, List.set]
      have hx : x ∈ L ∧ (x.p.rl = "" ∨ x.p.rl ∈ F'.map fun y => y.p.nm) := by
        rw [← hS2] at hxS
        obtain ⟨m1, m2⟩ := List.mem_filter.mp hxS
        exact ⟨m1, List.mem_cons.mp (of_decide_eq_true m2)⟩
      have hL8 := b8 _ _ plf (e57 _ _ hL)
      have hK8 := b8 _ _ pkn (e57 _ _ hK)
      have hF8 := b8 _ _ pfo (e57 _ _ hF)
      have b48 : But p H H8 := (but4.trans (but_ex (p := p) e57)).trans b8
      have okl := okS_of vd hS
      obtain ⟨j, hj, ej⟩ := List.getElem_of_mem hx.1
      have prL : (x :: L.eraseIdx j).Perm L := by
        have z := cons_erase hj
        rw [ej] at z
        exact z
      -- taken away
      refine ⟨_, rfl, Or.inl ⟨rfl, _, sq_of hL8⟩, _, rfl, lf, L.map (fun x => V.ref x.t), .ref x.t, partD x.p, L.map (fun x => partD x.p), j, partD x.p, rfl, rfl, hL8, parts_dp (fun y hy => ptA b48 y (subL y hy)), part_dp (ptA b48 x (subL x hx.1)), parts_shaped (fun y hy => okl y (subL y hy)), part_shaped (okl x (subL x hx.1)), by rw [List.getElem?_map, List.getElem?_eq_getElem hj, ej]; rfl, part_self _, fun m z' hm hz' => ?_, ?_⟩
      · rw [List.getElem?_map] at hz'
        have hm2 : m < L.length := by omega
        rw [List.getElem?_eq_getElem hm2] at hz'
        obtain rfl : partD L[m].p = z' := Option.some.inj hz'
        refine part_ne fun e => ?_
        have n1 : (L.map fun y => y.p.nm)[m]'(by rw [List.length_map]; exact hm2) = (L.map fun y => y.p.nm)[j]'(by rw [List.length_map]; exact hj) := by
          rw [List.getElem_map, List.getElem_map, ej]
          exact e
        have := (List.getElem_inj ndL).mp n1
        omega
      try dsimp only [gName, List.set]
      rw [show (L.map fun x => V.ref x.t).eraseIdx j = (L.eraseIdx j).map fun x => V.ref x.t from (map_erase' _ _ _).symm]
      have hF9 : (upd H8 lf (.lst ((L.eraseIdx j).map fun x => V.ref x.t))) fo = some (.lst (F'.map fun x => V.ref x.t)) := (upd_ne nlo.symm).trans hF8
      have hK9 : (upd H8 lf (.lst ((L.eraseIdx j).map fun x => V.ref x.t))) kn = some (.lst ((("" : Str) :: F'.map fun y => y.p.nm).map V.str)) := (upd_ne nlk.symm).trans hK8
      have hL9 : (upd H8 lf (.lst ((L.eraseIdx j).map fun x => V.ref x.t))) lf = some (.lst ((L.eraseIdx j).map fun x => V.ref x.t)) := upd_same
      have pen9 := (show PenAt (upd H8 lf (.lst ((L.eraseIdx j).map fun x => V.ref x.t))) p ns u' from by
        obtain ⟨gg, y1, y2⟩ := pen8
        exact ⟨gg, (upd_ne plf.symm).trans y1, (upd_ne clf.symm).trans y2⟩)
      have b9 : But p H (upd H8 lf (.lst ((L.eraseIdx j).map fun x => V.ref x.t))) := fun c o hc ho => (upd_ne (ne_of_none ho nlf)).trans (b48 c o hc ho)
      generalize upd H8 lf (.lst ((L.eraseIdx j).map fun x => V.ref x.t)) = H9 at *
      -- taken over
      refine q_app (xs := F'.map fun x => V.ref x.t) hF9 (ev_var rfl) (ev_var rfl) (by rw [List.length_map]; omega) fun Ha ea => ?_
      have hF10 : (upd Ha fo (.lst ((F'.map fun x => V.ref x.t) ++ [.ref x.t]))) fo = some (.lst ((F' ++ [x]).map fun x => V.ref x.t)) := by rw [upd_same, List.map_append]; rfl
      have hL10 : (upd Ha fo (.lst ((F'.map fun x => V.ref x.t) ++ [.ref x.t]))) lf = some (.lst ((L.eraseIdx j).map fun x => V.ref x.t)) := (upd_ne nlo).trans (ea _ _ hL9)
      have hK10 : (upd Ha fo (.lst ((F'.map fun x => V.ref x.t) ++ [.ref x.t]))) kn = some (.lst ((("" : Str) :: F'.map fun y => y.p.nm).map V.str)) := (upd_ne nko).trans (ea _ _ hK9)
      have b10 : But p H (upd Ha fo (.lst ((F'.map fun x => V.ref x.t) ++ [.ref x.t]))) := fun c o hc ho => (upd_ne (ne_of_none ho nfo0)).trans (ea _ _ (b9 c o hc ho))
      have pen10 := (show PenAt (upd Ha fo (.lst ((F'.map fun x => V.ref x.t) ++ [.ref x.t]))) p ns u' from by
        obtain ⟨gg, y1, y2⟩ := pen_mono ea pen9
        exact ⟨gg, (upd_ne pfo.symm).trans y1, (upd_ne cfo.symm).trans y2⟩)
      generalize upd Ha fo (.lst ((F'.map fun x => V.ref x.t) ++ [.ref x.t])) = Hb at *
      -- its name
      refine s_app (xs := (("" : Str) :: F'.map fun y => y.p.nm).map V.str) (v := .str x.p.nm) hK10 (ev_var rfl) (ev_ptS rfl (ptA b10 x (subL x hx.1)) at_nm) (by rw [List.length_map, List.length_cons, List.length_map]; omega) fun Hc ec => ?_
      have lL := prL.length_eq
      rw [List.length_cons] at lL
      refine ⟨_, (by omega), L.eraseIdx j, F' ++ [x], u', _, _, rfl, rfl, (upd_ne nlk).trans (ec _ _ hL10), ?_, (upd_ne nko.symm).trans (ec _ _ hF10), ?_, ?_, by omega, ?_, ?_, ?_⟩
      · rw [upd_same, List.map_append, ← List.cons_append, List.map_append]
        rfl
      · rw [List.append_assoc]
        exact ((List.Perm.refl F').append prL).trans pm
      · rw [rs_snoc]
        exact ⟨vF, okA_any vd vF pm hx.1 hx.2⟩
      · rw [List.length_append]
        show u' ≤ t + ((F'.length + 1 : Nat) : Int)
        push_cast
        omega
      · obtain ⟨gg, y1, y2⟩ := pen_mono ec pen10
        exact ⟨gg, (upd_ne pkn.symm).trans y1, (upd_ne ckn.symm).trans y2⟩
      · exact fun c o hc ho => (upd_ne (ne_of_none ho nkn0)).trans (ec _ _ (b10 c o hc ho))
    · have hL0 : L = [] := by
        rw [Bool.not_eq_false', List.isEmpty_iff, List.map_eq_nil_iff] at hb
        exact hb
      rw [hL0, List.append_nil] at pm
      rw [hL0] at lnp
      refine s_ret (v := .ref fo) (ev_var rfl) fun H6 e6 => ?_
      have e46 := e5.trans e6
      exact k fo F' u H6 pm vF (e46 _ _ hF) u0 (by have : F'.length ≤ 14 := by { simp at lnp; omega }; omega) (pen_mono e46 pen4) (but4.trans (but_ex (p := p) e46))
end
end L2.Mj
set_option maxRecDepth 100000
set_option maxHeartbeats 8000000
namespace L2.Mj
open PySem PySem.Spec PyProof.Rows L2 Mx L2.Mb Evl Mv TL LamX Sr Srt SrtO NdefX
/-! ### a gate joined with the one around it: the parts still hang together -/
def jn (g w : Str) (k : Kd) (p : Pt) : Pt := if p.nm = w then ⟨some k, g, p.rl, p.ad⟩ else p
def joinR (g w : Str) (k : Kd) (rs : List Pt) : List Pt := (rs.filter fun p => !decide (p.nm = g)).map (jn g w k)
theorem jn_rl (g w : Str) (k : Kd) (p : Pt) : (jn g w k p).rl = p.rl ∧ (jn g w k p).ad = p.ad := by
  unfold jn
  split <;> exact ⟨rfl, rfl⟩
theorem joinR_skip {g w : Str} {k : Kd} {p : Pt} {rs : List Pt} (h : p.nm = g) : joinR g w k (p :: rs) = joinR g w k rs := by
  unfold joinR
  rw [List.filter_cons, if_neg (by rw [decide_eq_true h]; decide)]
theorem joinR_cons {g w : Str} {k : Kd} {p : Pt} {rs : List Pt} (h : p.nm ≠ g) : joinR g w k (p :: rs) = jn g w k p :: joinR g w k rs := by
  unfold joinR
  rw [List.filter_cons, if_pos (by rw [decide_eq_false h]; rfl)]
  rfl
theorem joinR_mem {g w : Str} {k : Kd} {rs : List Pt} {q : Pt} (h : q ∈ joinR g w k rs) : ∃ p ∈ rs, q = jn g w k p ∧ p.nm ≠ g := by
  obtain ⟨p, hp, e⟩ := List.mem_map.mp h
  obtain ⟨h1, h2⟩ := List.mem_filter.mp hp
  exact ⟨p, h1, e.symm, by simpa using h2⟩
structure JnS (g w : Str) (rs rs' : List Pt) : Prop where
  vd : Vd rs'
  up : ∀ r : Str, r ≠ g → r ≠ w → (r = "" ∨ hasG rs r = true) → (r = "" ∨ hasG rs' r = true) ∧ (chn rs' r).length ≤ (chn rs r).length
  at_ : hasG rs w = true → hasG rs' g = true ∧ (chn rs' g).length ≤ (chn rs w).length
  cg : (gts rs').length ≤ (gts rs).length
  ch : rs'.length - (gts rs').length ≤ rs.length - (gts rs).length
theorem gts_le' (rs : List Pt) : (gts rs).length ≤ rs.length := List.length_filter_le _ _
theorem join_ok {g w : Str} {k : Kd} (hgw : g ≠ w) (hw0 : w ≠ "") (hg0 : g ≠ "") (okg : okW g = true) (okk : k.ok = true) : ∀ {rs : List Pt}, Vd rs → (∀ p ∈ rs, p.rl = w → p.nm = g) → (∀ p ∈ rs, p.nm = g → p.isG = true ∧ p.rl = w) → (∀ p ∈ rs, p.nm = w → p.isG = true) → JnS g w rs (joinR g w k rs)
  | [], _, _, _, _ => ⟨trivial, (fun r _ _ h => by
      rcases h with h | h
      · exact ⟨.inl h, Nat.le_refl _⟩
      · cases h), (fun h => by cases h), Nat.le_refl _, Nat.le_refl _⟩
  | p :: rs, v, h1, h2, h3 => by
    have ih := join_ok hgw hw0 hg0 okg okk v.tail (fun q hq => h1 q (List.mem_cons_of_mem _ hq)) (fun q hq => h2 q (List.mem_cons_of_mem _ hq)) (fun q hq => h3 q (List.mem_cons_of_mem _ hq))
    have o := v.head
    have nn := newN_iff.mp o.nn
    by_cases eg : p.nm = g
    · -- the inner one goes
      rw [show joinR g w k (p :: rs) = joinR g w k rs from joinR_skip eg]
      obtain ⟨pg, pr⟩ := h2 p List.mem_cons_self eg
      have hG : ∀ r : Str, r ≠ g → hasG (p :: rs) r = true → hasG rs r = true := fun r hr h => by
        obtain ⟨q, hq, e⟩ := hasG_iff.mp h
        obtain ⟨q1, q2⟩ := mem_gts.mp hq
        rcases List.mem_cons.mp q1 with z | z
        · exact absurd (e.symm.trans (by rw [z, eg])) hr
        · exact hasG_iff.mpr ⟨q, mem_gts.mpr ⟨z, q2⟩, e⟩
      have hc : ∀ r : Str, r ≠ g → chn (p :: rs) r = chn rs r := fun r hr => chn_ne fun z => hr (z.symm.trans eg)
      refine ⟨ih.vd, fun r r1 r2 h => ?_, fun h => ?_, Nat.le_trans ih.cg ?_, Nat.le_trans ih.ch ?_⟩
      · rw [hc r r1]
        exact ih.up r r1 r2 (h.imp id (hG r r1))
      · rw [hc w hgw.symm]
        exact ih.at_ (hG w hgw.symm h)
      · rw [gts_cons, if_pos pg, List.length_cons]
        omega
      · rw [gts_cons, if_pos pg, List.length_cons, List.length_cons]
        omega
    · rw [show joinR g w k (p :: rs) = jn g w k p :: joinR g w k rs from joinR_cons eg]
      have nrl : p.rl ≠ w := fun z => eg (h1 p List.mem_cons_self z)
      -- where it stands
      have stand : (p.rl = "" ∨ hasG (joinR g w k rs) p.rl = true) ∧ (chn (joinR g w k rs) p.rl).length ≤ (chn rs p.rl).length := by
        by_cases e : p.rl = g
        · rcases o.rl with z | z
          · exact absurd (e.symm.trans z) hg0
          · rw [e] at z ⊢
            obtain ⟨q, hq, e2⟩ := hasG_iff.mp z
            obtain ⟨q1, q2⟩ := mem_gts.mp hq
            have qr := (h2 q (List.mem_cons_of_mem _ q1) e2).2
            have hw : hasG rs w = true := by
              rcases rl_ok v.tail q q1 with y | y
              · exact absurd (qr.symm.trans y) hw0
              · rw [qr] at y
                exact y
            obtain ⟨a1, a2⟩ := ih.at_ hw
            have c := chn_gate v.tail hq
            rw [e2, qr] at c
            refine ⟨.inr a1, Nat.le_trans a2 ?_⟩
            rw [c, List.length_cons]
            omega
        · exact ih.up p.rl e nrl o.rl
      have na : newA (joinR g w k rs) p.rl p.ad = true := newA_iff.mpr fun q hq z => by
        obtain ⟨q0, m0, e, _⟩ := joinR_mem hq
        obtain ⟨e1, e2⟩ := jn_rl g w k q0
        rw [e, e1, e2] at z
        exact newA_iff.mp o.na q0 m0 z
      have h3' : (decide (p.rl = "") || hasG (joinR g w k rs) p.rl) = true := by
        rcases stand.1 with z | z
        · rw [decide_eq_true z]; rfl
        · rw [z, Bool.or_true]
      have op := okP_of o.ok
      have ro := o.rm
      unfold room at ro
      by_cases ew : p.nm = w
      · -- the outer one takes the name and the kind
        have ej : jn g w k p = ⟨some k, g, p.rl, p.ad⟩ := by unfold jn; rw [if_pos ew]
        have pg := h3 p List.mem_cons_self ew
        rw [if_pos pg] at ro
        obtain ⟨r1, r2⟩ := ba2 ro
        have r1 := of_decide_eq_true r1
        have r2 := of_decide_eq_true r2
        have hN : newN (joinR g w k rs) g = true := newN_iff.mpr fun q hq z => by
          obtain ⟨q0, m0, e, n0⟩ := joinR_mem hq
          rw [e] at z
          unfold jn at z
          split at z
          · rename_i ez
            exact nn q0 m0 (ez.trans ew.symm)
          · exact n0 z
        have okq : okA (joinR g w k rs) ⟨some k, g, p.rl, p.ad⟩ = true := by
          have ok1 : okP ⟨some k, g, p.rl, p.ad⟩ = true := okP_back ⟨okg, op.rl, op.a0, op.a1, okk⟩
          have rm : room (joinR g w k rs) ⟨some k, g, p.rl, p.ad⟩ = true := by
            unfold room
            rw [if_pos (show ((⟨some k, g, p.rl, p.ad⟩ : Pt).isG = true) from rfl)]
            have s2 := stand.2
            have s3 := ih.cg
            show (decide ((chn (joinR g w k rs) p.rl).length < 3) && decide ((gts (joinR g w k rs)).length < 6)) = true
            rw [decide_eq_true (by omega), decide_eq_true (by omega)]
            rfl
          unfold okA
          rw [ok1, h3', hN, na, rm]
          rfl
        rw [ej]
        have pgc : ∀ r : Str, r ≠ g → chn (⟨some k, g, p.rl, p.ad⟩ :: joinR g w k rs) r = chn (joinR g w k rs) r := fun r hr => chn_ne fun z => hr z.symm
        have pwc : ∀ r : Str, r ≠ w → chn (p :: rs) r = chn rs r := fun r hr => chn_ne fun z => hr (z.symm.trans ew)
        refine ⟨⟨ih.vd, okq⟩, fun r r1' r2' h => ?_, fun _ => ⟨hasG_iff.mpr ⟨⟨some k, g, p.rl, p.ad⟩, mem_gts.mpr ⟨List.mem_cons_self, rfl⟩, rfl⟩, ?_⟩, ?_, ?_⟩
        · rw [pgc r r1', pwc r r2']
          have h' : r = "" ∨ hasG rs r = true := by
            rcases h with z | z
            · exact .inl z
            · obtain ⟨q, hq, e⟩ := hasG_iff.mp z
              obtain ⟨q1, q2⟩ := mem_gts.mp hq
              rcases List.mem_cons.mp q1 with y | y
              · exact absurd (e.symm.trans (by rw [y, ew])) r2'
              · exact .inr (hasG_iff.mpr ⟨q, mem_gts.mpr ⟨y, q2⟩, e⟩)
          obtain ⟨a, b⟩ := ih.up r r1' r2' h'
          exact ⟨a.imp id fun z => hasG_up z, b⟩
        · have c1 : chn (⟨some k, g, p.rl, p.ad⟩ :: joinR g w k rs) g = g :: chn (joinR g w k rs) p.rl := chn_self (p := ⟨some k, g, p.rl, p.ad⟩) rfl
          have c2 : chn (p :: rs) w = w :: chn rs p.rl := by
            have z := chn_self (rs := rs) pg
            rw [ew] at z
            exact z
          rw [c1, c2, List.length_cons, List.length_cons]
          have := stand.2
          omega
        · rw [gts_cons, if_pos (show ((⟨some k, g, p.rl, p.ad⟩ : Pt).isG = true) from rfl), gts_cons, if_pos pg, List.length_cons, List.length_cons]
          have := ih.cg
          omega
        · rw [gts_cons, if_pos (show ((⟨some k, g, p.rl, p.ad⟩ : Pt).isG = true) from rfl), gts_cons, if_pos pg, List.length_cons, List.length_cons, List.length_cons, List.length_cons]
          have := ih.ch
          have := gts_le' rs
          have := gts_le' (joinR g w k rs)
          omega
      · have ej : jn g w k p = p := by unfold jn; rw [if_neg ew]
        have hN : newN (joinR g w k rs) p.nm = true := newN_iff.mpr fun q hq z => by
          obtain ⟨q0, m0, e, n0⟩ := joinR_mem hq
          rw [e] at z
          unfold jn at z
          split at z
          · exact eg z.symm
          · exact nn q0 m0 z
        have okq : okA (joinR g w k rs) p = true := by
          have rm : room (joinR g w k rs) p = true := by
            unfold room
            have s2 := stand.2
            have s3 := ih.cg
            have s4 := ih.ch
            split
            · rename_i hp
              rw [if_pos hp] at ro
              obtain ⟨r1, r2⟩ := ba2 ro
              have r1 := of_decide_eq_true r1
              have r2 := of_decide_eq_true r2
              rw [decide_eq_true (show (chn (joinR g w k rs) p.rl).length < 3 by omega), decide_eq_true (show (gts (joinR g w k rs)).length < 6 by omega)]
              rfl
            · rename_i hp
              rw [if_neg hp] at ro
              have := of_decide_eq_true ro
              exact decide_eq_true (by omega)
          unfold okA
          rw [o.ok, h3', hN, na, rm]
          rfl
        rw [ej]
        refine ⟨⟨ih.vd, okq⟩, fun r r1' r2' h => ?_, fun h => ?_, ?_, ?_⟩
        · by_cases hp : p.isG = true ∧ p.nm = r
          · obtain ⟨p1, p2⟩ := hp
            subst p2
            rw [chn_self p1, chn_self p1, List.length_cons, List.length_cons]
            have := stand.2
            exact ⟨.inr (hasG_iff.mpr ⟨p, mem_gts.mpr ⟨List.mem_cons_self, p1⟩, rfl⟩), by omega⟩
          · have h' : r = "" ∨ hasG rs r = true := by
              rcases h with z | z
              · exact .inl z
              · obtain ⟨q, hq, e⟩ := hasG_iff.mp z
                obtain ⟨q1, q2⟩ := mem_gts.mp hq
                rcases List.mem_cons.mp q1 with y | y
                · exact absurd ⟨by rw [← y]; exact q2, by rw [← y]; exact e⟩ hp
                · exact .inr (hasG_iff.mpr ⟨q, mem_gts.mpr ⟨y, q2⟩, e⟩)
            obtain ⟨a, b⟩ := ih.up r r1' r2' h'
            have c1 : chn (p :: joinR g w k rs) r = chn (joinR g w k rs) r := by
              show (if p.isG = true ∧ p.nm = r then r :: chn (joinR g w k rs) p.rl else chn (joinR g w k rs) r) = _
              rw [if_neg hp]
            have c2 : chn (p :: rs) r = chn rs r := by
              show (if p.isG = true ∧ p.nm = r then r :: chn rs p.rl else chn rs r) = _
              rw [if_neg hp]
            rw [c1, c2]
            exact ⟨a.imp id fun z => hasG_up z, b⟩
        · have hw : hasG rs w = true := by
            obtain ⟨q, hq, e⟩ := hasG_iff.mp h
            obtain ⟨q1, q2⟩ := mem_gts.mp hq
            rcases List.mem_cons.mp q1 with y | y
            · exact absurd (by rw [← y]; exact e) ew
            · exact hasG_iff.mpr ⟨q, mem_gts.mpr ⟨y, q2⟩, e⟩
          obtain ⟨a, b⟩ := ih.at_ hw
          rw [chn_ne eg, chn_ne ew]
          exact ⟨hasG_up a, b⟩
        · have := ih.cg
          rw [gts_cons, gts_cons]
          split
          · rw [List.length_cons, List.length_cons]; omega
          · exact this
        · have := ih.ch
          have := gts_le' rs
          have := gts_le' (joinR g w k rs)
          rw [gts_cons, gts_cons]
          split
          · rw [List.length_cons, List.length_cons, List.length_cons, List.length_cons]; omega
          · rw [List.length_cons, List.length_cons]; omega
end L2.Mj
set_option maxRecDepth 100000
set_option maxHeartbeats 4000000
namespace L2.Mb
open PySem PySem.Spec PyProof.Rows Mx
/-! ### f(k = v, ..): an own def by keywords alone -/
section
variable {X : Cx} {CX : CXT} {k : Nat} {f : Addr} {fd : FuncData} {ps ks : List Str} {sp : Sp} {E : XK} {x : Str} {kws : List Keyword} {p pos : Pos} {tk : TA} {g : List Value → List Value → List Value} {gV : List V → List V → List V}
def tCallK0 (sp : Sp) (gV : List V → List V → List V) (E : XK) (tk : TA) : TE := fun σ H Q => tk σ H fun zs H2 => sp (gV [] zs) H2 Q E
theorem pe_callK0 (F : FnOk X.prog X.w X.K X.mg X.base CX k f fd ps sp) (hr : Room k X.A) (hg : Gl X x) (hm : X.mg x = some (.ref f)) (hk : W.keepIn X.K (.ref f) = true) (hb : KBinds X.K fd ps ks g gV) (hx : Passes CX X E) (hkw : PK X kws tk)
    (hall : (backToKw pos (keywordEach kws X.env)).all (·.1.isSome) = true := by rfl) (hks : (backToKw pos (keywordEach kws X.env)).filterMap (·.1) = ks := by rfl) (hdb : (x == ("__debug__" : Str)) = false := by decide)
    (hpl : ((backTo pos (starEach [] X.env)).any (·.1) || (backToKw pos (keywordEach kws X.env)).any (·.1.isNone)) = false := by rfl) : PE X (.Call (.Name x p) [] kws pos) (tCallK0 sp gV E tk) := by
  refine ⟨fun pins s σ H Q I h => ?_⟩
  refine wpAny_Call_Name_kw (ld_glob I hg hm ?_ hdb)
  refine W.callWith_of hpl (W.keeps_K hk) (evalArgs_kw2_nil hall (thn (hkw.run pos pins s σ H _ I h) fun ws s2 ⟨zs, H2, I2, rz, q2⟩ => ⟨I2.kIn, ?_⟩))
  rw [hks]
  exact run_fnk F hr hb hx I2 .nil rz q2
end
end L2.Mb
set_option maxRecDepth 100000
set_option maxHeartbeats 4000000
namespace L2.Mb
open PySem PySem.Spec PyProof.Rows Mx
open PySem.SeqAt PySem.MeetsSeq
/-! ### x != "..": x of any kind -/
theorem strDictN1 (z : Str) (t : Tok) (a : Addr) (c : Value) (es : Array DictEntry) (k : Nat) (dd : Option Addr) (sl : Array (Option Value)) :
    Meets (Builtin.«str.__ne__» ⟨[.str z t, .ref a], []⟩) (fun _ R s => s.heap.get? a = some { cls := c, dict := dd, data := .dict es k, slots := sl } ∧ R (.ok (.ret .notImplemented)) s) := by
  refine .of_wp fun p w A R s q => ?_
  obtain ⟨hp, g, d, tk, os⟩ := s
  obtain ⟨hl, q⟩ := q
  wp_walk using wpAny_loadPart' hl, wpAny_load hl
  exact ⟨_, rfl, q⟩
theorem strDictN2 (z : Str) (t : Tok) (a : Addr) (es : Array DictEntry) (k : Nat) (dd : Option Addr) (sl : Array (Option Value)) :
    Meets (Builtin.«dict.__ne__» ⟨[.ref a, .str z t], []⟩) (fun _ R s => s.heap.get? a = some { cls := .type "dict", dict := dd, data := .dict es k, slots := sl } ∧ R (.ok (.ret .notImplemented)) s) := by
  refine .of_wp fun p w A R s q => ?_
  obtain ⟨hp, g, d, tk, os⟩ := s
  obtain ⟨hl, q⟩ := q
  have f1 := F.sub_str_dict
  wp_walk using wpAny_loadPart' hl, wpAny_load hl
  exact ⟨_, rfl, q⟩
theorem rcNe_dictStr {A : Around} {s : Shared} {a : Addr} {o : Obj} {es : Array DictEntry} {k : Nat} (z : Str) (t : Tok) (ho : s.heap.get? a = some o) (hc : o.cls = .type "dict") (hd : o.data = .dict es k) (hu : A.units < cLine) : RcNeAt A s (.ref a) (.str z t) true := fun prog w E Q h => by
  obtain ⟨oc, dd, data, sl⟩ := o
  simp only at hc hd
  subst hc hd
  exact rc_ne_decline_or (k := false) ⟨_, ho, rfl⟩ (typeIs_str s z t) (by decide) F.sub_str_dict F.slot_dict_ne F.slot_str_ne_refl
    (fun _ q => call_meets F.slot_dict_ne ⟨_, ho, rfl⟩ F.entry_dict_ne (F.args_dict_ne_2 _ _) (strDictN2 z t a es k dd sl) ⟨ho, q⟩)
    (fun _ q => call_meets F.slot_str_ne_refl (typeIs_str s z t) F.entry_str_ne (F.args_str_ne_2 _ _) (strDictN1 z t a (.type "dict") es k dd sl) ⟨ho, q⟩)
    (fun _ q => wpAny_of_eq (rfl : isSame (.ref a) (.str z t) = pure false) q) (.inr hu) h
def isS (x : V) (z : Str) : Bool := match x with
  | .str y => decide (y = z)
  | _ => false
def rNeW : R2 := fun x y H Q => ∃ z : Str, y = .str z ∧ AnyV H x ∧ Q (.bl (!isS x z)) H
theorem op_neW {X : Cx} (hu : X.A.units < cLine) : OpR X (compareOp .NotEq) rNeW := by
  intro pins s σ H x y v u Q I rx ry h
  obtain ⟨z, rfl, hx, q⟩ := h
  have nod : ∀ z2 : Str, x = .str z2 → wpAny (model X.prog X.w) X.A (compareOp .NotEq v u) (EP X pins σ Q) X.xe s := fun z2 e => by
    subst e
    exact op_ne pins s σ H (.str z2) (.str z) v u Q I rx ry ⟨rfl, by
      have e2 : (!decide (V.str z2 = V.str z)) = !isS (.str z2) z := by
        show _ = !decide (z2 = z)
        by_cases h : z2 = z
        · rw [decide_eq_true h, decide_eq_true (congrArg V.str h)]
        · rw [decide_eq_false h, decide_eq_false (fun w => h (V.str.inj w))]
      rw [e2]
      exact q⟩
  cases hx with
  | non => exact op_ne pins s σ H .non (.str z) v u Q I rx ry ⟨rfl, q⟩
  | bl b => exact op_ne pins s σ H (.bl b) (.str z) v u Q I rx ry ⟨rfl, q⟩
  | int n => exact op_ne pins s σ H (.int n) (.str z) v u Q I rx ry ⟨rfl, q⟩
  | str z2 => exact nod z2 rfl
  | lst h =>
    obtain ⟨t, rfl⟩ := ry
    cases rx
    obtain ⟨its2, _, ⟨o2, n2, ho2, hc2, _, hd2⟩, _⟩ := I.list (SqL.of h)
    exact RcNeAt.list_str z t ⟨o2, ho2, hc2, n2, hd2⟩ hu X.prog X.w X.xe _ ⟨.bl _, H, I, rfl, q⟩
  | tup h =>
    obtain ⟨t, rfl⟩ := ry
    cases rx
    obtain ⟨its2, _, ⟨o2, ho2, hc2, n2, hd2⟩, _⟩ := I.tuple (.inl (.inl h))
    exact RcNeAt.tuple_str z t ⟨o2, ho2, hc2, n2, hd2⟩ hu X.prog X.w X.xe _ ⟨.bl _, H, I, rfl, q⟩
  | dct h =>
    obtain ⟨t, rfl⟩ := ry
    cases rx
    obtain ⟨_, ya, vs, ra, o2, es, ep, ho2, hex, hd2, _⟩ := (show ObjOk X.prog X.w H s.heap _ (.dK _) from I.hok _ _ h)
    exact rcNe_dictStr z t ho2 hex.1 hd2 hu X.prog X.w X.xe _ ⟨.bl _, H, I, rfl, q⟩
end L2.Mb
set_option maxRecDepth 100000
set_option maxHeartbeats 4000000
namespace L2.Sr
open PySem PySem.Spec PyProof.Rows L2 StX
/-! ### C(*xs) by a positional promise -/
section
variable {X : Cx} {CX : CXT} {k : Nat} {f C : Addr} {sp : Sp} {E : XK} {x : Str} {e : Expr} {te : TE} {p sp_ pos : Pos}
def tMakeS1 (K : W.Frag) (C : Addr) (sp : Sp) (E : XK) (te : TE) : TE := fun σ H Q => te σ H fun y H1 => ∃ a xs, y = V.ref a ∧ (SqT K H1 a xs ∨ SqL K H1 a xs) ∧ ∀ x dx, H1 x = Option.none → H1 dx = Option.none → dx ≠ x →
  sp (V.ref x :: xs) (upd (upd H1 dx (.own x)) x (.ins C dx [])) (fun v H2 => v = .non ∧ Q (.ref x) H2) E
theorem pe_makeS1 (M : Mk X.K C f) (F : FnR X.prog X.w X.K X.mg X.base CX k f sp) (hr : Room (k + 1) X.A) (hg : Gl X x) (hm : X.mg x = some (.ref C)) (hx : Passes CX X E) (he : PE X e te) (hdb : (x == ("__debug__" : Str)) = false := by decide)
    (hst : starEach [.Starred e sp_] X.env = [(true, eval e X.env)] := by rfl) : PE X (.Call (.Name x p) [.Starred e sp_] [] pos) (tMakeS1 X.K C sp E te) := by
  refine ⟨fun pins s σ H Q I h => ?_⟩
  refine wpAny_Call_Name_kw (ld_glob I hg hm ?_ hdb)
  refine PySem.W.callWith_S (h₀ := X.base) I.ok.mod.kin M.kp (thn (he.run pins s σ H _ I h) fun v s1 ⟨y, H1, I1, ry, a, xs, ey, hxs, q⟩ => ?_) hst
  subst ey
  obtain rfl : v = Value.ref a := ry
  exact star_any I1 hxs fun us s2 I2 rv => ⟨I2.kIn, run_makeR M F hr hx I2 rv q⟩
end
theorem pt_never {X : Cx} {e : Expr} : PT X e (fun _ _ _ => False) := ⟨fun _ _ _ _ _ _ h => h.elim⟩
end L2.Sr
set_option maxRecDepth 100000
set_option maxHeartbeats 8000000
namespace L2.Mj
open PySem PySem.Spec PyProof.Rows L2 Mx L2.Mb Evl Mv TL LamX Sr Srt SrtO NdefX
/-! ### joined -/
def spAB (K : W.Frag) (C CK : Addr) : Sp := fun vs H Q _ => ∃ (a : Addr) (n : Str) (l : List Pl), vs = [.ref a, .str n] ∧ WAt K C CK H a l ∧ ∀ q H', H q = none → Ex H H' → H' q = some (.lst (((l.filter fun x => !decide (x.p.nm = n)).map fun x => x.p.ad).map V.int)) → Q (.ref q) H'
section
variable {K : W.Frag} {C CK : Addr} {σ : L2.St} {H : Hp}
theorem elT_parts {te tl : TE} {t : TT} {q : Addr} {l : List Pl} {j : Nat} {vs : List Nat} (Pr : Pl → Bool) (g : Pl → V) (h : Ev tl σ H (.ref q)) (hq : H q = some (.tup (l.map fun x => .ref x.t))) (hz : l.length ≤ 14) (hw : ∀ x, wipe ((wipe σ vs).set j (some x)) vs = wipe σ vs)
    (ht : ∀ y ∈ l, ∀ H1, Ex H H1 → EvT t ((wipe σ vs).set j (some (.ref y.t))) H1 (Pr y)) (he : ∀ y ∈ l, ∀ H1, Ex H H1 → Ev te ((wipe σ vs).set j (some (.ref y.t))) H1 (g y)) : EvL (tLc (iTup K tl) (gName j) t te vs) σ H ((l.filter Pr).map g) := by
  have pick : ∀ {i : Nat} {x : V}, (l.map fun x => V.ref x.t)[i]? = some x → ∃ y ∈ l, x = .ref y.t ∧ l.getD i ⟨0, 0, ⟨none, "", "", 0⟩⟩ = y := fun {i x} hx => by
    rw [List.getElem?_map] at hx
    cases e : l[i]? with
    | none => rw [e] at hx; cases hx
    | some y =>
      rw [e] at hx
      exact ⟨y, List.mem_of_getElem? e, (Option.some.inj hx).symm, by rw [List.getD_eq_getElem?_getD, e]; rfl⟩
  have w9 := el_lcT (K := K) (tl := tl) (t := t) (te := te) (σ := σ) (H := H) (a := q) (xs := l.map fun x => V.ref x.t) (vs := vs) (j := j) (fun i => Pr (l.getD i ⟨0, 0, ⟨none, "", "", 0⟩⟩)) (fun i => g (l.getD i ⟨0, 0, ⟨none, "", "", 0⟩⟩)) h (st_of hq) (by rw [List.length_map]; omega) hw
    (fun i x H1 e1 hx => by
      obtain ⟨y, hy, rfl, ey⟩ := pick hx
      rw [ey]
      exact ht y hy H1 e1)
    (fun i x H1 e1 hx _ => by
      obtain ⟨y, hy, rfl, ey⟩ := pick hx
      rw [ey]
      exact he y hy H1 e1)
  rw [List.length_map, given_getD l ⟨0, 0, ⟨none, "", "", 0⟩⟩ Pr g] at w9
  exact w9
end
section
variable {P : Program} {w : World} {K : W.Frag} {mg : Str → Option Value} {base : Heap} {f C CK : Addr} {fd : FuncData} {mc : Value}
theorem ok_addresses_but (T : WF K mg C mc) (PP : Prp P w K mg base C "parts" 1 (spFd C "_parts")) (F : FnP K "_addresses_but" s_addresses_but f fd) : FnOk P w K mg base CX0 3 f fd p_addresses_but (spAB K C CK) := by
  refine F.ok sc_addresses_but (fun vs H Q E h => ?_) (fun cdv A outer s H vs Q E hr h => ?_)
  · obtain ⟨a, n, l, rfl, _⟩ := h
    rfl
  · obtain ⟨a, n, l, rfl, wt, k⟩ := h
    have nd := sc_addresses_but.nd
    refine ⟨_, PSs.nox (pss_one (ps_ret (pe_lc (own := [("part", 2)]) (g := gName 2) (tt := tTest (tOp rNe (tOp (rIxT K) (tVar 2) (tC (.int 1))) (tVar 1))) (te := tOp (rIxT K) (tVar 2) (tC (.int 3))) (by rfl) nd (pi_tup (pe_prS T.cl PP (hr.mono (by decide)) (pv 0))) (blkOk_by (N := n_addresses_but) (sc := defScope s_addresses_but) (by decide +kernel)) (fun _ _ _ _ _ => pg_name (i := 2) nd rfl (Or.inl rfl)) (fun _ _ _ _ _ => pts_one (pt_cmpR op_ne (pe_ix ix_tup (pv 2) pe_int (fun _ _ => rfl)) (pv 1) (nomark _))) (fun _ _ _ _ _ => pe_ix ix_tup (pv 2) pe_int (fun _ _ => rfl))))), ?_⟩
    obtain ⟨d, fs, kA, aA, ag, ah, gs, hs, z⟩ := wt
    have l14 : l.length ≤ 14 := by
      have y := len14 z.vd
      rw [len_rs] at y
      exact y
    have key := elT_parts (K := K) (σ := [some (.ref a), some (.str n), none]) (H := H) (tl := tPrS C (spFd C "_parts") (tVar 0)) (t := tTest (tOp rNe (tOp (rIxT K) (tVar 2) (tC (.int 1))) (tVar 1))) (te := tOp (rIxT K) (tVar 2) (tC (.int 3))) (j := 2) (vs := [2]) (l := l) (fun x => !decide (x.p.nm = n)) (fun x => V.int x.p.ad) (ev_prF (C := C) (x := "_parts") (ev_var rfl) z.fl.at_ z.fl.ts) z.ts l14 (fun _ => rfl)
      (fun y hy Hb eb => et_test (ev_is (ev_op (ev_pt rfl ((z.pt y hy).mono eb) at_nm) (ev_var rfl) (rv_ne rfl)) (by simp))) (fun y hy Hb eb => ev_pt rfl ((z.pt y hy).mono eb) at_ad)
    refine s_retL (xs := ((l.filter fun x => !decide (x.p.nm = n)).map fun x => x.p.ad).map V.int) (by rw [List.map_map]; exact key) fun q H1 nq e1 hq => k q H1 nq e1 hq
end
end L2.Mj
set_option maxRecDepth 100000
set_option maxHeartbeats 8000000
namespace L2.Mj
open PySem PySem.Spec PyProof.Rows L2 Mx L2.Mb Evl Mv TL LamX Sr Srt SrtO NdefX
/-! ### the stricter of two kinds, as tuples -/
section
variable {K : W.Frag} {σ : L2.St} {H : Hp} {te tl : TE} {t : TT}
/-- an index in a list of texts that stands -/
theorem ev_indexV {i : Nat} {p : Addr} {ws : List Str} {x : Str} {j : Nat} (hi : σ[i]? = some (some (.ref p))) (hp : H p = some (.lst (ws.map V.str))) (ht : ∀ H1, Ex H H1 → Ev te σ H1 (.str x)) (hx : ws[j]? = some x) (hno : ∀ m < j, ∀ z, ws[m]? = some z → z ≠ x) : Ev (tBM K "list" (rIndex K) (tVar i) (tCons te tNil)) σ H (.int (j : Nat)) := fun H1 e Q q =>
  ⟨_, hi, Or.inl ⟨rfl, _, sq_of (e _ _ hp)⟩, ht H1 e H1 (Ex.refl _) _ fun H4 e4 => ⟨p, ws.map V.str, .str x, j, .str x, rfl, rfl, sq_of (e4 _ _ (e _ _ hp)), rfl, flat_strs _, by rw [List.getElem?_map, hx]; rfl, by show eqV (.str x) (.str x) = true; simp [eqV], fun m z' hm hz' => by
    rw [List.getElem?_map] at hz'
    obtain ⟨y, hy, rfl⟩ := Option.map_eq_some_iff.mp hz'
    have := hno m hm y hy
    show eqV (.str y) (.str x) = false
    simp [eqV, this], q H4 e4⟩⟩
/-- a comprehension over a new tuple -/
theorem el_lcU {xs : List V} {j : Nat} {vs : List Nat} (f : Nat → Bool) (g : Nat → V) (h : EvU tl σ H xs) (hz : xs.length ≤ 40000) (hw : ∀ x, wipe ((wipe σ vs).set j (some x)) vs = wipe σ vs)
    (ht : ∀ (i : Nat) (x : V) H1, Ex H H1 → xs[i]? = some x → EvT t ((wipe σ vs).set j (some x)) H1 (f i)) (he : ∀ (i : Nat) (x : V) H1, Ex H H1 → xs[i]? = some x → f i = true → Ev te ((wipe σ vs).set j (some x)) H1 (g i)) :
    EvL (tLc (iTup K tl) (gName j) t te vs) σ H (given xs.length f g) := fun H0 e Q q => h H0 e _ fun a H1 na e1 ha => ⟨a, rfl, ⟨xs, st_of ha⟩, fun Dl hD =>
  lc_it (walk_tup (K := K) (xs := xs)) (Cw H1 f g Dl) ⟨hD, Ex.new hD, upd_same⟩ (fun _ H' _ p => ex_t p.2.1 (st_of ha)) (fun i x H2 H3 hi p y => by
    obtain ⟨rfl, hc⟩ := y
    exact ⟨hw x, cw_turn p (by omega) (ht i x H1 (e.trans e1) hc) (fun hf => he i x H1 (e.trans e1) hc hf)⟩) (fun H' p => q Dl H' (fresh_back e1 p.1) (e1.trans p.2.1) p.2.2)⟩
end
theorem le_idx {k : Kd} (h : k.ok = true) : ∃ j : Nat, looseV k.le = (j : Int) ∧ lendL[j]? = some k.le ∧ ∀ m < j, ∀ z, lendL[m]? = some z → z ≠ k.le := by
  unfold Kd.ok at h
  simp only [Bool.and_eq_true] at h
  have z := List.contains_iff_mem.mp h.1
  simp only [List.mem_cons, List.not_mem_nil, or_false] at z
  rcases z with z | z | z <;> rw [z]
  · exact ⟨0, by decide +kernel, rfl, fun m hm => by omega⟩
  · exact ⟨1, by decide +kernel, rfl, by decide +kernel⟩
  · exact ⟨2, by decide +kernel, rfl, by decide +kernel⟩
theorem lt_idx {k : Kd} (h : k.ok = true) : ∃ j : Nat, looseV k.lt = (j : Int) ∧ letL[j]? = some k.lt ∧ ∀ m < j, ∀ z, letL[m]? = some z → z ≠ k.lt := by
  unfold Kd.ok at h
  simp only [Bool.and_eq_true] at h
  have z := List.contains_iff_mem.mp h.2.1
  simp only [List.mem_cons, List.not_mem_nil, or_false] at z
  rcases z with z | z | z <;> rw [z]
  · exact ⟨0, by decide +kernel, rfl, fun m hm => by omega⟩
  · exact ⟨1, by decide +kernel, rfl, by decide +kernel⟩
  · exact ⟨2, by decide +kernel, rfl, by decide +kernel⟩
def endsL (x y : Kd) : List Int := (match x.re with | some n => [n] | none => []) ++ (match y.re with | some n => [n] | none => [])
theorem ends_given (x y : Kd) : given 2 (fun i => !decide (([optV x.re, optV y.re] : List V).getD i .non = V.non)) (fun i => ([optV x.re, optV y.re] : List V).getD i .non) = (endsL x y).map V.int := by
  unfold endsL
  have h2 : ∀ (f : Nat → Bool) (v : Nat → V), given 2 f v = (if f 0 = true then [v 0] else []) ++ (if f 1 = true then [v 1] else []) := fun f v => by
    have g1 : given 1 f v = if f 0 = true then [v 0] else [] := by
      cases h : f 0 with
      | true => rw [show given 1 f v = given 0 f v ++ [v 0] from given_yes h]; rfl
      | false => rw [show given 1 f v = given 0 f v from given_no h]; rfl
    cases h : f 1 with
    | true => rw [show given 2 f v = given 1 f v ++ [v 1] from given_yes h, g1]; rfl
    | false => rw [show given 2 f v = given 1 f v from given_no h, g1]; exact (List.append_nil _).symm
  rw [h2]
  cases x.re <;> cases y.re <;> rfl
def spStri : Sp := fun vs H Q _ => ∃ (a b : Addr) (x y : Kd), vs = [.ref a, .ref b] ∧ x.ok = true ∧ y.ok = true ∧ SAt H a x ∧ SAt H b y ∧ ∀ q H', Ex H H' → SAt H' q (me x y) → Q (.ref q) H'
section
variable {P : Program} {w : World} {K : W.Frag} {mg : Str → Option Value} {base : Heap} {f : Addr} {fd : FuncData}
theorem rd_par {σ : L2.St} {H : Hp} {D : Ends} {i j : Nat} {ta : TA} {tz : TS} (h : ta σ H fun vs H1 => ∃ v w, vs = [v, w] ∧ tz D ((σ.set i (some v)).set j (some w)) H1) : tSeq (tPar i j ta) tz D σ H := h
theorem ok_lstricter (B : Bt mg) (F : FnP K "_law_stricter" s_law_stricter f fd) : FnOk P w K mg base CX0 1 f fd p_law_stricter spStri := by
  refine F.ok sc_law_stricter (fun vs H Q E h => ?_) (fun cdv A outer s H vs Q E hr h => ?_)
  · obtain ⟨a, b, x, y, rfl, _⟩ := h
    rfl
  · obtain ⟨a, b, x, y, rfl, okx, oky, ha, hb, k⟩ := h
    have nd := sc_law_stricter.nd
    have hun := hr.units
    refine ⟨_, PSs.nox (pss_cons (ps_par (i := 2) (j := 3) rfl nd rfl rfl (by decide) rfl rfl (pa_cons (pe_lst (pa_cons pe_str (pa_cons pe_str (pa_cons pe_str pa_nil)))) (pa_cons (pe_lst (pa_cons pe_str (pa_cons pe_str (pa_cons pe_str pa_nil)))) pa_nil)) (by rfl))
      (pss_cons (ps_par (i := 4) (j := 5) rfl nd rfl rfl (by decide) rfl rfl (pa_cons (pe_callB (call_min2 rfl) (by rfl) B.min (by decide +kernel) (pa_cons (pe_bm PySem.F.plainAttrs_list PySem.F.slot_list_index PySem.F.type_list_index mt_index (pv 2) (pa_cons (pe_ix ix_tup (pv 0) pe_int (fun _ _ => rfl)) pa_nil)) (pa_cons (pe_bm PySem.F.plainAttrs_list PySem.F.slot_list_index PySem.F.type_list_index mt_index (pv 2) (pa_cons (pe_ix ix_tup (pv 1) pe_int (fun _ _ => rfl)) pa_nil)) pa_nil)))
          (pa_cons (pe_callB (call_min2 rfl) (by rfl) B.min (by decide +kernel) (pa_cons (pe_bm PySem.F.plainAttrs_list PySem.F.slot_list_index PySem.F.type_list_index mt_index (pv 3) (pa_cons (pe_ix ix_tup (pv 0) pe_int (fun _ _ => rfl)) pa_nil)) (pa_cons (pe_bm PySem.F.plainAttrs_list PySem.F.slot_list_index PySem.F.type_list_index mt_index (pv 3) (pa_cons (pe_ix ix_tup (pv 1) pe_int (fun _ _ => rfl)) pa_nil)) pa_nil))) pa_nil)) (by rfl))
      (pss_cons (ps_setLc (i := 6) (own := [("_law_one", 7)]) (g := gName 7) (tt := tTest (tOp (fun x y H Q => y = .non ∧ Q (.bl (!decide (x = .non))) H) (tVar 7) (tC .non))) (te := tVar 7) (by rfl) nd rfl rfl (sw_true rfl rfl rfl (by decide +kernel)) (pi_tup (pe_tup (pa_cons (pe_ix ix_tup (pv 0) pe_int (fun _ _ => rfl)) (pa_cons (pe_ix ix_tup (pv 1) pe_int (fun _ _ => rfl)) pa_nil)))) (blkOk_by (N := n_law_stricter) (sc := defScope s_law_stricter) (by decide +kernel)) (fun _ _ _ _ _ => pg_name (i := 7) nd rfl (Or.inl rfl))
          (fun _ _ _ _ _ => pts_one (pt_cmpR op_notN (pv 7) pe_non (nomark _))) (fun _ _ _ _ _ => pv 7))
      (pss_one (ps_ret (pe_tup (pa_cons (pe_ix ix_list (pv 2) (pv 4) (fun _ _ => rfl)) (pa_cons (pe_ix ix_list (pv 3) (pv 5) (fun _ _ => rfl)) (pa_cons (pe_and (pe_ix ix_tup (pv 0) pe_int (fun _ _ => rfl)) (pe_one (pe_ix ix_tup (pv 1) pe_int (fun _ _ => rfl))))
        (pa_cons (pe_ifExp (pt_cmpR (op_neD hun) (pv 6) (pe_lst pa_nil) (nomark _)) (pe_callB (cr_min rfl) (by rfl) B.min (by decide +kernel) (pa_cons (pv 6) pa_nil)) pe_non) pa_nil)))))))))), ?_⟩
    have sx : ∀ {H' : Hp}, Ex H H' → SqT K H' a (sortV x) := fun e => st_of (ha.mono e)
    have sy : ∀ {H' : Hp}, Ex H H' → SqT K H' b (sortV y) := fun e => st_of (hb.mono e)
    obtain ⟨j1, ej1, aj1, nj1⟩ := le_idx okx
    obtain ⟨j2, ej2, aj2, nj2⟩ := le_idx oky
    obtain ⟨j3, ej3, aj3, nj3⟩ := lt_idx okx
    obtain ⟨j4, ej4, aj4, nj4⟩ := lt_idx oky
    refine rd_par (rd_cons (rd_lst ⟨(by show 3 ≤ sizeLine; decide), fun q2 n2 => rd_cons (rd_lst ⟨(by show 3 ≤ sizeLine; decide), fun q3 n3 => ⟨_, _, rfl, ?_⟩⟩)⟩))
    have e2 := Ex.new (o := .lst [V.str "both", V.str "far", V.str "one"]) n2
    have e3 := Ex.new (o := .lst [V.str "both", V.str "far", V.str "any"]) n3
    have h2' : (upd H q2 (.lst [V.str "both", V.str "far", V.str "one"])) q2 = some (.lst (lendL.map V.str)) := upd_same
    have h2 := e3 _ _ h2'
    have h3 : (upd (upd H q2 (.lst [V.str "both", V.str "far", V.str "one"])) q3 (.lst [V.str "both", V.str "far", V.str "any"])) q3 = some (.lst (letL.map V.str)) := upd_same
    have e02 := e2.trans e3
    show tSeq _ _ _ _ (upd (upd H q2 (.lst [V.str "both", V.str "far", V.str "one"])) q3 (.lst [V.str "both", V.str "far", V.str "any"]))
    generalize upd (upd H q2 (.lst [V.str "both", V.str "far", V.str "one"])) q3 (.lst [V.str "both", V.str "far", V.str "any"]) = H2 at *
    try dsimp only [gName, List.set, start, List.map, List.replicate, List.append]
    have min2 : ∀ {σ : L2.St} {H9 : Hp} {ta tb : TE} {i j : Int}, Ev ta σ H9 (.int i) → Ev tb σ H9 (.int j) → Ev (tCB (fun xs H Q => ∃ i j, xs = [V.int i, V.int j] ∧ Q (.int (if j < i then j else i)) H) (tCons ta (tCons tb tNil))) σ H9 (.int (if j < i then j else i)) := fun h1 h2 => ev_cb (ea_cons h1 (ea_cons h2 ea_nil)) (fun H3 _ Q q => ⟨_, _, rfl, q H3 (Ex.refl H3)⟩)
    refine rd_par (rd_cons ((min2 (ev_indexV (ws := lendL) (j := j1) rfl h2 (fun H1 e1 => ev_op (ev_var rfl) ev_c (rv_ixT (sx (e02.trans e1)) (atI_nat (j := 0) rfl))) aj1 nj1) (ev_indexV (ws := lendL) (j := j2) rfl h2 (fun H1 e1 => ev_op (ev_var rfl) ev_c (rv_ixT (sy (e02.trans e1)) (atI_nat (j := 0) rfl))) aj2 nj2)) H2 (Ex.refl _) _ fun H3 e3' =>
      rd_cons ((min2 (ev_indexV (ws := letL) (j := j3) rfl (e3' _ _ h3) (fun H1 e1 => ev_op (ev_var rfl) ev_c (rv_ixT (sx ((e02.trans e3').trans e1)) (atI_nat (j := 1) rfl))) aj3 nj3) (ev_indexV (ws := letL) (j := j4) rfl (e3' _ _ h3) (fun H1 e1 => ev_op (ev_var rfl) ev_c (rv_ixT (sy ((e02.trans e3').trans e1)) (atI_nat (j := 1) rfl))) aj4 nj4)) H3 (Ex.refl _) _ fun H4 e4 => ⟨_, _, rfl, ?_⟩)))
    have e04 := (e02.trans e3').trans e4
    have h24 := e4 _ _ (e3' _ _ h2)
    have h34 := e4 _ _ (e3' _ _ h3)
    try dsimp only [gName, List.set]
    rw [← ej1, ← ej2, ← ej3, ← ej4]
    -- the rests
    have key : EvL (tLc (iTup K (tTup (tCons (tOp (rIxT K) (tVar 0) (tC (.int 3))) (tCons (tOp (rIxT K) (tVar 1) (tC (.int 3))) tNil)))) (gName 7) (tTest (tOp (fun x y H Q => y = .non ∧ Q (.bl (!decide (x = .non))) H) (tVar 7) (tC .non))) (tVar 7) [7]) [some (.ref a), some (.ref b), some (.ref q2), some (.ref q3), some (.int (if looseV y.le < looseV x.le then looseV y.le else looseV x.le)), some (.int (if looseV y.lt < looseV x.lt then looseV y.lt else looseV x.lt)), none, none] H4 ((endsL x y).map V.int) := by
      have w := el_lcU (K := K) (tl := tTup (tCons (tOp (rIxT K) (tVar 0) (tC (.int 3))) (tCons (tOp (rIxT K) (tVar 1) (tC (.int 3))) tNil))) (σ := [some (.ref a), some (.ref b), some (.ref q2), some (.ref q3), some (.int (if looseV y.le < looseV x.le then looseV y.le else looseV x.le)), some (.int (if looseV y.lt < looseV x.lt then looseV y.lt else looseV x.lt)), none, none]) (H := H4) (te := tVar 7) (t := tTest (tOp (fun x y H Q => y = .non ∧ Q (.bl (!decide (x = .non))) H) (tVar 7) (tC .non))) (j := 7) (vs := [7]) (xs := [optV x.re, optV y.re])
        (fun i => !decide (([optV x.re, optV y.re] : List V).getD i .non = V.non)) (fun i => ([optV x.re, optV y.re] : List V).getD i .non)
        (eu_tup (ea_cons (ev_op (ev_var rfl) ev_c (rv_ixT (sx e04) (atI_nat (j := 3) rfl))) (ea_cons (ev_op (ev_var rfl) ev_c (rv_ixT (sy e04) (atI_nat (j := 3) rfl))) ea_nil)) (by show 2 ≤ 100000; decide)) (by show 2 ≤ 40000; decide) (fun _ => rfl)
        (fun i v H9 e9 hv => by
          rw [List.getD_eq_getElem?_getD, hv]
          exact et_test (ev_op (ev_var rfl) ev_c fun H9 _ Q9 q9 => ⟨rfl, q9 H9 (Ex.refl H9)⟩))
        (fun i v H9 e9 hv _ => by
          rw [List.getD_eq_getElem?_getD, hv]
          exact ev_var rfl)
      rw [show ([optV x.re, optV y.re] : List V).length = 2 from rfl, ends_given] at w
      exact w
    refine q_asgL (xs := (endsL x y).map V.int) (by exact key) fun q6 H5 n6 e5 h6 => ?_
    try dsimp only [gName, List.set]
    have e05 := e04.trans e5
    have le_min : atI (lendL.map V.str) (if looseV y.le < looseV x.le then looseV y.le else looseV x.le) = some (.str (me x y).le) := by
      show _ = some (V.str (if looseV y.le < looseV x.le then y.le else x.le))
      split
      · exact le_at oky
      · exact le_at okx
    have lt_min : atI (letL.map V.str) (if looseV y.lt < looseV x.lt then looseV y.lt else looseV x.lt) = some (.str (me x y).lt) := by
      show _ = some (V.str (if looseV y.lt < looseV x.lt then y.lt else x.lt))
      split
      · exact lt_at oky
      · exact lt_at okx
    have rst : Ev (tIf (tTest (tOp (rNeD K) (tVar 6) (tLst tNil))) (tCB (rMin K) (tCons (tVar 6) tNil)) (tC .non)) [some (.ref a), some (.ref b), some (.ref q2), some (.ref q3), some (.int (if looseV y.le < looseV x.le then looseV y.le else looseV x.le)), some (.int (if looseV y.lt < looseV x.lt then looseV y.lt else looseV x.lt)), some (.ref q6), none] H5 (optV (me x y).re) := by
      refine ev_if (b := !(endsL x y).isEmpty) (et_test (ev_opL (ev_var rfl) (el_lst ea_nil (by decide)) fun q H8 hq e8 => rv_neNil (sq_of (e8 _ _ h6)) (sq_of hq))) (fun hb => ?_) (fun hb => ?_)
      · refine fun H1 e1 Q1 q1 => ⟨_, rfl, q6, endsL x y, rfl, sq_of (e1 _ _ h6), ?_, fun m hm hle => ?_⟩
        · cases h : endsL x y with
          | nil => rw [h] at hb; cases hb
          | cons _ _ => exact Nat.succ_pos _
        · have em : optV (me x y).re = .int m := by
            unfold endsL at hm hle
            unfold me
            cases h1 : x.re <;> cases h2 : y.re <;> rw [h1, h2] at hm hle
            · cases hm
            · rename_i n
              have := List.mem_singleton.mp hm
              rw [this]
              rfl
            · rename_i n
              have : m = n := List.mem_singleton.mp hm
              rw [this]
              rfl
            · rename_i n1 n2
              have l1 := hle n1 (by simp)
              have l2 := hle n2 (by simp)
              have : m = n1 ∨ m = n2 := by simpa using hm
              show V.int (if n2 < n1 then n2 else n1) = V.int m
              congr 1
              split <;> omega
          rw [← em]
          exact q1 H1 (Ex.refl _)
      · have : (me x y).re = none := by
          unfold endsL at hb
          unfold me
          cases h1 : x.re <;> cases h2 : y.re <;> rw [h1, h2] at hb <;> first | rfl | cases hb
        rw [this]
        exact ev_c
    have tus : Ev (tAndV (tOp (rIxT K) (tVar 0) (tC (.int 2))) (tOp (rIxT K) (tVar 1) (tC (.int 2)))) [some (.ref a), some (.ref b), some (.ref q2), some (.ref q3), some (.int (if looseV y.le < looseV x.le then looseV y.le else looseV x.le)), some (.int (if looseV y.lt < looseV x.lt then looseV y.lt else looseV x.lt)), some (.ref q6), none] H5 (.bl (x.tu && y.tu)) :=
      ev_andV (ev_op (ev_var rfl) ev_c (rv_ixT (sx e05) (atI_nat (j := 2) rfl))) (fun _ => ev_op (ev_var rfl) ev_c (rv_ixT (sy e05) (atI_nat (j := 2) rfl)))
    refine s_retR ((eu_tup (vs := sortV (me x y)) (ea_cons (ev_op (ev_var rfl) (ev_var rfl) (rv_ixL (sq_of (e5 _ _ h24)) le_min)) (ea_cons (ev_op (ev_var rfl) (ev_var rfl) (rv_ixL (sq_of (e5 _ _ h34)) lt_min)) (ea_cons tus (ea_cons rst ea_nil)))) (by show 4 ≤ 100000; decide)) H5 (Ex.refl _) _ fun p H6 np e6 hp => k p H6 (e05.trans e6) hp)
end
end L2.Mj
set_option maxRecDepth 100000
set_option maxHeartbeats 8000000
namespace L2.Mj
open PySem PySem.Spec PyProof.Rows L2 Mx L2.Mb Evl Mv TL LamX Sr Srt SrtO NdefX
/-! ### joined -/
theorem at_same {rs : List Pt} (v : Vd rs) {p p' : Pt} (hp : p ∈ rs) (hp' : p' ∈ rs) (e : p'.nm = p.nm) (f : Pt → V) : f p' = f p := by
  have h1 := val_at v hp f
  have h2 := val_at v hp' f
  rw [e] at h2
  exact Option.some.inj (h2.symm.trans h1)
theorem hasN_of {rs : List Pt} {p : Pt} (hp : p ∈ rs) : hasN rs p.nm = true := by
  rcases newN_cases rs p.nm with y | y
  · unfold newN at y
    simp at y
    exact absurd rfl (y p hp)
  · have : newN rs p.nm = false := by
      unfold newN
      obtain ⟨q, hq, e⟩ := y
      simp
      exact ⟨q, hq, e⟩
    rw [hasN, this]
    rfl
section
variable {K : W.Frag} {C CK CS : Addr} {Tt : List (Addr × Str)} {σ : L2.St} {H : Hp}
theorem at_me {a : Addr} {l : List Pl} {m : Str} (wt : WAt K C CK H a l) (hm : m ∈ methW) : ∃ dx fs, H a = some (.ins C dx fs) ∧ fs.lookup m = none := by
  obtain ⟨d, fs, kA, aA, ag, ah, gs, hs, z⟩ := wt
  obtain ⟨dx, ha⟩ := z.fl.at_
  exact ⟨dx, fs, ha, z.fl.me _ hm⟩
theorem ev_meth1 {m : Str} {sp : Sp} {E : XK} {ta te : TE} {a : Addr} {y v : V} {l : List Pl} (hm : m ∈ methW) (ha : Ev ta σ H (.ref a)) (wt : WAt K C CK H a l) (he : Ev te σ H y) (hs : ∀ H1, Ex H H1 → ∀ Q : VK, (∀ H2, Ex H1 H2 → Q v H2) → sp [.ref a, y] H1 Q E) :
    Ev (tMeth C m sp [] E ta (tCons te tNil)) σ H v := fun H1 e Q q => ha H1 e _ fun H2 e2 => by
  obtain ⟨dx, fs, hd, hl⟩ := at_me (wt.extn (ex_extn (e.trans e2))) hm
  exact ⟨a, dx, fs, rfl, hd, hl, he H2 (e.trans e2) _ fun H3 e3 => hs H3 ((e.trans e2).trans e3) Q fun H4 e4 => q H4 ((e2.trans e3).trans e4)⟩
theorem sp_of {a : Addr} {l : List Pl} {p : Pt} {f : Pt → V} {E : XK} (wt : WAt K C CK H a l) (hp : p ∈ rsOf l) : ∀ H1, Ex H H1 → ∀ Q : VK, (∀ H2, Ex H1 H2 → Q (f p) H2) → spNm K C CK CS hasN (fun rs z v _ => ∃ p ∈ rs, p.nm = z ∧ v = f p) [.ref a, .str p.nm] H1 Q E := fun H1 e1 Q q => by
  have w1 := wt.extn (ex_extn e1)
  refine ⟨a, .str p.nm, l, rfl, w1, .str _, fun z ez hz v H' e' h => ?_, fun hF => ?_⟩
  · obtain ⟨p', hp', en, ev⟩ := h
    obtain ⟨d, fs, kA, aA, ag, ah, gs, hs, x⟩ := w1
    cases ez
    rw [ev, at_same x.vd hp hp' en f]
    exact q H' e'
  · have z : hasN (rsOf l) p.nm = false := hF
    rw [hasN_of hp] at z
    cases z
theorem rd_kind {ta te : TE} {E : XK} {a : Addr} {l : List Pl} {p : Pt} {Q : VK} (ha : Ev ta σ H (.ref a)) (wt : WAt K C CK H a l) (he : Ev te σ H (.str p.nm)) (hp : p ∈ gts (rsOf l)) (k : ∀ (kd : Kd) (ka : Addr) H', Ex H H' → p.kd = some kd → KAt CK H' ka kd → Q (.ref ka) H') :
    tMeth C "kind" (spNm K C CK CS hasG fun rs z v H' => ∃ p ∈ gts rs, p.nm = z ∧ ∃ k ka, p.kd = some k ∧ v = .ref ka ∧ KAt CK H' ka k) [] E ta (tCons te tNil) σ H Q := ha H (Ex.refl H) _ fun H2 e2 => by
  obtain ⟨dx, fs, hd, hl⟩ := at_me (m := "kind") (wt.extn (ex_extn e2)) (by simp [methW])
  refine ⟨a, dx, fs, rfl, hd, hl, he H2 e2 _ fun H3 e3 => ?_⟩
  have w3 := wt.extn (ex_extn (e2.trans e3))
  have hG : hasG (rsOf l) p.nm = true := hasG_iff.mpr ⟨p, hp, rfl⟩
  refine ⟨a, .str p.nm, l, rfl, w3, .str _, fun z ez hz v H' e' h => ?_, fun hF => ?_⟩
  · obtain ⟨p', hp', en, kd, ka, hk, rfl, hka⟩ := h
    obtain ⟨d, fs', kA, aA, ag, ah, gs, hs, x⟩ := w3
    cases ez
    have e := at_same x.vd (mem_gts.mp hp).1 (mem_gts.mp hp').1 en fun p => .bl (decide (p.kd = some kd))
    have : p.kd = some kd := by
      rw [hk, decide_eq_true rfl] at e
      exact of_decide_eq_true (V.bl.inj e).symm
    exact k kd ka H' ((e2.trans e3).trans e') this hka
  · have z : hasG (rsOf l) p.nm = false := hF
    rw [hG] at z
    cases z
end
section
variable {CK : Addr} {H : Hp}
theorem r_two {j : Kd → Kd → Kd} {a b : Addr} {k1 k2 : Kd} {Q : VK} (ha : KAt CK H a k1) (hb : KAt CK H b k2) (o1 : k1.ok = true) (o2 : k2.ok = true) (k : ∀ c H', Ex H H' → KAt CK H' c (j k1 k2) → Q (.ref c) H') : rOwn2 CK (spTwo CK j) (.ref a) (.ref b) H Q := by
  obtain ⟨dx, hd⟩ := id ha
  obtain ⟨dy, hy⟩ := id hb
  exact ⟨a, b, dx, dy, _, _, rfl, rfl, hd, hy, a, b, k1, k2, rfl, o1, o2, ha, hb, fun c H' e hc => ⟨⟨c, rfl⟩, k c H' e hc⟩⟩
end
structure OW (P : Program) (w : World) (K : W.Frag) (mg : Str → Option Value) (base : Heap) (C : Addr) (m : Str) (k : Nat) (f : Addr) (fd : FuncData) (sp : Sp) : Prop where
  ok : FnOk P w K mg base CX0 k f fd ["self", "other"] sp
  b : Binds K fd ["self", "other"] []
  s : W.findIn K (.ref C) m = some (some (.ref f))
  fn : W.isFn K (.ref f) = true
def keyD : Key → PyData
  | .inl n => .int n
  | .inr s => .str s
abbrev cD (c : List Key) : PyData := .tuple (c.map keyD)
def okC (c : List Key) : Prop := ∀ x ∈ c, match x with | .inr s => PyData.strOk s = true | .inl _ => True
theorem key_dp {K : W.Frag} {H : Hp} : ∀ c : List Key, DpAll K H (c.map kV) (c.map keyD)
  | [] => .nil
  | .inl n :: c => .cons (.int n) (key_dp c)
  | .inr s :: c => .cons (.str s) (key_dp c)
theorem key_lay : ∀ {c : List Key}, okC c → PyData.canLayAll0 (c.map keyD) = true ∧ PyData.depthAll (c.map keyD) = 0
  | [], _ => ⟨by simp [PyData.canLayAll0], by simp [PyData.depthAll]⟩
  | .inl n :: c, h => by
    obtain ⟨h1, h2⟩ := key_lay (c := c) fun x hx => h x (List.mem_cons_of_mem _ hx)
    exact ⟨by simp only [List.map_cons, keyD, PyData.canLayAll0, PyData.canLay0, h1, Bool.and_self], by simp only [List.map_cons, keyD, PyData.depthAll, PyData.depth, h2, Nat.max_self]⟩
  | .inr s :: c, h => by
    obtain ⟨h1, h2⟩ := key_lay (c := c) fun x hx => h x (List.mem_cons_of_mem _ hx)
    have h3 : PyData.strOk s = true := h (.inr s) List.mem_cons_self
    exact ⟨by simp only [List.map_cons, keyD, PyData.canLayAll0, PyData.canLay0, h1, h3, Bool.and_self], by simp only [List.map_cons, keyD, PyData.depthAll, PyData.depth, h2, Nat.max_self]⟩
theorem key_eqv : ∀ (c d : List Key), PyData.eqvAll (c.map keyD) (d.map keyD) = decide (c = d)
  | [], [] => by simp [PyData.eqvAll]
  | [], _ :: _ => by simp [PyData.eqvAll]
  | _ :: _, [] => by simp [PyData.eqvAll]
  | x :: c, y :: d => by
    have ih := key_eqv c d
    cases x with
    | inl a =>
      cases y with
      | inl b => by_cases h : a = b <;> simp [keyD, PyData.eqvAll, PyData.eqv, ih, h]
      | inr b => simp [keyD, PyData.eqvAll, PyData.eqv]
    | inr a =>
      cases y with
      | inl b => simp [keyD, PyData.eqvAll, PyData.eqv]
      | inr b => by_cases h : a = b <;> simp [keyD, PyData.eqvAll, PyData.eqv, ih, h]
section
variable {t u : TT} {σ : L2.St} {H : Hp}
theorem rd_or {t u : TT} {Q : Bool → Hp → Prop} (h : t σ H fun c H1 => if c = true then Q true H1 else u σ H1 Q) : tOr t u σ H Q := h
end
theorem rv_neKeys {K : W.Frag} {H : Hp} {p q : Addr} {c d : List Key} (hp : H p = some (.tup (c.map kV))) (hq : H q = some (.tup (d.map kV))) (h1 : okC c) (h2 : okC d) : RV (rNeD K) (.ref p) (.ref q) H (.bl (!decide (c = d))) := fun H1 e Q k => by
  have sh : ∀ {c : List Key}, okC c → SeqAt.shaped (cD c) = true := fun {c} h => by
    obtain ⟨h1, h2⟩ := key_lay h
    show (PyData.canLay0 (.tuple (c.map keyD)) && decide (PyData.depth (.tuple (c.map keyD)) ≤ 64)) = true
    have e : PyData.depth (.tuple (c.map keyD)) ≤ 64 := by
      simp only [PyData.depth, h2]
      omega
    rw [decide_eq_true e]
    simp only [PyData.canLay0, h1, Bool.and_self]
  refine ⟨cD c, cD d, .tup (st_of (e _ _ hp)) (key_dp c), .tup (st_of (e _ _ hq)) (key_dp d), sh h1, sh h2, ?_⟩
  rw [show PyData.eqv (cD c) (cD d) = decide (c = d) by simp only [PyData.eqv, key_eqv]]
  exact k H1 (Ex.refl H1)
theorem inV_ints (z : Int) (xs : List Int) : inV (.int z) (xs.map V.int) = decide (z ∈ xs) := by
  unfold inV
  rw [List.any_map, Bool.eq_iff_iff, List.any_eq_true, decide_eq_true_iff]
  constructor
  · rintro ⟨y, hy, e⟩
    have e2 : y = z := by
      have : (y == z) = true := e
      exact beq_iff_eq.mp this
    rw [← e2]
    exact hy
  · intro h
    exact ⟨z, h, by show (z == z) = true; simp⟩
theorem rl_ne : ∀ {rs : List Pt}, Vd rs → ∀ p ∈ rs, p.rl ≠ p.nm
  | [], _, p, hp => by cases hp
  | q :: rs, v, p, hp => by
    rcases List.mem_cons.mp hp with e | hp
    · intro e1
      rw [e] at e1
      rcases v.head.rl with z | z
      · exact okW_ne (okP_of v.head.ok).nm (e1.symm.trans z)
      · obtain ⟨q', hq, e2⟩ := hasG_iff.mp z
        exact newN_iff.mp v.head.nn q' (mem_gts.mp hq).1 (e2.trans e1)
    · exact rl_ne v.tail p hp
theorem one_of {l : List Str} {a : Str} (nd : l.Nodup) (ha : a ∈ l) (h : ∀ x ∈ l, x = a) : l = [a] := by
  cases l with
  | nil => cases ha
  | cons x t =>
    cases t with
    | nil => rw [h x List.mem_cons_self]
    | cons y t =>
      have e1 := h x List.mem_cons_self
      have e2 := h y (List.mem_cons_of_mem _ List.mem_cons_self)
      exact absurd (e1.trans e2.symm) fun z => (List.nodup_cons.mp nd).1 (by rw [z]; exact List.mem_cons_self)
theorem alone_iff {rs : List Pt} (v : Vd rs) {p : Pt} (hp : p ∈ rs) : ((rs.filter fun q => decide (q.rl = p.rl)).map Pt.nm = [p.nm]) ↔ ∀ q ∈ rs, q.rl = p.rl → q.nm = p.nm := by
  constructor
  · intro h q hq e
    have m : q.nm ∈ (rs.filter fun q => decide (q.rl = p.rl)).map Pt.nm := List.mem_map_of_mem (List.mem_filter.mpr ⟨hq, decide_eq_true e⟩)
    rw [h] at m
    exact List.mem_singleton.mp m
  · intro h
    refine one_of ((List.filter_sublist.map Pt.nm).nodup v.nodup) (List.mem_map_of_mem (List.mem_filter.mpr ⟨hp, decide_eq_true rfl⟩)) fun x hx => ?_
    obtain ⟨q, hq, rfl⟩ := List.mem_map.mp hx
    obtain ⟨q1, q2⟩ := List.mem_filter.mp hq
    exact h q q1 (of_decide_eq_true q2)
theorem ins_of {l : List Pl} {gs : List Str} (ng : Nms gs ((gts (rsOf l)).map Pt.nm)) (y : V) : inS y gs = strB (hasG (rsOf l)) y := by
  cases y with
  | str z =>
    show (gs.any fun w => w == z) = hasG (rsOf l) z
    rw [Bool.eq_iff_iff, List.any_eq_true, hasG_iff]
    constructor
    · rintro ⟨w, hw, e⟩
      obtain ⟨p, hp, e2⟩ := List.mem_map.mp (ng.p.mem_iff.mp hw)
      exact ⟨p, hp, e2.trans (by simpa using e)⟩
    · rintro ⟨p, hp, e⟩
      exact ⟨z, ng.p.mem_iff.mpr (by rw [← e]; exact List.mem_map_of_mem hp), by simp⟩
  | _ => rfl
theorem rs_join {l m : List Pl} {g w : Str} {k : Kd} (h : m.map Pl.p = (l.filter fun x => !decide (x.p.nm = g)).map fun x => jn g w k x.p) : rsOf m = joinR g w k (rsOf l) := by
  unfold rsOf joinR
  rw [h, List.filter_reverse, List.map_reverse, List.filter_map, List.map_map]
  rfl
/-- what joined does: an error of one of three kinds, or another world -/
def spJo (K : W.Frag) (C CK CS CN CC : Addr) (Tt : List (Addr × Str)) : Sp := fun vs H Q E => ∃ (a : Addr) (y : V) (l : List Pl), vs = [.ref a, y] ∧ WAt K C CK H a l ∧ AnyV H y ∧ Tabs Tt H ∧ (∀ x ∈ l, PyData.strOk x.p.nm = true) ∧
  (strB (hasG (rsOf l)) y = false → ∀ d H', Ex H H' → H' d = some (.xd [("name", y)]) → E (.ref CS) (some d) H') ∧
  (∀ p ∈ gts (rsOf l), y = .str p.nm →
    ((p.rl = "" ∨ ∃ q ∈ rsOf l, q.rl = p.rl ∧ q.nm ≠ p.nm) → ∀ d H', Ex H H' → H' d = some (.xd [("name", .str p.nm)]) → E (.ref CN) (some d) H') ∧
    (p.rl ≠ "" → (∀ q ∈ rsOf l, q.rl = p.rl → q.nm = p.nm) → (∃ q ∈ rsOf l, q.nm ≠ p.nm ∧ q.ad = p.ad) → ∀ d H', Ex H H' → H' d = some (.xd [("number", .int p.ad)]) → E (.ref CC) (some d) H') ∧
    (p.rl ≠ "" → (∀ q ∈ rsOf l, q.rl = p.rl → q.nm = p.nm) → (∀ q ∈ rsOf l, q.nm ≠ p.nm → q.ad ≠ p.ad) → ∀ (pw : Pt) (kg kw : Kd), pw ∈ gts (rsOf l) → pw.nm = p.rl → p.kd = some kg → pw.kd = some kw → ∀ b (m : List Pl) H', ExtN H H' → m.map Pl.p = ((l.filter fun x => !decide (x.p.nm = p.nm)).map fun x => jn p.nm p.rl (me kg kw) x.p) → WAt K C CK H' b m → Tabs Tt H' → Q (.ref b) H'))
section
variable {P : Program} {w : World} {K : W.Frag} {mg : Str → Option Value} {base : Heap} {f fA fI C CK CS CN CC fR fS fD fK fO fs fn fc : Addr} {fd dA dR dS dD dK dO ds dn dc : FuncData} {mc : Value} {Tt : List (Addr × Str)} {bS bN bC : EB}
theorem ok_joined (B : Bt mg) (T : WF K mg C mc) (M : WMk P w K mg base C CK Tt fI) (M1 : Mro1 K CK) (XS : X1 P w K mg base "NoStation" "name" bS CS fs ds) (XN : X1 P w K mg base "Needed" "name" bN CN fn dn) (XC : X1 P w K mg base "Clash" "number" bC CC fc dc)
    (PG : Prp P w K mg base C "gates" 1 (spFd C "_gates")) (PP : Prp P w K mg base C "parts" 1 (spFd C "_parts")) (DA : Fn0 P w K mg base "_addresses_but" 3 fA dA p_addresses_but (spAB K C CK))
    (MR : MtE P w K mg base C "realm" 3 ["self", "name"] (spNm K C CK CS hasN fun rs z v _ => ∃ p ∈ rs, p.nm = z ∧ v = .str p.rl) fR dR) (MS : MtE P w K mg base C "stations" 5 ["self", "realm"] (spSts K C CK CS) fS dS) (MD : MtE P w K mg base C "address" 3 ["self", "name"] (spNm K C CK CS hasN fun rs z v _ => ∃ p ∈ rs, p.nm = z ∧ v = .int p.ad) fD dD)
    (MK : MtE P w K mg base C "kind" 3 ["self", "gate"] (spNm K C CK CS hasG fun rs z v H' => ∃ p ∈ gts rs, p.nm = z ∧ ∃ k ka, p.kd = some k ∧ v = .ref ka ∧ KAt CK H' ka k) fK dK) (O : OW P w K mg base CK "__and__" 6 fO dO (spTwo CK me))
    (F : FnP K "joined" s_joined f fd) : FnOk P w K mg base (L2.CX P w) 7 f fd p_joined (spJo K C CK CS CN CC Tt) := by
  refine F.ok sc_joined (fun vs H Q E h => ?_) (fun cdv A outer s H vs Q E hr h => ?_)
  · obtain ⟨a, y, l, rfl, _⟩ := h
    rfl
  · obtain ⟨a, y, l, rfl, wt, hy, hT, hS, k1, k2⟩ := h
    have nd := sc_joined.nd
    have hun := hr.units
    refine ⟨_, pss_cons (ps_if (pt_cmpR (op_notInW hun) (pv 1) (pe_prS T.cl PG (hr.mono (by decide)) (pv 0)) rfl) (pss_one (ps_raise rfl (takes_of rfl rfl rfl rfl) (pmk_X XS.ec XS.ty XS.ok (hr.mono (by decide)) XS.b .nil pass0 (by rfl) XS.m (pa_cons (pv 1) pa_nil)))) pss_nil)
      (pss_cons (ps_set (i := 2) nd rfl (Or.inl rfl) (pe_meth (E := fun _ _ _ => False) (pv 0) T.cl MR.me MR.ok (hr.mono (by decide)) MR.b .nil passF (pa_cons (pv 1) pa_nil)))
      (pss_cons (ps_if (pw_or (pt_cmpR op_eq (pv 2) pe_str (nomark _)) (pw_or1 (pt_cmpR (op_neD hun) (pe_meth (E := fun _ _ _ => False) (pv 0) T.cl MS.me MS.ok (hr.mono (by decide)) MS.b .nil passF (pa_cons (pv 2) pa_nil)) (pe_tup (pa_cons (pv 1) pa_nil)) (nomark _)))).pt (pss_one (ps_raise rfl (takes_of rfl rfl rfl rfl) (pmk_X XN.ec XN.ty XN.ok (hr.mono (by decide)) XN.b .nil pass0 (by rfl) XN.m (pa_cons (pv 1) pa_nil)))) pss_nil)
      (pss_cons (ps_set (i := 3) nd rfl (Or.inl rfl) (pe_meth (E := fun _ _ _ => False) (pv 0) T.cl MD.me MD.ok (hr.mono (by decide)) MD.b .nil passF (pa_cons (pv 1) pa_nil)))
      (pss_cons (ps_if (pt_cmpR op_in_seq (pv 3) (pe_call DA.ok (hr.mono (by decide)) (by rfl) DA.m DA.k DA.b .nil pass0 (pa_cons (pv 0) (pa_cons (pv 1) pa_nil))) rfl) (pss_one (ps_raise rfl (takes_of rfl rfl rfl rfl) (pmk_X XC.ec XC.ty XC.ok (hr.mono (by decide)) XC.b .nil pass0 (by rfl) XC.m (pa_cons (pv 3) pa_nil)))) pss_nil)
      (pss_cons (ps_set (i := 4) nd rfl (Or.inl rfl) (pe_op (op_bandO O.ok hr O.b pass0 M1 O.s O.fn) (pe_meth (E := fun _ _ _ => False) (pv 0) T.cl MK.me MK.ok (hr.mono (by decide)) MK.b .nil passF (pa_cons (pv 1) pa_nil)) (pe_meth (E := fun _ _ _ => False) (pv 0) T.cl MK.me MK.ok (hr.mono (by decide)) MK.b .nil passF (pa_cons (pv 2) pa_nil))))
      (pss_cons (ps_set (i := 5) nd rfl (Or.inl rfl) (pe_lst pa_nil))
      (pss_cons (ps_for (passes_of rfl) rfl (pi_tup (pe_prS T.cl PP (hr.mono (by decide)) (pv 0))) (pg_name (i := 6) nd rfl (Or.inl rfl))
        (pss_one (ps_if (pt_cmpR op_eq (pe_ix ix_tup (pv 6) pe_int (fun _ _ => rfl)) (pv 2) (nomark _)) (pss_one (ps_expr (pe_bm PySem.F.plainAttrs_list PySem.F.slot_list_append PySem.F.type_list_append mt_append (pv 5) (pa_cons (pe_tup (pa_cons pe_str (pa_cons (pv 1) (pa_cons (pe_ix ix_tup (pv 6) pe_int (fun _ _ => rfl)) (pa_cons (pe_ix ix_tup (pv 6) pe_int (fun _ _ => rfl)) (pa_cons (pv 4) pa_nil)))))) pa_nil))))
          (pss_one (ps_if (pt_cmpR op_ne (pe_ix ix_tup (pv 6) pe_int (fun _ _ => rfl)) (pv 1) (nomark _)) (pss_one (ps_expr (pe_bm PySem.F.plainAttrs_list PySem.F.slot_list_append PySem.F.type_list_append mt_append (pv 5) (pa_cons (pv 6) pa_nil)))) pss_nil)))))
      (pss_one (ps_ret (pe_makeS1 M.made M.ok hr (by rfl) T.m pass0 (pv 5))))))))))), ?_⟩
    obtain ⟨d, fs', kA, aA, ag, ah, gs, hs', z⟩ := id wt
    have vd := z.vd
    have l14 : l.length ≤ 14 := by
      have y := len14 vd
      rw [len_rs] at y
      exact y
    refine q_when (b := !strB (hasG (rsOf l)) y) (et_test (ev_is (ev_op (ev_var rfl) (ev_prF (C := C) (x := "_gates") (ev_var rfl) z.fl.at_ z.fg) (rv_notW hy (st_of z.xg))) (by rw [ins_of z.ng]))) (fun hb H1 e1 => ?_) (fun hb H1 e1 => ?_)
    · rw [Bool.not_eq_true'] at hb
      exact s_raise1 (W := fun cls d _ H' => E cls d H') (ea_cons (ev_var rfl) ea_nil) fun dx H4 e4 hd => k1 hb dx H4 (e1.trans e4) hd
    rw [Bool.not_eq_false'] at hb
    obtain ⟨g, rfl, hg⟩ := str_of hb
    obtain ⟨p, hp, rfl⟩ := hasG_iff.mp hg
    obtain ⟨kN, kC, kQ⟩ := k2 p hp rfl
    have hp1 := (mem_gts.mp hp).1
    have wt1 := wt.extn (ex_extn e1)
    refine q_asg (v := .str p.rl) (ev_meth1 (by simp [methW]) (ev_var rfl) wt1 (ev_var rfl) (sp_of (f := fun p => .str p.rl) wt1 hp1)) fun H2 e2 => ?_
    try dsimp only [gName, List.set, start, List.map, List.replicate, List.append]
    have wt2 := wt1.extn (ex_extn e2)
    have okN : ∀ q ∈ rsOf l, PyData.strOk q.nm = true := fun q hq => by
      obtain ⟨x, hx, rfl⟩ := List.mem_map.mp (List.mem_reverse.mp hq)
      exact hS x hx
    have e02 := e1.trans e2
    refine q_when (b := decide (p.rl = "") || !decide (((rsOf l).filter fun q => decide (q.rl = p.rl)).map Pt.nm = [p.nm])) (et_or (et_test (ev_is (ev_op (ev_var rfl) ev_c (rv_eq rfl)) (by simp))) fun h0 => et_test ?_) (fun hb H3 e3 => ?_) (fun hb H3 e3 => ?_)
    · intro H3 e3 Q3 q3
      obtain ⟨dx, fs2, hd, hl⟩ := at_me (m := "stations") (wt2.extn (ex_extn e3)) (by simp [methW])
      refine rd_op ⟨_, rfl, a, dx, fs2, rfl, hd, hl, _, rfl, a, .str p.rl, l, rfl, wt2.extn (ex_extn e3), .str _, fun r er hr t m H4 e4 pm sm ht => ?_, fun hF => ?_⟩
      · cases er
        refine rd_tup (rd_cons (rd_var rfl ⟨(by show 1 ≤ sizeLine; decide), fun q nq => ?_⟩))
        have eq := Ex.new (o := .tup [V.str p.nm]) nq
        have hm : ∀ x ∈ m, PyData.strOk x.nm = true := fun x hx => okN x (List.mem_filter.mp (pm.subset hx)).1
        refine rv_neKeys (c := (m.map Pt.nm).map Sum.inr) (d := [p.nm].map Sum.inr) (by simp only [List.map_map]; exact eq _ _ ht) upd_same (fun x hx => ?_) (fun x hx => ?_) _ (Ex.refl _) _ fun H5 e5 => ?_
        · obtain ⟨y, hy, rfl⟩ := List.mem_map.mp hx
          obtain ⟨w, hw, rfl⟩ := List.mem_map.mp hy
          exact hm w hw
        · obtain ⟨y, hy, rfl⟩ := List.mem_map.mp hx
          rw [List.mem_singleton.mp hy]
          exact okN p hp1
        · have ed : decide ((m.map Pt.nm).map Sum.inr = [p.nm].map (Sum.inr : Str → Key)) = decide (((rsOf l).filter fun q => decide (q.rl = p.rl)).map Pt.nm = [p.nm]) := by
            rw [decide_eq_decide]
            have pm2 := pm.map Pt.nm
            constructor
            · intro h
              have h2 := List.map_inj_right (fun x y e => Sum.inr.inj e) |>.mp h
              rw [h2] at pm2
              exact (List.perm_singleton.mp pm2.symm)
            · intro h
              rw [h] at pm2
              rw [List.perm_singleton.mp pm2]
          rw [ed]
          exact q3 H5 ((e4.trans eq).trans e5)
      · have w : hasR (rsOf l) p.rl = false := hF
        rw [hasR_iff.mpr (rl_ok vd p hp1)] at w
        cases w
    · refine s_raise1 (W := fun cls d _ H' => E cls d H') (ea_cons (ev_var rfl) ea_nil) fun dx H4 e4 hd => kN ?_ dx H4 ((e02.trans e3).trans e4) hd
      rcases Bool.or_eq_true_iff.mp hb with h | h
      · exact .inl (of_decide_eq_true h)
      · rw [Bool.not_eq_true', decide_eq_false_iff_not, alone_iff vd hp1] at h
        refine .inr (Classical.byContradiction fun n => h fun q hq e => Classical.byContradiction fun ne => n ⟨q, hq, e, ne⟩)
    obtain ⟨hb1, hb2⟩ := Bool.or_eq_false_iff.mp hb
    have hw0 := of_decide_eq_false hb1
    rw [Bool.not_eq_false', decide_eq_true_iff, alone_iff vd hp1] at hb2
    have e03 := e02.trans e3
    have wt3 := wt.extn (ex_extn e03)
    refine q_asg (v := .int p.ad) (ev_meth1 (by simp [methW]) (ev_var rfl) wt3 (ev_var rfl) (sp_of (f := fun p => .int p.ad) wt3 hp1)) fun H4 e4 => ?_
    try dsimp only [gName, List.set]
    have e04 := e03.trans e4
    have wt4 := wt.extn (ex_extn e04)
    refine q_when (b := decide (p.ad ∈ (l.filter fun x => !decide (x.p.nm = p.nm)).map fun x => x.p.ad)) (et_test (ev_opL (xs := ((l.filter fun x => !decide (x.p.nm = p.nm)).map fun x => x.p.ad).map V.int) (ev_var rfl) (el_call (ea_cons (ev_var rfl) (ea_cons (ev_var rfl) ea_nil)) (fun H1 e1 Q q E => ⟨a, p.nm, l, rfl, wt4.extn (ex_extn e1), fun q' H' nq e hq => q q' H' nq e hq⟩)) fun q H8 hq e8 => ?_)) (fun hb H5 e5 => ?_) (fun hb H5 e5 => ?_)
    · rw [← inV_ints]
      exact rv_isL (sq_of hq) rfl (List.all_eq_true.mpr fun v hv => by
        obtain ⟨n, _, rfl⟩ := List.mem_map.mp hv
        rfl)
    · refine s_raise1 (W := fun cls d _ H' => E cls d H') (ea_cons (ev_var rfl) ea_nil) fun dx H4 e6 hd => kC hw0 hb2 ?_ dx H4 ((e04.trans e5).trans e6) hd
      obtain ⟨x, hx, ex⟩ := List.mem_map.mp (of_decide_eq_true hb)
      obtain ⟨x1, x2⟩ := List.mem_filter.mp hx
      exact ⟨x.p, mem_rs x1, by simpa using x2, ex⟩
    have hna : ∀ q ∈ rsOf l, q.nm ≠ p.nm → q.ad ≠ p.ad := fun q hq ne e => by
      obtain ⟨x, hx, rfl⟩ := List.mem_map.mp (List.mem_reverse.mp hq)
      exact of_decide_eq_false hb (List.mem_map.mpr ⟨x, List.mem_filter.mpr ⟨hx, by simp [ne]⟩, e⟩)
    have e05 := e04.trans e5
    have wt5 := wt.extn (ex_extn e05)
    obtain ⟨pw, hpw, epw⟩ := hasG_iff.mp ((rl_ok vd p hp1).resolve_left hw0)
    refine q_asgR (rd_op (rd_kind (p := p) (ev_var rfl) wt5 (ev_var rfl) hp fun kg a1 H6 e6 hkg ha1 => rd_kind (p := pw) (ev_var rfl) (wt5.extn (ex_extn e6)) (by rw [epw]; exact ev_var rfl) hpw fun kw a2 H7 e7 hkw ha2 => ?_))
    have okg : kg.ok = true := by
      have := (vd.okP p hp1).kd
      rw [hkg] at this
      exact this
    have okw : kw.ok = true := by
      have := (vd.okP pw (mem_gts.mp hpw).1).kd
      rw [hkw] at this
      exact this
    refine r_two (ha1.mono e7) ha2 okg okw fun kk H8 e8 hkk => ?_
    try dsimp only [gName, List.set]
    have e08 := ((e05.trans e6).trans e7).trans e8
    refine q_asgL (xs := []) (el_lst ea_nil (by decide)) fun pl H9 n9 e9 h9 => ?_
    try dsimp only [gName, List.set]
    have e09 := e08.trans e9
    have z9 := z.extn (ex_extn e09)
    have pt8 : ∀ x ∈ l, PartAt K CK H8 x.t x.k x.p := fun x hx => (z.extn (ex_extn e08)).pt x hx
    have gw : p.nm ≠ p.rl := (rl_ne vd p hp1).symm
    refine q_forT (K := K) (a := d.ts) (xs := l.map fun x => V.ref x.t) (ev_prF (C := C) (x := "_parts") (ev_var rfl) z9.fl.at_ z9.fl.ts) (st_of z9.ts) (fun i σ' H' => ∃ (m : List Pl) (x6 : Option V), σ' = [some (.ref a), some (.str p.nm), some (.str p.rl), some (.int p.ad), some (.ref kk), some (.ref pl), x6] ∧ H' pl = some (.lst (m.map fun x => .ref x.t)) ∧ m.map Pl.p = (((l.take i).filter fun x => !decide (x.p.nm = p.nm)).map fun x => jn p.nm p.rl (me kg kw) x.p) ∧ (∀ x ∈ m, PartAt K CK H' x.t x.k x.p) ∧ Ex H8 H')
      (fun H3 e3 => ⟨[], none, rfl, e3 _ _ h9, rfl, (fun x hx => by cases hx), e9.trans e3⟩) (fun i σ' H' _ hh => by
        obtain ⟨_, _, _, _, _, _, b⟩ := hh
        exact st_of (b _ _ ((z.extn (ex_extn e08)).ts))) (fun i x σ' Ha hx hh => ?_) (fun σ' Ha hh => ?_)
    · obtain ⟨m, x6, rfl, hm, em, pm, ea⟩ := hh
      rw [List.getElem?_map] at hx
      obtain ⟨y, hy, rfl⟩ := Option.map_eq_some_iff.mp hx
      have my : y ∈ l := List.mem_of_getElem? hy
      have py := (pt8 y my).mono ea
      have tk : l.take (i + 1) = l.take i ++ [y] := by rw [List.take_add_one, hy]; rfl
      have hi : i < l.length := (List.getElem?_eq_some_iff.mp hy).1
      have mlen : m.length ≤ 14 := by
        have h1 := congrArg List.length em
        rw [List.length_map, List.length_map] at h1
        have h2 := List.length_filter_le (fun x : Pl => !decide (x.p.nm = p.nm)) (l.take i)
        rw [List.length_take] at h2
        omega
      have plH : H8 pl = none := n9
      try dsimp only [gName, List.set]
      refine s_if (b := decide (y.p.nm = p.rl)) (et_test (ev_is (ev_op (ev_pt rfl py at_nm) (ev_var rfl) (rv_eq rfl)) (by simp))) (fun hb Hb eb => ?_) (fun hb Hb eb => ?_)
      · have hb := of_decide_eq_true hb
        have yg : y.p.nm ≠ p.nm := fun e => gw (e.symm.trans hb)
        have pyb := py.mono eb
        refine s_appU (K := K) (xs := m.map fun x => V.ref x.t) (ys := [.str "gate", .str p.nm, .str y.p.rl, .int y.p.ad, .ref kk]) (eb _ _ hm) (ev_var rfl) (eu_tup (ea_cons ev_c (ea_cons (ev_var rfl) (ea_cons (ev_pt rfl pyb at_rl) (ea_cons (ev_pt rfl pyb at_ad) (ea_cons (ev_var rfl) ea_nil))))) (by show 5 ≤ 100000; decide)) (by rw [List.length_map]; omega) fun tp Hc ntp ec hc => ?_
        have hmc := ec _ _ (eb _ _ hm)
        have tpl : tp ≠ pl := fun e => by rw [e, hmc] at hc; cases hc
        refine ⟨m ++ [⟨tp, kk, ⟨some (me kg kw), p.nm, y.p.rl, y.p.ad⟩⟩], some (.ref y.t), rfl, ?_, ?_, fun x hx => ?_, ?_⟩
        · rw [upd_same, List.map_append]
          rfl
        · rw [tk, List.filter_append, List.map_append, List.map_append, em, List.filter_cons, if_pos (by simp [yg]), List.filter_nil]
          show _ ++ [_] = _ ++ [jn p.nm p.rl (me kg kw) y.p]
          unfold jn
          rw [if_pos hb]
        · have keep : ∀ {c : Addr} {o : HO}, Hc c = some o → (∀ ys, o ≠ .lst ys) → (upd Hc pl (.lst ((m.map fun x => V.ref x.t) ++ [.ref tp]))) c = some o := fun {c o} h1 h2 => by
            rw [upd_ne (fun e => by rw [e, hmc] at h1; exact h2 _ (Option.some.inj h1).symm)]
            exact h1
          rcases List.mem_append.mp hx with hx | hx
          · have px := (pm x hx).mono (eb.trans ec)
            refine ⟨keep px.t (fun ys e => by cases e), fun k hk => ?_⟩
            obtain ⟨dx, hd⟩ := px.k k hk
            exact ⟨dx, keep hd (fun ys e => by cases e)⟩
          · rw [List.mem_singleton.mp hx]
            refine ⟨keep hc (fun ys e => by cases e), fun k hk => ?_⟩
            cases hk
            obtain ⟨dx, hd⟩ := hkk
            exact ⟨dx, keep ((ea.trans (eb.trans ec)) _ _ hd) (fun ys e => by cases e)⟩
        · exact Ex.mut (ea.trans (eb.trans ec)) plH
      · have hb := of_decide_eq_false hb
        refine s_when (b := !decide (y.p.nm = p.nm)) (et_test (ev_is (ev_op (ev_pt rfl (py.mono eb) at_nm) (ev_var rfl) (rv_ne rfl)) (by simp))) (fun h2 Hc ec => ?_) (fun h2 Hc ec => ?_)
        · have yg : y.p.nm ≠ p.nm := by simpa using h2
          refine s_app (K := K) (xs := m.map fun x => V.ref x.t) (ec _ _ (eb _ _ hm)) (ev_var rfl) (ev_var rfl) (by rw [List.length_map]; omega) fun Hd ed => ?_
          have ecd := (eb.trans ec).trans ed
          have hmd := ecd _ _ hm
          have keep : ∀ {c : Addr} {o : HO}, Hd c = some o → (∀ ys, o ≠ .lst ys) → (upd Hd pl (.lst ((m.map fun x => V.ref x.t) ++ [.ref y.t]))) c = some o := fun {c o} h1 h2 => by
            rw [upd_ne (fun e => by rw [e, hmd] at h1; exact h2 _ (Option.some.inj h1).symm)]
            exact h1
          have keepP : ∀ {x : Pl}, PartAt K CK Hd x.t x.k x.p → PartAt K CK (upd Hd pl (.lst ((m.map fun x => V.ref x.t) ++ [.ref y.t]))) x.t x.k x.p := fun {x} px =>
            ⟨keep px.t (fun ys e => by cases e), fun k hk => by
              obtain ⟨dx, hd⟩ := px.k k hk
              exact ⟨dx, keep hd (fun ys e => by cases e)⟩⟩
          refine ⟨m ++ [y], some (.ref y.t), rfl, ?_, ?_, fun x hx => ?_, Ex.mut (ea.trans ecd) plH⟩
          · rw [upd_same, List.map_append]
            rfl
          · rw [tk, List.filter_append, List.map_append, List.map_append, em, List.filter_cons, if_pos (by simp [yg]), List.filter_nil]
            show _ ++ [y.p] = _ ++ [jn p.nm p.rl (me kg kw) y.p]
            unfold jn
            rw [if_neg hb]
          · rcases List.mem_append.mp hx with hx | hx
            · exact keepP ((pm x hx).mono ecd)
            · rw [List.mem_singleton.mp hx]
              exact keepP (py.mono ecd)
        · have yg : y.p.nm = p.nm := by simpa using h2
          refine ⟨m, some (.ref y.t), rfl, ec _ _ (eb _ _ hm), ?_, fun x hx => (pm x hx).mono (eb.trans ec), ea.trans (eb.trans ec)⟩
          rw [tk, List.filter_append, List.filter_cons, if_neg (by simp [yg]), List.filter_nil, List.append_nil, em]
    · obtain ⟨m, x6, rfl, hm, em, pm, ea⟩ := hh
      rw [List.length_map, List.take_length] at em
      refine rd_ret ⟨_, rfl, pl, _, rfl, .inr (sq_of hm), ?_⟩
      have e0a := e08.trans ea
      have sameP : ∀ q ∈ rsOf l, q.nm = p.nm → q = p := fun q hq e => same_nm vd hq hp1 e
      have vm : Vd (rsOf m) := by
        rw [rs_join em]
        exact (join_ok gw hw0 (okW_ne (vd.okP p hp1).nm) (vd.okP p hp1).nm (me_ok okg okw) vd hb2 (fun q hq e => by rw [sameP q hq e]; exact ⟨(mem_gts.mp hp).2, rfl⟩) (fun q hq e => by
          rw [same_nm vd hq (mem_gts.mp hpw).1 (e.trans epw.symm)]
          exact (mem_gts.mp hpw).2)).vd
      exact mk_world (l := m) pm vm (hT.ext e0a) fun b H' nb eN wb T' => kQ hw0 hb2 hna pw kg kw hpw epw hkg hkw b m H' ((ex_extn e0a).trans eN) em wb T'
end
end L2.Mj
set_option maxRecDepth 100000
set_option maxHeartbeats 4000000
namespace L2.Mb
open PySem PySem.Spec PyProof.Rows Mx PySem.W
/-! ### except (A, B, .., Z), any number of them -/
section
variable {M : Model} {K : Frag}
theorem exmAny_all {cls : Value} : ∀ {cs : List Value} {b : Bool}, exmAny K cls cs = some b → ∀ c ∈ cs, ∃ d, exmOne K cls c = some d
  | c :: r, b, h, x, hx => by
    obtain ⟨b1, d1, e1, e2, _⟩ := exmAny_cons h
    rcases List.mem_cons.mp hx with rfl | z
    · exact ⟨b1, e1⟩
    · exact exmAny_all e2 x z
theorem exm_tupN {cs : List Value} {cls : Value} {tp e : Addr} {b : Bool} {h : Heap} (X : K.In h) (LT : Looks M h (typeOf (.ref e)) cls) (hp : h.get? tp = some { cls := .type "tuple", data := .seq cs.toArray }) (hx : exmAny K cls cs = some b) :
    Looks M h (excMatches (.ref e) (.ref tp)) b := by
  intro A Q E s k₀ q
  obtain ⟨hh, g, d, tk, os⟩ := s
  have k : ∀ b o, h.get? b = some o → hh.get? b = some o := k₀
  have LT0 : Looks M h (isInstance (.ref tp) (.type "tuple")) true := ((Looks.ld hp).andThen .now).andThen (Looks.of_pure isSubtype_tuple_tuple)
  have LT := LT.keeps k
  have LT0 := LT0.keeps k
  have hp' := k _ _ hp
  unfold excMatches
  refine wpAny_bind (LT0.at ?_)
  dsimp only
  rw [if_pos rfl]
  first
    | refine wpAny_bind (wpAny_seqItems hp' rfl ?_)
    | refine wpAny_bind (wpAny_bind (wpAny_seqItems hp' rfl (wpAny_pure ?_)))
  dsimp only [Option.getD_some, Option.getD]
  refine wpAny_bind (wpAny_pure ?_)
  refine wpAny_bind (wpAny_forIn_list _ (fun rest _ s' => s' = ⟨hh, g, d, tk, os⟩ ∧ ∀ c ∈ rest, ∃ d, exmOne K cls c = some d) _ (fun c rest _ s' hs => ?_) (fun _ s' hs => ?_) cs PUnit.unit ⟨rfl, exmAny_all hx⟩)
  · obtain ⟨rfl, hc⟩ := hs
    obtain ⟨d1, h1⟩ := hc c List.mem_cons_self
    obtain ⟨e1, S1⟩ := exm_cls (M := M) X h1
    have e1 := e1.keeps k
    refine wpAny_bind (e1.at ?_)
    simp only [Bool.not_true, Bool.false_eq_true, if_false]
    exact wpAny_pure ⟨rfl, fun c' h' => hc c' (List.mem_cons_of_mem _ h')⟩
  · obtain ⟨rfl, _⟩ := hs
    refine wpAny_bind (LT.at ?_)
    refine wpAny_bind (wpAny_mono (wpAny_forIn_list (Q := fun (r : Option Bool × Unit) s' => s' = ⟨hh, g, d, tk, os⟩ ∧ ((r.1 = some true ∧ b = true) ∨ (r.1 = none ∧ b = false))) _ (fun rest (r : Option Bool × Unit) s' => s' = ⟨hh, g, d, tk, os⟩ ∧ r.1 = none ∧ exmAny K cls rest = some b) (fun c rest r s' hs => ?_) (fun r s' hs => ?_) cs (none, ()) ⟨rfl, rfl, hx⟩) (fun r s' hs => ?_) fun _ _ z => z)
    · obtain ⟨rfl, hr, hb⟩ := hs
      obtain ⟨b1, d1, h1, h2, h3⟩ := exmAny_cons hb
      obtain ⟨e1, S1⟩ := exm_cls (M := M) X h1
      have S1 := S1.keeps k
      refine wpAny_bind (S1.at ?_)
      cases b1 with
      | true =>
        rw [if_pos rfl]
        exact wpAny_pure ⟨rfl, .inl ⟨rfl, by rw [h3]; rfl⟩⟩
      | false =>
        rw [if_neg (by simp)]
        refine wpAny_pure ⟨rfl, rfl, ?_⟩
        rw [h3, Bool.false_or]
        exact h2
    · obtain ⟨rfl, hr, hb⟩ := hs
      exact ⟨rfl, .inr ⟨hr, (Option.some.inj hb).symm⟩⟩
    · obtain ⟨rfl, hr | hr⟩ := hs
      · obtain ⟨r1, r2⟩ := r
        obtain ⟨h1, h2⟩ := hr
        simp only at h1
        subst h1
        rw [h2] at q
        exact wpAny_pure q
      · obtain ⟨r1, r2⟩ := r
        obtain ⟨h1, h2⟩ := hr
        simp only at h1
        subst h1
        rw [h2] at q
        exact wpAny_pure q
end
end L2.Mb
set_option maxRecDepth 100000
set_option maxHeartbeats 4000000
namespace L2.Mb
open PySem PySem.Spec PyProof.Rows Mx
section
variable {X : Cx} {x1 x2 x3 x4 x5 x6 x7 n : Str} {c1 c2 c3 c4 c5 c6 c7 : Value} {i j : Nat} {body suite : List Stmt} {b₀ : Stmt} {p1 p2 p3 p4 p5 p6 p7 pt pos pos' : Pos} {tb : WX → TS} {ts : Addr → Value → Option Addr → TS}
theorem ps_try_hold7 (hs : X.stack = X.env :: X.outer) (hf : X.env.frame = some X.env.locals) (hx : X.ex = []) (hN : X.N.Nodup) (hi : X.N[i]? = some n) (hln : X.env.kindOf n = some .local) (g1 : Gl X x1) (m1 : X.mg x1 = some c1) (g2 : Gl X x2) (m2 : X.mg x2 = some c2) (g3 : Gl X x3) (m3 : X.mg x3 = some c3) (g4 : Gl X x4) (m4 : X.mg x4 = some c4) (g5 : Gl X x5) (m5 : X.mg x5 = some c5) (g6 : Gl X x6) (m6 : X.mg x6 = some c6) (g7 : Gl X x7) (m7 : X.mg x7 = some c7)
    (d1 : (x1 == ("__debug__" : Str)) = false) (d2 : (x2 == ("__debug__" : Str)) = false) (d3 : (x3 == ("__debug__" : Str)) = false) (d4 : (x4 == ("__debug__" : Str)) = false) (d5 : (x5 == ("__debug__" : Str)) = false) (d6 : (x6 == ("__debug__" : Str)) = false) (d7 : (x7 == ("__debug__" : Str)) = false)
    (hb : ∀ (W : WX) (pn : List (Addr × Obj)) (xe : Value → Shared → Prop), Takes (X.tr pn xe) W → PassesOwn (model X.prog X.w) X.A X.env xe → PSs (X.tr pn xe) body (tb W))
    (hsu : ∀ (a : Addr) (oe : Obj) (cls : Value) (d : Option Addr) (pn : List (Addr × Obj)), Zc cls d oe → (∃ vs, oe.data = .fields vs) → PSs (X.suite a ((a, oe) :: pn)) (b₀ :: suite) (ts a cls d)) :
    PS X (.Try body [.ExceptHandler (some (.Tuple [.Name x1 p1, .Name x2 p2, .Name x3 p3, .Name x4 p4, .Name x5 p5, .Name x6 p6, .Name x7 p7] j pt)) (some n) (b₀ :: suite) pos'] [] [] pos) (fun D σ H => tb (wHold X.K X.N.length [c1, c2, c3, c4, c5, c6, c7] i ts D) D σ H) := by
  refine ⟨fun pins s σ H D I h => ?_⟩
  have ok := I.ok
  have fr : X.A.frames = some (X.env :: X.outer) := by
    rw [ok.frames, hs]
  have hloc : Loc X.env.scope n := .inl hln
  refine wpAny_Try_except ?_
  refine wpAny_mono ((hb (wHold X.K X.N.length [c1, c2, c3, c4, c5, c6, c7] i ts D) (X.pn ++ pins) (fun e sa => wpAny (model X.prog X.w) X.A (noteFrame e X.env) (fun _ sb => wpAny (model X.prog X.w) X.A (setFlight e none) (fun _ sc =>
    wpAny (model X.prog X.w) X.A (handleBy e X.env [.ExceptHandler (some (.Tuple [.Name x1 p1, .Name x2 p2, .Name x3 p3, .Name x4 p4, .Name x5 p5, .Name x6 p6, .Name x7 p7] j pt)) (some n) (b₀ :: suite) pos']) (SP X pins D) X.xe sc) X.xe sb) X.xe sa) (fun u s' xx => ?_) PassesOwn.looking).run [] s σ H D (I.toTry _) h) (fun f s1 hsp => ?_) (fun _ _ z => z)
  · obtain ⟨a, B, sI, pins', σ', H', cls, d, rfl, J', nb, up, sky, na, os, ag, C, dd, rfl, rfl, ha, hyes⟩ := xx
    have J : Inv X pins σ' H' sI := J'.ofTry ok
    have sky2 : Sky B (X.env :: X.outer) a (Zc (.ref C) (some dd)) X.env.locals s'.heap := by
      rw [← hs]
      exact sky
    show wpAny (model X.prog X.w) X.A (noteFrame (.ref a) X.env) _ _ _
    refine Sky.land Zc.steady fr hf sky2 fun hA flA upA => ?_
    have JA : Inv X pins σ' H' { s' with heap := hA } := J.landed nb flA.1 (up.trans upA) os ag
    obtain ⟨oA, vA, eA, zA, dA⟩ := flA.there
    have nfr : a ∉ frs (X.env :: X.outer) := fun hm => by
      obtain ⟨_, o2, e2, nf2⟩ := flA.2.2.1.mem hm
      rw [eA] at e2
      cases e2
      exact nf2 _ dA
    have nL : a ≠ X.env.locals := fun z => nfr (List.mem_filterMap.mpr ⟨X.env, List.mem_cons_self, by rw [hf, z]⟩)
    have nF : a ∉ X.fs := fun hm => by
      obtain ⟨e, he, q⟩ := List.mem_filterMap.mp hm
      exact nfr (List.mem_filterMap.mpr ⟨e, List.mem_cons_of_mem _ he, q⟩)
    have nI : ∀ o, sI.heap.get? a ≠ some o := fun o e => by
      have q := nb a o e (by rw [hs]; exact nfr)
      rw [flA.2.1] at q
      cases q
    have n0 : X.s_0.heap.get? a = none := by
      cases q : X.s_0.heap.get? a with
      | none => rfl
      | some o =>
        obtain ⟨o2, e2⟩ := J.base.there a o q (by rw [hx]; exact List.not_mem_nil)
        exact absurd e2 (nI o2)
    have nc : ∀ x c, X.env.cells.lookup x = some c → c ≠ a := fun x c e z => by
      obtain ⟨_, oc, hoc, _⟩ := J.cell x c e
      rw [z] at hoc
      exact nI _ hoc
    have np : ∀ p ∈ X.pn ++ pins, p.1 ≠ a := fun p hp z => by
      have q := (J.pin p hp).1
      rw [z] at q
      exact nI _ q
    have SA := JA.suite eA dA na nL nF
    refine wpAny_handleBy_cons (codeAny_handlers_test ?_) (by intro q; cases q)
    refine wpAny_Tuple ?_
    refine wpAny_items_cons (ld_glob (X := X.suite a ((a, oA) :: (X.pn ++ pins))) SA g1 m1 ?_ d1)
    refine wpAny_items_cons (ld_glob (X := X.suite a ((a, oA) :: (X.pn ++ pins))) SA g2 m2 ?_ d2)
    refine wpAny_items_cons (ld_glob (X := X.suite a ((a, oA) :: (X.pn ++ pins))) SA g3 m3 ?_ d3)
    refine wpAny_items_cons (ld_glob (X := X.suite a ((a, oA) :: (X.pn ++ pins))) SA g4 m4 ?_ d4)
    refine wpAny_items_cons (ld_glob (X := X.suite a ((a, oA) :: (X.pn ++ pins))) SA g5 m5 ?_ d5)
    refine wpAny_items_cons (ld_glob (X := X.suite a ((a, oA) :: (X.pn ++ pins))) SA g6 m6 ?_ d6)
    refine wpAny_items_cons (ld_glob (X := X.suite a ((a, oA) :: (X.pn ++ pins))) SA g7 m7 ?_ d7)
    refine wpAny_items_nil ⟨by size_fits, ?_⟩
    have kp : ∀ q o, hA.get? q = some o → (hA.push { cls := .type "tuple", data := .seq [c1, c2, c3, c4, c5, c6, c7].toArray }).get? q = some o := fun _ _ z => Heap.get?_push_of_some _ z
    have LT : W.Looks (model X.prog X.w) hA (typeOf (.ref a)) (.ref C) := fun A Q E s k q => wpAny_typeOf_ref (k _ _ eA) (by rw [zA.1]; exact q)
    refine (exm_tupN (M := model X.prog X.w) (JA.kIn.keeps kp) (LT.keeps kp) (Heap.get?_push_size hA rfl) ha).here ?_
    refine codeAny_handlers_suite_as ?_
    have flB := flying_kept flA kp
    have upB : hA.UpToSlots (hA.push { cls := .type "tuple", data := .seq [c1, c2, c3, c4, c5, c6, c7].toArray }) := Heap.UpToSlots.of_keeps kp
    refine HandSPX.lands_againZ flB fun h4 fl4 up4 => ?_
    have J4 : Inv X pins σ' H' { s' with heap := h4 } := J.landed nb fl4.1 (((up.trans upA).trans upB).trans up4) os ag
    obtain ⟨o4, v4, e4, z4, f4⟩ := fl4.there
    have S4 := J4.suite e4 f4 na nL nF
    refine store_ok (X := X.suite a ((a, o4) :: (X.pn ++ pins))) (v := .ref a) S4 hN hi hloc rfl (fun s5 S5 => ?_) (.inr hln)
    refine wpAny_mono ((hsu a o4 (.ref C) (some dd) (X.pn ++ pins) z4 ⟨_, f4⟩).run [] s5 _ H' _ S5 (hyes a J.len na)) (fun f s6 hsp => ?_) (fun _ _ z => False.elim z)
    cases f with
    | next =>
      obtain ⟨σ6, H6, S6, q6⟩ := hsp
      refine gone_ok (unsuiteK S6 ok) hN hi hln fun s7 J7 => ?_
      have e7 := (J7.pin (a, o4) (List.mem_append_right _ List.mem_cons_self)).1
      have u7 := (J7.pin (a, o4) (List.mem_append_right _ List.mem_cons_self)).2.1
      have K7 : Inv X pins (σ6.set i none) H6 s7 := J7.pins_of fun r hr => J7.pin r (List.mem_append_right _ (List.mem_cons_of_mem _ hr))
      exact ⟨_, _, inv_know K7 u7 n0 nL nc np (exh_ok e7 z4.1 z4.2 f4), q6 u7⟩
    | brk =>
      obtain ⟨σ6, H6, S6, q6⟩ := hsp
      exact q6.elim
    | cont =>
      obtain ⟨σ6, H6, S6, q6⟩ := hsp
      exact q6.elim
    | ret u =>
      obtain ⟨v6, σ6, H6, S6, r6, q6⟩ := hsp
      exact q6.elim
  · cases f with
    | next =>
      obtain ⟨σ', H', J', q⟩ := hsp
      exact wpAny_execs_nil ⟨σ', H', J'.ofTry ok, q⟩
    | brk =>
      obtain ⟨σ', H', J', q⟩ := hsp
      exact ⟨σ', H', J'.ofTry ok, q⟩
    | cont =>
      obtain ⟨σ', H', J', q⟩ := hsp
      exact ⟨σ', H', J'.ofTry ok, q⟩
    | ret u =>
      obtain ⟨v, σ', H', J', r, q⟩ := hsp
      exact ⟨v, σ', H', J'.ofTry ok, r, q⟩
end
end L2.Mb
set_option maxRecDepth 100000
set_option maxHeartbeats 4000000
namespace L2.Mb
open PySem PySem.Spec PyProof.Rows Mx
section
variable {X : Cx} {x1 x2 x3 x4 x5 x6 x7 x8 n : Str} {c1 c2 c3 c4 c5 c6 c7 c8 : Value} {i j : Nat} {body suite : List Stmt} {b₀ : Stmt} {p1 p2 p3 p4 p5 p6 p7 p8 pt pos pos' : Pos} {tb : WX → TS} {ts : Addr → Value → Option Addr → TS}
theorem ps_try_hold8 (hs : X.stack = X.env :: X.outer) (hf : X.env.frame = some X.env.locals) (hx : X.ex = []) (hN : X.N.Nodup) (hi : X.N[i]? = some n) (hln : X.env.kindOf n = some .local) (g1 : Gl X x1) (m1 : X.mg x1 = some c1) (g2 : Gl X x2) (m2 : X.mg x2 = some c2) (g3 : Gl X x3) (m3 : X.mg x3 = some c3) (g4 : Gl X x4) (m4 : X.mg x4 = some c4) (g5 : Gl X x5) (m5 : X.mg x5 = some c5) (g6 : Gl X x6) (m6 : X.mg x6 = some c6) (g7 : Gl X x7) (m7 : X.mg x7 = some c7) (g8 : Gl X x8) (m8 : X.mg x8 = some c8)
    (d1 : (x1 == ("__debug__" : Str)) = false) (d2 : (x2 == ("__debug__" : Str)) = false) (d3 : (x3 == ("__debug__" : Str)) = false) (d4 : (x4 == ("__debug__" : Str)) = false) (d5 : (x5 == ("__debug__" : Str)) = false) (d6 : (x6 == ("__debug__" : Str)) = false) (d7 : (x7 == ("__debug__" : Str)) = false) (d8 : (x8 == ("__debug__" : Str)) = false)
    (hb : ∀ (W : WX) (pn : List (Addr × Obj)) (xe : Value → Shared → Prop), Takes (X.tr pn xe) W → PassesOwn (model X.prog X.w) X.A X.env xe → PSs (X.tr pn xe) body (tb W))
    (hsu : ∀ (a : Addr) (oe : Obj) (cls : Value) (d : Option Addr) (pn : List (Addr × Obj)), Zc cls d oe → (∃ vs, oe.data = .fields vs) → PSs (X.suite a ((a, oe) :: pn)) (b₀ :: suite) (ts a cls d)) :
    PS X (.Try body [.ExceptHandler (some (.Tuple [.Name x1 p1, .Name x2 p2, .Name x3 p3, .Name x4 p4, .Name x5 p5, .Name x6 p6, .Name x7 p7, .Name x8 p8] j pt)) (some n) (b₀ :: suite) pos'] [] [] pos) (fun D σ H => tb (wHold X.K X.N.length [c1, c2, c3, c4, c5, c6, c7, c8] i ts D) D σ H) := by
  refine ⟨fun pins s σ H D I h => ?_⟩
  have ok := I.ok
  have fr : X.A.frames = some (X.env :: X.outer) := by
    rw [ok.frames, hs]
  have hloc : Loc X.env.scope n := .inl hln
  refine wpAny_Try_except ?_
  refine wpAny_mono ((hb (wHold X.K X.N.length [c1, c2, c3, c4, c5, c6, c7, c8] i ts D) (X.pn ++ pins) (fun e sa => wpAny (model X.prog X.w) X.A (noteFrame e X.env) (fun _ sb => wpAny (model X.prog X.w) X.A (setFlight e none) (fun _ sc =>
    wpAny (model X.prog X.w) X.A (handleBy e X.env [.ExceptHandler (some (.Tuple [.Name x1 p1, .Name x2 p2, .Name x3 p3, .Name x4 p4, .Name x5 p5, .Name x6 p6, .Name x7 p7, .Name x8 p8] j pt)) (some n) (b₀ :: suite) pos']) (SP X pins D) X.xe sc) X.xe sb) X.xe sa) (fun u s' xx => ?_) PassesOwn.looking).run [] s σ H D (I.toTry _) h) (fun f s1 hsp => ?_) (fun _ _ z => z)
  · obtain ⟨a, B, sI, pins', σ', H', cls, d, rfl, J', nb, up, sky, na, os, ag, C, dd, rfl, rfl, ha, hyes⟩ := xx
    have J : Inv X pins σ' H' sI := J'.ofTry ok
    have sky2 : Sky B (X.env :: X.outer) a (Zc (.ref C) (some dd)) X.env.locals s'.heap := by
      rw [← hs]
      exact sky
    show wpAny (model X.prog X.w) X.A (noteFrame (.ref a) X.env) _ _ _
    refine Sky.land Zc.steady fr hf sky2 fun hA flA upA => ?_
    have JA : Inv X pins σ' H' { s' with heap := hA } := J.landed nb flA.1 (up.trans upA) os ag
    obtain ⟨oA, vA, eA, zA, dA⟩ := flA.there
    have nfr : a ∉ frs (X.env :: X.outer) := fun hm => by
      obtain ⟨_, o2, e2, nf2⟩ := flA.2.2.1.mem hm
      rw [eA] at e2
      cases e2
      exact nf2 _ dA
    have nL : a ≠ X.env.locals := fun z => nfr (List.mem_filterMap.mpr ⟨X.env, List.mem_cons_self, by rw [hf, z]⟩)
    have nF : a ∉ X.fs := fun hm => by
      obtain ⟨e, he, q⟩ := List.mem_filterMap.mp hm
      exact nfr (List.mem_filterMap.mpr ⟨e, List.mem_cons_of_mem _ he, q⟩)
    have nI : ∀ o, sI.heap.get? a ≠ some o := fun o e => by
      have q := nb a o e (by rw [hs]; exact nfr)
      rw [flA.2.1] at q
      cases q
    have n0 : X.s_0.heap.get? a = none := by
      cases q : X.s_0.heap.get? a with
      | none => rfl
      | some o =>
        obtain ⟨o2, e2⟩ := J.base.there a o q (by rw [hx]; exact List.not_mem_nil)
        exact absurd e2 (nI o2)
    have nc : ∀ x c, X.env.cells.lookup x = some c → c ≠ a := fun x c e z => by
      obtain ⟨_, oc, hoc, _⟩ := J.cell x c e
      rw [z] at hoc
      exact nI _ hoc
    have np : ∀ p ∈ X.pn ++ pins, p.1 ≠ a := fun p hp z => by
      have q := (J.pin p hp).1
      rw [z] at q
      exact nI _ q
    have SA := JA.suite eA dA na nL nF
    refine wpAny_handleBy_cons (codeAny_handlers_test ?_) (by intro q; cases q)
    refine wpAny_Tuple ?_
    refine wpAny_items_cons (ld_glob (X := X.suite a ((a, oA) :: (X.pn ++ pins))) SA g1 m1 ?_ d1)
    refine wpAny_items_cons (ld_glob (X := X.suite a ((a, oA) :: (X.pn ++ pins))) SA g2 m2 ?_ d2)
    refine wpAny_items_cons (ld_glob (X := X.suite a ((a, oA) :: (X.pn ++ pins))) SA g3 m3 ?_ d3)
    refine wpAny_items_cons (ld_glob (X := X.suite a ((a, oA) :: (X.pn ++ pins))) SA g4 m4 ?_ d4)
    refine wpAny_items_cons (ld_glob (X := X.suite a ((a, oA) :: (X.pn ++ pins))) SA g5 m5 ?_ d5)
    refine wpAny_items_cons (ld_glob (X := X.suite a ((a, oA) :: (X.pn ++ pins))) SA g6 m6 ?_ d6)
    refine wpAny_items_cons (ld_glob (X := X.suite a ((a, oA) :: (X.pn ++ pins))) SA g7 m7 ?_ d7)
    refine wpAny_items_cons (ld_glob (X := X.suite a ((a, oA) :: (X.pn ++ pins))) SA g8 m8 ?_ d8)
    refine wpAny_items_nil ⟨by size_fits, ?_⟩
    have kp : ∀ q o, hA.get? q = some o → (hA.push { cls := .type "tuple", data := .seq [c1, c2, c3, c4, c5, c6, c7, c8].toArray }).get? q = some o := fun _ _ z => Heap.get?_push_of_some _ z
    have LT : W.Looks (model X.prog X.w) hA (typeOf (.ref a)) (.ref C) := fun A Q E s k q => wpAny_typeOf_ref (k _ _ eA) (by rw [zA.1]; exact q)
    refine (exm_tupN (M := model X.prog X.w) (JA.kIn.keeps kp) (LT.keeps kp) (Heap.get?_push_size hA rfl) ha).here ?_
    refine codeAny_handlers_suite_as ?_
    have flB := flying_kept flA kp
    have upB : hA.UpToSlots (hA.push { cls := .type "tuple", data := .seq [c1, c2, c3, c4, c5, c6, c7, c8].toArray }) := Heap.UpToSlots.of_keeps kp
    refine HandSPX.lands_againZ flB fun h4 fl4 up4 => ?_
    have J4 : Inv X pins σ' H' { s' with heap := h4 } := J.landed nb fl4.1 (((up.trans upA).trans upB).trans up4) os ag
    obtain ⟨o4, v4, e4, z4, f4⟩ := fl4.there
    have S4 := J4.suite e4 f4 na nL nF
    refine store_ok (X := X.suite a ((a, o4) :: (X.pn ++ pins))) (v := .ref a) S4 hN hi hloc rfl (fun s5 S5 => ?_) (.inr hln)
    refine wpAny_mono ((hsu a o4 (.ref C) (some dd) (X.pn ++ pins) z4 ⟨_, f4⟩).run [] s5 _ H' _ S5 (hyes a J.len na)) (fun f s6 hsp => ?_) (fun _ _ z => False.elim z)
    cases f with
    | next =>
      obtain ⟨σ6, H6, S6, q6⟩ := hsp
      refine gone_ok (unsuiteK S6 ok) hN hi hln fun s7 J7 => ?_
      have e7 := (J7.pin (a, o4) (List.mem_append_right _ List.mem_cons_self)).1
      have u7 := (J7.pin (a, o4) (List.mem_append_right _ List.mem_cons_self)).2.1
      have K7 : Inv X pins (σ6.set i none) H6 s7 := J7.pins_of fun r hr => J7.pin r (List.mem_append_right _ (List.mem_cons_of_mem _ hr))
      exact ⟨_, _, inv_know K7 u7 n0 nL nc np (exh_ok e7 z4.1 z4.2 f4), q6 u7⟩
    | brk =>
      obtain ⟨σ6, H6, S6, q6⟩ := hsp
      exact q6.elim
    | cont =>
      obtain ⟨σ6, H6, S6, q6⟩ := hsp
      exact q6.elim
    | ret u =>
      obtain ⟨v6, σ6, H6, S6, r6, q6⟩ := hsp
      exact q6.elim
  · cases f with
    | next =>
      obtain ⟨σ', H', J', q⟩ := hsp
      exact wpAny_execs_nil ⟨σ', H', J'.ofTry ok, q⟩
    | brk =>
      obtain ⟨σ', H', J', q⟩ := hsp
      exact ⟨σ', H', J'.ofTry ok, q⟩
    | cont =>
      obtain ⟨σ', H', J', q⟩ := hsp
      exact ⟨σ', H', J'.ofTry ok, q⟩
    | ret u =>
      obtain ⟨v, σ', H', J', r, q⟩ := hsp
      exact ⟨v, σ', H', J'.ofTry ok, r, q⟩
end
end L2.Mb
set_option maxRecDepth 100000
set_option maxHeartbeats 4000000
namespace L2.Mb
open PySem PySem.Spec PyProof.Rows Mx
open PySem.SeqAt PySem.MeetsSeq
/-! ### x == "..": x of any kind -/
theorem strDictE1 (z : Str) (t : Tok) (a : Addr) (c : Value) (es : Array DictEntry) (k : Nat) (dd : Option Addr) (sl : Array (Option Value)) :
    Meets (Builtin.«str.__eq__» ⟨[.str z t, .ref a], []⟩) (fun _ R s => s.heap.get? a = some { cls := c, dict := dd, data := .dict es k, slots := sl } ∧ R (.ok (.ret .notImplemented)) s) := by
  refine .of_wp fun p w A R s q => ?_
  obtain ⟨hp, g, d, tk, os⟩ := s
  obtain ⟨hl, q⟩ := q
  wp_walk using wpAny_loadPart' hl, wpAny_load hl
  exact ⟨_, rfl, q⟩
theorem strDictE2 (z : Str) (t : Tok) (a : Addr) (es : Array DictEntry) (k : Nat) (dd : Option Addr) (sl : Array (Option Value)) :
    Meets (Builtin.«dict.__eq__» ⟨[.ref a, .str z t], []⟩) (fun _ R s => s.heap.get? a = some { cls := .type "dict", dict := dd, data := .dict es k, slots := sl } ∧ R (.ok (.ret .notImplemented)) s) := by
  refine .of_wp fun p w A R s q => ?_
  obtain ⟨hp, g, d, tk, os⟩ := s
  obtain ⟨hl, q⟩ := q
  have f1 := F.sub_str_dict
  wp_walk using wpAny_loadPart' hl, wpAny_load hl
  exact ⟨_, rfl, q⟩
theorem rcEq_dictStr {A : Around} {s : Shared} {a : Addr} {o : Obj} {es : Array DictEntry} {k : Nat} (z : Str) (t : Tok) (ho : s.heap.get? a = some o) (hc : o.cls = .type "dict") (hd : o.data = .dict es k) (hu : A.units < cLine) : RcAt A s (.ref a) (.str z t) false := fun prog w E Q h => by
  obtain ⟨oc, dd, data, sl⟩ := o
  simp only at hc hd
  subst hc hd
  exact rc_eq_decline_or (k := false) ⟨_, ho, rfl⟩ (typeIs_str s z t) (by decide) F.sub_str_dict F.slot_dict_eq F.slot_str_eq_refl
    (fun _ q => call_meets F.slot_dict_eq ⟨_, ho, rfl⟩ F.entry_dict_eq (F.args_dict_eq_2 _ _) (strDictE2 z t a es k dd sl) ⟨ho, q⟩)
    (fun _ q => call_meets F.slot_str_eq_refl (typeIs_str s z t) F.entry_str_eq (F.args_str_eq_2 _ _) (strDictE1 z t a (.type "dict") es k dd sl) ⟨ho, q⟩)
    (fun _ q => wpAny_of_eq (rfl : isSame (.ref a) (.str z t) = pure false) q) (.inr hu) h
def rEqW : R2 := fun x y H Q => ∃ z : Str, y = .str z ∧ AnyV H x ∧ Q (.bl (isS x z)) H
theorem op_eqW {X : Cx} (hu : X.A.units < cLine) : OpR X (compareOp .Eq) rEqW := by
  intro pins s σ H x y v u Q I rx ry h
  obtain ⟨z, rfl, hx, q⟩ := h
  have nod : ∀ z2 : Str, x = .str z2 → wpAny (model X.prog X.w) X.A (compareOp .Eq v u) (EP X pins σ Q) X.xe s := fun z2 e => by
    subst e
    exact op_eq pins s σ H (.str z2) (.str z) v u Q I rx ry ⟨rfl, by
      have e2 : decide (V.str z2 = V.str z) = isS (.str z2) z := by
        show _ = decide (z2 = z)
        by_cases h : z2 = z
        · rw [decide_eq_true h, decide_eq_true (congrArg V.str h)]
        · rw [decide_eq_false h, decide_eq_false (fun w => h (V.str.inj w))]
      rw [e2]
      exact q⟩
  cases hx with
  | non => exact op_eq pins s σ H .non (.str z) v u Q I rx ry ⟨rfl, q⟩
  | bl b => exact op_eq pins s σ H (.bl b) (.str z) v u Q I rx ry ⟨rfl, q⟩
  | int n => exact op_eq pins s σ H (.int n) (.str z) v u Q I rx ry ⟨rfl, q⟩
  | str z2 => exact nod z2 rfl
  | lst h =>
    obtain ⟨t, rfl⟩ := ry
    cases rx
    obtain ⟨its2, _, ⟨o2, n2, ho2, hc2, _, hd2⟩, _⟩ := I.list (SqL.of h)
    exact RcAt.list_str z t ⟨o2, ho2, hc2, n2, hd2⟩ hu X.prog X.w X.xe _ ⟨.bl _, H, I, rfl, q⟩
  | tup h =>
    obtain ⟨t, rfl⟩ := ry
    cases rx
    obtain ⟨its2, _, ⟨o2, ho2, hc2, n2, hd2⟩, _⟩ := I.tuple (.inl (.inl h))
    exact RcAt.tuple_str z t ⟨o2, ho2, hc2, n2, hd2⟩ hu X.prog X.w X.xe _ ⟨.bl _, H, I, rfl, q⟩
  | dct h =>
    obtain ⟨t, rfl⟩ := ry
    cases rx
    obtain ⟨_, ya, vs, ra, o2, es, ep, ho2, hex, hd2, _⟩ := (show ObjOk X.prog X.w H s.heap _ (.dK _) from I.hok _ _ h)
    exact rcEq_dictStr z t ho2 hex.1 hd2 hu X.prog X.w X.xe _ ⟨.bl _, H, I, rfl, q⟩
end L2.Mb
set_option maxRecDepth 100000
set_option maxHeartbeats 4000000
namespace L2.Mb
open PySem PySem.Spec PyProof.Rows Mx
open PySem.SeqAt
/-! ### repr of any datum; sequences of the same things -/
section
variable {X : Cx}
def rReprA (K : W.Frag) : List V → Hp → VK → Prop := fun xs H Q => ∃ (v : V) (d : PyData), xs = [v] ∧ Dq K H v d ∧ okD d = true ∧ Q (.str d.shown) H
theorem call_reprA (gd : Gd X.A) (sd : SysD X.K) (hu : X.A.units + 64 < cLine) : CallR X (.builtin "repr") (rReprA X.K) := by
  intro pins s σ H xs us Q I r h
  obtain ⟨v, d, rfl, hd, ok, q⟩ := h
  have call := fun a (ev : v = .ref a) => call_repr gd sd hu pins s σ H [v] us Q I r ⟨a, d, by rw [ev], by rw [← ev]; exact hd, ok, q⟩
  obtain ⟨o1, o2⟩ := Bool.and_eq_true_iff.mp ok
  obtain ⟨o3, o4⟩ := Bool.and_eq_true_iff.mp o2
  have o5 := of_decide_eq_true o4
  cases hd with
  | non =>
    cases r with
    | cons r1 r2 =>
      cases r2
      cases r1
      exact PySem.P.repr_of_none ⟨.str _, H, I.tok _, ⟨_, rfl⟩, by simpa only [PyData.shown] using q⟩
  | bl b =>
    cases r with
    | cons r1 r2 =>
      cases r2
      cases r1
      exact PySem.P.repr_of_bool ⟨.str _, H, I.tok _, ⟨_, rfl⟩, by simpa only [PyData.shown] using q⟩
  | int i =>
    obtain ⟨u, rfl, t, rfl⟩ := vals1 r
    exact PySem.P.repr_of_int (by simpa [PyData.showable] using o1) ⟨.str _, H, I.tok _, ⟨_, rfl⟩, by simpa only [PyData.shown] using q⟩
  | str z =>
    obtain ⟨u, rfl, t, rfl⟩ := vals1 r
    exact PySem.P.repr_of_str ⟨.str _, H, I.tok _, ⟨_, rfl⟩, by simpa only [PyData.shown] using q⟩ (by simpa only [PyData.shown] using o5)
  | lst h1 h2 => exact call _ rfl
  | tup h1 h2 => exact call _ rfl
  | dct h1 h2 h3 => exact call _ rfl
/-- x == y, both lists or both tuples of the same objects -/
def rEqSame (K : W.Frag) : R2 := fun x y H Q => ∃ (p q : Addr) (as : List Addr), x = .ref p ∧ y = .ref q ∧ ((SqT K H p (as.map V.ref) ∧ SqT K H q (as.map V.ref)) ∨ (SqL K H p (as.map V.ref) ∧ SqL K H q (as.map V.ref))) ∧ Q (.bl true) H
theorem vals_refs : ∀ {as : List Addr} {us : List Value}, Vals (as.map V.ref) us → us = as.map Value.ref
  | [], _, h => by
    cases h
    rfl
  | a :: as, _, h => by
    cases h with
    | cons h1 h2 =>
      cases h1
      rw [vals_refs h2]
      rfl
theorem op_eqSame (hu : X.A.units < cLine) : OpR X (compareOp .Eq) (rEqSame X.K) := by
  intro pins s σ H x y v u Q I rx ry h
  obtain ⟨p, q, as, rfl, rfl, h, k⟩ := h
  cases rx
  cases ry
  rcases h with ⟨h1, h2⟩ | ⟨h1, h2⟩
  · obtain ⟨i1, r1, ⟨o1, ho1, hc1, n1, hd1⟩, _⟩ := I.tuple h1
    obtain ⟨i2, r2, ⟨o2, ho2, hc2, n2, hd2⟩, _⟩ := I.tuple h2
    have e1 := vals_refs r1
    have e2 := vals_refs r2
    subst e1 e2
    refine eq_tupleAt (e := fun _ => true) ⟨o1, ho1, hc1, n1, hd1⟩ ⟨o2, ho2, hc2, n2, hd2⟩ hu (fun j h1 h2 => EqAt.same _) ⟨.bl _, H, I, rfl, ?_⟩
    have z : ((List.range as.length).all fun _ => true) = true := List.all_eq_true.mpr fun _ _ => rfl
    simpa [z] using k
  · obtain ⟨i1, r1, ⟨o1, n1, ho1, hc1, _, hd1⟩, _⟩ := I.list h1
    obtain ⟨i2, r2, ⟨o2, n2, ho2, hc2, _, hd2⟩, _⟩ := I.list h2
    have e1 := vals_refs r1
    have e2 := vals_refs r2
    subst e1 e2
    refine eq_listAt (e := fun _ => true) ⟨o1, ho1, hc1, n1, hd1⟩ ⟨o2, ho2, hc2, n2, hd2⟩ rfl hu (fun j h1 h2 => EqAt.same _) ⟨.bl _, H, I, rfl, ?_⟩
    have z : ((List.range as.length).all fun _ => true) = true := List.all_eq_true.mpr fun _ _ => rfl
    simpa [z] using k
end
end L2.Mb
set_option maxRecDepth 100000
set_option maxHeartbeats 4000000
namespace L2.Mb
open PySem PySem.Spec PyProof.Rows Mx Evl
/-! ### xs.count(y) of plain things -/
section
variable {X : Cx}
def rCntF (K : W.Frag) : V → List V → Hp → VK → Prop := fun x xs H Q => ∃ (a : Addr) (ys : List V) (y : V), x = .ref a ∧ xs = [y] ∧ SqL K H a ys ∧ flatV y = true ∧ ys.all flatV = true ∧ Q (.int (ys.countP fun z => eqV z y : Nat)) H
theorem cnt_vals {y : V} : ∀ {ys : List V} {us : List Value}, Vals ys us → ys.all flatV = true → us.countP (eqU y) = ys.countP fun z => eqV z y
  | [], _, .nil, _ => rfl
  | z :: ys, _, .cons r rs, f => by
    rw [List.all_cons, Bool.and_eq_true] at f
    rw [List.countP_cons, List.countP_cons, cnt_vals rs f.2, eqU_of r f.1]
theorem mt_lcountF : MtR X "list.count" (rCntF X.K) := by
  intro pins s σ H x xs v us Q I rx rxs h
  obtain ⟨p, ys, y, rfl, rfl, hs, fy, fys, q⟩ := h
  cases rx
  obtain ⟨uy, rfl, ry⟩ := rxs.one
  obtain ⟨its, rv, ⟨⟨cls, dd, data, sl⟩, n, ho, hc, hdn, hd⟩, hlen⟩ := I.list hs
  simp only at hc hd
  subst hc hd
  refine call_meets PySem.F.slot_list_count ⟨_, ho, rfl⟩ PySem.F.entry_list_count (PySem.F.args_list_count_2 _ _)
    (SeqAt.list_countAt p its.toArray n dd sl uy (eqU y)) ⟨ho, fun u' hu' => mem_eqAt ry fy rv fys u' (by simpa using hu'), ?_⟩
  have ec : its.toArray.toList.countP (eqU y) = ys.countP fun z => eqV z y := cnt_vals rv fys
  refine ⟨.int (ys.countP fun z => eqV z y : Nat), H, I.tok _, ⟨s.toks, ?_⟩, q⟩
  show Value.int ((its.toArray.toList.countP (eqU y) : Nat) : Int) s.toks = _
  rw [ec]
end
section
variable {K : W.Frag} {σ : L2.St} {H : Hp} {ta tb : TE}
theorem ev_cntF {a : Addr} {ys : List V} {y : V} {n : Nat} (h : Ev ta σ H (.ref a)) (ha : H a = some (.lst ys)) (hb : ∀ H1, Ex H H1 → Ev tb σ H1 y) (fy : flatV y = true) (fys : ys.all flatV = true) (hn : (ys.countP fun z => eqV z y) = n) : Ev (tBM K "list" (rCntF K) ta (tCons tb tNil)) σ H (.int n) := fun H1 e1 Q q =>
  h H1 e1 _ fun H2 e2 => ⟨.inl ⟨rfl, ys, sq_of ((e1.trans e2) _ _ ha)⟩, hb H2 (e1.trans e2) H2 (Ex.refl H2) _ fun H3 e3 => ⟨a, ys, y, rfl, rfl, sq_of (((e1.trans e2).trans e3) _ _ ha), fy, fys, by rw [hn]; exact q H3 (e2.trans e3)⟩⟩
theorem ev_idxF {a : Addr} {ys : List V} {y z : V} {j : Nat} (h : Ev ta σ H (.ref a)) (ha : H a = some (.lst ys)) (hb : ∀ H1, Ex H H1 → Ev tb σ H1 y) (fy : flatV y = true) (fys : ys.all flatV = true) (hz : ys[j]? = some z) (he : eqV z y = true) (hno : ∀ (m : Nat) (z' : V), m < j → ys[m]? = some z' → eqV z' y = false) :
    Ev (tBM K "list" (rIndex K) ta (tCons tb tNil)) σ H (.int (j : Nat)) := fun H1 e1 Q q =>
  h H1 e1 _ fun H2 e2 => ⟨.inl ⟨rfl, ys, sq_of ((e1.trans e2) _ _ ha)⟩, hb H2 (e1.trans e2) H2 (Ex.refl H2) _ fun H3 e3 => ⟨a, ys, y, j, z, rfl, rfl, sq_of (((e1.trans e2).trans e3) _ _ ha), fy, fys, hz, he, hno, q H3 (e2.trans e3)⟩⟩
end
end L2.Mb
set_option maxRecDepth 100000
set_option maxHeartbeats 8000000
namespace L2.Mj
open PySem PySem.Spec PyProof.Rows L2 Mx L2.Mb Evl Mv TL LamX Sr Srt SrtO NdefX
/-! ### heard: what a call returns, or the word and the field of its error -/
abbrev n_heard : List Str := ["_law_ask", "_law_caught", "_law_found", "_law_marks", "_law_others", "_law_at", "_law_bases", "error"]
theorem sc_heard : FnScope n_heard ["_law_ask"] (defScope s_law_heard) := ⟨rfl, rfl, rfl, by decide +kernel, rfl, by decide +kernel, by decide +kernel⟩
def wordH : Nat → Str
  | 0 => "station"
  | 1 => "needed"
  | 2 => "clash"
  | 3 => "target"
  | 4 => "part"
  | 5 => "realm"
  | 6 => "taken"
  | _ => "many"
/-- the names of the classes -/
structure HF (mg : Str → Option Value) (c : HC) : Prop where
  mM : mg "MeetError" = some (.ref c.M)
  mS : mg "NoStation" = some (.ref c.S)
  mR : mg "NoRound" = some (.ref c.R)
  mU : mg "NothingToUndo" = some (.ref c.U)
  mH : mg "NotHeard" = some (.ref c.H)
  mE : mg "NotSeen" = some (.ref c.E)
  mD : mg "Heard" = some (.ref c.D)
  mO : mg "TooMany" = some (.ref c.O)
  mN : mg "Needed" = some (.ref c.N)
  mL : mg "Clash" = some (.ref c.L)
  mT : mg "InvalidTarget" = some (.ref c.T)
  mP : mg "InvalidPart" = some (.ref c.P)
  mZ : mg "NoRealm" = some (.ref c.Z)
  mA : mg "Taken" = some (.ref c.A)
  mI : mg "InvalidName" = some (.ref c.I)
  mQ : mg "InvalidPort" = some (.ref c.Q)
  mX : mg "InvalidText" = some (.ref c.X)
  mK : mg "InvalidKind" = some (.ref c.K)
  mB : mg "TooDeep" = some (.ref c.B)
/-- an error as heard looks at it: the i-th of eight -/
structure EI (K : W.Frag) (c : HC) (i : Nat) : Prop where
  ex : W.exmAny K (.ref (c.at i)) c.l8 = some true
  k0 : W.kitOne K (.ref (c.at i)) (.ref c.S) = some (i == 0)
  k1 : W.kitOne K (.ref (c.at i)) (.ref c.N) = some (i == 1)
  k2 : W.kitOne K (.ref (c.at i)) (.ref c.L) = some (i == 2)
  k3 : W.kitOne K (.ref (c.at i)) (.ref c.T) = some (i == 3)
  k4 : W.kitOne K (.ref (c.at i)) (.ref c.P) = some (i == 4)
  k5 : W.kitOne K (.ref (c.at i)) (.ref c.Z) = some (i == 5)
  k6 : W.kitOne K (.ref (c.at i)) (.ref c.A) = some (i == 6)
  k7 : W.kitOne K (.ref (c.at i)) (.ref c.O) = some (i == 7)
  o7 : W.kitAny K (.ref (c.at i)) c.l7 = some false
  o3 : W.kitAny K (.ref (c.at i)) c.l3 = some false
  bK : W.kitOne K (.ref (c.at i)) (.type "KeyError") = some (i == 0)
  bV : W.kitOne K (.ref (c.at i)) (.type "ValueError") = some (decide (0 < i) && decide (i < 7))
  bO : W.kitOne K (.ref (c.at i)) (.type "OverflowError") = some (i == 7)
  bM : W.kitOne K (.ref (c.at i)) (.ref c.M) = some (decide (0 < i) && decide (i < 7))
  fE : ∃ (fE : Addr) (b : EB), EC K (c.at i) fE b
  no : W.findIn K (.ref (c.at i)) (fldH i) = some none
/-- the word of an error and its value -/
def HrAt (H : Hp) (r : V) (w : Str) (v : V) : Prop := ∃ p, r = .ref p ∧ H p = some (.tup [.str w, v])
/-- what is heard of a call: what it returns, or a word and a value -/
def TTH (c : HC) (js : List Nat) : (XK → Hp → VK → Prop) → Hp → VK → Prop := fun tl H Q => ∀ (E' : XK) (Q' : VK),
  (∀ i ∈ js, ∀ d v H1, H1 d = some (.xd [(fldH i, v)]) → (∀ r H2, Ex H1 H2 → HrAt H2 r (wordH i) v → Q r H2) → E' (.ref (c.at i)) (some d) H1) →
  (∀ u H1, (∀ p H2, H1 p = none → Ex H1 H2 → H2 p = some (.lst [u]) → Q (.ref p) H2) → Q' u H1) → tl E' H Q'
section
variable {P : Program} {w : World} {K : W.Frag} {mg : Str → Option Value} {base : Heap}
theorem hat_mono {H H' : Hp} {a C : Addr} {fs : List (Str × V)} (h : HAt H a C fs) (e : Ex H H') : HAt H' a C fs := h.elim fun d z => ⟨d, e _ _ z.1, e _ _ z.2⟩
theorem ev_getH {σ : L2.St} {H : Hp} {te : TE} {a C fI : Addr} {b : EB} {fs : List (Str × V)} {x : Str} {v : V} (h : Ev te σ H (.ref a)) (hx : HAt H a C fs) (T : EC K C fI b) (no : W.findIn K (.ref C) x = some none) (lk : fs.lookup x = some v) : Ev (tGetH K x te) σ H v := fun H1 e Q q =>
  h H1 e _ fun H2 e2 => ⟨a, C, fI, b, fs, v, rfl, hat_mono hx (e.trans e2), T, no, lk, q H2 e2⟩
theorem ev_isH1 {σ : L2.St} {H : Hp} {te tc : TE} {a C fI : Addr} {b : EB} {fs : List (Str × V)} {v : V} {u : Value} {r : Bool} (h : Ev te σ H (.ref a)) (hx : HAt H a C fs) (T : EC K C fI b) (hc : Ev tc σ H v) (cu : ClsV v u) (hk : W.kitOne K (.ref C) u = some r) :
    Ev (tCB (rIsH K) (tCons te (tCons tc tNil))) σ H (.bl r) := ev_cb (ea_cons h (ea_cons hc ea_nil)) (fun H9 e9 Q q => ⟨a, C, fI, b, _, _, r, rfl, hat_mono hx e9, T, q H9 (Ex.refl H9), .inl ⟨_, cu, hk⟩⟩)
theorem ev_isHN {σ : L2.St} {H : Hp} {te : TE} {ts : TA} {a C fI : Addr} {b : EB} {fs : List (Str × V)} {vs : List V} {us : List Value} {r : Bool} (h : Ev te σ H (.ref a)) (hx : HAt H a C fs) (T : EC K C fI b) (hc : EvA ts σ H vs) (hn : vs.length ≤ 100000) (cu : Paired ClsV vs us) (hk : W.kitAny K (.ref C) us = some r) :
    Ev (tCB (rIsH K) (tCons te (tCons (tTup ts) tNil))) σ H (.bl r) := fun H1 e1 Q q =>
  h H1 e1 _ fun H2 e2 => (eu_tup hc hn) H2 (e1.trans e2) _ fun p H3 np e3 hp => ⟨a, C, fI, b, _, .ref p, r, rfl, hat_mono hx ((e1.trans e2).trans e3), T, q H3 (e2.trans e3), .inr ⟨p, _, _, rfl, hp, cu, hk⟩⟩
theorem dp_bools {K : W.Frag} {H : Hp} : ∀ l : List Bool, DpAll K H (l.map V.bl) (l.map PyData.bool)
  | [] => .nil
  | b :: r => .cons (.bl b) (dp_bools r)
theorem bools_lay : ∀ l : List Bool, PyData.canLayAll0 (l.map PyData.bool) = true ∧ PyData.depthAll (l.map PyData.bool) = 0
  | [] => ⟨by simp [PyData.canLayAll0], by simp [PyData.depthAll]⟩
  | b :: r => by
    obtain ⟨h1, h2⟩ := bools_lay r
    refine ⟨?_, ?_⟩
    · simp only [List.map_cons, PyData.canLayAll0, PyData.canLay0, h1, Bool.and_self]
    · simp only [List.map_cons, PyData.depthAll, PyData.depth, h2, Nat.max_self]
theorem bools_shaped (l : List Bool) : SeqAt.shaped (.list (l.map PyData.bool)) = true := by
  obtain ⟨h1, h2⟩ := bools_lay l
  show (PyData.canLay0 (.list (l.map PyData.bool)) && decide (PyData.depth (.list (l.map PyData.bool)) ≤ 64)) = true
  simp only [PyData.canLay0, PyData.depth, h1, h2]
  decide
theorem eqv_bools : ∀ l : List Bool, PyData.eqvAll (l.map PyData.bool) (l.map PyData.bool) = true
  | [] => by simp [PyData.eqvAll]
  | b :: r => by simp [PyData.eqvAll, PyData.eqv, eqv_bools r]
theorem rv_neB {K : W.Frag} {H : Hp} {r q : Addr} {l : List Bool} (hr : H r = some (.lst (l.map V.bl))) (hq : H q = some (.lst (l.map V.bl))) : RV (rNeD K) (.ref r) (.ref q) H (.bl false) := fun H1 e Q k => by
  refine ⟨_, _, .lst (SqL.of (e _ _ hr)) (dp_bools l), .lst (SqL.of (e _ _ hq)) (dp_bools l), bools_shaped l, bools_shaped l, ?_⟩
  have z : PyData.eqv (.list (l.map PyData.bool)) (.list (l.map PyData.bool)) = true := by simp only [PyData.eqv, eqv_bools]
  rw [z]
  exact k H1 (Ex.refl H1)
theorem el_catN {σ : L2.St} {H : Hp} {ta tb : TE} {p : Addr} {xs ys : List V} (h1 : Ev ta σ H (.ref p)) (hp : H p = some (.lst xs)) (h2 : EvL tb σ H ys) (hz : xs.length + ys.length ≤ 100000) : EvL (tOp rCat ta tb) σ H (xs ++ ys) := fun H1 e Q q => h1 H1 e _ fun H2 e2 => h2 H2 (e.trans e2) _ fun r H3 nr e3 hr =>
  ⟨p, r, xs, ys, rfl, rfl, e3 _ _ (e2 _ _ (e _ _ hp)), hr, sz_of hz, fun s hs => q s _ (fresh_back (e2.trans e3) hs) ((e2.trans e3).trans (Ex.new hs)) upd_same⟩
def mks (i : Nat) : List V := [.bl (i == 0), .bl (i == 1), .bl (i == 2), .bl (i == 3), .bl (i == 4), .bl (i == 5), .bl (i == 6), .bl (i == 7)]
theorem mks_ok : ∀ i < 8, ((mks i).countP fun z => eqV z (.bl true)) = 1 ∧ (mks i)[i]? = some (.bl true) ∧ ∀ m < i, (mks i)[m]? = some (.bl false) := by decide
theorem bq (i n : Nat) : decide (V.int (i : Int) = V.int (n : Int)) = (i == n) := by
  rw [Bool.eq_iff_iff]
  simp
  omega
theorem cn (i : Nat) : (decide ((0 : Int) < (i : Int)) && decide ((i : Int) < 7)) = (decide (0 < i) && decide (i < 7)) := by
  rw [Bool.eq_iff_iff]
  simp
  omega
abbrev nmB (x : Str) (a : Addr) := (x, a)
theorem heard_ps {g : Addr} {cdg : Value} {c : HC} {js : List Nat} {q : Str} {A : Around} {outer : List Env} (B : Bt mg) (Z : HF mg c) (J8 : ∀ i ∈ js, i < 8 ∧ EI K c i)
    {f c' : Addr} {s : Shared} {H : Hp} {Q : VK} {tl : XK → Hp → VK → Prop} (hr : Room 2 A)
    (act : ∀ (W : _root_.L2.WX) (pn : List (Addr × Obj)) (xe : Value → Shared → Prop) (E : XK) (p1 p2 : Pos), Takes ((cxOf CX0 P w K mg base n_heard "_law_heard" (defScope s_law_heard) g cdg A outer s H E0).tr pn xe) W → (∀ cls d σ' H', E cls d H' → W cls d σ' H') →
      PE ((cxOf CX0 P w K mg base n_heard "_law_heard" (defScope s_law_heard) g cdg A outer s H E0).tr pn xe) (.Call (.Name "_law_ask" p1) [] [] p2) (fun σZ HZ Q => σZ[0]? = some (some (.ref f)) ∧ HZ c' = some (CodeO c' q) ∧ tl E HZ Q))
    (hc : H c' = some (CodeO c' q)) (h : TTH c js tl H Q) :
    ∃ t, PSs (cxOf CX0 P w K mg base n_heard "_law_heard" (defScope s_law_heard) g cdg A outer s H E0).nox (defBody s_law_heard) t ∧ t { nx := fun _ H' => Q .non H', rt := Q } (L2.start n_heard [.ref f]) H := by
  have nd := sc_heard.nd
  have hun : (cxOf CX0 P w K mg base n_heard "_law_heard" (defScope s_law_heard) g cdg A outer s H E0).nox.A.units + 64 < cLine := (Room.deeper hr _).units
  refine ⟨_, pss_cons (ps_set (i := 1) nd rfl (Or.inl rfl) pe_non)
    (pss_cons (ps_set (i := 2) nd rfl (Or.inl rfl) pe_non)
    (pss_cons (ps_try_hold8 (X := (cxOf CX0 P w K mg base n_heard "_law_heard" (defScope s_law_heard) g cdg A outer s H E0).nox) (c1 := .ref c.M) (c2 := .ref c.S) (c3 := .ref c.R) (c4 := .ref c.U) (c5 := .ref c.H) (c6 := .ref c.E) (c7 := .ref c.D) (c8 := .ref c.O) (i := 7)
        (tb := fun W D σ H => ∃ Ech : XK, (∀ cls d σ' H', Ech cls d H' → W cls d σ' H') ∧ σ = [some (.ref f), some .non, some .non, none, none, none, none, none] ∧ H c' = some (CodeO c' q) ∧ ∀ Q' : VK, (∀ u H1, D.nx [some (.ref f), some .non, some u, none, none, none, none, none] H1 → Q' u H1) → tl Ech H Q')
        (ts := fun a cls d => tAsg (tVar 7) (gName 1))
        rfl rfl rfl nd rfl rfl (by rfl) Z.mM (by rfl) Z.mS (by rfl) Z.mR (by rfl) Z.mU (by rfl) Z.mH (by rfl) Z.mE (by rfl) Z.mD (by rfl) Z.mO (by decide) (by decide) (by decide) (by decide) (by decide) (by decide) (by decide) (by decide) (fun W pn xe tk _ => ?_) (fun a oe cls d pn _ _ => pss_one (ps_set (i := 1) nd rfl (Or.inl rfl) (pv 7))))
    (pss_cons (ps_if (pt_cmpR op_isN (pv 1) pe_non (nomark _)) (pss_one (ps_ret (pe_lst (pa_cons (pv 2) pa_nil)))) pss_nil)
    (pss_cons (ps_set (i := 3) nd rfl (Or.inl rfl) (pe_lst (pa_cons (pe_callB call_isH (by rfl) B.isinstance (by decide +kernel) (pa_cons (pv 1) (pa_cons (pe_glob (v := .ref c.S) (by rfl) Z.mS rfl) pa_nil))) (pa_cons (pe_callB call_isH (by rfl) B.isinstance (by decide +kernel) (pa_cons (pv 1) (pa_cons (pe_glob (v := .ref c.N) (by rfl) Z.mN rfl) pa_nil))) (pa_cons (pe_callB call_isH (by rfl) B.isinstance (by decide +kernel) (pa_cons (pv 1) (pa_cons (pe_glob (v := .ref c.L) (by rfl) Z.mL rfl) pa_nil))) pa_nil)))))
    (pss_cons (ps_set (i := 3) nd rfl (Or.inl rfl) (pe_op op_cat (pv 3) (pe_lst (pa_cons (pe_callB call_isH (by rfl) B.isinstance (by decide +kernel) (pa_cons (pv 1) (pa_cons (pe_glob (v := .ref c.T) (by rfl) Z.mT rfl) pa_nil))) (pa_cons (pe_callB call_isH (by rfl) B.isinstance (by decide +kernel) (pa_cons (pv 1) (pa_cons (pe_glob (v := .ref c.P) (by rfl) Z.mP rfl) pa_nil))) (pa_cons (pe_callB call_isH (by rfl) B.isinstance (by decide +kernel) (pa_cons (pv 1) (pa_cons (pe_glob (v := .ref c.Z) (by rfl) Z.mZ rfl) pa_nil))) pa_nil))))))
    (pss_cons (ps_set (i := 3) nd rfl (Or.inl rfl) (pe_op op_cat (pv 3) (pe_lst (pa_cons (pe_callB call_isH (by rfl) B.isinstance (by decide +kernel) (pa_cons (pv 1) (pa_cons (pe_glob (v := .ref c.A) (by rfl) Z.mA rfl) pa_nil))) (pa_cons (pe_callB call_isH (by rfl) B.isinstance (by decide +kernel) (pa_cons (pv 1) (pa_cons (pe_glob (v := .ref c.O) (by rfl) Z.mO rfl) pa_nil))) pa_nil)))))
    (pss_cons (ps_set (i := 4) nd rfl (Or.inl rfl) (pe_callB call_isH (by rfl) B.isinstance (by decide +kernel) (pa_cons (pv 1) (pa_cons (pe_tup (pa_cons (pe_glob (v := .ref c.I) (by rfl) Z.mI rfl) (pa_cons (pe_glob (v := .ref c.Q) (by rfl) Z.mQ rfl) (pa_cons (pe_glob (v := .ref c.X) (by rfl) Z.mX rfl) (pa_cons (pe_glob (v := .ref c.K) (by rfl) Z.mK rfl) (pa_cons (pe_glob (v := .ref c.B) (by rfl) Z.mB rfl) (pa_cons (pe_glob (v := .ref c.R) (by rfl) Z.mR rfl) (pa_cons (pe_glob (v := .ref c.D) (by rfl) Z.mD rfl) pa_nil)))))))) pa_nil))))
    (pss_cons (ps_if (pw_or (pt_val (pv 4)) (pw_or (pt_val (pe_callB call_isH (by rfl) B.isinstance (by decide +kernel) (pa_cons (pv 1) (pa_cons (pe_tup (pa_cons (pe_glob (v := .ref c.U) (by rfl) Z.mU rfl) (pa_cons (pe_glob (v := .ref c.H) (by rfl) Z.mH rfl) (pa_cons (pe_glob (v := .ref c.E) (by rfl) Z.mE rfl) pa_nil)))) pa_nil))))
        (pw_or1 (pt_cmpR op_ne (pe_bm PySem.F.plainAttrs_list PySem.F.slot_list_count PySem.F.type_list_count mt_lcountF (pv 3) (pa_cons pe_bl pa_nil)) pe_int (nomark _))))).pt (pss_one (ps_ret pe_str)) pss_nil)
    (pss_cons (ps_set (i := 5) nd rfl (Or.inl rfl) (pe_bm PySem.F.plainAttrs_list PySem.F.slot_list_index PySem.F.type_list_index mt_index (pv 3) (pa_cons pe_bl pa_nil)))
    (pss_cons (ps_set (i := 6) nd rfl (Or.inl rfl) (pe_lst (pa_cons (pe_callB call_isH (by rfl) B.isinstance (by decide +kernel) (pa_cons (pv 1) (pa_cons (pe_bltn (v := .ty "KeyError") (by rfl) B.KeyError (by decide +kernel) rfl) pa_nil))) (pa_cons (pe_callB call_isH (by rfl) B.isinstance (by decide +kernel) (pa_cons (pv 1) (pa_cons (pe_bltn (v := .ty "ValueError") (by rfl) B.ValueError (by decide +kernel) rfl) pa_nil))) (pa_cons (pe_callB call_isH (by rfl) B.isinstance (by decide +kernel) (pa_cons (pv 1) (pa_cons (pe_bltn (v := .ty "OverflowError") (by rfl) B.OverflowError (by decide +kernel) rfl) pa_nil))) pa_nil)))))
    (pss_cons (ps_if (pw_or (pt_cmpR (op_neD hun) (pv 6) (pe_lst (pa_cons (pe_cmpR op_eq (pv 5) pe_int (nomark _)) (pa_cons (pe_chain op_lt op_lt pe_int (pv 5) pe_int) (pa_cons (pe_cmpR op_eq (pv 5) pe_int (nomark _)) pa_nil)))) (nomark _))
        (pw_or1 (pt_cmpR op_ne (pe_callB call_isH (by rfl) B.isinstance (by decide +kernel) (pa_cons (pv 1) (pa_cons (pe_glob (v := .ref c.M) (by rfl) Z.mM rfl) pa_nil))) (pe_chain op_lt op_lt pe_int (pv 5) pe_int) (nomark _)))).pt (pss_one (ps_ret pe_str)) pss_nil)
    (pss_cons (ps_if (pt_cmpR op_lt (pv 5) pe_int (nomark _)) (pss_one (ps_ret (pe_tup (pa_cons (pe_ix ix_list (pe_lst (pa_cons pe_str (pa_cons pe_str pa_nil))) (pv 5) (fun _ _ => rfl)) (pa_cons (pe_getH (pv 1)) pa_nil))))) pss_nil)
    (pss_cons (ps_if (pt_cmpR op_gt (pv 5) pe_int (nomark _)) (pss_one (ps_ret (pe_ifExp (pt_cmpR op_eq (pv 5) pe_int (nomark _)) (pe_tup (pa_cons pe_str (pa_cons (pe_getH (pv 1)) pa_nil)))
        (pe_tup (pa_cons (pe_ix ix_list (pe_lst (pa_cons pe_str (pa_cons pe_str (pa_cons pe_str pa_nil)))) (pe_op op_sub (pv 5) pe_int) (fun _ _ => rfl)) (pa_cons (pe_getH (pv 1)) pa_nil)))))) pss_nil)
    (pss_one (ps_ret (pe_ifExp (pt_cmpR op_eq (pv 5) pe_int (nomark _)) (pe_tup (pa_cons pe_str (pa_cons (pe_getH (pv 1)) pa_nil))) (pe_tup (pa_cons pe_str (pa_cons (pe_getH (pv 1)) pa_nil))))))))))))))))))), ?_⟩
  · refine ⟨fun pins s' σ H' D I h' => ?_⟩
    obtain ⟨Ech, hW, rfl, h2, h3⟩ := h'
    refine (pss_one (ps_set (i := 2) nd rfl (Or.inl rfl) (act W pn xe Ech _ _ tk hW))).run pins s' _ H' D I ?_
    exact ⟨rfl, h2, h3 _ fun u H1 z => z⟩
  · refine ⟨fun cls d H' => ∃ (dd : Addr) (i : Nat) (v : V), d = some dd ∧ i ∈ js ∧ cls = .ref (c.at i) ∧ H' dd = some (.xd [(fldH i, v)]) ∧ ∀ r H2, Ex H' H2 → HrAt H2 r (wordH i) v → Q r H2, ?_, rfl, hc, ?_⟩
    · rintro cls d σ' H' ⟨dd, i, v, rfl, hi, rfl, hd, kk⟩
      have slots : σ'.length = n_heard.length → ∃ s0 s1 s2 s3 s4 s5 s6 s7, σ' = [s0, s1, s2, s3, s4, s5, s6, s7] := fun hl => by
        match σ', hl with
        | [s0, s1, s2, s3, s4, s5, s6, s7], _ => exact ⟨s0, s1, s2, s3, s4, s5, s6, s7, rfl⟩
      obtain ⟨i8, I⟩ := J8 i hi
      obtain ⟨fE, b, hE⟩ := I.fE
      refine ⟨c.at i, dd, rfl, rfl, I.ex, fun a hl na => ?_⟩
      obtain ⟨s0, s1, s2, s3, s4, s5, s6, s7, rfl⟩ := slots hl
      refine s_asg (v := .ref a) (ev_var rfl) fun H2 e2 na2 => ?_
      have ha : HAt (upd H2 a (exh a (c.at i) dd)) a (c.at i) [(fldH i, v)] := ⟨dd, upd_same, by
        rw [upd_ne (fun z => by rw [z] at hd; rw [na] at hd; cases hd)]
        exact e2 _ _ hd⟩
      have e3 : Ex H' (upd H2 a (exh a (c.at i) dd)) := e2.trans (Ex.new na2)
      obtain ⟨c1, c2, c3⟩ := mks_ok i i8
      dsimp only
      refine q_when (b := false) (et_test (ev_is (ev_op (ev_var rfl) ev_c (fun H9 _ Q9 q9 => ⟨rfl, q9 H9 (Ex.refl H9)⟩)) (by rfl))) (fun z => by cases z) (fun _ H4 e4 => ?_)
      have h4 := hat_mono ha e4
      refine q_asgL (el_lst (ea_cons (ev_isH1 (ev_var rfl) h4 hE ev_c (.own _) I.k0) (ea_cons (ev_isH1 (ev_var rfl) h4 hE ev_c (.own _) I.k1) (ea_cons (ev_isH1 (ev_var rfl) h4 hE ev_c (.own _) I.k2) ea_nil))) (by show 3 ≤ 100000; decide)) fun l1 H5 n5 e5 hl1 => ?_
      have h5 := hat_mono h4 e5
      try dsimp only [gName, List.set]
      refine q_asgL (el_catN (ev_var rfl) hl1 (el_lst (ea_cons (ev_isH1 (ev_var rfl) h5 hE ev_c (.own _) I.k3) (ea_cons (ev_isH1 (ev_var rfl) h5 hE ev_c (.own _) I.k4) (ea_cons (ev_isH1 (ev_var rfl) h5 hE ev_c (.own _) I.k5) ea_nil))) (by show 3 ≤ 100000; decide)) (by show 3 + 3 ≤ 100000; decide)) fun l2 H6 n6 e6 hl2 => ?_
      have h6 := hat_mono h5 e6
      try dsimp only [gName, List.set]
      refine q_asgL (el_catN (ev_var rfl) hl2 (el_lst (ea_cons (ev_isH1 (ev_var rfl) h6 hE ev_c (.own _) I.k6) (ea_cons (ev_isH1 (ev_var rfl) h6 hE ev_c (.own _) I.k7) ea_nil)) (by show 2 ≤ 100000; decide)) (by show 6 + 2 ≤ 100000; decide)) fun l3 H7 n7 e7 hl3 => ?_
      have h7 := hat_mono h6 e7
      try dsimp only [gName, List.set]
      have hm7 : H7 l3 = some (.lst (mks i)) := hl3
      refine q_asg (v := .bl false) (ev_isHN (ev_var rfl) h7 hE (ea_cons ev_c (ea_cons ev_c (ea_cons ev_c (ea_cons ev_c (ea_cons ev_c (ea_cons ev_c (ea_cons ev_c ea_nil))))))) (by show 7 ≤ 100000; decide) (.cons (.own _) (.cons (.own _) (.cons (.own _) (.cons (.own _) (.cons (.own _) (.cons (.own _) (.cons (.own _) .nil))))))) I.o7) fun H8 e8 => ?_
      have h8 := hat_mono h7 e8
      have hm8 := e8 _ _ hm7
      try dsimp only [gName, List.set]
      refine q_when (b := false) (et_is (et_or (a := false) (b := false) (et_B (ev_var rfl)) fun _ => et_or (a := false) (b := false) (et_B (ev_isHN (ev_var rfl) h8 hE (ea_cons ev_c (ea_cons ev_c (ea_cons ev_c ea_nil))) (by show 3 ≤ 100000; decide) (.cons (.own _) (.cons (.own _) (.cons (.own _) .nil))) I.o3)) fun _ => et_test (ev_is (ev_op (ev_cntF (y := .bl true) (n := 1) (ev_var rfl) hm8 (fun _ _ => ev_c) rfl rfl c1) ev_c (rv_ne rfl)) (by rfl))) rfl) (fun z => by cases z) (fun _ H9 e9 => ?_)
      have h9 := hat_mono h8 e9
      have hm9 := e9 _ _ hm8
      refine q_asg (v := .int (i : Nat)) (ev_idxF (y := .bl true) (z := .bl true) (ev_var rfl) hm9 (fun _ _ => ev_c) rfl rfl c2 rfl (fun m z' hm hz => by
        rw [c3 m hm] at hz
        obtain rfl := Option.some.inj hz
        rfl)) fun H10 e10 => ?_
      have h10 := hat_mono h9 e10
      try dsimp only [gName, List.set]
      refine q_asgL (el_lst (ea_cons (ev_isH1 (ev_var rfl) h10 hE ev_c (.ty _) I.bK) (ea_cons (ev_isH1 (ev_var rfl) h10 hE ev_c (.ty _) I.bV) (ea_cons (ev_isH1 (ev_var rfl) h10 hE ev_c (.ty _) I.bO) ea_nil))) (by show 3 ≤ 100000; decide)) fun lb H11 n11 e11 hlb => ?_
      have h11 := hat_mono h10 e11
      try dsimp only [gName, List.set]
      refine q_when (b := false) (et_is (et_or (a := false) (b := false) (et_test (ev_opL (ev_var rfl) (el_lst (ea_cons (ev_is (ev_op (ev_var rfl) ev_c (rv_eq rfl)) (congrArg V.bl (bq i 0))) (ea_cons (ev_is (ev_chain (x := .int 0) (y := .int (i : Nat)) (z := .int 7) (a := decide ((0 : Int) < ((i : Nat) : Int))) (b := decide (((i : Nat) : Int) < 7)) ev_c (ev_var rfl) rv_int (fun _ => ev_c) (fun _ => rv_int)) (congrArg V.bl (cn i))) (ea_cons (ev_is (ev_op (ev_var rfl) ev_c (rv_eq rfl)) (congrArg V.bl (bq i 7))) ea_nil))) (by show 3 ≤ 100000; decide)) fun q H8 hq e8 => rv_neB (l := [i == 0, decide (0 < i) && decide (i < 7), i == 7]) (e8 _ _ hlb) hq)) (fun _ => et_test (ev_is (ev_op (ev_isH1 (ev_var rfl) h11 hE ev_c (.own _) I.bM) (ev_is (ev_chain (x := .int 0) (y := .int (i : Nat)) (z := .int 7) (a := decide ((0 : Int) < ((i : Nat) : Int))) (b := decide (((i : Nat) : Int) < 7)) ev_c (ev_var rfl) rv_int (fun _ => ev_c) (fun _ => rv_int)) (congrArg V.bl (cn i))) (rv_ne rfl)) (by simp)))) rfl) (fun z => by cases z) (fun _ H12 e12 => ?_)
      have h12 := hat_mono h11 e12
      have e312 := e3.trans (e4.trans (e5.trans (e6.trans (e7.trans (e8.trans (e9.trans (e10.trans (e11.trans e12))))))))
      rcases (show i = 0 ∨ i = 1 ∨ i = 2 ∨ i = 3 ∨ i = 4 ∨ i = 5 ∨ i = 6 ∨ i = 7 by omega) with rfl | rfl | rfl | rfl | rfl | rfl | rfl | rfl
      · refine q_when (b := true) (et_test (ev_is (ev_op (ev_var rfl) ev_c rv_int) (congrArg V.bl (show decide (((0 : Nat) : Int) < 2) = true by decide)))) (fun _ H13 e13 => ?_) (fun z => by cases z)
        exact s_retU (eu_tup (ea_cons (ev_opL1 (xs := [.str "station", .str "needed"]) (y := .int ((0 : Nat) : Int)) (el_lst (ea_cons ev_c (ea_cons ev_c ea_nil)) (by show 2 ≤ 100000; decide)) (fun _ _ => ev_var rfl) (fun p9 H9 hp9 e9 => rv_ixL (sq_of hp9) (atI_nat (j := 0) rfl))) (ea_cons (ev_getH (v := v) (ev_var rfl) (hat_mono h12 e13) hE I.no rfl) ea_nil)) (by show 2 ≤ 100000; decide)) fun p9 H9 np e9 hp => kk _ _ (e312.trans (e13.trans e9)) ⟨p9, rfl, hp⟩
      · refine q_when (b := true) (et_test (ev_is (ev_op (ev_var rfl) ev_c rv_int) (congrArg V.bl (show decide (((1 : Nat) : Int) < 2) = true by decide)))) (fun _ H13 e13 => ?_) (fun z => by cases z)
        exact s_retU (eu_tup (ea_cons (ev_opL1 (xs := [.str "station", .str "needed"]) (y := .int ((1 : Nat) : Int)) (el_lst (ea_cons ev_c (ea_cons ev_c ea_nil)) (by show 2 ≤ 100000; decide)) (fun _ _ => ev_var rfl) (fun p9 H9 hp9 e9 => rv_ixL (sq_of hp9) (atI_nat (j := 1) rfl))) (ea_cons (ev_getH (v := v) (ev_var rfl) (hat_mono h12 e13) hE I.no rfl) ea_nil)) (by show 2 ≤ 100000; decide)) fun p9 H9 np e9 hp => kk _ _ (e312.trans (e13.trans e9)) ⟨p9, rfl, hp⟩
      · refine q_when (b := false) (et_test (ev_is (ev_op (ev_var rfl) ev_c rv_int) (congrArg V.bl (show decide (((2 : Nat) : Int) < 2) = false by decide)))) (fun z => by cases z) (fun _ H13 e13 => ?_)
        refine q_when (b := false) (et_test (ev_is (ev_op (ev_var rfl) ev_c rv_int) (congrArg V.bl (show decide (((2 : Nat) : Int) > 3) = false by decide)))) (fun z => by cases z) (fun _ H14 e14 => ?_)
        have h14 := hat_mono h12 (e13.trans e14)
        unfold tRet tIf
        refine (et_test (b := true) (ev_is (ev_op (ev_var rfl) ev_c (rv_eq rfl)) (congrArg V.bl ((bq 2 2).trans (by decide))))) H14 (Ex.refl _) _ fun H15 e15 => ?_
        exact (eu_tup (ea_cons ev_c (ea_cons (ev_getH (v := v) (ev_var rfl) (hat_mono h14 e15) hE I.no rfl) ea_nil)) (by show 2 ≤ 100000; decide)) H15 (Ex.refl _) _ fun p9 H9 np e9 hp => kk _ _ (e312.trans ((e13.trans e14).trans (e15.trans e9))) ⟨p9, rfl, hp⟩
      · refine q_when (b := false) (et_test (ev_is (ev_op (ev_var rfl) ev_c rv_int) (congrArg V.bl (show decide (((3 : Nat) : Int) < 2) = false by decide)))) (fun z => by cases z) (fun _ H13 e13 => ?_)
        refine q_when (b := false) (et_test (ev_is (ev_op (ev_var rfl) ev_c rv_int) (congrArg V.bl (show decide (((3 : Nat) : Int) > 3) = false by decide)))) (fun z => by cases z) (fun _ H14 e14 => ?_)
        have h14 := hat_mono h12 (e13.trans e14)
        unfold tRet tIf
        refine (et_test (b := false) (ev_is (ev_op (ev_var rfl) ev_c (rv_eq rfl)) (congrArg V.bl ((bq 3 2).trans (by decide))))) H14 (Ex.refl _) _ fun H15 e15 => ?_
        exact (eu_tup (ea_cons ev_c (ea_cons (ev_getH (v := v) (ev_var rfl) (hat_mono h14 e15) hE I.no rfl) ea_nil)) (by show 2 ≤ 100000; decide)) H15 (Ex.refl _) _ fun p9 H9 np e9 hp => kk _ _ (e312.trans ((e13.trans e14).trans (e15.trans e9))) ⟨p9, rfl, hp⟩
      · refine q_when (b := false) (et_test (ev_is (ev_op (ev_var rfl) ev_c rv_int) (congrArg V.bl (show decide (((4 : Nat) : Int) < 2) = false by decide)))) (fun z => by cases z) (fun _ H13 e13 => ?_)
        refine q_when (b := true) (et_test (ev_is (ev_op (ev_var rfl) ev_c rv_int) (congrArg V.bl (show decide (((4 : Nat) : Int) > 3) = true by decide)))) (fun _ H14 e14 => ?_) (fun z => by cases z)
        have h14 := hat_mono h12 (e13.trans e14)
        unfold tRet tIf
        refine (et_test (b := false) (ev_is (ev_op (ev_var rfl) ev_c (rv_eq rfl)) (congrArg V.bl ((bq 4 7).trans (by decide))))) H14 (Ex.refl _) _ fun H15 e15 => ?_
        exact (eu_tup (ea_cons (ev_opL1 (xs := [.str "part", .str "realm", .str "taken"]) (y := .int ((0 : Nat) : Int)) (el_lst (ea_cons ev_c (ea_cons ev_c (ea_cons ev_c ea_nil))) (by show 3 ≤ 100000; decide)) (fun _ _ => ev_is (ev_op (ev_var rfl) ev_c rv_int) (congrArg V.int (show ((4 : Nat) : Int) - 4 = ((0 : Nat) : Int) by decide))) (fun p9 H9 hp9 e9 => rv_ixL (sq_of hp9) (atI_nat (j := 0) rfl))) (ea_cons (ev_getH (v := v) (ev_var rfl) (hat_mono h14 e15) hE I.no rfl) ea_nil)) (by show 2 ≤ 100000; decide)) H15 (Ex.refl _) _ fun p9 H9 np e9 hp => kk _ _ (e312.trans ((e13.trans e14).trans (e15.trans e9))) ⟨p9, rfl, hp⟩
      · refine q_when (b := false) (et_test (ev_is (ev_op (ev_var rfl) ev_c rv_int) (congrArg V.bl (show decide (((5 : Nat) : Int) < 2) = false by decide)))) (fun z => by cases z) (fun _ H13 e13 => ?_)
        refine q_when (b := true) (et_test (ev_is (ev_op (ev_var rfl) ev_c rv_int) (congrArg V.bl (show decide (((5 : Nat) : Int) > 3) = true by decide)))) (fun _ H14 e14 => ?_) (fun z => by cases z)
        have h14 := hat_mono h12 (e13.trans e14)
        unfold tRet tIf
        refine (et_test (b := false) (ev_is (ev_op (ev_var rfl) ev_c (rv_eq rfl)) (congrArg V.bl ((bq 5 7).trans (by decide))))) H14 (Ex.refl _) _ fun H15 e15 => ?_
        exact (eu_tup (ea_cons (ev_opL1 (xs := [.str "part", .str "realm", .str "taken"]) (y := .int ((1 : Nat) : Int)) (el_lst (ea_cons ev_c (ea_cons ev_c (ea_cons ev_c ea_nil))) (by show 3 ≤ 100000; decide)) (fun _ _ => ev_is (ev_op (ev_var rfl) ev_c rv_int) (congrArg V.int (show ((5 : Nat) : Int) - 4 = ((1 : Nat) : Int) by decide))) (fun p9 H9 hp9 e9 => rv_ixL (sq_of hp9) (atI_nat (j := 1) rfl))) (ea_cons (ev_getH (v := v) (ev_var rfl) (hat_mono h14 e15) hE I.no rfl) ea_nil)) (by show 2 ≤ 100000; decide)) H15 (Ex.refl _) _ fun p9 H9 np e9 hp => kk _ _ (e312.trans ((e13.trans e14).trans (e15.trans e9))) ⟨p9, rfl, hp⟩
      · refine q_when (b := false) (et_test (ev_is (ev_op (ev_var rfl) ev_c rv_int) (congrArg V.bl (show decide (((6 : Nat) : Int) < 2) = false by decide)))) (fun z => by cases z) (fun _ H13 e13 => ?_)
        refine q_when (b := true) (et_test (ev_is (ev_op (ev_var rfl) ev_c rv_int) (congrArg V.bl (show decide (((6 : Nat) : Int) > 3) = true by decide)))) (fun _ H14 e14 => ?_) (fun z => by cases z)
        have h14 := hat_mono h12 (e13.trans e14)
        unfold tRet tIf
        refine (et_test (b := false) (ev_is (ev_op (ev_var rfl) ev_c (rv_eq rfl)) (congrArg V.bl ((bq 6 7).trans (by decide))))) H14 (Ex.refl _) _ fun H15 e15 => ?_
        exact (eu_tup (ea_cons (ev_opL1 (xs := [.str "part", .str "realm", .str "taken"]) (y := .int ((2 : Nat) : Int)) (el_lst (ea_cons ev_c (ea_cons ev_c (ea_cons ev_c ea_nil))) (by show 3 ≤ 100000; decide)) (fun _ _ => ev_is (ev_op (ev_var rfl) ev_c rv_int) (congrArg V.int (show ((6 : Nat) : Int) - 4 = ((2 : Nat) : Int) by decide))) (fun p9 H9 hp9 e9 => rv_ixL (sq_of hp9) (atI_nat (j := 2) rfl))) (ea_cons (ev_getH (v := v) (ev_var rfl) (hat_mono h14 e15) hE I.no rfl) ea_nil)) (by show 2 ≤ 100000; decide)) H15 (Ex.refl _) _ fun p9 H9 np e9 hp => kk _ _ (e312.trans ((e13.trans e14).trans (e15.trans e9))) ⟨p9, rfl, hp⟩
      · refine q_when (b := false) (et_test (ev_is (ev_op (ev_var rfl) ev_c rv_int) (congrArg V.bl (show decide (((7 : Nat) : Int) < 2) = false by decide)))) (fun z => by cases z) (fun _ H13 e13 => ?_)
        refine q_when (b := true) (et_test (ev_is (ev_op (ev_var rfl) ev_c rv_int) (congrArg V.bl (show decide (((7 : Nat) : Int) > 3) = true by decide)))) (fun _ H14 e14 => ?_) (fun z => by cases z)
        have h14 := hat_mono h12 (e13.trans e14)
        unfold tRet tIf
        refine (et_test (b := true) (ev_is (ev_op (ev_var rfl) ev_c (rv_eq rfl)) (congrArg V.bl ((bq 7 7).trans (by decide))))) H14 (Ex.refl _) _ fun H15 e15 => ?_
        exact (eu_tup (ea_cons ev_c (ea_cons (ev_getH (v := v) (ev_var rfl) (hat_mono h14 e15) hE I.no rfl) ea_nil)) (by show 2 ≤ 100000; decide)) H15 (Ex.refl _) _ fun p9 H9 np e9 hp => kk _ _ (e312.trans ((e13.trans e14).trans (e15.trans e9))) ⟨p9, rfl, hp⟩
    · intro Q' hQ
      refine h _ Q' (fun i hi d v H1 hd kk => ⟨d, i, v, rfl, hi, rfl, hd, kk⟩) fun u H1 z => hQ u H1 ?_
      dsimp only
      refine q_when (b := true) (et_test (ev_is (ev_op (ev_var rfl) ev_c (fun H9 _ Q9 q9 => ⟨rfl, q9 H9 (Ex.refl H9)⟩)) (by rfl))) (fun _ H4 e4 => ?_) (fun z => by cases z)
      exact s_retL (el_lst (ea_cons (ev_var rfl) ea_nil) (by show 1 ≤ 100000; decide)) fun p H5 np e5 hp => z p H5 (fresh_back e4 np) (e4.trans e5) hp
end
end L2.Mj
set_option maxRecDepth 100000
set_option maxHeartbeats 8000000
namespace L2.Mj
open PySem PySem.Spec PyProof.Rows L2 Mx L2.Mb Evl Mv TL LamX Sr Srt SrtO NdefX
theorem heard_gives {X : Cx} {g : Addr} {cdg : Value} {c : HC} {js : List Nat} {q : Str} (B : Bt X.mg) (Z : HF X.mg c) (J8 : ∀ i ∈ js, i < 8 ∧ EI X.K c i) (hr : Room 2 X.A) :
    GivesTo X n_heard "_law_heard" (defScope s_law_heard) g cdg (defBody s_law_heard) "_law_ask" q (TTH c js) := fun f c' s H Q tl act hc h => heard_ps B Z J8 hr act hc h
/-- .. and of the def that calls what it got -/
structure HD (K : W.Frag) (mg : Str → Option Value) (fT : Addr) (dT : FuncData) : Prop where
  fn : FnP K "_law_heard" s_law_heard fT dT
  m : mg "_law_heard" = some (.ref fT)
  b : Binds K dT ["_law_ask"] []
/-- heard(lambda: body) -/
theorem pe_heard {X : Cx} {fH c Pt : Addr} {dH : FuncData} {k : Nat} {cc : HC} {js : List Nat} {Tt : List (Addr × Str)} {scope : Scope} {params : Arguments} {body : Expr} {t : XK → TE} {p5 p6 p7 : Pos}
    (B : Bt X.mg) (Z : HF X.mg cc) (J8 : ∀ i ∈ js, i < 8 ∧ EI X.K cc i) (D : HD X.K X.mg fH dH)
    (TB : TabB X.base X.mg c Pt) (hcode : X.env.code = .ref c) (hmT : (Pt, X.env.qual ++ "<lambda>") ∈ Tt) (hu : ∀ p ∈ Tt, p.1 = Pt → p.2 = X.env.qual ++ "<lambda>") (hr : Room (k + 2) X.A) (L : LamS X.env.scope scope) (hdef : defaultsOf params X.env = ([], []))
    (hbind : ∀ (q : Str) (cl : List (Str × Addr)) (pm cv ctv : Value), bindArgs (W.kla_fn "<lambda>" q params body scope cl pm cv ctv) ⟨[], []⟩ = pure []) (hg : Gl X "_law_heard")
    (hbody : ∀ (A : Around) (outer : List Env) (s : Shared) (H : Hp) (E : XK) (f c' : Addr), Room k (A.deeper (lamEnv X scope s.heap.objs.size f c')) → PE (lamCx X A outer s H E scope f c') body (t E)) :
    PE X (.Call (.Name "_law_heard" p5) [.Lambda params body scope p6] [] p7) (tLam Tt (TTH cc js) t) := by
  obtain ⟨oc, od, dV, kV, doc, pm, an, cdv, ct, osl, rfl, lk, hcg, _, _⟩ := D.fn.ex
  exact pe_lamcall (k := k) (c := c) (P := Pt) (Ng := n_heard) (a := "_law_ask") hg D.m D.fn.kp lk hcg D.b sc_heard rfl (.inl rfl) (heard_gives B Z J8 (hr.mono (by omega))) TB hcode hmT hu hr L hdef hbind hbody
end L2.Mj
set_option maxRecDepth 100000
set_option maxHeartbeats 8000000
namespace L2.Mj
open PySem PySem.Spec PyProof.Rows L2 Mx L2.Mb Evl Mv TL LamX Sr Srt SrtO NdefX
/-! ### two gates more, the one inside the other, and hosts in them -/
def nnP (k : Kd) (r : Str) : Pt := ⟨some k, "nn", r, 66⟩
def mmP (k : Kd) (c : Int) : Pt := ⟨some k, "mm", "nn", c⟩
def qaP : Pt := ⟨none, "qa", "mm", 66⟩
def qbP : Pt := ⟨none, "qb", "mm", 10⟩
def qcP (r : Str) : Pt := ⟨none, "qc", r, 88⟩
theorem off_nn : ("nn" : Str) ∈ offL := by decide +kernel
theorem off_mm : ("mm" : Str) ∈ offL := by decide +kernel
theorem off_qa : ("qa" : Str) ∈ offL := by decide +kernel
theorem off_qb : ("qb" : Str) ∈ offL := by decide +kernel
theorem off_qc : ("qc" : Str) ∈ offL := by decide +kernel
theorem off_no : ("nobody" : Str) ∈ offL := by decide +kernel
theorem off_0 : ("" : Str) ∉ offL := by decide +kernel
theorem okA_mk {rs : List Pt} {p : Pt} (h : OkA rs p) : okA rs p = true := by
  unfold okA
  rw [h.ok, h.nn, h.na, h.rm]
  rcases h.rl with z | z
  · rw [decide_eq_true z]; rfl
  · rw [z, Bool.or_true]; rfl
structure TwS (L : List Pt) (j : Nat) : Prop where
  vd : Vd L
  gn : hasG L "nn" = true
  gm : hasG L "mm" = true
  cnt : L.length ≤ (gts L).length + 5 + j
  mem : ∀ q ∈ L, (q.nm ∉ offL ∧ q.rl ≠ "nn" ∧ q.rl ≠ "mm") ∨ (q.nm = "nn" ∧ q.rl ≠ "nn" ∧ q.rl ≠ "mm") ∨ (q.nm = "mm" ∧ q.rl = "nn" ∧ q.ad ≠ 88) ∨ (0 < j ∧ q = qaP) ∨ (1 < j ∧ q = qbP)
theorem rl_off {rs : List Pt} (v : Vd rs) (hm : ∀ q ∈ rs, q.nm ∉ offL) : ∀ q ∈ rs, q.rl ∉ offL := fun q hq z => by
  rcases rl_ok v q hq with y | y
  · rw [y] at z
    exact off_0 z
  · obtain ⟨p, hp, e⟩ := hasG_iff.mp y
    exact hm p (mem_gts.mp hp).1 (by rw [e]; exact z)
theorem tw_start {rs : List Pt} (v : Vd rs) (c1 : (gts rs).length ≤ 4) (c2 : rs.length ≤ (gts rs).length + 5) (hm : ∀ q ∈ rs, q.nm ∉ offL ∧ okAd q.ad) {r : Str} (hr : r = "" ∨ ∃ p ∈ gts rs, p.nm = r ∧ p.rl = "") {c : Int} (hc : c = 77 ∨ c = 66 ∨ ∃ q ∈ rs, q.ad = c) {k1 k2 : Kd} (o1 : k1.ok = true) (o2 : k2.ok = true) : TwS (mmP k2 c :: nnP k1 r :: rs) 0 := by
  have ro := rl_off v fun q hq => (hm q hq).1
  have r0 : r ∉ offL := by
    rcases hr with z | ⟨p, hp, e, _⟩
    · rw [z]; exact off_0
    · rw [← e]; exact (hm p (mem_gts.mp hp).1).1
  have cr : (chn rs r).length ≤ 1 := by
    rcases hr with z | ⟨p, hp, e, e0⟩
    · rw [z, chn_open v]; exact Nat.zero_le _
    · rw [← e, chn_gate v hp, e0, chn_open v]; exact Nat.le_refl _
  have hrG : r = "" ∨ hasG rs r = true := hr.imp id fun ⟨p, hp, e, _⟩ => hasG_iff.mpr ⟨p, hp, e⟩
  have A1 : okA rs (nnP k1 r) = true := okA_mk {
    ok := okP_back ⟨(by decide +kernel : okW "nn" = true), hr.imp id fun ⟨p, hp, e, _⟩ => (by show okW r = true; rw [← e]; exact (v.okP p (mem_gts.mp hp).1).nm), (by show (1 : Int) ≤ 66; decide), (by show (66 : Int) ≤ 99; decide), o1⟩
    rl := hrG
    nn := newN_iff.mpr fun q hq e => (hm q hq).1 (by rw [e]; exact off_nn)
    na := newA_iff.mpr fun q hq e => (hm q hq).2.1 (by have : q.ad = 66 := e.2; omega)
    rm := by
      unfold room
      rw [if_pos (show ((nnP k1 r).isG = true) from rfl)]
      show (decide ((chn rs r).length < 3) && decide ((gts rs).length < 6)) = true
      rw [decide_eq_true (by omega), decide_eq_true (by omega)]
      rfl }
  have v1 : Vd (nnP k1 r :: rs) := ⟨v, A1⟩
  have g1 : hasG (nnP k1 r :: rs) "nn" = true := hasG_iff.mpr ⟨nnP k1 r, mem_gts.mpr ⟨List.mem_cons_self, rfl⟩, rfl⟩
  have cl : 1 ≤ c ∧ c ≤ 99 := by
    rcases hc with z | z | ⟨q, hq, z⟩
    · omega
    · omega
    · have := v.okP q hq
      rw [← z]
      exact ⟨this.a0, this.a1⟩
  have A2 : okA (nnP k1 r :: rs) (mmP k2 c) = true := okA_mk {
    ok := okP_back ⟨(by decide +kernel : okW "mm" = true), .inr (by decide +kernel : okW "nn" = true), cl.1, cl.2, o2⟩
    rl := .inr g1
    nn := newN_iff.mpr fun q hq e => by
      rcases List.mem_cons.mp hq with z | z
      · rw [z] at e
        exact absurd e (by decide +kernel : ¬ ("nn" : Str) = "mm")
      · exact (hm q z).1 (by rw [e]; exact off_mm)
    na := newA_iff.mpr fun q hq e => by
      rcases List.mem_cons.mp hq with z | z
      · rw [z] at e
        exact r0 (by rw [show r = "nn" from e.1]; exact off_nn)
      · exact ro q z (by rw [e.1]; exact off_nn)
    rm := by
      unfold room
      rw [if_pos (show ((mmP k2 c).isG = true) from rfl)]
      have e1 : chn (nnP k1 r :: rs) "nn" = ("nn" : Str) :: chn rs r := chn_self (p := nnP k1 r) rfl
      show (decide ((chn (nnP k1 r :: rs) "nn").length < 3) && decide ((gts (nnP k1 r :: rs)).length < 6)) = true
      rw [e1, gts_cons, if_pos (show ((nnP k1 r).isG = true) from rfl), List.length_cons, List.length_cons, decide_eq_true (by omega), decide_eq_true (by omega)]
      rfl }
  refine ⟨⟨v1, A2⟩, hasG_up g1, hasG_iff.mpr ⟨mmP k2 c, mem_gts.mpr ⟨List.mem_cons_self, rfl⟩, rfl⟩, ?_, fun q hq => ?_⟩
  · rw [gts_cons, if_pos (show ((mmP k2 c).isG = true) from rfl), gts_cons, if_pos (show ((nnP k1 r).isG = true) from rfl)]
    simp only [List.length_cons]
    omega
  · rcases List.mem_cons.mp hq with z | z
    · refine .inr (.inr (.inl ⟨by rw [z]; rfl, by rw [z]; rfl, ?_⟩))
      rw [z]
      show c ≠ 88
      rcases hc with y | y | ⟨q', hq', y⟩
      · omega
      · omega
      · rw [← y]
        exact (hm q' hq').2.2.2
    · rcases List.mem_cons.mp z with z | z
      · refine .inr (.inl ⟨by rw [z]; rfl, ?_, ?_⟩)
        · rw [z]
          exact fun e => r0 (by rw [show r = "nn" from e]; exact off_nn)
        · rw [z]
          exact fun e => r0 (by rw [show r = "mm" from e]; exact off_mm)
      · exact .inl ⟨(hm q z).1, fun e => ro q z (by rw [e]; exact off_nn), fun e => ro q z (by rw [e]; exact off_mm)⟩
theorem TwS.okH {L : List Pt} {j : Nat} (h : TwS L j) (hj : j ≤ 2) {p : Pt} (hk : p.kd = none) (nm : okW p.nm = true) (hr : p.rl = "nn" ∨ p.rl = "mm") (a0 : 1 ≤ p.ad) (a1 : p.ad ≤ 99) (hN : ∀ q ∈ L, q.nm ≠ p.nm) (hA : ∀ q ∈ L, ¬ (q.rl = p.rl ∧ q.ad = p.ad)) : okA L p = true := okA_mk {
  ok := okP_back ⟨nm, .inr (by rcases hr with z | z <;> rw [z] <;> decide +kernel), a0, a1, by rw [hk]; rfl⟩
  rl := .inr (by
    rcases hr with z | z <;> rw [z]
    · exact h.gn
    · exact h.gm)
  nn := newN_iff.mpr hN
  na := newA_iff.mpr hA
  rm := by
    unfold room
    rw [if_neg (by unfold Pt.isG; rw [hk]; decide)]
    have := h.cnt
    exact decide_eq_true (by omega) }
theorem TwS.add {L : List Pt} {j : Nat} (h : TwS L j) {p : Pt} (hk : p.kd = none) (ok : okA L p = true) (hp : (j = 0 ∧ p = qaP) ∨ (j = 1 ∧ p = qbP)) : TwS (p :: L) (j + 1) := by
  have pg : p.isG = false := by unfold Pt.isG; rw [hk]; rfl
  refine ⟨⟨h.vd, ok⟩, hasG_up h.gn, hasG_up h.gm, ?_, fun q hq => ?_⟩
  · rw [gts_cons, if_neg (by rw [pg]; decide), List.length_cons]
    have := h.cnt
    omega
  · rcases List.mem_cons.mp hq with z | z
    · rcases hp with ⟨e, ep⟩ | ⟨e, ep⟩
      · exact .inr (.inr (.inr (.inl ⟨by omega, z.trans ep⟩)))
      · exact .inr (.inr (.inr (.inr ⟨by omega, z.trans ep⟩)))
    · rcases h.mem q z with y | y | y | ⟨y1, y2⟩ | ⟨y1, y2⟩
      · exact .inl y
      · exact .inr (.inl y)
      · exact .inr (.inr (.inl y))
      · exact .inr (.inr (.inr (.inl ⟨by omega, y2⟩)))
      · exact .inr (.inr (.inr (.inr ⟨by omega, y2⟩)))
theorem TwS.qa {L : List Pt} (h : TwS L 0) : okA L qaP = true := h.okH (by decide) rfl (by decide +kernel) (.inr rfl) (by decide) (by decide) (fun q hq e => by
    replace e : q.nm = "qa" := e
    rcases h.mem q hq with y | y | y | y | y
    · exact y.1 (by rw [e]; exact off_qa)
    · rw [y.1] at e; exact absurd e (by decide +kernel)
    · rw [y.1] at e; exact absurd e (by decide +kernel)
    · omega
    · omega) (fun q hq e => by
    have e1 : q.rl = "mm" := e.1
    rcases h.mem q hq with y | y | y | y | y
    · exact y.2.2 e1
    · exact y.2.2 e1
    · rw [y.2.1] at e1; exact absurd e1 (by decide +kernel)
    · omega
    · omega)
theorem TwS.qb {L : List Pt} (h : TwS L 1) : okA L qbP = true := h.okH (by decide) rfl (by decide +kernel) (.inr rfl) (by decide) (by decide) (fun q hq e => by
    replace e : q.nm = "qb" := e
    rcases h.mem q hq with y | y | y | ⟨_, y⟩ | y
    · exact y.1 (by rw [e]; exact off_qb)
    · rw [y.1] at e; exact absurd e (by decide +kernel)
    · rw [y.1] at e; exact absurd e (by decide +kernel)
    · rw [y] at e; exact absurd e (by decide +kernel)
    · omega) (fun q hq e => by
    have e1 : q.rl = "mm" := e.1
    have e2 : q.ad = 10 := e.2
    rcases h.mem q hq with y | y | y | ⟨_, y⟩ | y
    · exact y.2.2 e1
    · exact y.2.2 e1
    · rw [y.2.1] at e1; exact absurd e1 (by decide +kernel)
    · rw [y] at e2; exact absurd e2 (by decide)
    · omega)
theorem TwS.qc {L : List Pt} {j : Nat} (hj : j ≤ 2) (h : TwS L j) {r : Str} (hr : r = "nn" ∨ r = "mm") : okA L (qcP r) = true := h.okH hj rfl (by show okW "qc" = true; decide +kernel) hr (by show (1 : Int) ≤ 88; decide) (by show (88 : Int) ≤ 99; decide) (fun q hq e => by
    replace e : q.nm = "qc" := e
    rcases h.mem q hq with y | y | y | ⟨_, y⟩ | ⟨_, y⟩
    · exact y.1 (by rw [e]; exact off_qc)
    · rw [y.1] at e; exact absurd e (by decide +kernel)
    · rw [y.1] at e; exact absurd e (by decide +kernel)
    · rw [y] at e; exact absurd e (by decide +kernel)
    · rw [y] at e; exact absurd e (by decide +kernel)) (fun q hq e => by
    have e1 : q.rl = r := e.1
    have e2 : q.ad = 88 := e.2
    rcases h.mem q hq with y | y | y | ⟨_, y⟩ | ⟨_, y⟩
    · rcases hr with z | z
      · exact y.2.1 (e1.trans z)
      · exact y.2.2 (e1.trans z)
    · rcases hr with z | z
      · exact y.2.1 (e1.trans z)
      · exact y.2.2 (e1.trans z)
    · exact y.2.2 e2
    · rw [y] at e2; exact absurd e2 (by decide)
    · rw [y] at e2; exact absurd e2 (by decide))
def nearP (x : Pl) : Bool := x.p.isG && decide (x.p.rl = "")
def nearL (l : List Pl) : List Str := ("" : Str) :: ((l.filter nearP).map fun x => x.p.nm)
theorem prt_put {H : Hp} {fo t ka : Addr} {p : Pt} {xs ys : List V} (hf : H fo = some (.lst xs)) (h : PrtS H t ka p) : PrtS (upd H fo (.lst ys)) t ka p :=
  ⟨(upd_ne (ne_of_obj h.t hf fun w => by cases w)).trans h.t, fun k z => (upd_ne (ne_of_obj (h.k k z) hf fun w => by cases w)).trans (h.k k z)⟩
theorem rs_two (l : List Pl) (x y : Pl) : rsOf (l ++ [x, y]) = y.p :: x.p :: rsOf l := by
  unfold rsOf
  rw [List.map_append, List.reverse_append]
  rfl
section
variable {t u : TT} {σ : L2.St} {H : Hp}
theorem q_ifR {D : Ends} {tz : TS} {c : TT} {u : TS} (h : c σ H fun b H1 => if b = true then u { D with nx := tz D } σ H1 else tz D σ H1) : tSeq (tIfS c u tNext) tz D σ H := h
theorem rd_seq {σ : L2.St} {H : Hp} {D : Ends} {ta tz : TS} (h : ta { D with nx := tz D } σ H) : tSeq ta tz D σ H := h
end
section
variable {H : Hp} {σ : L2.St}
theorem rd_forR1 {te : TE} {D : Ends} {g : TG} {tb : TS} (h : te σ H fun v H1 => ∃ j : Int, [v] = [V.int j] ∧ -(2 ^ 62) ≤ j ∧ j < 2 ^ 62 ∧ ∃ W : Nat → Nat → L2.St → Hp → Prop, (∃ m, W 0 m σ H1) ∧ ∀ i m σ H, W i m σ H →
  ((Itr 0 j.toNat).stop i H ∧ D.nx σ H) ∨ ((Itr 0 j.toNat).go i H ∧ ∃ N : L2.St → Hp → Prop, (∀ σ' H', N σ' H' → ∃ m', m' < m ∧ W (i + 1) m' σ' H') ∧ ∀ x H', (Itr 0 j.toNat).yld i H x H' → g x σ H' fun σ2 H2 => tb { D with nx := N, ct := N, bk := D.nx } σ2 H2)) : tFor (iRng1 (tCons te tNil)) g tb D σ H := h
end
def spTw : Sp := fun vs H Q _ => ∃ (p a : Addr) (l : List Pl) (ns : Cells) (t : Int), vs = [.ref p, .ref a] ∧ PenAt H p ns t ∧ ns.length ≤ 63 ∧ 0 ≤ t ∧ t ≤ 810000 ∧ H a = some (.lst (l.map fun x => .ref x.t)) ∧ (∀ x ∈ l, PrtS H x.t x.k x.p) ∧ Vd (rsOf l) ∧ lpC 4 5 l ∧ (∀ x ∈ l, PyData.strOk x.p.nm = true ∧ x.p.nm ∉ offL ∧ okAd x.p.ad) ∧
  ∀ (q : Addr) (m : List Pl) (u : Int) (H' : Hp), Vd (rsOf m) → (∀ x ∈ m, PrtS H' x.t x.k x.p) → (∀ x ∈ m, PyData.strOk x.p.nm = true ∧ x.p.nm ≠ "nobody") → (∃ x ∈ m, x.p.isG = false) → H q = none → H' q = some (.lst (m.map fun x => .ref x.t)) → t ≤ u → u ≤ t + 40 → PenAt H' p ns u → But p H H' → Q (.ref q) H'
section
variable {P : Program} {w : World} {K : W.Frag} {mg : Str → Option Value} {base : Heap} {f fT fS : Addr} {fd dT dS : FuncData}
theorem ok_ltwos (B : Bt mg) (D : Fn0 P w K mg base "_law_draw" 1 fT dT p_law_draw spTake) (DS : Fn0 P w K mg base "_law_sort" 2 fS dS p_law_sort spSort) (F : FnP K "_law_twos" s_law_twos f fd) : FnOk P w K mg base CX0 3 f fd p_law_twos spTw := by
  refine F.ok sc_law_twos (fun vs H Q E h => ?_) (fun cdv A outer s H vs Q E hr h => ?_)
  · obtain ⟨p, a, l, ns, t, rfl, _⟩ := h
    rfl
  · obtain ⟨p, a, l, ns, t, rfl, pen, hn, t0, t1, hA, hP, vd, hC, hS, k⟩ := h
    have nd := sc_law_twos.nd
    refine ⟨_, PSs.nox (pss_cons (ps_set (i := 2) nd rfl (Or.inl rfl) (pe_op op_cat (pe_lst (pa_cons pe_str pa_nil)) (pe_lc (own := [("_law_part", 3)]) (g := gName 3) (tt := tAnd (tTest (tOp rEq (tOp (rIxT K) (tVar 3) (tC (.int 0))) (tC (.str "gate")))) (tTest (tOp rEq (tOp (rIxT K) (tVar 3) (tC (.int 2))) (tC (.str ""))))) (te := tOp (rIxT K) (tVar 3) (tC (.int 1))) (by rfl) nd (pi_list (pv 1)) (blkOk_by (N := n_law_twos) (sc := defScope s_law_twos) (by decide +kernel)) (fun _ _ _ _ _ => pg_name (i := 3) nd rfl (Or.inl rfl))
          (fun _ _ _ _ _ => pts_one ((pw_and (pt_cmpR op_eq (pe_ix ix_tup (pv 3) pe_int (fun _ _ => rfl)) pe_str (nomark _)) (pw_and1 (pt_cmpR op_eq (pe_ix ix_tup (pv 3) pe_int (fun _ _ => rfl)) pe_str (nomark _)))).pt)) (fun _ _ _ _ _ => pe_ix ix_tup (pv 3) pe_int (fun _ _ => rfl)))))
      (pss_cons (ps_set (i := 4) nd rfl (Or.inl rfl) (pe_ix ix_list (pv 2) (pe_call D.ok (hr.mono (by decide)) (by rfl) D.m D.k D.b .nil pass0 (pa_cons (pv 0) (pa_cons (pe_callB call_len_seq (by rfl) B.len (by decide +kernel) (pa_cons (pv 2) pa_nil)) pa_nil))) (fun _ _ => rfl)))
      (pss_cons (ps_setLc (i := 5) (own := [("_law_part", 3)]) (g := gName 3) (tt := tYes) (te := tOp (rIxT K) (tVar 3) (tC (.int 3))) (by rfl) nd rfl rfl (sw_true rfl rfl rfl (by decide +kernel)) (pi_list (pv 1)) (blkOk_by (N := n_law_twos) (sc := defScope s_law_twos) (by decide +kernel)) (fun _ _ _ _ _ => pg_name (i := 3) nd rfl (Or.inl rfl)) (fun _ _ _ _ _ => pts_nil) (fun _ _ _ _ _ => pe_ix ix_tup (pv 3) pe_int (fun _ _ => rfl)))
      (pss_cons (ps_set (i := 6) nd rfl (Or.inl rfl) (pe_ix ix_list (pe_lst (pa_cons pe_int (pa_cons pe_int (pa_cons (pe_ix ix_list (pv 5) (pe_call D.ok (hr.mono (by decide)) (by rfl) D.m D.k D.b .nil pass0 (pa_cons (pv 0) (pa_cons (pe_callB call_len_seq (by rfl) B.len (by decide +kernel) (pa_cons (pv 5) pa_nil)) pa_nil))) (fun _ _ => rfl)) (pa_cons pe_int pa_nil)))))
          (pe_call D.ok (hr.mono (by decide)) (by rfl) D.m D.k D.b .nil pass0 (pa_cons (pv 0) (pa_cons pe_int pa_nil))) (fun _ _ => rfl)))
      (pss_cons (ps_set (i := 7) nd rfl (Or.inl rfl) (pe_op op_cat (pv 1) (pe_lst (pa_cons (pe_tup (pa_cons pe_str (pa_cons pe_str (pa_cons (pv 4) (pa_cons pe_int (pa_cons (pe_call DS.ok hr (by rfl) DS.m DS.k DS.b .nil pass0 (pa_cons (pv 0) pa_nil)) pa_nil))))))
          (pa_cons (pe_tup (pa_cons pe_str (pa_cons pe_str (pa_cons pe_str (pa_cons (pv 6) (pa_cons (pe_call DS.ok hr (by rfl) DS.m DS.k DS.b .nil pass0 (pa_cons (pv 0) pa_nil)) pa_nil)))))) pa_nil)))))
      (pss_cons (ps_for PassesOwn.never rfl (pi_range1 (by rfl) B.range (pa_cons (pe_call D.ok (hr.mono (by decide)) (by rfl) D.m D.k D.b .nil pass0 (pa_cons (pv 0) (pa_cons pe_int pa_nil))) pa_nil)) (pg_name (i := 8) nd rfl (Or.inl rfl))
        (pss_one (ps_expr (pe_bm PySem.F.plainAttrs_list PySem.F.slot_list_append PySem.F.type_list_append mt_append (pv 7) (pa_cons (pe_tup (pa_cons pe_str (pa_cons (pe_ix ix_list (pe_lst (pa_cons pe_str (pa_cons pe_str pa_nil))) (pv 8) (fun _ _ => rfl)) (pa_cons pe_str (pa_cons (pe_ix ix_list (pe_lst (pa_cons pe_int (pa_cons pe_int pa_nil))) (pv 8) (fun _ _ => rfl)) pa_nil))))) pa_nil)))))
      (pss_cons (ps_if (pt_cmpR op_eq (pe_call D.ok (hr.mono (by decide)) (by rfl) D.m D.k D.b .nil pass0 (pa_cons (pv 0) (pa_cons pe_int pa_nil))) pe_int (nomark _))
        (pss_one (ps_expr (pe_bm PySem.F.plainAttrs_list PySem.F.slot_list_append PySem.F.type_list_append mt_append (pv 7) (pa_cons (pe_tup (pa_cons pe_str (pa_cons pe_str (pa_cons (pe_ix ix_list (pe_lst (pa_cons pe_str (pa_cons pe_str pa_nil))) (pe_call D.ok (hr.mono (by decide)) (by rfl) D.m D.k D.b .nil pass0 (pa_cons (pv 0) (pa_cons pe_int pa_nil))) (fun _ _ => rfl)) (pa_cons pe_int pa_nil))))) pa_nil)))) pss_nil)
      (pss_one (ps_ret (pv 7)))))))))), ?_⟩
    have l14 : l.length ≤ 14 := by
      have y := len14 vd
      rw [len_rs] at y
      exact y
    obtain ⟨hne, hc1, hc2, xh, mxh, xhG⟩ := hC
    have hap : a ≠ p := lst_pen pen hA
    have neA : ∀ (l' : List Pl), (l'.map fun x => x.p.ad).length = l'.length := fun l' => List.length_map _
    -- near
    refine q_asgL (xs := (nearL l).map V.str) ?_ fun nl H1 nnl e1 hnl => ?_
    · have key := el_parts (K := K) (σ := [some (.ref p), some (.ref a), none, none, none, none, none, none, none]) (H := H) (tl := tVar 1) (t := tAnd (tTest (tOp rEq (tOp (rIxT K) (tVar 3) (tC (.int 0))) (tC (.str "gate")))) (tTest (tOp rEq (tOp (rIxT K) (tVar 3) (tC (.int 2))) (tC (.str ""))))) (te := tOp (rIxT K) (tVar 3) (tC (.int 1))) (j := 3) (vs := [3]) (l := l) nearP (fun x => V.str x.p.nm) (ev_var rfl) hA l14 (fun _ => rfl)
        (fun y hy Hb eb => et_and (et_test (ev_is (ev_op (ev_ptS rfl ((hP y hy).mono eb) at_w) ev_c (rv_eq rfl)) (by rw [gwd_gate]))) fun _ => et_test (ev_is (ev_op (ev_ptS rfl ((hP y hy).mono eb) at_rl) ev_c (rv_eq rfl)) (by simp)))
        (fun y hy Hb eb => ev_ptS rfl ((hP y hy).mono eb) at_nm)
      have z := el_catLL (el_lst (vs := [V.str ""]) (ea_cons ev_c ea_nil) (by decide)) key (by
        have := List.length_filter_le nearP l
        rw [List.length_map]
        show 1 + _ ≤ 100000
        omega)
      rw [show (nearL l).map V.str = [V.str ""] ++ (l.filter nearP).map fun x => V.str x.p.nm by unfold nearL; rw [List.map_cons, List.map_map]; rfl]
      exact z
    try dsimp only [gName, List.set, start, List.map, List.replicate, List.append]
    have nlen : (nearL l).length ≤ 15 := by
      have := List.length_filter_le nearP l
      unfold nearL
      rw [List.length_cons, List.length_map]
      omega
    have npos : 1 ≤ (nearL l).length := by
      unfold nearL
      rw [List.length_cons]
      omega
    have nmem : ∀ r ∈ (nearL l), r = "" ∨ ∃ p' ∈ gts (rsOf l), p'.nm = r ∧ p'.rl = "" := fun r hr => by
      rcases List.mem_cons.mp hr with z | z
      · exact .inl z
      · obtain ⟨x, hx, rfl⟩ := List.mem_map.mp z
        obtain ⟨x1, x2⟩ := List.mem_filter.mp hx
        obtain ⟨y1, y2⟩ := Bool.and_eq_true_iff.mp x2
        exact .inr ⟨x.p, mem_gts.mpr ⟨mem_rs x1, y1⟩, rfl, of_decide_eq_true y2⟩
    generalize (nearL l) = nL at *
    have pen1 := pen_mono e1 pen
    have nlp := pen_fresh pen nnl
    refine q_asgR (rd_op (rd_var rfl (c_draw rfl (ev_len (K := K) (ev_var rfl) (sq_of hnl)) pen1 hn t0 (by omega) (by rw [List.length_map]; omega) (by rw [List.length_map]; omega) fun d u H2 d0 d1 u0 u1 pen2 b2 => ?_)))
    obtain ⟨r, hr, har⟩ := ix_drawn (f := V.str) d0 d1
    refine ⟨nl, _, d, .str r, rfl, rfl, SqL.of (b2 _ _ nlp hnl), har, ?_⟩
    try dsimp only [gName, List.set]
    have hrN := nmem r hr
    have bT2 : But p H H2 := (but_ex e1).trans b2
    have hA2 := bT2 _ _ hap hA
    have hP2 : ∀ x ∈ l, PrtS H2 x.t x.k x.p := fun x hx => prt_but (hP x hx) pen bT2
    -- taken
    refine q_asgL (xs := (l.map fun x => x.p.ad).map V.int) ?_ fun tq H3 ntq e3 htq => ?_
    · have key := el_parts (K := K) (σ := [some (.ref p), some (.ref a), some (.ref nl), none, some (.str r), none, none, none, none]) (H := H2) (tl := tVar 1) (t := tYes) (te := tOp (rIxT K) (tVar 3) (tC (.int 3))) (j := 3) (vs := [3]) (l := l) (fun _ => true) (fun x => V.int x.p.ad) (ev_var rfl) hA2 l14 (fun _ => rfl)
        (fun y hy Hb eb => fun H7 e7 Q7 q7 => q7 H7 (Ex.refl _)) (fun y hy Hb eb => ev_ptS rfl ((hP2 y hy).mono eb) at_ad)
      rw [List.filter_eq_self.mpr fun _ _ => rfl] at key
      rw [List.map_map]
      exact key
    try dsimp only [gName, List.set]
    have pen3 := pen_mono e3 pen2
    have tqp := pen_fresh pen2 ntq
    have tl1 : 1 ≤ l.length := by
      cases l with
      | nil => exact absurd rfl hne
      | cons _ _ => exact Nat.succ_pos _
    -- the address of the inner one
    refine q_asgR (rd_op (rd_lst (rd_cons (rd_c (rd_cons (rd_c (rd_cons (rd_op (rd_var rfl (c_draw rfl (ev_len (K := K) (ev_var rfl) (sq_of htq)) pen3 hn (by omega) (by omega) (by rw [List.length_map, List.length_map]; omega) (by rw [List.length_map, List.length_map]; omega) fun d4 u4 H4 d40 d41 u40 u41 pen4 b4 => ?_))))))))))
    obtain ⟨c0, hc0, hac⟩ := ix_drawn (f := V.int) d40 d41
    refine ⟨tq, _, d4, .int c0, rfl, rfl, SqL.of (b4 _ _ tqp htq), hac, rd_cons (rd_c ⟨(by show 4 ≤ sizeLine; decide), fun q4 n4 => ?_⟩)⟩
    have x4 := Ex.new (o := .lst [V.int 77, .int 77, .int c0, .int 66]) n4
    have pen4' := pen_mono x4 pen4
    have q4p := pen_fresh pen4 n4
    have hq4 : (upd H4 q4 (.lst [V.int 77, .int 77, .int c0, .int 66])) q4 = some (.lst [V.int 77, .int 77, .int c0, .int 66]) := upd_same
    have b4' : But p H3 (upd H4 q4 (.lst [V.int 77, .int 77, .int c0, .int 66])) := b4.trans (but_ex x4)
    generalize upd H4 q4 (.lst [V.int 77, .int 77, .int c0, .int 66]) = H5 at *
    refine c_draw rfl ev_c pen4' hn (by omega) (by omega) (by decide) (by decide) fun d5 u5 H6 d50 d51 u50 u51 pen6 b6 => ?_
    obtain ⟨c, hc, hac2⟩ := ix_drawn' (f := V.int) (zs := [77, 77, c0, 66]) d50 (by show d5 < ((4 : Nat) : Int); omega)
    refine ⟨q4, _, d5, .int c, rfl, rfl, SqL.of (b6 _ _ q4p hq4), hac2, ?_⟩
    try dsimp only [gName, List.set]
    have hcN : c = 77 ∨ c = 66 ∨ ∃ q ∈ rsOf l, q.ad = c := by
      simp only [List.mem_cons, List.not_mem_nil, or_false] at hc
      rcases hc with z | z | z | z
      · exact .inl z
      · exact .inl z
      · obtain ⟨x, hx, e⟩ := List.mem_map.mp hc0
        exact .inr (.inr ⟨x.p, mem_rs hx, e.trans z.symm⟩)
      · exact .inr (.inl z)
    have b06 : But p H H6 := ((bT2.trans (but_ex e3)).trans b4').trans b6
    have hA6 := b06 _ _ hap hA
    -- two gates more
    refine q_asgR (rd_op (rd_var rfl (rd_lst (rd_cons (rd_tup (rd_cons (rd_c (rd_cons (rd_c (rd_cons (rd_var rfl (rd_cons (rd_c (rd_cons ⟨_, rfl, p, ns, u5, rfl, pen6, hn, by omega, by omega, fun k1 q1 u7 H7 ok1 u70 u71 pen7 b7 nq1 hq1 => ⟨(by show 5 ≤ sizeLine; decide), fun g1 ng1 => ?_⟩⟩))))))))))))))
    have xg1 := Ex.new (o := .tup [V.str "gate", .str "nn", .str r, .int 66, .ref q1]) ng1
    have hg1 : (upd H7 g1 (.tup [V.str "gate", .str "nn", .str r, .int 66, .ref q1])) g1 = some (.tup [V.str "gate", .str "nn", .str r, .int 66, .ref q1]) := upd_same
    have pen8 := pen_mono xg1 pen7
    have hq1' := hq1.mono xg1
    have b68 := b7.trans (but_ex xg1)
    generalize upd H7 g1 (.tup [V.str "gate", .str "nn", .str r, .int 66, .ref q1]) = H8 at *
    have pt1 : PrtS H8 g1 q1 (nnP k1 r) := ⟨hg1, fun kd hk => by cases hk; exact hq1'⟩
    refine rd_cons (rd_tup (rd_cons (rd_c (rd_cons (rd_c (rd_cons (rd_c (rd_cons (rd_var rfl (rd_cons ⟨_, rfl, p, ns, u7, rfl, pen8, hn, by omega, by omega, fun k2 q2 u9 H9 ok2 u90 u91 pen9 b9 nq2 hq2 => ⟨(by show 5 ≤ sizeLine; decide), fun g2 ng2 => ?_⟩⟩))))))))))
    have xg2 := Ex.new (o := .tup [V.str "gate", .str "mm", .str "nn", .int c, .ref q2]) ng2
    have hg2 : (upd H9 g2 (.tup [V.str "gate", .str "mm", .str "nn", .int c, .ref q2])) g2 = some (.tup [V.str "gate", .str "mm", .str "nn", .int c, .ref q2]) := upd_same
    have pen10 := pen_mono xg2 pen9
    have hq2' := hq2.mono xg2
    have b810 := b9.trans (but_ex xg2)
    generalize upd H9 g2 (.tup [V.str "gate", .str "mm", .str "nn", .int c, .ref q2]) = H10 at *
    have pt2 : PrtS H10 g2 q2 (mmP k2 c) := ⟨hg2, fun kd hk => by cases hk; exact hq2'⟩
    have pt1' := prt_but pt1 pen8 b810
    have b010 : But p H H10 := (b06.trans b68).trans b810
    refine ⟨(by show 2 ≤ sizeLine; decide), fun ql nql => ?_⟩
    have xql := Ex.new (o := .lst [V.ref g1, .ref g2]) nql
    have hql : (upd H10 ql (.lst [V.ref g1, .ref g2])) ql = some (.lst [V.ref g1, .ref g2]) := upd_same
    have b011 : But p H (upd H10 ql (.lst [V.ref g1, .ref g2])) := b010.trans (but_ex xql)
    have pen11 := pen_mono xql pen10
    generalize upd H10 ql (.lst [V.ref g1, .ref g2]) = H11 at *
    refine ⟨a, ql, _, _, rfl, rfl, b011 _ _ hap hA, hql, sz_of (by rw [List.length_map]; show l.length + 2 ≤ 100000; omega), fun fo nfo => ?_⟩
    have xfo := Ex.new (o := .lst ((l.map fun x => V.ref x.t) ++ [V.ref g1, .ref g2])) nfo
    have hfo : (upd H11 fo (.lst ((l.map fun x => V.ref x.t) ++ [V.ref g1, .ref g2]))) fo = some (.lst ((l ++ [(⟨g1, q1, nnP k1 r⟩ : Pl), ⟨g2, q2, mmP k2 c⟩]).map fun x => V.ref x.t)) := by
      rw [upd_same, List.map_append]
      rfl
    have fop : fo ≠ p := pen_fresh pen11 nfo
    have foc : fo ≠ ns.l := pen_cells pen11 nfo
    have nfo0 : H fo = none := new_but pen11 b011 nfo
    have b012 : But p H (upd H11 fo (.lst ((l.map fun x => V.ref x.t) ++ [V.ref g1, .ref g2]))) := b011.trans (but_ex xfo)
    have pen12 := pen_mono xfo pen11
    have pt12 : ∀ x : Pl, x ∈ l ++ [(⟨g1, q1, nnP k1 r⟩ : Pl), ⟨g2, q2, mmP k2 c⟩] → PrtS (upd H11 fo (.lst ((l.map fun x => V.ref x.t) ++ [V.ref g1, .ref g2]))) x.t x.k x.p := fun x hx => by
      rcases List.mem_append.mp hx with hx | hx
      · exact prt_but (hP x hx) pen b012
      · rcases List.mem_cons.mp hx with z | hx
        · rw [z]; exact pt1'.mono (xql.trans xfo)
        · rw [List.mem_singleton.mp hx]; exact pt2.mono (xql.trans xfo)
    generalize upd H11 fo (.lst ((l.map fun x => V.ref x.t) ++ [V.ref g1, .ref g2])) = H12 at *
    try dsimp only [gName, List.set]
    have penF : ∀ {G : Hp} {v : Int} {ys : List V}, PenAt G p ns v → PenAt (upd G fo (.lst ys)) p ns v := fun h => by
      obtain ⟨gg, y1, y2⟩ := h
      exact ⟨gg, (upd_ne fop.symm).trans y1, (upd_ne foc.symm).trans y2⟩
    have butF : ∀ {G : Hp} {ys : List V}, But p H G → But p H (upd G fo (.lst ys)) := fun b c o hc ho => (upd_ne (ne_of_none ho nfo0)).trans (b c o hc ho)
    have tw0 : TwS (rsOf (l ++ [⟨g1, q1, nnP k1 r⟩, ⟨g2, q2, mmP k2 c⟩])) 0 := by
      rw [rs_two]
      exact tw_start vd hc1 hc2 (fun q hq => by
        obtain ⟨x, hx, rfl⟩ := List.mem_map.mp (List.mem_reverse.mp hq)
        exact (hS x hx).2) hrN hcN ok1 ok2
    have nb0 : ∀ x : Pl, x ∈ l ++ [(⟨g1, q1, nnP k1 r⟩ : Pl), ⟨g2, q2, mmP k2 c⟩] → PyData.strOk x.p.nm = true ∧ x.p.nm ≠ ("nobody" : Str) := fun x hx => by
      rcases List.mem_append.mp hx with hx | hx
      · exact ⟨(hS x hx).1, fun e => (hS x hx).2.1 (by rw [e]; exact off_no)⟩
      · rcases List.mem_cons.mp hx with z | hx
        · rw [z]; exact ⟨(by decide +kernel : PyData.strOk "nn" = true), (by decide +kernel : ¬ ("nn" : Str) = "nobody")⟩
        · rw [List.mem_singleton.mp hx]; exact ⟨(by decide +kernel : PyData.strOk "mm" = true), (by decide +kernel : ¬ ("mm" : Str) = "nobody")⟩
    -- hosts in them
    refine rd_seq (rd_forR1 (c_draw rfl ev_c pen12 hn (by omega) (by omega) (by decide) (by decide) fun dh u13 H13 dh0 dh1 u130 u131 pen13 b13 => ⟨dh, rfl, by omega, by omega, ?_⟩))
    have b013 := b012.trans b13
    refine for_range (lo := 0) (n := dh.toNat) (fun j σ' H' => ∃ (m : List Pl) (z8 : Option V), σ' = [some (.ref p), some (.ref a), some (.ref nl), none, some (.str r), some (.ref tq), some (.int c), some (.ref fo), z8] ∧ m.length ≤ l.length + 2 + j ∧ H' fo = some (.lst (m.map fun x => .ref x.t)) ∧ (∀ x ∈ m, PrtS H' x.t x.k x.p) ∧ TwS (rsOf m) j ∧ (∀ x : Pl, x ∈ m → PyData.strOk x.p.nm = true ∧ x.p.nm ≠ ("nobody" : Str)) ∧ xh ∈ m ∧ PenAt H' p ns u13 ∧ But p H H') ?_ (fun j σ' H' hj hh => ?_) (fun σ' H' hh => ?_)
    · exact ⟨_, none, rfl, by rw [List.length_append]; exact Nat.le_refl _, b13 _ _ fop hfo, fun x hx => prt_but (pt12 x hx) pen12 b13, tw0, nb0, List.mem_append_left _ mxh, pen13, b013⟩
    · obtain ⟨m, z8, rfl, ml, hm, pm, tw, nb, mx, penj, bj⟩ := hh
      try dsimp only [gName, List.set]
      have hj2 : j < 2 := by omega
      obtain ⟨zp, hz1, hz2, hz3, hz4, hz5, hz6⟩ : ∃ zp : Pt, ((j = 0 ∧ zp = qaP) ∨ (j = 1 ∧ zp = qbP)) ∧ atI [V.str "qa", .str "qb"] (0 + (j : Int)) = some (.str zp.nm) ∧ atI [V.int 66, .int 10] (0 + (j : Int)) = some (.int zp.ad) ∧ okA (rsOf m) zp = true ∧ (PyData.strOk zp.nm = true ∧ zp.nm ≠ "nobody") ∧ (zp.kd = none ∧ zp.rl = "mm") := by
        rcases (show j = 0 ∨ j = 1 by omega) with rfl | rfl
        · exact ⟨qaP, .inl ⟨rfl, rfl⟩, atI_nat (j := 0) rfl, atI_nat (j := 0) rfl, tw.qa, ⟨by decide +kernel, by decide +kernel⟩, rfl, rfl⟩
        · exact ⟨qbP, .inr ⟨rfl, rfl⟩, atI_nat (j := 1) rfl, atI_nat (j := 1) rfl, tw.qb, ⟨by decide +kernel, by decide +kernel⟩, rfl, rfl⟩
      refine s_appU hm (ev_var rfl) (eu_tup (vs := [.str "host", .str zp.nm, .str "mm", .int zp.ad]) (ea_cons ev_c (ea_cons (ev_opL1 (xs := [V.str "qa", .str "qb"]) (y := .int (0 + (j : Int))) (el_lst (ea_cons ev_c (ea_cons ev_c ea_nil)) (by decide)) (fun _ _ => ev_var rfl) (fun q9 H9 hq9 e9 => rv_ixL (sq_of hq9) hz2)) (ea_cons ev_c (ea_cons (ev_opL1 (xs := [V.int 66, .int 10]) (y := .int (0 + (j : Int))) (el_lst (ea_cons ev_c (ea_cons ev_c ea_nil)) (by decide)) (fun _ _ => ev_var rfl) (fun q9 H9 hq9 e9 => rv_ixL (sq_of hq9) hz3)) ea_nil)))) (by show 4 ≤ 100000; decide)) (by rw [List.length_map]; omega) fun tp Ha ntp ea htp => ?_
      have hma := ea _ _ hm
      have tpf : tp ≠ fo := (ne_of_none hm ntp).symm
      have eptv : ptV 0 zp = [.str "host", .str zp.nm, .str "mm", .int zp.ad] := by
        rcases hz1 with ⟨_, e⟩ | ⟨_, e⟩ <;> rw [e] <;> rfl
      refine ⟨m ++ [⟨tp, 0, zp⟩], _, rfl, by rw [List.length_append]; show _ + 1 ≤ _; omega, ?_, fun x hx => ?_, ?_, fun x hx => ?_, List.mem_append_left _ mx, penF (pen_mono ea penj), butF (bj.trans (but_ex ea))⟩
      · rw [upd_same, List.map_append]
        rfl
      · rcases List.mem_append.mp hx with hx | hx
        · exact prt_put hma ((pm x hx).mono ea)
        · rw [List.mem_singleton.mp hx]
          exact prt_put hma ⟨by rw [eptv]; exact htp, fun kd hk => by rw [hz6.1] at hk; cases hk⟩
      · rw [rs_snoc]
        exact tw.add hz6.1 hz4 hz1
      · rcases List.mem_append.mp hx with hx | hx
        · exact nb x hx
        · rw [List.mem_singleton.mp hx]; exact hz5
    · obtain ⟨m, z8, rfl, ml, hm, pm, tw, nb, mx, penj, bj⟩ := hh
      have hd2 : dh.toNat ≤ 2 := by omega
      refine q_ifR (rd_test (rd_op (c_draw rfl ev_c penj hn (by omega) (by omega) (by decide) (by decide) fun d9 u14 H14 d90 d91 u140 u141 pen14 b14 => ⟨rfl, _, rfl, ?_⟩)))
      have hm14 := b14 _ _ fop hm
      have pm14 : ∀ x ∈ m, PrtS H14 x.t x.k x.p := fun x hx => prt_but (pm x hx) penj b14
      have b014 := bj.trans b14
      cases decide (V.int d9 = V.int 0) with
      | false =>
        rw [if_neg Bool.false_ne_true]
        exact s_ret (ev_var rfl) fun G3 e3 => k fo m u14 G3 tw.vd (fun x hx => (pm14 x hx).mono e3) nb ⟨xh, mx, xhG⟩ nfo0 (e3 _ _ hm14) (by omega) (by omega) (pen_mono e3 pen14) (b014.trans (but_ex e3))
      | true =>
        rw [if_pos rfl]
        refine ⟨_, rfl, Or.inl ⟨rfl, _, sq_of hm14⟩, rd_cons (rd_tup (rd_cons (rd_c (rd_cons (rd_c (rd_cons (c_pick (xs := ["nn", "mm"]) (n := 2) rfl (ea_cons ev_c (ea_cons ev_c ea_nil)) (by decide) (by decide) rfl (fun _ _ => ev_c) pen14 hn (by omega) (by omega) fun x u15 H15 hx u150 u151 pen15 b15 => rd_cons (rd_c ⟨(by show 4 ≤ sizeLine; decide), fun tp ntp => ?_⟩))))))))⟩
        have hm15 := b15 _ _ fop hm14
        have xtp := Ex.new (o := .tup [V.str "host", .str "qc", .str x, .int 88]) ntp
        refine ⟨fo, _, .ref tp, rfl, rfl, xtp _ _ hm15, sz_lt (by rw [List.length_map]; omega), ?_⟩
        have hxr : x = "nn" ∨ x = "mm" := by simpa using hx
        have ok := tw.qc hd2 hxr
        have htp : (upd H15 tp (.tup [V.str "host", .str "qc", .str x, .int 88])) tp = some (.tup [V.str "host", .str "qc", .str x, .int 88]) := upd_same
        have hmT := xtp _ _ hm15
        have b015 : But p H (upd H15 tp (.tup [V.str "host", .str "qc", .str x, .int 88])) := (b014.trans b15).trans (but_ex xtp)
        have pmT : ∀ x' ∈ m, PrtS (upd H15 tp (.tup [V.str "host", .str "qc", .str x, .int 88])) x'.t x'.k x'.p := fun x' hx' => (prt_but (pm14 x' hx') pen14 b15).mono xtp
        have penT := pen_mono xtp pen15
        generalize upd H15 tp (.tup [V.str "host", .str "qc", .str x, .int 88]) = H16 at *
        refine s_ret (ev_var rfl) fun G3 e3 => k fo (m ++ [⟨tp, 0, qcP x⟩]) u15 G3 (by rw [rs_snoc]; exact ⟨tw.vd, ok⟩) (fun y hy => ?_) (fun y hy => ?_) ⟨xh, List.mem_append_left _ mx, xhG⟩ nfo0 (e3 _ _ (by rw [upd_same, List.map_append]; rfl)) (by omega) (by omega) (pen_mono e3 (penF penT)) ((butF b015).trans (but_ex e3))
        · rcases List.mem_append.mp hy with hy | hy
          · exact (prt_put hmT (pmT y hy)).mono e3
          · rw [List.mem_singleton.mp hy]
            exact (prt_put hmT (show PrtS H16 tp 0 (qcP x) from ⟨htp, fun kd hk => by cases hk⟩)).mono e3
        · rcases List.mem_append.mp hy with hy | hy
          · exact nb y hy
          · rw [List.mem_singleton.mp hy]
            exact ⟨(by decide +kernel : PyData.strOk "qc" = true), (by decide +kernel : ¬ ("qc" : Str) = "nobody")⟩
end
end L2.Mj
set_option maxRecDepth 100000
set_option maxHeartbeats 8000000
namespace L2.Mj
open PySem PySem.Spec PyProof.Rows L2 Mx L2.Mb Evl Mv TL LamX Sr Srt SrtO NdefX
/-! ### what is due of a gate joined with the one around it -/
def EvG (te : TE) (σ : L2.St) (H : Hp) (xs : List V) : Prop := ∀ H1, Ex H H1 → ∀ Q : VK, (∀ p H2, Ex H1 H2 → H2 p = some (.tup xs) → Q (.ref p) H2) → te σ H1 Q
section
variable {K : W.Frag} {σ : L2.St} {H : Hp} {te ta tb : TE} {tl th : TO}
theorem cutV_whole {xs : List V} {lo hi : Option Int} (h : HT.sIx xs.length 0 lo = 0 ∧ HT.sIx xs.length xs.length hi = xs.length) : cutV xs lo hi = xs := by
  unfold cutV
  rw [h.1, h.2, List.drop_zero, Nat.sub_zero, List.take_length]
theorem cut_from (xs : List V) (j : Nat) : cutV xs (some (j : Int)) none = xs.drop j := by
  unfold cutV
  rw [HT.sIx_nat, HT.sIx_none]
  by_cases h : j ≤ xs.length
  · rw [Nat.min_eq_left h]
    exact List.take_of_length_le (by rw [List.length_drop]; exact Nat.le_refl _)
  · rw [Nat.min_eq_right (by omega), List.drop_length, List.drop_eq_nil_of_le (by omega)]
    exact List.take_nil
theorem cut_to (xs : List V) (j : Nat) : cutV xs none (some (j : Int)) = xs.take j := by
  unfold cutV
  rw [HT.sIx_nat, HT.sIx_none, List.drop_zero, Nat.sub_zero]
  by_cases h : j ≤ xs.length
  · rw [Nat.min_eq_left h]
  · rw [Nat.min_eq_right (by omega), List.take_length, List.take_of_length_le (by omega)]
theorem evo_no : EvO tNoPart σ H none := fun H1 _ Q q => q H1 (Ex.refl _)
theorem evo_i {te : TE} {i : Int} (h : Ev te σ H (.int i)) : EvO (tPart te) σ H (some i) := fun H1 e Q q => h H1 e _ fun H2 e2 => ⟨i, rfl, q H2 e2⟩
theorem eg_cut {a : Addr} {xs : List V} {lo hi : Option Int} (h : Ev te σ H (.ref a)) (ha : H a = some (.tup xs)) (h1 : ∀ H1, Ex H H1 → EvO tl σ H1 lo) (h2 : ∀ H1, Ex H H1 → EvO th σ H1 hi) : EvG (tSl (rSlA K) te tl th) σ H (cutV xs lo hi) := fun H1 e1 Q q =>
  h H1 e1 _ fun H2 e2 => h1 H2 (e1.trans e2) H2 (Ex.refl _) _ fun H3 e3 => h2 H3 ((e1.trans e2).trans e3) H3 (Ex.refl _) _ fun H4 e4 => by
    have x := (e2.trans e3).trans e4
    have h4 := x _ _ (e1 _ _ ha)
    refine ⟨a, xs, rfl, st_of h4, fun hw => q a H4 x (by rw [cutV_whole hw]; exact h4), fun _ p np => q p _ (x.trans (Ex.new np)) upd_same⟩
theorem eg_tup {ta : TA} {vs : List V} (h : EvA ta σ H vs) (hl : vs.length ≤ 100000) : EvG (tTup ta) σ H vs := fun H1 e Q q => eu_tup h hl H1 e Q fun p H2 _ e2 hp => q p H2 e2 hp
theorem eg_cat {xs ys : List V} (h1 : EvG ta σ H xs) (h2 : ∀ H1, Ex H H1 → EvG tb σ H1 ys) (hz : xs.length + ys.length ≤ 100000) : EvG (tOp (rCatA K) ta tb) σ H (xs ++ ys) := fun H1 e Q q =>
  h1 H1 e _ fun a H2 e2 ha => h2 H2 (e.trans e2) H2 (Ex.refl _) _ fun b H3 e3 hb => by
    have x := e2.trans e3
    refine ⟨a, b, xs, ys, rfl, rfl, st_of (e3 _ _ ha), st_of hb, sz_of hz, fun z => q b H3 x (by rw [z, List.nil_append]; exact hb), fun _ z => q a H3 x (by rw [z, List.append_nil]; exact e3 _ _ ha), fun _ _ p np => q p _ (x.trans (Ex.new np)) upd_same⟩
theorem ev_neNilN {xs : List V} (h : EvL ta σ H xs) : Ev (tOp (rNil K true) ta (tLst tNil)) σ H (.bl (!xs.isEmpty)) := fun H1 e Q q =>
  h H1 e _ fun p H2 np e2 hp => ⟨(by show 0 ≤ sizeLine; decide), fun r nr => ⟨p, r, xs, rfl, rfl, sq_of (Ex.new nr _ _ hp), sq_of upd_same, q _ (e2.trans (Ex.new nr))⟩⟩
end
theorem cut_24 (ka : Addr) (p : Pt) : cutV (ptV ka p) (some 2) (some 4) = [.str p.rl, .int p.ad] := by
  unfold ptV
  cases p.kd <;> rfl
def spDu : Sp := fun vs H Q _ => ∃ (a : Addr) (l : List Pl) (x : Pl), vs = [.ref a, .str x.p.nm] ∧ H a = some (.lst (l.map fun x => .ref x.t)) ∧ (∀ x ∈ l, PrtS H x.t x.k x.p) ∧ Vd (rsOf l) ∧ x ∈ l ∧ x.p.isG = true ∧
  ((x.p.rl = "" ∨ ∃ q ∈ rsOf l, q.rl = x.p.rl ∧ q.nm ≠ x.p.nm) → ∀ r H', Ex H H' → HrAt H' r "needed" (.str x.p.nm) → Q r H') ∧
  (x.p.rl ≠ "" → (∀ q ∈ rsOf l, q.rl = x.p.rl → q.nm = x.p.nm) → (∃ q ∈ rsOf l, q.nm ≠ x.p.nm ∧ q.ad = x.p.ad) → ∀ r H', Ex H H' → HrAt H' r "clash" (.int x.p.ad) → Q r H') ∧
  (x.p.rl ≠ "" → (∀ q ∈ rsOf l, q.rl = x.p.rl → q.nm = x.p.nm) → (∀ q ∈ rsOf l, q.nm ≠ x.p.nm → q.ad ≠ x.p.ad) → ∀ (pw : Pt) (kg kw : Kd), pw ∈ gts (rsOf l) → pw.nm = x.p.rl → x.p.kd = some kg → pw.kd = some kw →
    ∀ (r f : Addr) (m : List Pl) H', Ex H H' → H' r = some (.lst [.ref f]) → H' f = some (.lst (m.map fun x => .ref x.t)) → (∀ x ∈ m, PrtS H' x.t x.k x.p) → m.map Pl.p = ((l.filter fun y => !decide (y.p.nm = x.p.nm)).map fun y => jn x.p.nm x.p.rl (me kw kg) y.p) → Q (.ref r) H')
section
variable {P : Program} {w : World} {K : W.Frag} {mg : Str → Option Value} {base : Heap} {f fT : Addr} {fd dT : FuncData}
theorem ok_ldue (B : Bt mg) (DC : Fn0 P w K mg base "_law_stricter" 1 fT dT p_law_stricter spStri) (F : FnP K "_law_due" s_law_due f fd) : FnOk P w K mg base CX0 2 f fd p_law_due spDu := by
  refine F.ok sc_law_due (fun vs H Q E h => ?_) (fun cdv A outer s H vs Q E hr h => ?_)
  · obtain ⟨a, l, x, rfl, _⟩ := h
    rfl
  · obtain ⟨a, l, x0, rfl, hA, hP, vd, mx0, xg0, kN, kC, kQ⟩ := h
    have nd := sc_law_due.nd
    have hu0 := Nat.lt_of_le_of_lt (Nat.le_add_right _ _) hr.units
    refine ⟨_, PSs.nox (pss_cons (ps_set (i := 2) nd rfl (Or.inr rfl) (pe_ix ix_list (pe_lc (own := [("_law_part", 3)]) (g := gName 3) (tt := tTest (tOp rEq (tOp (rIxT K) (tVar 3) (tC (.int 1))) (tVar 1))) (te := tVar 3) (by rfl) nd (pi_list (pv 0)) (blkOk_by (N := n_law_due) (sc := defScope s_law_due) (by decide +kernel)) (fun _ _ _ _ _ => pg_name (i := 3) nd rfl (Or.inl rfl))
          (fun _ _ _ _ _ => pts_one (pt_cmpR op_eq (pe_ix ix_tup (pv 3) pe_int (fun _ _ => rfl)) (pv 1) (nomark _))) (fun _ _ _ _ _ => pv 3)) pe_int (fun _ _ => rfl)))
      (pss_cons (ps_setLc (i := 4) (own := [("_law_part", 3)]) (g := gName 3) (tt := tAnd (tTest (tOp rEq (tOp (rIxT K) (tVar 3) (tC (.int 2))) (tOp (rIxT K) (tVar 2) (tC (.int 2))))) (tTest (tOp rNe (tOp (rIxT K) (tVar 3) (tC (.int 1))) (tVar 1)))) (te := tOp (rIxT K) (tVar 3) (tC (.int 1))) (by rfl) nd rfl rfl (sw_true rfl rfl rfl (by decide +kernel)) (pi_list (pv 0)) (blkOk_by (N := n_law_due) (sc := defScope s_law_due) (by decide +kernel)) (fun _ _ _ _ _ => pg_name (i := 3) nd rfl (Or.inl rfl))
          (fun _ _ _ _ _ => pts_one ((pw_and (pt_cmpR op_eq (pe_ix ix_tup (pv 3) pe_int (fun _ _ => rfl)) (pe_ix ix_tup (pv 2) pe_int (fun _ _ => rfl)) (nomark _)) (pw_and1 (pt_cmpR op_ne (pe_ix ix_tup (pv 3) pe_int (fun _ _ => rfl)) (pv 1) (nomark _)))).pt)) (fun _ _ _ _ _ => pe_ix ix_tup (pv 3) pe_int (fun _ _ => rfl)))
      (pss_cons (ps_if (pw_or (pt_cmpR op_eq (pe_ix ix_tup (pv 2) pe_int (fun _ _ => rfl)) pe_str (nomark _)) (pw_or1 (pt_cmpR (op_neNil hu0) (pv 4) (pe_lst pa_nil) (nomark _)))).pt (pss_one (ps_ret (pe_tup (pa_cons pe_str (pa_cons (pv 1) pa_nil))))) pss_nil)
      (pss_cons (ps_if (pt_cmpR (op_neNil hu0) (pe_lc (own := [("_law_part", 3)]) (g := gName 3) (tt := tAnd (tTest (tOp rEq (tOp (rIxT K) (tVar 3) (tC (.int 3))) (tOp (rIxT K) (tVar 2) (tC (.int 3))))) (tTest (tOp rNe (tOp (rIxT K) (tVar 3) (tC (.int 1))) (tVar 1)))) (te := tVar 3) (by rfl) nd (pi_list (pv 0)) (blkOk_by (N := n_law_due) (sc := defScope s_law_due) (by decide +kernel)) (fun _ _ _ _ _ => pg_name (i := 3) nd rfl (Or.inl rfl))
          (fun _ _ _ _ _ => pts_one ((pw_and (pt_cmpR op_eq (pe_ix ix_tup (pv 3) pe_int (fun _ _ => rfl)) (pe_ix ix_tup (pv 2) pe_int (fun _ _ => rfl)) (nomark _)) (pw_and1 (pt_cmpR op_ne (pe_ix ix_tup (pv 3) pe_int (fun _ _ => rfl)) (pv 1) (nomark _)))).pt)) (fun _ _ _ _ _ => pv 3)) (pe_lst pa_nil) (nomark _)) (pss_one (ps_ret (pe_tup (pa_cons pe_str (pa_cons (pe_ix ix_tup (pv 2) pe_int (fun _ _ => rfl)) pa_nil))))) pss_nil)
      (pss_cons (ps_set (i := 5) nd rfl (Or.inl rfl) (pe_lst pa_nil))
      (pss_cons (ps_for PassesOwn.never rfl (pi_list (pv 0)) (pg_name (i := 3) nd rfl (Or.inl rfl))
        (pss_one (ps_if (pt_cmpR op_eq (pe_ix ix_tup (pv 3) pe_int (fun _ _ => rfl)) (pe_ix ix_tup (pv 2) pe_int (fun _ _ => rfl)) (nomark _))
          (pss_one (ps_expr (pe_bm PySem.F.plainAttrs_list PySem.F.slot_list_append PySem.F.type_list_append mt_append (pv 5) (pa_cons (pe_op op_catA (pe_op op_catA (pe_tup (pa_cons pe_str (pa_cons (pv 1) pa_nil))) (pe_slice sl_tupA (pv 3) (po_some pe_int) (po_some pe_int))) (pe_tup (pa_cons (pe_call DC.ok hr (by rfl) DC.m DC.k DC.b .nil pass0 (pa_cons (pe_ix ix_tup (pv 3) pe_int (fun _ _ => rfl)) (pa_cons (pe_ix ix_tup (pv 2) pe_int (fun _ _ => rfl)) pa_nil))) pa_nil))) pa_nil))))
          (pss_one (ps_if (pt_cmpR op_ne (pe_ix ix_tup (pv 3) pe_int (fun _ _ => rfl)) (pv 1) (nomark _)) (pss_one (ps_expr (pe_bm PySem.F.plainAttrs_list PySem.F.slot_list_append PySem.F.type_list_append mt_append (pv 5) (pa_cons (pv 3) pa_nil)))) pss_nil)))))
      (pss_one (ps_ret (pe_lst (pa_cons (pv 5) pa_nil)))))))))), ?_⟩
    have l14 : l.length ≤ 14 := by
      have y := len14 vd
      rw [len_rs] at y
      exact y
    have hR : ∀ {q : Pt}, q ∈ rsOf l → ∃ x ∈ l, x.p = q := fun {q} hq => by
      obtain ⟨x, hx, e⟩ := List.mem_map.mp (List.mem_reverse.mp hq)
      exact ⟨x, hx, e⟩
    -- the part itself
    have key1 := el_parts (K := K) (σ := [some (.ref a), some (.str x0.p.nm), none, none, none, none]) (H := H) (tl := tVar 0) (t := tTest (tOp rEq (tOp (rIxT K) (tVar 3) (tC (.int 1))) (tVar 1))) (te := tVar 3) (j := 3) (vs := [3]) (l := l) (fun x => decide (x.p.nm = x0.p.nm)) (fun x => V.ref x.t) (ev_var rfl) hA l14 (fun _ => rfl)
      (fun y hy Hb eb => et_test (ev_is (ev_op (ev_ptS rfl ((hP y hy).mono eb) at_nm) (ev_var rfl) (rv_eq rfl)) (by simp))) (fun y hy Hb eb => ev_var rfl)
    obtain ⟨y, rest, hf⟩ : ∃ y rest, l.filter (fun x : Pl => decide (x.p.nm = x0.p.nm)) = y :: rest := by
      cases h : l.filter fun x : Pl => decide (x.p.nm = x0.p.nm) with
      | nil =>
        have : x0 ∈ l.filter fun x : Pl => decide (x.p.nm = x0.p.nm) := List.mem_filter.mpr ⟨mx0, decide_eq_true rfl⟩
        rw [h] at this
        cases this
      | cons y t => exact ⟨y, t, rfl⟩
    have my0 : y ∈ l.filter fun x : Pl => decide (x.p.nm = x0.p.nm) := by rw [hf]; exact List.mem_cons_self
    obtain ⟨my, yn⟩ := List.mem_filter.mp my0
    have yp : y.p = x0.p := same_nm vd (mem_rs my) (mem_rs mx0) (of_decide_eq_true yn)
    refine q_asg (v := .ref y.t) (ev_opL1 (xs := (l.filter fun x : Pl => decide (x.p.nm = x0.p.nm)).map fun x : Pl => V.ref x.t) (y := .int 0) key1 (fun _ _ => ev_c) (fun q H9 hq e9 => rv_ixL (sq_of hq) (by rw [hf]; exact atI_nat (j := 0) rfl))) fun H1 e1 => ?_
    try dsimp only [gName, List.set, start, List.map, List.replicate, List.append]
    have hA1 := e1 _ _ hA
    have hP1 : ∀ x ∈ l, PrtS H1 x.t x.k x.p := fun x hx => (hP x hx).mono e1
    have py1 := hP1 y my
    -- beside it
    have key2 := el_parts (K := K) (σ := [some (.ref a), some (.str x0.p.nm), some (.ref y.t), none, none, none]) (H := H1) (tl := tVar 0) (t := tAnd (tTest (tOp rEq (tOp (rIxT K) (tVar 3) (tC (.int 2))) (tOp (rIxT K) (tVar 2) (tC (.int 2))))) (tTest (tOp rNe (tOp (rIxT K) (tVar 3) (tC (.int 1))) (tVar 1)))) (te := tOp (rIxT K) (tVar 3) (tC (.int 1))) (j := 3) (vs := [3]) (l := l) (fun x => decide (x.p.rl = x0.p.rl) && !decide (x.p.nm = x0.p.nm)) (fun x => V.str x.p.nm) (ev_var rfl) hA1 l14 (fun _ => rfl)
      (fun z hz Hb eb => et_and (et_test (ev_is (ev_op (ev_ptS rfl ((hP1 z hz).mono eb) at_rl) (ev_ptS rfl (py1.mono eb) at_rl) (rv_eq rfl)) (by rw [yp]; simp))) fun _ => et_test (ev_is (ev_op (ev_ptS rfl ((hP1 z hz).mono eb) at_nm) (ev_var rfl) (rv_ne rfl)) (by simp)))
      (fun z hz Hb eb => ev_ptS rfl ((hP1 z hz).mono eb) at_nm)
    refine q_asgL key2 fun lb H2 n2 e2 hlb => ?_
    try dsimp only [gName, List.set]
    have py2 := py1.mono e2
    have e02 := e1.trans e2
    have bes : ((l.filter fun x : Pl => decide (x.p.rl = x0.p.rl) && !decide (x.p.nm = x0.p.nm)).map fun x : Pl => V.str x.p.nm).isEmpty = false ↔ ∃ q ∈ rsOf l, q.rl = x0.p.rl ∧ q.nm ≠ x0.p.nm := by
      constructor
      · intro h
        cases h9 : l.filter fun x : Pl => decide (x.p.rl = x0.p.rl) && !decide (x.p.nm = x0.p.nm) with
        | nil => rw [h9] at h; cases h
        | cons z t =>
          have m : z ∈ l.filter fun x : Pl => decide (x.p.rl = x0.p.rl) && !decide (x.p.nm = x0.p.nm) := by rw [h9]; exact List.mem_cons_self
          obtain ⟨m1, m2⟩ := List.mem_filter.mp m
          obtain ⟨m3, m4⟩ := Bool.and_eq_true_iff.mp m2
          exact ⟨z.p, mem_rs m1, of_decide_eq_true m3, by simpa using m4⟩
      · rintro ⟨q, hq, h1, h2⟩
        obtain ⟨z, hz, rfl⟩ := hR hq
        have m : z ∈ l.filter fun x : Pl => decide (x.p.rl = x0.p.rl) && !decide (x.p.nm = x0.p.nm) := List.mem_filter.mpr ⟨hz, by rw [decide_eq_true h1, decide_eq_false h2]; rfl⟩
        cases h9 : l.filter fun x : Pl => decide (x.p.rl = x0.p.rl) && !decide (x.p.nm = x0.p.nm) with
        | nil => rw [h9] at m; cases m
        | cons _ _ => rfl
    refine q_when (b := decide (x0.p.rl = "") || !((l.filter fun x : Pl => decide (x.p.rl = x0.p.rl) && !decide (x.p.nm = x0.p.nm)).map fun x : Pl => V.str x.p.nm).isEmpty) (et_or (et_test (ev_is (ev_op (ev_ptS rfl py2 at_rl) ev_c (rv_eq rfl)) (by rw [yp]; simp))) fun _ => et_test (ev_neNilV rfl hlb)) (fun hb H3 e3 => ?_) (fun hb H3 e3 => ?_)
    · refine s_retU (eu_tup (ea_cons ev_c (ea_cons (ev_var rfl) ea_nil)) (by show 2 ≤ 100000; decide)) fun r H4 nr e4 hr4 => kN ?_ _ H4 ((e02.trans e3).trans e4) ⟨r, rfl, hr4⟩
      rcases Bool.or_eq_true_iff.mp hb with h | h
      · exact .inl (of_decide_eq_true h)
      · exact .inr (bes.mp (by simpa using h))
    obtain ⟨hb1, hb2⟩ := Bool.or_eq_false_iff.mp hb
    have hw0 := of_decide_eq_false hb1
    have hal : ∀ q ∈ rsOf l, q.rl = x0.p.rl → q.nm = x0.p.nm := fun q hq e => Classical.byContradiction fun ne => by
      have := bes.mpr ⟨q, hq, e, ne⟩
      rw [this] at hb2
      cases hb2
    have e03 := e02.trans e3
    have hA3 := e03 _ _ hA
    have hP3 : ∀ x ∈ l, PrtS H3 x.t x.k x.p := fun x hx => (hP x hx).mono e03
    have py3 := hP3 y my
    have key3 := el_parts (K := K) (σ := [some (.ref a), some (.str x0.p.nm), some (.ref y.t), none, some (.ref lb), none]) (H := H3) (tl := tVar 0) (t := tAnd (tTest (tOp rEq (tOp (rIxT K) (tVar 3) (tC (.int 3))) (tOp (rIxT K) (tVar 2) (tC (.int 3))))) (tTest (tOp rNe (tOp (rIxT K) (tVar 3) (tC (.int 1))) (tVar 1)))) (te := tVar 3) (j := 3) (vs := [3]) (l := l) (fun x => decide (x.p.ad = x0.p.ad) && !decide (x.p.nm = x0.p.nm)) (fun x => V.ref x.t) (ev_var rfl) hA3 l14 (fun _ => rfl)
      (fun z hz Hb eb => et_and (et_test (ev_is (ev_op (ev_ptS rfl ((hP3 z hz).mono eb) at_ad) (ev_ptS rfl (py3.mono eb) at_ad) (rv_eq rfl)) (by rw [yp]; simp))) fun _ => et_test (ev_is (ev_op (ev_ptS rfl ((hP3 z hz).mono eb) at_nm) (ev_var rfl) (rv_ne rfl)) (by simp)))
      (fun z hz Hb eb => ev_var rfl)
    have cls : ((l.filter fun x : Pl => decide (x.p.ad = x0.p.ad) && !decide (x.p.nm = x0.p.nm)).map fun x : Pl => V.ref x.t).isEmpty = false ↔ ∃ q ∈ rsOf l, q.nm ≠ x0.p.nm ∧ q.ad = x0.p.ad := by
      constructor
      · intro h
        cases h9 : l.filter fun x : Pl => decide (x.p.ad = x0.p.ad) && !decide (x.p.nm = x0.p.nm) with
        | nil => rw [h9] at h; cases h
        | cons z t =>
          have m : z ∈ l.filter fun x : Pl => decide (x.p.ad = x0.p.ad) && !decide (x.p.nm = x0.p.nm) := by rw [h9]; exact List.mem_cons_self
          obtain ⟨m1, m2⟩ := List.mem_filter.mp m
          obtain ⟨m3, m4⟩ := Bool.and_eq_true_iff.mp m2
          exact ⟨z.p, mem_rs m1, by simpa using m4, of_decide_eq_true m3⟩
      · rintro ⟨q, hq, h2, h1⟩
        obtain ⟨z, hz, rfl⟩ := hR hq
        have m : z ∈ l.filter fun x : Pl => decide (x.p.ad = x0.p.ad) && !decide (x.p.nm = x0.p.nm) := List.mem_filter.mpr ⟨hz, by rw [decide_eq_true h1, decide_eq_false h2]; rfl⟩
        cases h9 : l.filter fun x : Pl => decide (x.p.ad = x0.p.ad) && !decide (x.p.nm = x0.p.nm) with
        | nil => rw [h9] at m; cases m
        | cons _ _ => rfl
    refine q_when (b := !((l.filter fun x : Pl => decide (x.p.ad = x0.p.ad) && !decide (x.p.nm = x0.p.nm)).map fun x : Pl => V.ref x.t).isEmpty) (et_test (ev_neNilN key3)) (fun hb H4 e4 => ?_) (fun hb H4 e4 => ?_)
    · refine s_retU (eu_tup (ea_cons ev_c (ea_cons (ev_is (ev_ptS rfl (py3.mono e4) at_ad) (by rw [yp])) ea_nil)) (by show 2 ≤ 100000; decide)) fun r H5 nr e5 hr5 => kC hw0 hal (cls.mp (by simpa using hb)) _ H5 ((e03.trans e4).trans e5) ⟨r, rfl, hr5⟩
    have hna : ∀ q ∈ rsOf l, q.nm ≠ x0.p.nm → q.ad ≠ x0.p.ad := fun q hq ne e => by
      have := cls.mpr ⟨q, hq, ne, e⟩
      rw [this] at hb
      cases hb
    have e04 := e03.trans e4
    obtain ⟨pw, hpw, epw⟩ := hasG_iff.mp ((rl_ok vd x0.p (mem_rs mx0)).resolve_left hw0)
    obtain ⟨kg, hkg⟩ := kd_some xg0
    obtain ⟨kw, hkw⟩ := kd_some (mem_gts.mp hpw).2
    have okg : kg.ok = true := by
      have := (vd.okP x0.p (mem_rs mx0)).kd
      rw [hkg] at this
      exact this
    have okw : kw.ok = true := by
      have := (vd.okP pw (mem_gts.mp hpw).1).kd
      rw [hkw] at this
      exact this
    refine q_asgL (xs := []) (el_lst ea_nil (by decide)) fun fo H5 nfo e5 hfo => ?_
    try dsimp only [gName, List.set]
    have e05 := e04.trans e5
    have nfo4 : H4 fo = none := nfo
    have gw : x0.p.nm ≠ x0.p.rl := (rl_ne vd x0.p (mem_rs mx0)).symm
    refine q_forLn (K := K) (a := a) (xs := l.map fun x : Pl => V.ref x.t) (ev_var rfl) (sq_of (e05 _ _ hA)) (fun i σ' H' => ∃ (m : List Pl) (x3 : Option V), σ' = [some (.ref a), some (.str x0.p.nm), some (.ref y.t), x3, some (.ref lb), some (.ref fo)] ∧ H' fo = some (.lst (m.map fun x : Pl => .ref x.t)) ∧ m.map Pl.p = (((l.take i).filter fun y : Pl => !decide (y.p.nm = x0.p.nm)).map fun y : Pl => jn x0.p.nm x0.p.rl (me kw kg) y.p) ∧ (∀ x ∈ m, PrtS H' x.t x.k x.p) ∧ Ex H4 H')
      (fun H6 e6 => ⟨[], none, rfl, e6 _ _ hfo, rfl, (fun x hx => by cases hx), e5.trans e6⟩) (fun i σ' H' _ hh => by
        obtain ⟨_, _, _, _, _, _, b⟩ := hh
        exact sq_of (b _ _ (e04 _ _ hA))) (fun i x σ' Ha hx hh => ?_) (fun σ' Ha hh => ?_)
    · obtain ⟨m, x3, rfl, hm, em, pm, ea⟩ := hh
      rw [List.getElem?_map] at hx
      obtain ⟨z, hz, rfl⟩ := Option.map_eq_some_iff.mp hx
      have mz : z ∈ l := List.mem_of_getElem? hz
      have e0a := e04.trans ea
      have pz := (hP z mz).mono e0a
      have py := (hP y my).mono e0a
      have tk : l.take (i + 1) = l.take i ++ [z] := by rw [List.take_add_one, hz]; rfl
      have hi : i < l.length := (List.getElem?_eq_some_iff.mp hz).1
      have mlen : m.length ≤ 14 := by
        have h1 := congrArg List.length em
        rw [List.length_map, List.length_map] at h1
        have h2 := List.length_filter_le (fun x : Pl => !decide (x.p.nm = x0.p.nm)) (l.take i)
        rw [List.length_take] at h2
        omega
      try dsimp only [gName, List.set]
      refine s_if (b := decide (z.p.nm = x0.p.rl)) (et_test (ev_is (ev_op (ev_ptS rfl pz at_nm) (ev_ptS rfl py at_rl) (rv_eq rfl)) (by rw [yp]; simp))) (fun hb Hb eb => ?_) (fun hb Hb eb => ?_)
      · have hb := of_decide_eq_true hb
        have zg : z.p.nm ≠ x0.p.nm := fun e => gw (e.symm.trans hb)
        have pzb := pz.mono eb
        have pyb := py.mono eb
        have zpw : z.p = pw := same_nm vd (mem_rs mz) (mem_gts.mp hpw).1 (hb.trans epw.symm)
        have hkz : z.p.kd = some kw := by rw [zpw]; exact hkw
        have hky : y.p.kd = some kg := by rw [yp]; exact hkg
        have hmb := eb _ _ hm
        refine ⟨_, rfl, Or.inl ⟨rfl, _, sq_of hmb⟩, rd_cons (rd_op (eg_cat (eg_tup (ea_cons ev_c (ea_cons (ev_var rfl) ea_nil)) (by show 2 ≤ 100000; decide)) (fun H1 e1 => eg_cut (ev_var rfl) ((pzb.mono e1).t) (fun _ _ => evo_i ev_c) (fun _ _ => evo_i ev_c)) (by rw [cut_24]; show 2 + 2 ≤ 100000; decide) Hb (Ex.refl _) _ fun t1 Hc ec ht1 => rd_tup (rd_cons ?_)))⟩
        refine (ev_ptS rfl (pzb.mono ec) (at_kt hkz)) Hc (Ex.refl _) _ fun Hd ed => ?_
        refine (ev_ptS rfl ((pyb.mono ec).mono ed) (at_kt hky)) Hd (Ex.refl _) _ fun He ee => ?_
        have ece := (ec.trans ed).trans ee
        refine ⟨z.k, y.k, kw, kg, rfl, okw, okg, (pzb.k kw hkz).mono ece, (pyb.k kg hky).mono ece, fun qk Hf ef hqk => ⟨(by show 1 ≤ sizeLine; decide), fun t2 nt2 => ?_⟩⟩
        have x2 := Ex.new (o := .tup [V.ref qk]) nt2
        have ecf := ece.trans ef
        rw [cut_24] at ht1
        refine ⟨t1, t2, _, [.ref qk], rfl, rfl, st_of (x2 _ _ (((ed.trans ee).trans ef) _ _ ht1)), st_of upd_same, (by show 4 + 1 ≤ sizeLine; decide), (fun w => nomatch w), (fun _ w => nomatch w), fun _ _ t3 nt3 => ?_⟩
        have x3' := Ex.new (o := .tup ([V.str "gate", .str x0.p.nm, .str z.p.rl, .int z.p.ad] ++ [V.ref qk])) nt3
        have hm3 := x3' _ _ (x2 _ _ (ecf _ _ hmb))
        refine ⟨fo, _, .ref t3, rfl, rfl, hm3, sz_lt (by rw [List.length_map]; omega), ?_⟩
        have ht3 : (upd (upd Hf t2 (.tup [V.ref qk])) t3 (.tup ([V.str "gate", .str x0.p.nm, .str z.p.rl, .int z.p.ad] ++ [V.ref qk]))) t3 = some (.tup ([V.str "gate", .str x0.p.nm, .str z.p.rl, .int z.p.ad] ++ [V.ref qk])) := upd_same
        have hqk3 := (hqk.mono x2).mono x3'
        have eAll : Ex Ha (upd (upd Hf t2 (.tup [V.ref qk])) t3 (.tup ([V.str "gate", .str x0.p.nm, .str z.p.rl, .int z.p.ad] ++ [V.ref qk]))) := ((eb.trans ecf).trans x2).trans x3'
        refine ⟨m ++ [⟨t3, qk, ⟨some (me kw kg), x0.p.nm, z.p.rl, z.p.ad⟩⟩], _, rfl, ?_, ?_, fun x hx => ?_, Ex.mut (ea.trans eAll) nfo4⟩
        · rw [upd_same, List.map_append]
          rfl
        · rw [tk, List.filter_append, List.map_append, List.map_append, em, List.filter_cons, if_pos (by simp [zg]), List.filter_nil]
          show _ ++ [_] = _ ++ [jn x0.p.nm x0.p.rl (me kw kg) z.p]
          unfold jn
          rw [if_pos hb]
        · rcases List.mem_append.mp hx with hx | hx
          · exact prt_put hm3 ((pm x hx).mono eAll)
          · rw [List.mem_singleton.mp hx]
            exact prt_put hm3 ⟨ht3, fun kd hk => by cases hk; exact hqk3⟩
      · have hb := of_decide_eq_false hb
        refine s_when (b := !decide (z.p.nm = x0.p.nm)) (et_test (ev_is (ev_op (ev_ptS rfl (pz.mono eb) at_nm) (ev_var rfl) (rv_ne rfl)) (by simp))) (fun h2 Hc ec => ?_) (fun h2 Hc ec => ?_)
        · have zg : z.p.nm ≠ x0.p.nm := by simpa using h2
          refine s_app (xs := m.map fun x : Pl => V.ref x.t) (ec _ _ (eb _ _ hm)) (ev_var rfl) (ev_var rfl) (by rw [List.length_map]; omega) fun Hd ed => ?_
          have ecd := (eb.trans ec).trans ed
          have hmd := ecd _ _ hm
          refine ⟨m ++ [z], some (.ref z.t), rfl, ?_, ?_, fun x hx => ?_, Ex.mut (ea.trans ecd) nfo4⟩
          · rw [upd_same, List.map_append]
            rfl
          · rw [tk, List.filter_append, List.map_append, List.map_append, em, List.filter_cons, if_pos (by simp [zg]), List.filter_nil]
            show _ ++ [z.p] = _ ++ [jn x0.p.nm x0.p.rl (me kw kg) z.p]
            unfold jn
            rw [if_neg hb]
          · rcases List.mem_append.mp hx with hx | hx
            · exact prt_put hmd ((pm x hx).mono ecd)
            · rw [List.mem_singleton.mp hx]
              exact prt_put hmd (pz.mono ecd)
        · have zg : z.p.nm = x0.p.nm := by simpa using h2
          refine ⟨m, some (.ref z.t), rfl, ec _ _ (eb _ _ hm), ?_, fun x hx => (pm x hx).mono (eb.trans ec), ea.trans (eb.trans ec)⟩
          rw [tk, List.filter_append, List.filter_cons, if_neg (by simp [zg]), List.filter_nil, List.append_nil, em]
    · obtain ⟨m, x3, rfl, hm, em, pm, ea⟩ := hh
      rw [List.length_map, List.take_length] at em
      exact s_retL (el_lst (ea_cons (ev_var rfl) ea_nil) (by show 1 ≤ 100000; decide)) fun r Hb nr eb hr => kQ hw0 hal hna pw kg kw hpw epw hkg hkw r fo m Hb ((e04.trans ea).trans eb) hr (eb _ _ hm) (fun x hx => (pm x hx).mono eb) em
end
end L2.Mj
set_option maxRecDepth 100000
set_option maxHeartbeats 8000000
namespace L2.Mj
open PySem PySem.Spec PyProof.Rows L2 Mx L2.Mb Evl Mv TL LamX Sr Srt SrtO NdefX
/-! ### whether a gate is joined with the one around it as it must be -/
section
variable {x y z : Kd}
theorem kd_ext (hx : x.ok = true) (hy : y.ok = true) (h : ∀ i, i < 4 → x.ranks.getD i 0 = y.ranks.getD i 0) : x = y := by
  have e : x.ranks = y.ranks := cons2 (h 0 (by decide)) (cons2 (h 1 (by decide)) (cons2 (h 2 (by decide)) (cons2 (h 3 (by decide)) rfl)))
  have z := ranks_inj hx hy
  rw [decide_eq_true e] at z
  exact of_decide_eq_true z.symm
theorem me_at (hx : x.ok = true) (hy : y.ok = true) {i : Nat} (hi : i < 4) : (me x y).ranks.getD i 0 = mn (x.ranks.getD i 0) (y.ranks.getD i 0) := by
  rw [← me_ranks hx hy]
  rcases (show i = 0 ∨ i = 1 ∨ i = 2 ∨ i = 3 by omega) with rfl | rfl | rfl | rfl <;> rfl
theorem me_comm (hx : x.ok = true) (hy : y.ok = true) : me x y = me y x := kd_ext (me_ok hx hy) (me_ok hy hx) fun i hi => by
  rw [me_at hx hy hi, me_at hy hx hi]
  unfold mn
  split <;> split <;> omega
end
/-- what a gate asks for: Needed, Clash, or another world -/
def c1P (rs : List Pt) (x : Pt) : Prop := x.rl = "" ∨ ∃ q ∈ rs, q.rl = x.rl ∧ q.nm ≠ x.nm
def c2P (rs : List Pt) (x : Pt) : Prop := ∃ q ∈ rs, q.nm ≠ x.nm ∧ q.ad = x.ad
/-- the parts of the other world -/
def JnL (l m : List Pl) (x : Pt) : Prop := ∃ pw kg kw, pw ∈ gts (rsOf l) ∧ pw.nm = x.rl ∧ x.kd = some kg ∧ pw.kd = some kw ∧ m.map Pl.p = (l.filter fun y => !decide (y.p.nm = x.nm)).map fun y => jn x.nm x.rl (me kg kw) y.p
theorem c1_not {rs : List Pt} {x : Pt} (h : ¬ c1P rs x) : x.rl ≠ "" ∧ ∀ q ∈ rs, q.rl = x.rl → q.nm = x.nm :=
  ⟨fun e => h (.inl e), fun q hq e => Classical.byContradiction fun ne => h (.inr ⟨q, hq, e, ne⟩)⟩
def DuOk (H : Hp) (l : List Pl) (x : Pt) (v : V) : Prop :=
  (c1P (rsOf l) x ∧ HrAt H v "needed" (.str x.nm)) ∨ (¬ c1P (rsOf l) x ∧ c2P (rsOf l) x ∧ HrAt H v "clash" (.int x.ad)) ∨
  (¬ c1P (rsOf l) x ∧ ¬ c2P (rsOf l) x ∧ ∃ (r f : Addr) (m : List Pl), v = .ref r ∧ H r = some (.lst [.ref f]) ∧ H f = some (.lst (m.map fun x => .ref x.t)) ∧ (∀ x ∈ m, PrtS H x.t x.k x.p) ∧ Vd (rsOf m) ∧ JnL l m x)
def FdOk (K : W.Frag) (C CK : Addr) (H : Hp) (l : List Pl) (x : Pt) (v : V) : Prop :=
  (c1P (rsOf l) x ∧ HrAt H v "needed" (.str x.nm)) ∨ (¬ c1P (rsOf l) x ∧ c2P (rsOf l) x ∧ HrAt H v "clash" (.int x.ad)) ∨
  (¬ c1P (rsOf l) x ∧ ¬ c2P (rsOf l) x ∧ ∃ (r b : Addr) (m : List Pl), v = .ref r ∧ H r = some (.lst [.ref b]) ∧ WAt K C CK H b m ∧ JnL l m x)
theorem hr_n {H H' : Hp} {r v : V} {w : Str} (h : HrAt H r w v) (e : ExtN H H') : HrAt H' r w v := by
  obtain ⟨p, h1, h2⟩ := h
  exact ⟨p, h1, tup_n e h2⟩
theorem DuOk.n {H H' : Hp} {l : List Pl} {x : Pt} {v : V} (h : DuOk H l x v) (e : ExtN H H') : DuOk H' l x v := by
  rcases h with ⟨a, b⟩ | ⟨a, b, c⟩ | ⟨a, b, r, f, m, h1, h2, h3, h4, h5⟩
  · exact .inl ⟨a, hr_n b e⟩
  · exact .inr (.inl ⟨a, b, hr_n c e⟩)
  · exact .inr (.inr ⟨a, b, r, f, m, h1, lst_n e h2, lst_n e h3, fun x hx => (h4 x hx).extn e, h5⟩)
theorem FdOk.n {K : W.Frag} {C CK : Addr} {H H' : Hp} {l : List Pl} {x : Pt} {v : V} (h : FdOk K C CK H l x v) (e : ExtN H H') : FdOk K C CK H' l x v := by
  rcases h with ⟨a, b⟩ | ⟨a, b, c⟩ | ⟨a, b, r, f, m, h1, h2, h3, h4⟩
  · exact .inl ⟨a, hr_n b e⟩
  · exact .inr (.inl ⟨a, b, hr_n c e⟩)
  · exact .inr (.inr ⟨a, b, r, f, m, h1, lst_n e h2, h3.extn e, h4⟩)
theorem jn_text {l m m' : List Pl} {x : Pt} (v : Vd (rsOf l)) (h : JnL l m x) (h' : JnL l m' x) : m.map Pl.p = m'.map Pl.p := by
  obtain ⟨pw, kg, kw, a1, a2, a3, a4, a5⟩ := h
  obtain ⟨pw', kg', kw', b1, b2, b3, b4, b5⟩ := h'
  have e1 : pw = pw' := same_nm v (mem_gts.mp a1).1 (mem_gts.mp b1).1 (a2.trans b2.symm)
  rw [e1, b4] at a4
  rw [a3] at b3
  rw [a5, b5, Option.some.inj b3, Option.some.inj a4]
theorem wtext_p {m m' : List Pl} (h : m.map Pl.p = m'.map Pl.p) : wtext m = wtext m' := by
  have e : ∀ l : List Pl, (l.map fun x => x.p.line) = (l.map Pl.p).map Pt.line := fun l => by rw [List.map_map]; rfl
  unfold wtext
  rw [e, e, h]
theorem hr_new {H H' : Hp} {r v : V} {w : Str} (e : Ex H H') (h : HrAt H' r w v) : ∀ p ys, r = .ref p → H p ≠ some (.lst ys) := fun p ys ep hp => by
  obtain ⟨q, h1, h2⟩ := h
  have e1 := V.ref.inj (h1.symm.trans ep)
  rw [e1, e _ _ hp] at h2
  cases h2
/-- what heard says of joined -/
theorem heard_jo {K : W.Frag} {C CK : Addr} {Tt : List (Addr × Str)} {H : Hp} {c : HC} {js : List Nat} (j0 : ∀ i ∈ ([0, 1, 2] : List Nat), i ∈ js) {b : Addr} {lw l : List Pl} {x : Pl} {Q : VK} (wt : WAt K C CK H b lw) (el : lw.map Pl.p = l.map Pl.p) (hS : ∀ x ∈ l, PyData.strOk x.p.nm = true) (vd : Vd (rsOf l)) (mx : x ∈ l) (xg : x.p.isG = true) (hT : Tabs Tt H)
    (k : ∀ r H', ExtN H H' → Tabs Tt H' → FdOk K C CK H' l x.p r → (∀ p ys, r = .ref p → H p ≠ some (.lst ys)) → Q r H') : TTH c js (fun E' H Q => spJo K C CK c.S c.N c.L Tt [.ref b, .str x.p.nm] H Q E') H Q := fun E' Q' herr hok => by
  have er : rsOf lw = rsOf l := rs_same el
  have okw : ∀ y ∈ lw, PyData.strOk y.p.nm = true := fun y hy => by
    have z : y.p ∈ l.map Pl.p := by rw [← el]; exact List.mem_map_of_mem hy
    obtain ⟨u, hu, e⟩ := List.mem_map.mp z
    rw [← e]
    exact hS u hu
  refine ⟨b, .str x.p.nm, lw, rfl, wt, .str _, hT, okw, fun hF => ?_, fun p hp ep => ?_⟩
  · have z : hasG (rsOf lw) x.p.nm = false := hF
    rw [er, hasG_iff.mpr ⟨x.p, mem_gts.mpr ⟨mem_rs mx, xg⟩, rfl⟩] at z
    cases z
  · rw [er] at hp
    have e0 : p = x.p := same_nm vd (mem_gts.mp hp).1 (mem_rs mx) (V.str.inj ep).symm
    subst e0
    rw [er]
    refine ⟨fun h d H' e hd => ?_, fun a1 a2 a3 d H' e hd => ?_, fun a1 a2 a3 pw kg kw hpw epw hkg hkw b' m H' e em wb T' => ?_⟩
    · exact herr 1 (j0 1 (by simp)) d _ H' hd fun r H2 e2 hr => k r H2 (ex_extn (e.trans e2)) (hT.ext (e.trans e2)) (.inl ⟨h, hr⟩) (hr_new (e.trans e2) hr)
    · exact herr 2 (j0 2 (by simp)) d _ H' hd fun r H2 e2 hr => k r H2 (ex_extn (e.trans e2)) (hT.ext (e.trans e2)) (.inr (.inl ⟨fun h => by
        rcases h with h | ⟨q, hq, h1, h2⟩
        · exact a1 h
        · exact h2 (a2 q hq h1), a3, hr⟩)) (hr_new (e.trans e2) hr)
    · refine hok (.ref b') H' fun q H2 nq e2 hq => k (.ref q) H2 (e.trans (ex_extn e2)) (T'.ext e2) (.inr (.inr ⟨fun h => by
        rcases h with h | ⟨q, hq, h1, h2⟩
        · exact a1 h
        · exact h2 (a2 q hq h1), fun h => by
        obtain ⟨q, hq, h1, h2⟩ := h
        exact a3 q hq h1 h2, q, b', m, rfl, hq, wb.extn (ex_extn e2), pw, kg, kw, hpw, epw, hkg, hkw, ?_⟩)) (fun p ys ep hp => by
        have ep := V.ref.inj ep
        rw [← ep] at hp
        have := lst_n e hp
        rw [nq] at this
        cases this)
      have e3 : ∀ l : List Pl, ((l.filter fun y => !decide (y.p.nm = x.p.nm)).map fun y => jn x.p.nm x.p.rl (me kg kw) y.p) = ((l.map Pl.p).filter fun q => !decide (q.nm = x.p.nm)).map (jn x.p.nm x.p.rl (me kg kw)) := fun l => by
        rw [List.filter_map, List.map_map]
        rfl
      rw [em, e3, e3, el]
section
variable {K : W.Frag} {C CK : Addr} {Tt : List (Addr × Str)} {σ : L2.St} {H : Hp}
theorem rc_lstT {a : Addr} {xs : List V} (h : H a = some (.lst xs)) : RC (rIsi K) [.ref a, .ty "list"] H (.bl true) :=
  rc_isi (t := .type "list") (.ty "list") (fun _ e => .base (.lst (e _ _ h))) (kit_ty (a := "list") (b := "list") (r := true) (by decide +kernel))
theorem rc_tupL {a : Addr} {xs : List V} (h : H a = some (.tup xs)) : RC (rIsi K) [.ref a, .ty "list"] H (.bl false) :=
  rc_isi (t := .type "tuple") (.ty "list") (fun _ e => .base (.tup (e _ _ h))) (kit_ty (a := "tuple") (b := "list") (r := false) (by decide +kernel))
theorem ev_strW {te : TE} {b : Addr} {m : List Pl} (h : Ev te σ H (.ref b)) (wt : WAt K C CK H b m) : Ev (tCB (rOwn C (spWS K C CK)) (tCons te tNil)) σ H (.str (wtext m)) := fun H1 e Q q => h H1 e _ fun H2 e2 => by
  have w2 := wt.extn (ex_extn (e.trans e2))
  obtain ⟨d, fs, kA, aA, ag, ah, gs, hs, z⟩ := id w2
  obtain ⟨dx, hb⟩ := z.fl.at_
  exact ⟨b, dx, fs, rfl, hb, b, m, rfl, w2, fun H3 e3 => ⟨⟨_, rfl⟩, q H3 (e2.trans e3)⟩⟩
theorem r_strW {b : Addr} {m : List Pl} {Q : VK} (wt : WAt K C CK H b m) (k : ∀ H', Ex H H' → Q (.str (wtext m)) H') : rOwn C (spWS K C CK) [.ref b] H Q := by
  obtain ⟨d, fs, kA, aA, ag, ah, gs, hs, z⟩ := id wt
  obtain ⟨dx, hb⟩ := z.fl.at_
  exact ⟨b, dx, fs, rfl, hb, b, m, rfl, wt, fun H3 e3 => ⟨⟨_, rfl⟩, k H3 e3⟩⟩
theorem rd_c1 {sp : Sp} {E : XK} {ta : TE} {Q : VK} (h : ta σ H fun v H1 => sp [v] H1 Q E) : tCall sp [] E (tCons ta tNil) σ H Q := h
theorem rd_c2 {sp : Sp} {E : XK} {ta tb : TE} {Q : VK} (h : ta σ H fun v H1 => tb σ H1 fun u H2 => sp [v, u] H2 Q E) : tCall sp [] E (tCons ta (tCons tb tNil)) σ H Q := h
theorem tth_of {c : HC} {js : List Nat} {t1 t2 : XK → Hp → VK → Prop} {Q : VK} (h : TTH c js t1 H Q) (m : ∀ E Q', t1 E H Q' → t2 E H Q') : TTH c js t2 H Q := fun E' Q' a b => m E' Q' (h E' Q' a b)
theorem rd_told {c : HC} {js : List Nat} {t : XK → TE} {Q : VK} (T : Tabs Tt H) (h : ∀ H1, ExtN H H1 → Tabs Tt H1 → TTH c js (fun E H' Q' => t E σ H' Q') H1 Q) : tLam Tt (TTH c js) t σ H Q := ⟨T, h⟩
end
section
variable {t u : TT} {σ : L2.St} {H : Hp}
theorem rd_and {t u : TT} {Q : Bool → Hp → Prop} (h : t σ H fun c H1 => if c = true then u σ H1 Q else Q false H1) : tAnd t u σ H Q := h
theorem s_ifQ {D : Ends} {c : TT} {u : TS} (h : c σ H fun b H1 => if b = true then u D σ H1 else D.nx σ H1) : tIfS c u tNext D σ H := h
theorem rd_not {Q : Bool → Hp → Prop} (h : t σ H fun c H1 => Q (!c) H1) : tNot t σ H Q := h
theorem rd_t {b : Bool} {Q : Bool → Hp → Prop} (h : EvT t σ H b) (k : ∀ H1, Ex H H1 → Q b H1) : t σ H Q := h H (Ex.refl _) Q k
end
def KeepO (H H' : Hp) : Prop := ∀ c o, H c = some o → (∀ xs, o ≠ .lst xs) → (∀ ps, o ≠ .tbl ps) → H' c = some o
section
variable {K : W.Frag} {C CK : Addr} {H H' : Hp}
theorem kat_keep {a : Addr} {k : Kd} (e : KeepO H H') (h : KAt CK H a k) : KAt CK H' a k := h.elim fun dx z => ⟨dx, e _ _ z (fun _ y => by cases y) fun _ y => by cases y⟩
theorem part_keep {t ka : Addr} {p : Pt} (e : KeepO H H') (h : PartAt K CK H t ka p) : PartAt K CK H' t ka p := ⟨e _ _ h.t (fun _ y => by cases y) (fun _ y => by cases y), fun k z => kat_keep e (h.k k z)⟩
theorem fl_keep {a : Addr} {d : WD} {fs : List (Str × V)} (e : KeepO H H') (h : Fl C H a d fs) : Fl C H' a d fs := ⟨h.at_.elim fun dx z => ⟨dx, e _ _ z (fun _ y => by cases y) (fun _ y => by cases y)⟩, h.ts, h.dk, h.da, h.dr, h.dp, h.du, h.me⟩
theorem bs_keep {d : WD} {kA aA : Str → Addr} {rs : List Pt} (e : KeepO H H') (h : Bs CK H d kA aA rs) : Bs CK H' d kA aA rs :=
  ⟨e _ _ h.k (fun _ y => by cases y) (fun _ y => by cases y), e _ _ h.a (fun _ y => by cases y) (fun _ y => by cases y), e _ _ h.r (fun _ y => by cases y) (fun _ y => by cases y), e _ _ h.p (fun _ y => by cases y) (fun _ y => by cases y), e _ _ h.u (fun _ y => by cases y) (fun _ y => by cases y),
    e _ _ h.u0 (fun _ y => by cases y) (fun _ y => by cases y), fun p z => e _ _ (h.ch p z) (fun _ y => by cases y) (fun _ y => by cases y), fun p z k y => kat_keep e (h.kd p z k y)⟩
theorem wat_keep {a : Addr} {l : List Pl} (e : KeepO H H') (h : WAt K C CK H a l) : WAt K C CK H' a l := by
  obtain ⟨d, fs, kA, aA, ag, ah, gs, hs, z⟩ := h
  exact ⟨d, fs, kA, aA, ag, ah, gs, hs, fl_keep e z.fl, bs_keep e z.bs, e _ _ z.ts (fun _ y => by cases y) (fun _ y => by cases y), fun x hx => part_keep e (z.pt x hx), z.vd, z.fg, z.fh, e _ _ z.xg (fun _ y => by cases y) (fun _ y => by cases y), e _ _ z.xh (fun _ y => by cases y) (fun _ y => by cases y), z.ng, z.nh⟩
end
theorem tabs_lst {H : Hp} {Tt : List (Addr × Str)} {lb : Addr} {xs ys : List V} (h : H lb = some (.lst xs)) (T : Tabs Tt H) : Tabs Tt (upd H lb (.lst ys)) := fun q hq => by
  obtain ⟨ps, h1, h2, h3⟩ := T q hq
  refine ⟨ps, (upd_ne fun z => ?_).trans h1, h2, fun pos cv hc => ?_⟩
  · rw [z, h] at h1
    cases h1
  · obtain ⟨c, e1, e2⟩ := h3 pos cv hc
    refine ⟨c, e1, (upd_ne fun z => ?_).trans e2⟩
    rw [z, h] at e2
    cases e2
theorem FdOk.put {K : W.Frag} {C CK : Addr} {H : Hp} {l : List Pl} {x : Pt} {v : V} {lb : Addr} {xs ys : List V} (h : FdOk K C CK H l x v) (hl : H lb = some (.lst xs)) (hv : v ≠ .ref lb) : FdOk K C CK (upd H lb (.lst ys)) l x v := by
  have ke : KeepO H (upd H lb (.lst ys)) := fun c o h n1 _ => (upd_ne fun e => by rw [e, hl] at h; exact n1 _ (Option.some.inj h).symm).trans h
  have kr : ∀ {r : V} {w : Str} {v : V}, HrAt H r w v → HrAt (upd H lb (.lst ys)) r w v := fun ⟨p, h1, h2⟩ => ⟨p, h1, ke _ _ h2 (fun _ y => by cases y) fun _ y => by cases y⟩
  rcases h with ⟨a, b⟩ | ⟨a, b, c⟩ | ⟨a, b, r, f, m, h1, h2, h3, h4⟩
  · exact .inl ⟨a, kr b⟩
  · exact .inr (.inl ⟨a, b, kr c⟩)
  · exact .inr (.inr ⟨a, b, r, f, m, h1, (upd_ne fun e => hv (by rw [h1, e])).trans h2, wat_keep ke h3, h4⟩)
theorem pair_of {K : W.Frag} {C CK : Addr} {H : Hp} {l : List Pl} {x : Pt} {v u : V} (vd : Vd (rsOf l)) (hx : PyData.strOk x.nm = true) (h : DuOk H l x v) (g : FdOk K C CK H l x u) :
    (∃ (kl : List Key) (w w' : Addr), okC kl ∧ v = .ref w ∧ H w = some (.tup (kl.map kV)) ∧ u = .ref w' ∧ H w' = some (.tup (kl.map kV))) ∨
    ∃ (r f r' b : Addr) (m m' : List Pl), v = .ref r ∧ H r = some (.lst [.ref f]) ∧ H f = some (.lst (m.map fun x => .ref x.t)) ∧ (∀ x ∈ m, PrtS H x.t x.k x.p) ∧ Vd (rsOf m) ∧ u = .ref r' ∧ H r' = some (.lst [.ref b]) ∧ WAt K C CK H b m' ∧ m'.map Pl.p = m.map Pl.p := by
  rcases h with ⟨a, w, e1, e2⟩ | ⟨a, b, w, e1, e2⟩ | ⟨a, b, r, f, m, h1, h2, h3, h4, h5, h6⟩ <;> rcases g with ⟨a', w', e1', e2'⟩ | ⟨a', b', w', e1', e2'⟩ | ⟨a', b', r', f', m', h1', h2', h3', h4'⟩
  · refine .inl ⟨[.inr "needed", .inr x.nm], w, w', fun k hk => ?_, e1, e2, e1', e2'⟩
    simp only [List.mem_cons, List.not_mem_nil, or_false] at hk
    rcases hk with rfl | rfl
    · show PyData.strOk "needed" = true
      decide +kernel
    · exact hx
  · exact absurd a a'
  · exact absurd a a'
  · exact absurd a' a
  · refine .inl ⟨[.inr "clash", .inl x.ad], w, w', fun k hk => ?_, e1, e2, e1', e2'⟩
    simp only [List.mem_cons, List.not_mem_nil, or_false] at hk
    rcases hk with rfl | rfl
    · show PyData.strOk "clash" = true
      decide +kernel
    · trivial
  · exact absurd b b'
  · exact absurd a' a
  · exact absurd b' b
  · exact .inr ⟨r, f, r', f', m, m', h1, h2, h3, h4, h5, h1', h2', h3', (jn_text vd h6 h4').symm⟩
def spRt (K : W.Frag) (C CK : Addr) (Tt : List (Addr × Str)) : Sp := fun vs H Q _ => ∃ (b a : Addr) (lw l : List Pl) (x : Pl), vs = [.ref b, .ref a, .str x.p.nm] ∧ WAt K C CK H b lw ∧ lw.map Pl.p = l.map Pl.p ∧ H a = some (.lst (l.map fun x => .ref x.t)) ∧ (∀ x ∈ l, PrtS H x.t x.k x.p) ∧ (∀ x ∈ l, PyData.strOk x.p.nm = true) ∧ Vd (rsOf l) ∧ x ∈ l ∧ x.p.isG = true ∧ Tabs Tt H ∧ ∀ H', ExtN H H' → Tabs Tt H' → Q (.bl true) H'
/-- joined, as its callers see it -/
structure FnE0 (P : Program) (w : World) (K : W.Frag) (mg : Str → Option Value) (base : Heap) (x : Str) (k : Nat) (f : Addr) (fd : FuncData) (ps : List Str) (sp : Sp) : Prop where
  ok : FnOk P w K mg base (L2.CX P w) k f fd ps sp
  m : mg x = some (.ref f)
  k : W.keepIn K (.ref f) = true
  b : Binds K fd ps []
section
variable {P : Program} {w : World} {K : W.Frag} {mg : Str → Option Value} {base : Heap} {f fH fJ fU fW fS C CK c Pt : Addr} {dH dJ dU dW dS : FuncData} {mc : Value} {Tt : List (Addr × Str)} {oc dV kV doc pm ct : Value} {an od : Option Addr} {osl : Array (Option Value)} {gK : List Value → List Value → List Value} {gVK : List V → List V → List V}
theorem ok_lright {hc : HC} {js : List Nat} (j0 : ∀ i ∈ ([0, 1, 2] : List Nat), i ∈ js) (B : Bt mg) (Z : HF mg hc) (J8 : ∀ i ∈ js, i < 8 ∧ EI K hc i) (DH : HD K mg fH dH) (DJ : FnE0 P w K mg base "joined" 7 fJ dJ p_joined (spJo K C CK hc.S hc.N hc.L Tt)) (kJ : KBinds K dJ p_joined ["gate", "world"] gK gVK) (gJ : ∀ a b : V, gVK [] [a, b] = [b, a])
    (DU : Fn0 P w K mg base "_law_due" 2 fU dU p_law_due spDu) (DW : Fn0 P w K mg base "_law_world" 8 fW dW p_law_world (spWld K C CK Tt)) (S : StrF P w K mg base C 5 (spWS K C CK) fS dS)
    (TB : TabB base mg c Pt) (hmT : (Pt, ("_law_right.<locals>.<lambda>" : Str)) ∈ Tt) (hu : ∀ p ∈ Tt, p.1 = Pt → p.2 = ("_law_right.<locals>.<lambda>" : Str))
    (lk : K.lookup f = some ⟨oc, od, .func (W.fnOf "_law_right" "_law_right" (defArgs s_law_right) (defBody s_law_right) (defScope s_law_right) dV kV doc pm an (.ref c) ct), osl⟩) (hcd : W.codeIn K (.ref c) "_law_right" = true) :
    FnOk P w K mg base CX0 10 f (W.fnOf "_law_right" "_law_right" (defArgs s_law_right) (defBody s_law_right) (defScope s_law_right) dV kV doc pm an (.ref c) ct) p_law_right (spRt K C CK Tt) := by
  refine fn_of lk hcd sc_law_right (fun vs H Q E h => ?_) (fun A outer s H vs Q E hr h => ?_)
  · obtain ⟨b, a, lw, l, x, rfl, _⟩ := h
    rfl
  · obtain ⟨b, a, lw, l, x, rfl, wt, el, hA, hP, hS, vd, mx, xg, hT, k⟩ := h
    have nd := sc_law_right.nd
    have hun := hr.units
    refine ⟨_, PSs.nox (Evl.pss_cut (ps_set (i := 3) nd rfl (Or.inl rfl) (pe_call DU.ok (hr.mono (by decide)) (by rfl) DU.m DU.k DU.b .nil pass0 (pa_cons (pv 1) (pa_cons (pv 2) pa_nil))))
      (pss_cons (ps_set (i := 4) nd rfl (Or.inl rfl) (pe_lst (pa_cons (pe_heard (k := 7) (t := fun E => tCall (spJo K C CK hc.S hc.N hc.L Tt) [] E (tCons (tVar 0) (tCons (tVar 2) tNil))) B Z J8 DH TB rfl hmT hu hr (lamS_by (sc := defScope s_law_right) (by decide +kernel)) (by rfl) (fun _ _ _ _ _ => by rfl) (by rfl)
          (fun A outer s H E f c' hr2 => pe_call (E := E) DJ.ok hr2 (by rfl) DJ.m DJ.k DJ.b .nil (passes_call (takes_of rfl rfl rfl rfl) (fun _ _ _ _ h => h)) (pa_cons (pe_var (i := 0) rfl (.inr (.inr rfl))) (pa_cons (pe_var (i := 2) rfl (.inr (.inr rfl))) pa_nil)))) pa_nil)))
      (pss_cons (ps_expr (pe_bm PySem.F.plainAttrs_list PySem.F.slot_list_append PySem.F.type_list_append mt_append (pv 4) (pa_cons (pe_heard (k := 7) (t := fun E => tCallK0 (spJo K C CK hc.S hc.N hc.L Tt) gVK E (tCons (tVar 2) (tCons (tVar 0) tNil))) B Z J8 DH TB rfl hmT hu hr (lamS_by (sc := defScope s_law_right) (by decide +kernel)) (by rfl) (fun _ _ _ _ _ => by rfl) (by rfl)
          (fun A outer s H E f c' hr2 => pe_callK0 (E := E) DJ.ok hr2 (by rfl) DJ.m DJ.k kJ (passes_call (takes_of rfl rfl rfl rfl) (fun _ _ _ _ h => h)) (pk_cons (pe_var (i := 2) rfl (.inr (.inr rfl))) (pk_cons (pe_var (i := 0) rfl (.inr (.inr rfl))) pk_nil)))) pa_nil)))
      (pss_cons (ps_for PassesOwn.never rfl (pi_list (pv 4)) (pg_name (i := 5) nd rfl (Or.inl rfl))
        (pss_cons (ps_if ((pw_and (pt_not (pt_val (pe_callB call_isi (by rfl) B.isinstance (by decide +kernel) (pa_cons (pv 3) (pa_cons (pe_bltn (v := .ty "list") (by rfl) B.list (by decide +kernel) rfl) pa_nil))))) (pw_and1 (pt_cmpR (op_neD hun) (pv 5) (pv 3) (nomark _)))).pt) (pss_one (ps_ret pe_bl)) pss_nil)
        (pss_one (ps_if ((pw_and (pt_val (pe_callB call_isi (by rfl) B.isinstance (by decide +kernel) (pa_cons (pv 3) (pa_cons (pe_bltn (v := .ty "list") (by rfl) B.list (by decide +kernel) rfl) pa_nil)))) (pw_and1 ((pw_or (pt_not (pt_val (pe_callB call_isi (by rfl) B.isinstance (by decide +kernel) (pa_cons (pv 5) (pa_cons (pe_bltn (v := .ty "list") (by rfl) B.list (by decide +kernel) rfl) pa_nil)))))
            (pw_or1 (pt_cmpR op_ne (pe_callTy (call_strO S.ok S.s S.fn S.b pass0 (hr.mono (by decide))) (by rfl) B.str (by decide +kernel) (pa_cons (pe_ix ix_list (pv 5) pe_int (fun _ _ => rfl)) pa_nil)) (pe_callTy (call_strO S.ok S.s S.fn S.b pass0 (hr.mono (by decide))) (by rfl) B.str (by decide +kernel) (pa_cons (pe_call DW.ok (hr.mono (by decide)) (by rfl) DW.m DW.k DW.b .nil pass0 (pa_cons (pe_ix ix_list (pv 3) pe_int (fun _ _ => rfl)) pa_nil)) pa_nil)) (nomark _)))).pt))).pt) (pss_one (ps_ret pe_bl)) pss_nil))))
      (pss_one (ps_ret pe_bl)))))), ?_⟩
    refine ⟨fun σ' H' => ∃ due, σ' = [some (.ref b), some (.ref a), some (.str x.p.nm), some due, none, none] ∧ DuOk H' l x.p due ∧ Ex H H', ?_, fun σ' H1 hh => ?_⟩
    · refine q_asgR' (rd_c2 (rd_var rfl (rd_var rfl ⟨a, l, x, rfl, hA, hP, vd, mx, xg, fun c r H' e hr => ⟨r, rfl, .inl ⟨c, hr⟩, e⟩, fun a1 a2 a3 r H' e hr => ⟨r, rfl, .inr (.inl ⟨fun h => ?_, a3, hr⟩), e⟩, fun a1 a2 a3 pw kg kw hpw epw hkg hkw r f m H' e hr hf pm em => ⟨.ref r, rfl, .inr (.inr ⟨fun h => ?_, fun h => ?_, r, f, m, rfl, hr, hf, pm, ?_, pw, kg, kw, hpw, epw, hkg, hkw, ?_⟩), e⟩⟩)))
      · rcases h with h | ⟨q, hq, h1, h2⟩
        · exact a1 h
        · exact h2 (a2 q hq h1)
      · rcases h with h | ⟨q, hq, h1, h2⟩
        · exact a1 h
        · exact h2 (a2 q hq h1)
      · obtain ⟨q, hq, h1, h2⟩ := h
        exact a3 q hq h1 h2
      · have okg : kg.ok = true := by
          have := (vd.okP x.p (mem_rs mx)).kd
          rw [hkg] at this
          exact this
        have okw : kw.ok = true := by
          have := (vd.okP pw (mem_gts.mp hpw).1).kd
          rw [hkw] at this
          exact this
        rw [rs_join em]
        exact (join_ok (rl_ne vd x.p (mem_rs mx)).symm a1 (okW_ne (vd.okP x.p (mem_rs mx)).nm) (vd.okP x.p (mem_rs mx)).nm (me_ok okw okg) vd a2 (fun q hq e => by rw [same_nm vd hq (mem_rs mx) e]; exact ⟨xg, rfl⟩) (fun q hq e => by
          rw [same_nm vd hq (mem_gts.mp hpw).1 (e.trans epw.symm)]
          exact (mem_gts.mp hpw).2)).vd
      · have okg : kg.ok = true := by
          have := (vd.okP x.p (mem_rs mx)).kd
          rw [hkg] at this
          exact this
        have okw : kw.ok = true := by
          have := (vd.okP pw (mem_gts.mp hpw).1).kd
          rw [hkw] at this
          exact this
        rw [em, me_comm okg okw]
    obtain ⟨due, rfl, hdu, e1⟩ := hh
    have n1 := ex_extn e1
    -- what is heard
    refine q_asgR (rd_lst (rd_cons (rd_told (hT.ext e1) fun H2 n2 T2 => ?_)))
    have n02 := n1.trans n2
    refine tth_of (heard_jo j0 (wt.extn n02) el hS vd mx xg T2 fun f1 H3 n3 T3 hf1 _ => ?_) fun E' Q' h => rd_c2 (rd_var rfl (rd_var rfl h))
    refine ⟨(by show 1 ≤ sizeLine; decide), fun lb nlb => ?_⟩
    have xlb := Ex.new (o := .lst [f1]) nlb
    have hlb : (upd H3 lb (.lst [f1])) lb = some (.lst [f1]) := upd_same
    have T4 := T3.ext xlb
    generalize upd H3 lb (.lst [f1]) = H4 at *
    try dsimp only [gName, List.set]
    refine ⟨_, rfl, Or.inl ⟨rfl, _, sq_of hlb⟩, rd_cons (rd_told T4 fun H5 n5 T5 => ?_)⟩
    have n05 := (n02.trans n3).trans ((ex_extn xlb).trans n5)
    refine tth_of (heard_jo j0 (wt.extn n05) el hS vd mx xg T5 fun f2 H6 n6 T6 hf2 new2 => ?_) fun E' Q' h => rd_cons (rd_var rfl (rd_cons (rd_var rfl (by dsimp only [tNil]; rw [gJ]; exact h))))
    have hlb6 := lst_n (n5.trans n6) hlb
    refine ⟨lb, [f1], f2, rfl, rfl, hlb6, (by show 1 < sizeLine; decide), ?_⟩
    have hlb7 : (upd H6 lb (.lst ([f1] ++ [f2]))) lb = some (.lst [f1, f2]) := upd_same
    have T7 : Tabs Tt (upd H6 lb (.lst ([f1] ++ [f2]))) := tabs_lst hlb6 T6
    have n36 := (ex_extn xlb).trans (n5.trans n6)
    have n37 : ExtN H3 (upd H6 lb (.lst ([f1] ++ [f2]))) := fun c o h1 h2 => (upd_ne (ne_of_none h1 nlb)).trans (n36 c o h1 h2)
    have du7 := hdu.n ((n2.trans n3).trans n37)
    have f17 := hf1.n n37
    have f27 : FdOk K C CK (upd H6 lb (.lst ([f1] ++ [f2]))) l x.p f2 := hf2.put hlb6 fun e => new2 lb _ e (lst_n n5 hlb)
    have n07 := (n02.trans n3).trans n37
    generalize upd H6 lb (.lst ([f1] ++ [f2])) = H7 at *
    try dsimp only [gName, List.set]
    have hx := hS x mx
    refine q_forLn (K := K) (a := lb) (xs := [f1, f2]) (ev_var rfl) (sq_of hlb7) (fun i σ' H' => ∃ x5, σ' = [some (.ref b), some (.ref a), some (.str x.p.nm), some due, some (.ref lb), x5] ∧ ExtN H7 H' ∧ Tabs Tt H')
      (fun H8 e8 => ⟨none, rfl, ex_extn e8, T7.ext e8⟩) (fun i σ' H' _ hh => by
        obtain ⟨_, _, n, _⟩ := hh
        exact sq_of (lst_n n hlb7)) (fun i z σ' Ha hz hh => ?_) (fun σ' Ha hh => ?_)
    · obtain ⟨x5, rfl, na, Ta⟩ := hh
      have fz : FdOk K C CK Ha l x.p z := by
        match i, hz with
        | 0, hz => rw [← Option.some.inj hz]; exact f17.n na
        | 1, hz => rw [← Option.some.inj hz]; exact f27.n na
      try dsimp only [gName, List.set]
      rcases pair_of vd hx (du7.n na) fz with ⟨kl, w1, w2, okl, rfl, hw1, rfl, hw2⟩ | ⟨r, f, r', b', m, m', rfl, hr1, hf, pm, vm, rfl, hr2, wb, em⟩
      · refine q_when (b := false) (et_is (et_and (a := true) (b := false) (et_not (a := false) (et_B (ev_cb (ea_cons (ev_var rfl) (ea_cons ev_c ea_nil)) (rc_tupL hw1)))) fun _ => et_test (ev_is (ev_op (ev_var rfl) (ev_var rfl) (rv_neKeys hw2 hw1 okl okl)) (by rw [decide_eq_true rfl]; rfl))) rfl) (fun z => by cases z) (fun _ Hb eb => ?_)
        refine s_when (b := false) (et_is (et_and (a := false) (b := false) (et_B (ev_cb (ea_cons (ev_var rfl) (ea_cons ev_c ea_nil)) (rc_tupL (eb _ _ hw1)))) (fun z => by cases z)) rfl) (fun z => by cases z) (fun _ Hc ec => ?_)
        exact ⟨_, rfl, na.trans (ex_extn (eb.trans ec)), Ta.ext (eb.trans ec)⟩
      · refine q_when (b := false) (et_is (et_and (a := false) (b := false) (et_not (a := true) (et_B (ev_cb (ea_cons (ev_var rfl) (ea_cons ev_c ea_nil)) (rc_lstT hr1)))) (fun z => by cases z)) rfl) (fun z => by cases z) (fun _ Hb eb => ?_)
        refine s_ifQ (rd_and (rd_t (et_B (ev_cb (ea_cons (ev_var rfl) (ea_cons ev_c ea_nil)) (rc_lstT (eb _ _ hr1)))) fun Hc ec => ?_))
        rw [if_pos rfl]
        have ebc := eb.trans ec
        refine rd_or (rd_not (rd_t (et_B (ev_cb (ea_cons (ev_var rfl) (ea_cons ev_c ea_nil)) (rc_lstT (ebc _ _ hr2)))) fun Hd ed => ?_))
        rw [if_neg (by decide)]
        have ebd := ebc.trans ed
        refine rd_test (rd_op ((ev_strW (ev_op (ev_var rfl) ev_c (rv_ixL (sq_of (ebd _ _ hr2)) (atI_nat (j := 0) rfl))) (wb.extn (ex_extn ebd))) Hd (Ex.refl _) _ fun He ee => tcb_of' (rd_c1 ((ev_op (ev_var rfl) ev_c (rv_ixL (sq_of ((ebd.trans ee) _ _ hr1)) (atI_nat (j := 0) rfl))) He (Ex.refl _) _ fun Hf ef => ?_))))
        have ebf := (ebd.trans ee).trans ef
        refine ⟨f, m, rfl, ebf _ _ hf, fun y hy => (pm y hy).mono ebf, vm, Ta.ext ebf, fun b2 m2 Hg ng em2 wt2 Tg => r_strW wt2 fun Hh eh => ⟨rfl, _, rfl, ?_⟩⟩
        rw [wtext_p (em.trans em2.symm), decide_eq_true rfl]
        rw [if_neg (by decide)]
        exact ⟨_, rfl, na.trans ((ex_extn ebf).trans (ng.trans (ex_extn eh))), Tg.ext eh⟩
    · obtain ⟨x5, rfl, na, Ta⟩ := hh
      exact s_ret ev_c fun Hb eb => k Hb (n07.trans (na.trans (ex_extn eb))) (Ta.ext eb)
end
end L2.Mj
set_option maxRecDepth 100000
set_option maxHeartbeats 8000000
namespace L2.Mj
open PySem PySem.Spec PyProof.Rows L2 Mx L2.Mb Evl Mv TL LamX Sr Srt SrtO NdefX
/-! ### the law -/
def spLaw (K : W.Frag) (Tt : List (Addr × Str)) : Sp := fun vs H Q _ => ∃ (a : Addr) (ns : List Int), vs = [.ref a] ∧ SqL K H a (ns.map V.int) ∧ ns.length ≤ 63 ∧ Tabs Tt H ∧ ∀ H', Q (.bl true) H'
def shS (n : Nat) (z : Str) : Bool := (z.cps.toList.all fun c => decide (c < 16 ^ 8)) && decide (z.length ≤ n)
theorem shS_w {z : Str} (h : okW z = true) : shS 8 z = true := by
  obtain ⟨_, h⟩ := ba2 h
  obtain ⟨h8, h⟩ := ba2 h
  have q : ∀ c ∈ letsS.cps.toList, c < 16 ^ 8 := by decide +kernel
  unfold shS
  rw [h8, Bool.and_true, List.all_eq_true]
  exact fun c hc => decide_eq_true (q c (of_decide_eq_true (List.all_eq_true.mp h c hc)))
theorem leaf_s {B n : Nat} {z : Str} (h : shS n z = true) : (PyData.str z).leavesShort B = true ∧ (PyData.str z).weight ≤ n ∧ (PyData.str z).showable = true ∧ (PyData.str z).depth = 0 := by
  obtain ⟨x1, x2⟩ := ba2 h
  exact ⟨by simpa only [PyData.leavesShort] using x1, (of_decide_eq_true x2 : z.cps.size ≤ n), rfl, rfl⟩
theorem okD_by {d : PyData} {n : Nat} (h1 : d.leavesShort 60 = true) (h2 : d.showable = true) (h3 : d.depth ≤ 60) (h4 : d.weight ≤ n) (hn : n ≤ 1500) : okD d = true := by
  have e := PyData.shown_le 60 (by decide) d h1
  have e2 : d.shown.length ≤ 100000 := by omega
  unfold okD
  rw [h2, decide_eq_true h3, decide_eq_true (Nat.le_trans e2 (by decide))]
  rfl
theorem okD_stn {z : Str} (h : okW z = true) : okD (.tuple [.str "station", .str z]) = true := by
  obtain ⟨a1, a2, a3, a4⟩ := leaf_s (B := 60) (shS_w (by decide +kernel : okW "station" = true))
  obtain ⟨b1, b2, b3, b4⟩ := leaf_s (B := 60) (shS_w h)
  refine okD_by (n := 100) ?_ ?_ ?_ ?_ (by decide)
  · rw [PyData.leavesShort, PyData.leavesShortAll, PyData.leavesShortAll, PyData.leavesShortAll, a1, b1]; rfl
  · rw [PyData.showable, PyData.showableAll, PyData.showableAll, PyData.showableAll, a3, b3]; rfl
  · rw [PyData.depth, PyData.depthAll, PyData.depthAll, PyData.depthAll, a4, b4]; decide
  · rw [PyData.weight, PyData.weightAll, PyData.weightAll, PyData.weightAll]
    omega
/-- a value that is no gate -/
def BadV (H : Hp) (l : List Pl) (v : V) : Prop := v = .non ∨ v = .bl true ∨ (∃ z, v = .str z ∧ hasG (rsOf l) z = false ∧ (z = "" ∨ okW z = true)) ∨ v = .int 0 ∨ (∃ a, v = .ref a ∧ H a = some (.lst [])) ∨ (∃ a, v = .ref a ∧ H a = some (.dK [])) ∨ (∃ a, v = .ref a ∧ H a = some (.tup [.str "mm"]))
theorem BadV.n {H H' : Hp} {l : List Pl} {v : V} (h : BadV H l v) (e : ExtN H H') : BadV H' l v := by
  rcases h with h | h | h | h | ⟨a, h, g⟩ | ⟨a, h, g⟩ | ⟨a, h, g⟩
  · exact .inl h
  · exact .inr (.inl h)
  · exact .inr (.inr (.inl h))
  · exact .inr (.inr (.inr (.inl h)))
  · exact .inr (.inr (.inr (.inr (.inl ⟨a, h, lst_n e g⟩))))
  · exact .inr (.inr (.inr (.inr (.inr (.inl ⟨a, h, e _ _ g fun _ y => by cases y⟩)))))
  · exact .inr (.inr (.inr (.inr (.inr (.inr ⟨a, h, tup_n e g⟩)))))
theorem BadV.any {H : Hp} {l : List Pl} {v : V} (h : BadV H l v) : AnyV H v ∧ strB (hasG (rsOf l)) v = false := by
  rcases h with h | h | ⟨z, h, g, _⟩ | h | ⟨a, h, g⟩ | ⟨a, h, g⟩ | ⟨a, h, g⟩ <;> rw [h]
  · exact ⟨.non, rfl⟩
  · exact ⟨.bl _, rfl⟩
  · exact ⟨.str _, g⟩
  · exact ⟨.int _, rfl⟩
  · exact ⟨.lst g, rfl⟩
  · exact ⟨.dct g, rfl⟩
  · exact ⟨.tup g, rfl⟩
theorem BadV.dq {K : W.Frag} {H : Hp} {l : List Pl} {v : V} (h : BadV H l v) : ∃ bd, okD (.tuple [.str "station", bd]) = true ∧ ∀ H', ExtN H H' → Dq K H' v bd := by
  rcases h with h | h | ⟨z, h, _, g⟩ | h | ⟨a, h, g⟩ | ⟨a, h, g⟩ | ⟨a, h, g⟩ <;> rw [h]
  · exact ⟨.none, by decide +kernel, fun _ _ => .non⟩
  · exact ⟨.bool true, by decide +kernel, fun _ _ => .bl _⟩
  · refine ⟨.str z, ?_, fun _ _ => .str _⟩
    rcases g with g | g
    · rw [g]
      decide +kernel
    · exact okD_stn g
  · exact ⟨.int 0, by decide +kernel, fun _ _ => .int _⟩
  · exact ⟨.list [], by decide +kernel, fun _ e => .lst (sq_of (lst_n e g)) .nil⟩
  · exact ⟨.dict [], by decide +kernel, fun _ e => .dct (ks := []) (xs := []) (e _ _ g fun _ y => by cases y) rfl .nil⟩
  · exact ⟨.tuple [.str "mm"], by decide +kernel, fun _ e => .tup (st_of (tup_n e g)) (.cons (.str _) .nil)⟩
/-- what heard says of joined for what is no gate -/
theorem heard_bad {K : W.Frag} {C CK : Addr} {Tt : List (Addr × Str)} {H : Hp} {c : HC} {js : List Nat} (j0 : 0 ∈ js) {b : Addr} {lw l : List Pl} {v : V} {Q : VK} (wt : WAt K C CK H b lw) (el : lw.map Pl.p = l.map Pl.p) (hS : ∀ x ∈ l, PyData.strOk x.p.nm = true) (hv : BadV H l v) (hT : Tabs Tt H)
    (k : ∀ r H', Ex H H' → HrAt H' r "station" v → Q r H') : TTH c js (fun E' H Q => spJo K C CK c.S c.N c.L Tt [.ref b, v] H Q E') H Q := fun E' Q' herr hok => by
  have er : rsOf lw = rsOf l := rs_same el
  have okw : ∀ y ∈ lw, PyData.strOk y.p.nm = true := fun y hy => by
    have z : y.p ∈ l.map Pl.p := by rw [← el]; exact List.mem_map_of_mem hy
    obtain ⟨u, hu, e⟩ := List.mem_map.mp z
    rw [← e]
    exact hS u hu
  obtain ⟨a1, a2⟩ := hv.any
  refine ⟨b, v, lw, rfl, wt, a1, hT, okw, fun _ d H' e hd => herr 0 j0 d v H' hd fun r H2 e2 hr => k r H2 (e.trans e2) hr, fun p hp ep => ?_⟩
  rw [er] at hp
  rw [ep] at a2
  have z : hasG (rsOf l) p.nm = false := a2
  rw [hasG_iff.mpr ⟨p, hp, rfl⟩] at z
  cases z
section
variable {σ : L2.St} {H : Hp}
theorem c_callA {ta : TA} {sp : Sp} {E : XK} {vs : List V} {Q : VK} (ha : EvA ta σ H vs) (k : ∀ H1, Ex H H1 → sp (vs ++ []) H1 Q E) : tCall sp [] E ta σ H Q := ha H (Ex.refl H) _ fun H1 e1 => k H1 e1
theorem rd_notB {te : TE} {Q : Bool → Hp → Prop} (h : te σ H fun x H1 => ∃ c, x = .bl c ∧ Q (!c) H1) : tNot (tB te) σ H Q := h
theorem rd_c3 {sp : Sp} {E : XK} {ta tb tc : TE} {Q : VK} (h : ta σ H fun v H1 => tb σ H1 fun u H2 => tc σ H2 fun x H3 => sp [v, u, x] H3 Q E) : tCall sp [] E (tCons ta (tCons tb (tCons tc tNil))) σ H Q := h
end
section
variable {K : W.Frag} {C CK CE : Addr} {Tt : List (Addr × Str)} {H : Hp} {σ : L2.St}
theorem r_weq {neg : Bool} {a b : Addr} {l m : List Pl} {Q : VK} (wa : WAt K C CK H a l) (wb : WAt K C CK H b m) (hT : Tabs Tt H) (k : ∀ H', ExtN H H' → Tabs Tt H' → Q (.bl (if neg then !weq l m else weq l m)) H') : rCmpO C (spWEq K C CK Tt) neg (.ref a) (.ref b) H Q := by
  have wa' := wa
  have wb' := wb
  obtain ⟨d, fs, kA, aA, ag, ah, gs, hs, z⟩ := wa'
  obtain ⟨d2, fs2, kA2, aA2, ag2, ah2, gs2, hs2, z2⟩ := wb'
  obtain ⟨dx, ha⟩ := z.fl.at_
  obtain ⟨dy, hb⟩ := z2.fl.at_
  exact ⟨a, dx, fs, rfl, ha, .inl ⟨b, dy, fs2, rfl, hb⟩, a, .ref b, l, rfl, wa, hT, .inl ⟨b, m, rfl, wb, fun H' n _ T => ⟨_, rfl, k H' n T⟩⟩⟩
theorem r_weqN {a b : Addr} {l m : List Pl} {c : Bool} {Q : VK} (wa : WAt K C CK H a l) (wb : WAt K C CK H b m) (hT : Tabs Tt H) (h : weq l m = c) (k : ∀ H', ExtN H H' → Tabs Tt H' → Q (.bl (!c)) H') : rCmpO C (spWEq K C CK Tt) true (.ref a) (.ref b) H Q :=
  r_weq wa wb hT fun H' n T => by
    rw [h]
    exact k H' n T
end
structure KX (K : W.Frag) (dK : FuncData) : Prop where
  t : ∃ g gV, KBn K dK ["self", "lends", "lets", "turns", "rests"] 3 ["turns"] g gV ∧ ∀ a b c d : V, gV [a, b, c] [d] = [a, b, c, d, .non]
  r : ∃ g gV, KBn K dK ["self", "lends", "lets", "turns", "rests"] 3 ["rests"] g gV ∧ ∀ a b c d : V, gV [a, b, c] [d] = [a, b, c, .bl false, d]
  x : ∃ g gV, KBn K dK ["self", "lends", "lets", "turns", "rests"] 1 ["rests", "lets", "turns", "lends"] g gV ∧ ∀ a r t u l : V, gV [a] [r, t, u, l] = [a, l, t, u, r]
  n : ∃ ds, Vals [.bl false, .non] ds ∧ Binds K dK ["self", "lends", "lets", "turns", "rests"] ds
section
variable {P : Program} {w : World} {K : W.Frag} {mg : Str → Option Value} {base : Heap} {f fK C CE : Addr} {fd dK : FuncData} {mc : Value}
theorem e_makeT {σ : L2.St} {H : Hp} {ta tk : TA} {gV : List V → List V → List V} {E : XK} {kd : Kd} (hg : ∀ a b c d : V, gV [a, b, c] [d] = [a, b, c, d, .non]) (h1 : EvA ta σ H [.str kd.le, .str kd.lt]) (h2 : EvA tk σ H [.bl kd.tu]) (hr : kd.re = none) (ok : kd.ok = true) :
    ∀ H1, Ex H H1 → ∀ Q : VK, (∀ a H2, Ex H1 H2 → KAt C H2 a kd → Q (.ref a) H2) → tMakeK C 2 1 (spInit C CE) gV E ta tk σ H1 Q := fun H1 e Q q => h1 H1 e _ fun H2 e2 => h2 H2 (e.trans e2) _ fun H3 e3 => ⟨rfl, rfl, fun x dx hx hd ne => by
    rw [hg]
    have z := sp_made (C := C) (CE := CE) (E := E) (Q := Q) (dx := dx) ok hx hd fun H4 e4 ha => q x H4 ((e2.trans e3).trans e4) ha
    rw [hr] at z
    exact z⟩
end
section
variable {K : W.Frag} {C CK CE : Addr} {Tt : List (Addr × Str)} {H : Hp} {σ : L2.St} {E1 E2 : XK} {Q : VK}
theorem e_makeN {ta : TA} {kd : Kd} (h1 : EvA ta σ H [.str kd.le, .str kd.lt]) (ok : kd.ok = true) : ∀ H1, Ex H H1 → ∀ Q : VK, (∀ a H2, Ex H1 H2 → KAt CK H2 a kd → Q (.ref a) H2) → tMake CK (spInit CK CE) [.bl kd.tu, optV kd.re] E2 ta σ H1 Q :=
  fun H1 e Q q => h1 H1 e _ fun H2 e2 x dx hx hd ne => sp_made (Q := Q) ok hx hd fun H4 e4 ha => q x H4 (e2.trans e4) ha
end
theorem keep_of {H H' : Hp} {p : Addr} {ns : Cells} {t : Int} (pen : PenAt H p ns t) (b : ButP p H H') : KeepO H H' := fun c o h n1 n2 => b c o (fun z => by
  obtain ⟨g, h1, _⟩ := pen
  rw [z, h1] at h
  exact n1 _ (Option.some.inj h).symm) h n2
abbrev nKd : Kd := ⟨"far", "any", false, none⟩
abbrev mKd : Kd := ⟨"one", "both", true, none⟩
abbrev nPt : Pt := ⟨some nKd, "n", "", 5⟩
abbrev mPt : Pt := ⟨some mKd, "m", "n", 3⟩
theorem vd_out (t1 k1 t2 k2 : Addr) : Vd (rsOf [⟨t1, k1, nPt⟩, ⟨t2, k2, mPt⟩]) := ⟨⟨trivial, (by decide +kernel : okA [] nPt = true)⟩, (by decide +kernel : okA [nPt] mPt = true)⟩
theorem me_out : me mKd nKd = ⟨"far", "both", false, none⟩ := by
  have : decide (me mKd nKd = ⟨"far", "both", false, none⟩) = true := by decide +kernel
  exact of_decide_eq_true this
theorem text_out : wtext [⟨0, 0, ⟨some ⟨"far", "both", false, none⟩, "m", "", 5⟩⟩] = "gate m - 5 far/both" := by decide +kernel
section
variable {K : W.Frag} {C CK CE : Addr} {Tt : List (Addr × Str)} {σ : L2.St} {H : Hp}
theorem c_out {gV : List V → List V → List V} (hg : ∀ a b c d : V, gV [a, b, c] [d] = [a, b, c, d, .non]) {E1 E2 E3 : XK} {Q : VK} (hT : Tabs Tt H) (kk : ∀ b t1 k1 t2 k2 H', ExtN H H' → WAt K C CK H' b [⟨t1, k1, nPt⟩, ⟨t2, k2, mPt⟩] → Tabs Tt H' → Q (.ref b) H') :
    StX.tMakeR C (spWM K C CK Tt) E1 (tCons (tTup (tCons (tC (.str "gate")) (tCons (tC (.str "n")) (tCons (tC (.str "")) (tCons (tC (.int 5)) (tCons (tMake CK (spInit CK CE) [.bl false, .non] E2 (tCons (tC (.str "far")) (tCons (tC (.str "any")) tNil))) tNil))))))
      (tCons (tTup (tCons (tC (.str "gate")) (tCons (tC (.str "m")) (tCons (tC (.str "n")) (tCons (tC (.int 3)) (tCons (tMakeK CK 2 1 (spInit CK CE) gV E3 (tCons (tC (.str "one")) (tCons (tC (.str "both")) tNil)) (tCons (tC (.bl true)) tNil)) tNil)))))) tNil)) σ H Q := by
  refine rd_cons (rd_tup (rd_cons (rd_c (rd_cons (rd_c (rd_cons (rd_c (rd_cons (rd_c (rd_cons ?_))))))))))
  refine e_makeN (ta := tCons (tC (.str "far")) (tCons (tC (.str "any")) tNil)) (kd := nKd) (H := H) (ea_cons ev_c (ea_cons ev_c ea_nil)) (by decide +kernel) _ (Ex.refl _) _ fun k1 H3 x3 hk1 => ?_
  refine ⟨(by show 5 ≤ sizeLine; decide), fun t1 nt1 => ?_⟩
  have xt1 := Ex.new (o := .tup [V.str "gate", .str "n", .str "", .int 5, .ref k1]) nt1
  have ht1 : (upd H3 t1 (.tup [V.str "gate", .str "n", .str "", .int 5, .ref k1])) t1 = some (.tup [V.str "gate", .str "n", .str "", .int 5, .ref k1]) := upd_same
  generalize upd H3 t1 (.tup [V.str "gate", .str "n", .str "", .int 5, .ref k1]) = H4 at *
  refine rd_cons (rd_tup (rd_cons (rd_c (rd_cons (rd_c (rd_cons (rd_c (rd_cons (rd_c (rd_cons ?_))))))))))
  refine e_makeT (ta := tCons (tC (.str "one")) (tCons (tC (.str "both")) tNil)) (kd := mKd) (H := H4) hg (ea_cons ev_c (ea_cons ev_c ea_nil)) (ea_cons ev_c ea_nil) rfl (by decide +kernel) _ (Ex.refl _) _ fun k2 H5 x5 hk2 => ?_
  refine ⟨(by show 5 ≤ sizeLine; decide), fun t2 nt2 => ?_⟩
  have xt2 := Ex.new (o := .tup [V.str "gate", .str "m", .str "n", .int 3, .ref k2]) nt2
  have e25 := (x3.trans xt1).trans (x5.trans xt2)
  refine mk_world (l := [⟨t1, k1, nPt⟩, ⟨t2, k2, mPt⟩]) (fun y hy => ?_) (vd_out t1 k1 t2 k2) (hT.ext e25) fun b H6 nb6 n6 wt T6 => kk b t1 k1 t2 k2 H6 ((ex_extn e25).trans n6) wt T6
  rcases List.mem_cons.mp hy with z | z
  · rw [z]
    exact ⟨xt2 _ _ (x5 _ _ ht1), fun k hk => by cases hk; exact hk1.mono (xt1.trans (x5.trans xt2))⟩
  · rw [List.mem_singleton.mp z]
    exact ⟨upd_same, fun k hk => by cases hk; exact hk2.mono xt2⟩
end
section
variable {P : Program} {w : World} {K : W.Frag} {mg : Str → Option Value} {base : Heap} {C CK CE : Addr} {mc mk : Value} {Tt : List (Addr × Str)} {σ : L2.St} {H : Hp}
theorem ok_law {hc : HC} {js : List Nat} {f f0 fP fT fM fW fR fD fH fJ fI' fKd fE fS c Pt : Addr} {d0 dP dT dM dW dR dD dH dJ dKd dE dS : FuncData} {gK : List Value → List Value → List Value} {gVK : List V → List V → List V} {oc dV kV doc pm ct : Value} {an od : Option Addr} {osl : Array (Option Value)}
    (j0 : ∀ i ∈ ([0, 1, 2] : List Nat), i ∈ js) (B : Bt mg) (sys : SysD K) (Z : HF mg hc) (J8 : ∀ i ∈ js, i < 8 ∧ EI K hc i) (DH : HD K mg fH dH) (T : WF K mg C mc) (M : WMk P w K mg base C CK Tt fI') (D0 : Fn0 P w K mg base "_law_pen" 1 f0 d0 p_law_pen (spPen K)) (DD : Fn0 P w K mg base "_law_draw" 1 fD dD p_law_draw spTake)
    (DP : Fn0 P w K mg base "_law_parts" 3 fP dP p_law_parts spLP) (DT : Fn0 P w K mg base "_law_twos" 3 fT dT p_law_twos spTw) (DM : Fn0 P w K mg base "_law_mixed" 3 fM dM p_law_mixed spMix) (DW : Fn0 P w K mg base "_law_world" 8 fW dW p_law_world (spWld K C CK Tt)) (DR : Fn0 P w K mg base "_law_right" 10 fR dR p_law_right (spRt K C CK Tt))
    (DJ : FnE0 P w K mg base "joined" 7 fJ dJ p_joined (spJo K C CK hc.S hc.N hc.L Tt)) (S : StrF P w K mg base C 5 (spWS K C CK) fS dS) (MK : KM P w K mg base CK CE fKd dKd gK gVK) (mK : mg "Kind" = some (.ref CK)) (X : KX K dKd)
    (QE : OwnF P w K mg base C "__eq__" 7 ["self", "other"] (spWEq K C CK Tt) fE dE) (QN : W.findIn K (.ref C) "__ne__" = some (some (.builtin "object.__ne__"))) (QO : W.mroIn K C (.type "object") = some true)
    (TB : TabB base mg c Pt) (hmT : (Pt, ("law.<locals>.<lambda>" : Str)) ∈ Tt) (hu : ∀ p ∈ Tt, p.1 = Pt → p.2 = ("law.<locals>.<lambda>" : Str))
    (lk : K.lookup f = some ⟨oc, od, .func (W.fnOf "law" "law" (defArgs s_law) (defBody s_law) (defScope s_law) dV kV doc pm an (.ref c) ct), osl⟩) (hcd : W.codeIn K (.ref c) "law" = true) :
    FnG P w K mg base CX0 11 f (W.fnOf "law" "law" (defArgs s_law) (defBody s_law) (defScope s_law) dV kV doc pm an (.ref c) ct) p_law (spLaw K Tt) := by
  refine fng_of lk hcd sc_law (fun vs H Q E h => ?_) (fun A outer s H vs Q E gd hr h => ?_)
  · obtain ⟨a, ns, rfl, _⟩ := h
    rfl
  · obtain ⟨a0, ns0, rfl, hS, hn0, hT, k⟩ := h
    have nd := sc_law.nd
    have hun := hr.units
    have hr8 := hr.mono (show 8 ≤ 10 by decide)
    obtain ⟨g1, gV1, kb1, gv1⟩ := X.t
    obtain ⟨dsN, nK, bK⟩ := X.n
    refine ⟨_, PSs.nox (pss_cons (ps_set (i := 1) nd rfl (Or.inl rfl) (pe_call D0.ok (hr.mono (by decide)) (by rfl) D0.m D0.k D0.b .nil pass0 (pa_cons (pv 0) pa_nil)))
      (pss_cons (ps_for PassesOwn.never rfl (pi_range1 (by rfl) B.range (pa_cons pe_int pa_nil)) (pg_name (i := 2) nd rfl (Or.inl rfl))
        (pss_cons (ps_set (i := 3) nd rfl (Or.inl rfl) (pe_call DM.ok (hr.mono (by decide)) (by rfl) DM.m DM.k DM.b .nil pass0 (pa_cons (pv 1) (pa_cons (pe_call DT.ok (hr.mono (by decide)) (by rfl) DT.m DT.k DT.b .nil pass0 (pa_cons (pv 1) (pa_cons (pe_call DP.ok (hr.mono (by decide)) (by rfl) DP.m DP.k DP.b .nil pass0 (pa_cons (pv 1) (pa_cons pe_int (pa_cons pe_int pa_nil)))) pa_nil))) pa_nil))))
        (pss_cons (ps_set (i := 4) nd rfl (Or.inr rfl) (pe_call DW.ok (hr.mono (by decide)) (by rfl) DW.m DW.k DW.b .nil pass0 (pa_cons (pv 3) pa_nil)))
        (pss_cons (ps_for PassesOwn.never rfl (pi_list (pv 3)) (pg_name (i := 5) nd rfl (Or.inl rfl))
          (pss_one (ps_if ((pw_and (pt_cmpR op_eq (pe_ix ix_tup (pv 5) pe_int (fun _ _ => rfl)) pe_str (nomark _)) (pw_and1 (pt_not (pt_val (pe_call DR.ok hr (by rfl) DR.m DR.k DR.b .nil pass0 (pa_cons (pv 4) (pa_cons (pv 3) (pa_cons (pe_ix ix_tup (pv 5) pe_int (fun _ _ => rfl)) pa_nil)))))))).pt) (pss_one (ps_ret pe_bl)) pss_nil)))
        (pss_cons (ps_setLc (i := 6) (own := [("_law_part", 5)]) (g := gName 5) (tt := tTest (tOp rEq (tOp (rIxT K) (tVar 5) (tC (.int 0))) (tC (.str "host")))) (te := tOp (rIxT K) (tVar 5) (tC (.int 1))) (by rfl) nd rfl rfl (sw_true rfl rfl rfl (by decide +kernel)) (pi_list (pv 3)) (blkOk_by (N := n_law) (sc := defScope s_law) (by decide +kernel)) (fun _ _ _ _ _ => pg_name (i := 5) nd rfl (Or.inl rfl))
            (fun _ _ _ _ _ => pts_one (pt_cmpR op_eq (pe_ix ix_tup (pv 5) pe_int (fun _ _ => rfl)) pe_str (nomark _))) (fun _ _ _ _ _ => pe_ix ix_tup (pv 5) pe_int (fun _ _ => rfl)))
        (pss_cons (ps_set (i := 7) nd rfl (Or.inr rfl) (pe_ix ix_list (pe_lst (pa_cons pe_non (pa_cons pe_bl (pa_cons pe_str (pa_cons pe_str (pa_cons (pe_ix ix_list (pv 6) pe_int (fun _ _ => rfl)) (pa_cons (pe_ix ix_list (pv 6) (pe_un un_neg pe_int) (fun _ _ => rfl)) (pa_cons pe_int (pa_cons (pe_lst pa_nil) (pa_cons pe_dnewK (pa_cons (pe_tup (pa_cons pe_str pa_nil)) pa_nil)))))))))))
            (pe_call DD.ok (hr.mono (by decide)) (by rfl) DD.m DD.k DD.b .nil pass0 (pa_cons (pv 1) (pa_cons pe_int pa_nil))) (fun _ _ => rfl)))
        (pss_one (ps_if ((pw_or (pt_cmpR op_ne (pe_callB (call_repr gd sys hun) (by rfl) B.repr (by decide +kernel) (pa_cons (pe_heard (k := 7) (t := fun E => tCall (spJo K C CK hc.S hc.N hc.L Tt) [] E (tCons (tVar 4) (tCons (tVar 7) tNil))) B Z J8 DH TB rfl hmT hu (hr.mono (by decide)) (lamS_by (sc := defScope s_law) (by decide +kernel)) (by rfl) (fun _ _ _ _ _ => by rfl) (by rfl)
              (fun A outer s H E f c' hr2 => ?hb)) pa_nil))
              (pe_callB (call_repr gd sys hun) (by rfl) B.repr (by decide +kernel) (pa_cons (pe_tup (pa_cons pe_str (pa_cons (pv 7) pa_nil))) pa_nil)) (nomark _))
            (pw_or1 (pt_cmpR (op_neO QE.ok hr8 QE.b pass0 QE.s QE.fn QN QO) (pv 4) (pe_call DW.ok (hr.mono (by decide)) (by rfl) DW.m DW.k DW.b .nil pass0 (pa_cons (pv 3) pa_nil)) (nomark _)))).pt) (pss_one (ps_ret pe_bl)) pss_nil))))))))
      (pss_cons (ps_set (i := 8) nd rfl (Or.inl rfl) (StX.pe_makeR M.made M.ok (hr.mono (by decide)) (by rfl) T.m pass0 (pa_cons (pe_tup (pa_cons pe_str (pa_cons pe_str (pa_cons pe_str (pa_cons pe_int (pa_cons (pe_make (E := fun _ _ _ => False) MK.made MK.ok (hr.mono (by decide)) (by rfl) mK bK nK passF (pa_cons pe_str (pa_cons pe_str pa_nil))) pa_nil))))))
          (pa_cons (pe_tup (pa_cons pe_str (pa_cons pe_str (pa_cons pe_str (pa_cons pe_int (pa_cons (pe_makeK (E := fun _ _ _ => False) MK.made MK.ok (hr.mono (by decide)) (by rfl) mK kb1 passF (pa_cons pe_str (pa_cons pe_str pa_nil)) (pk_cons pe_bl pk_nil)) pa_nil)))))) pa_nil))))
      (pss_one (ps_ret (pe_cmpR op_eq (pe_callTy (call_strO S.ok S.s S.fn S.b pass0 (hr.mono (by decide))) (by rfl) B.str (by decide +kernel) (pa_cons (pe_call (E := fun _ _ _ => False) DJ.ok (hr.mono (by decide)) (by rfl) DJ.m DJ.k DJ.b .nil passF (pa_cons (pv 8) (pa_cons pe_str pa_nil))) pa_nil)) pe_str (nomark _))))))), ?_⟩
    case hb => exact pe_call (E := E) DJ.ok hr2 (by rfl) DJ.m DJ.k DJ.b .nil (passes_call (takes_of rfl rfl rfl rfl) (fun _ _ _ _ h => h)) (pa_cons (pe_var (i := 4) rfl (.inr (.inr rfl))) (pa_cons (pe_var (i := 7) rfl (.inr (.inr rfl))) pa_nil))
    refine ⟨_, rfl, a0, ns0, rfl, hS, hn0, fun p ns H1 hn pen1 e1 => ?_⟩
    try dsimp only [gName, List.set, start]
    refine q_forR1 (n := 6) (ea_cons ev_c ea_nil) (by decide) (fun i σ' H' => ∃ (u : Int) (z2 z3 z4 z5 z6 z7 : Option V), σ' = [some (.ref a0), some (.ref p), z2, z3, z4, z5, z6, z7, none] ∧ PenAt H' p ns u ∧ Tabs Tt H' ∧ 0 ≤ u ∧ u ≤ 260 * (i : Int))
      (fun H2 e2 => ⟨0, none, none, none, none, none, none, rfl, pen_mono e2 pen1, hT.ext (e1.trans e2), Int.le_refl _, by simp⟩) (fun i σ' H2 hi hh => ?_) (fun σ' H2 hh => ?_)
    · obtain ⟨u, z2, z3, z4, z5, z6, z7, rfl, pen2, T2, u0, u1⟩ := hh
      try dsimp only [gName, List.set]
      -- the parts
      refine q_asgR (rd_c2 (rd_var rfl (rd_c2 (rd_var rfl (rd_c3 (rd_var rfl (rd_c (rd_c ⟨p, 4, 5, ns, u, rfl, by decide, by decide, pen2, hn, u0, by omega, fun l1 u3 q1 H3 vd1 pt1 hC1 hS1 u30 u31 pen3 but3 nq1 hq1 => ?_⟩))))))))
      refine ⟨p, q1, l1, ns, u3, rfl, pen3, hn, by omega, by omega, hq1, pt1, vd1, hC1, hS1, fun q2 l2 u4 H4 vd2 pt2 nb2 hst2 nq2 hq2 u40 u41 pen4 but4 => ?_⟩
      refine ⟨p, q2, l2, ns, u4, rfl, pen4, hn, by omega, by omega, hq2, pt2, vd2, fun x hx => (nb2 x hx).1, fun q m u5 H5 perm vd hq u50 u51 pen5 but5 => ?_⟩
      have T5 := tabs_but pen4 but5 (tabs_but pen3 but4 (tabs_but pen2 but3 T2))
      have pt5 : ∀ x ∈ m, PrtS H5 x.t x.k x.p := fun x hx => prt_but (pt2 x (perm.subset hx)) pen4 but5
      have nb : ∀ x ∈ m, PyData.strOk x.p.nm = true ∧ x.p.nm ≠ ("nobody" : Str) := fun x hx => nb2 x (perm.subset hx)
      have hSm : ∀ x ∈ m, PyData.strOk x.p.nm = true := fun x hx => (nb x hx).1
      obtain ⟨xh, mxh, xhG⟩ := hst2
      have mxh' : xh ∈ m := perm.symm.subset mxh
      have l14 : m.length ≤ 14 := by
        have y := len14 vd
        rw [len_rs] at y
        exact y
      have hqp : q ≠ p := lst_pen pen5 hq
      try dsimp only [gName, List.set]
      -- the world
      refine q_asgR (rd_c1 (rd_var rfl ⟨q, m, rfl, hq, pt5, vd, T5, fun wl lw H6 n6 el wtl T6 => ?_⟩))
      have pen6 := pen_extn n6 pen5
      try dsimp only [gName, List.set]
      -- each gate
      refine q_forLn (K := K) (a := q) (xs := m.map fun x : Pl => V.ref x.t) (ev_var rfl) (sq_of (lst_n n6 hq)) (fun j σ' H' => ∃ (z5 : Option V), σ' = [some (.ref a0), some (.ref p), some (.int (i : Int)), some (.ref q), some (.ref wl), z5, z6, z7, none] ∧ ExtN H6 H' ∧ Tabs Tt H')
        (fun H7 e7 => ⟨_, rfl, ex_extn e7, T6.ext e7⟩) (fun j σ' H' _ hh => by
          obtain ⟨_, _, n, _⟩ := hh
          exact sq_of (lst_n (n6.trans n) hq)) (fun j z σ' Ha hz hh => ?_) (fun σ' Ha hh => ?_)
      · obtain ⟨z5, rfl, na, Ta⟩ := hh
        rw [List.getElem?_map] at hz
        obtain ⟨x, hx, rfl⟩ := Option.map_eq_some_iff.mp hz
        have mx : x ∈ m := List.mem_of_getElem? hx
        have n6a := n6.trans na
        have px := (pt5 x mx).extn n6a
        try dsimp only [gName, List.set]
        refine s_ifQ (rd_and (rd_t (et_test (ev_is (ev_op (ev_ptS rfl px at_w) ev_c (rv_eq rfl)) (by rw [gwd_gate]))) fun Hb eb => ?_))
        cases hg : x.p.isG with
        | false =>
          rw [if_neg Bool.false_ne_true, if_neg Bool.false_ne_true]
          exact ⟨_, rfl, na.trans (ex_extn eb), Ta.ext eb⟩
        | true =>
          rw [if_pos rfl]
          have nab := na.trans (ex_extn eb)
          have n5b := n6.trans nab
          refine rd_notB (rd_c3 (rd_var rfl (rd_var rfl ((ev_ptS rfl (px.mono eb) at_nm) Hb (Ex.refl _) _ fun Hc ec => ?_))))
          have n5c := n5b.trans (ex_extn ec)
          refine ⟨wl, q, lw, m, x, rfl, wtl.extn (nab.trans (ex_extn ec)), el, lst_n n5c hq, fun y hy => (pt5 y hy).extn n5c, hSm, vd, mx, hg, (Ta.ext eb).ext ec, fun Hd nd' Td => ⟨true, rfl, ?_⟩⟩
          rw [if_neg (by decide)]
          exact ⟨_, rfl, nab.trans ((ex_extn ec).trans nd'), Td⟩
      · obtain ⟨z5, rfl, na, Ta⟩ := hh
        have n5a := n6.trans na
        have hqa := lst_n n5a hq
        have pta : ∀ x ∈ m, PrtS Ha x.t x.k x.p := fun x hx => (pt5 x hx).extn n5a
        have wta := wtl.extn na
        have pena := pen_extn na pen6
        -- the hosts
        have key := el_parts (K := K) (σ := [some (.ref a0), some (.ref p), some (.int (i : Int)), some (.ref q), some (.ref wl), none, z6, z7, none]) (H := Ha) (tl := tVar 3) (t := tTest (tOp rEq (tOp (rIxT K) (tVar 5) (tC (.int 0))) (tC (.str "host")))) (te := tOp (rIxT K) (tVar 5) (tC (.int 1))) (j := 5) (vs := [5]) (l := m) (fun x => !x.p.isG) (fun x => V.str x.p.nm) (ev_var rfl) hqa l14 (fun _ => rfl)
          (fun y hy Hb eb => et_test (ev_is (ev_op (ev_ptS rfl ((pta y hy).mono eb) at_w) ev_c (rv_eq rfl)) (by rw [gwd_host]))) (fun y hy Hb eb => ev_ptS rfl ((pta y hy).mono eb) at_nm)
        have gmem : ∀ v ∈ (m.filter fun x : Pl => !x.p.isG).map fun x : Pl => V.str x.p.nm, ∃ z, v = .str z ∧ hasG (rsOf m) z = false ∧ (z = "" ∨ okW z = true) := fun v hv => by
          obtain ⟨x, hx, rfl⟩ := List.mem_map.mp hv
          obtain ⟨x1, x2⟩ := List.mem_filter.mp hx
          refine ⟨x.p.nm, rfl, ?_, .inr (vd.okP x.p (mem_rs x1)).nm⟩
          cases hz : hasG (rsOf m) x.p.nm with
          | false => rfl
          | true =>
            obtain ⟨p', hp', e'⟩ := hasG_iff.mp hz
            have := same_nm vd (mem_gts.mp hp').1 (mem_rs x1) e'
            rw [← this, (mem_gts.mp hp').2] at x2
            cases x2
        have gne : (m.filter fun x : Pl => !x.p.isG).map (fun x : Pl => V.str x.p.nm) ≠ [] := fun z => by
          have : xh ∈ m.filter fun x : Pl => !x.p.isG := List.mem_filter.mpr ⟨mxh', by rw [xhG]; rfl⟩
          rw [List.map_eq_nil_iff.mp z] at this
          cases this
        have key2 : EvL (tLc (iList K (tVar 3)) (gName 5) (tTest (tOp rEq (tOp (rIxT K) (tVar 5) (tC (.int 0))) (tC (.str "host")))) (tOp (rIxT K) (tVar 5) (tC (.int 1))) [5]) [some (.ref a0), some (.ref p), some (.int (i : Int)), some (.ref q), some (.ref wl), z5, z6, z7, none] Ha ((m.filter fun x : Pl => !x.p.isG).map fun x : Pl => V.str x.p.nm) := key
        generalize (m.filter fun x : Pl => !x.p.isG).map (fun x : Pl => V.str x.p.nm) = gs at *
        refine q_asgL (xs := gs) (by exact key2) fun lg Hb nlg eb hlg => ?_
        obtain ⟨v0, hv0, ag0⟩ : ∃ v0 ∈ gs, atI gs 0 = some v0 := by
          cases gs with
          | nil => exact absurd rfl gne
          | cons a t => exact ⟨a, List.mem_cons_self, atI_nat (j := 0) rfl⟩
        obtain ⟨v1, hv1, ag1⟩ : ∃ v1 ∈ gs, atI gs (-1) = some v1 := by
          rcases List.eq_nil_or_concat gs with z | ⟨ini, r, z⟩
          · exact absurd z gne
          · rw [z, List.concat_eq_append]
            exact ⟨r, List.mem_append_right _ List.mem_cons_self, atI_last _ _⟩
        have penb := pen_mono eb pena
        try dsimp only [gName, List.set]
        -- what is no gate
        refine q_asgR (rd_op (rd_lst (rd_cons (rd_c (rd_cons (rd_c (rd_cons (rd_c (rd_cons (rd_c (rd_cons ((ev_op (ev_var rfl) ev_c (rv_ixL (sq_of hlg) ag0)) Hb (Ex.refl _) _ fun Hc ec => rd_cons ((ev_op (ev_var rfl) ev_neg1 (rv_ixL (sq_of (ec _ _ hlg)) ag1)) Hc (Ex.refl _) _ fun Hd ed => rd_cons (rd_c (rd_cons (rd_lst ⟨(by show 0 ≤ sizeLine; decide), fun la nla => ?_⟩))))))))))))))))
        have xa := Ex.new (o := .lst []) nla
        have hla : (upd Hd la (.lst [])) la = some (.lst []) := upd_same
        generalize upd Hd la (.lst []) = He at *
        refine rd_cons (fun da nda => ?_)
        have xd := Ex.new (o := .dK []) nda
        have hda : (upd He da (.dK [])) da = some (.dK []) := upd_same
        generalize upd He da (.dK []) = Hf at *
        refine rd_cons (rd_tup (rd_cons (rd_c ⟨(by show 1 ≤ sizeLine; decide), fun ta nta => ?_⟩)))
        have xt := Ex.new (o := .tup [V.str "mm"]) nta
        have hta : (upd Hf ta (.tup [V.str "mm"])) ta = some (.tup [V.str "mm"]) := upd_same
        generalize upd Hf ta (.tup [V.str "mm"]) = Hg at *
        refine ⟨(by show 10 ≤ sizeLine; decide), fun sm nsm => ?_⟩
        have hxs : [V.non, .bl true, .str "", .str "nobody", v0, v1, .int 0, .ref la, .ref da, .ref ta].length = 10 := rfl
        have xs' := Ex.new (o := .lst [V.non, .bl true, .str "", .str "nobody", v0, v1, .int 0, .ref la, .ref da, .ref ta]) nsm
        have hsm : (upd Hg sm (.lst [V.non, .bl true, .str "", .str "nobody", v0, v1, .int 0, .ref la, .ref da, .ref ta])) sm = some (.lst [V.non, .bl true, .str "", .str "nobody", v0, v1, .int 0, .ref la, .ref da, .ref ta]) := upd_same
        have ebd := eb.trans (ec.trans ed)
        have pend := pen_mono ebd pena
        have lap := pen_fresh pend nla
        have pene := pen_mono xa pend
        have dap := pen_fresh pene nda
        have penf := pen_mono xd pene
        have tap := pen_fresh penf nta
        have peng := pen_mono xt penf
        have smp := pen_fresh peng nsm
        have penh := pen_mono xs' peng
        have eah := ebd.trans (xa.trans (xd.trans (xt.trans xs')))
        have hla' := xs' _ _ (xt _ _ (xd _ _ hla))
        have hda' := xs' _ _ (xt _ _ hda)
        have hta' := xs' _ _ hta
        generalize hXS : [V.non, .bl true, .str "", .str "nobody", v0, v1, .int 0, .ref la, .ref da, .ref ta] = XS at *
        generalize upd Hg sm (.lst XS) = Hh at *
        refine c_draw rfl ev_c penh hn (by omega) (by omega) (by decide) (by decide) fun d9 u9 Hk d90 d91 u90 u91 penk butk => ?_
        obtain ⟨v, hv, hav⟩ := ix_drawn' (f := id) (zs := XS) d90 (by rw [hxs]; exact d91)
        rw [List.map_id] at hav
        refine ⟨sm, _, d9, v, rfl, rfl, SqL.of (butk _ _ smp hsm), hav, ?_⟩
        try dsimp only [gName, List.set]
        have bak : But p Ha Hk := (but_ex eah).trans butk
        have bad : BadV Hk m v := by
          rw [← hXS] at hv
          simp only [List.mem_cons, List.not_mem_nil, or_false] at hv
          rcases hv with h | h | h | h | h | h | h | h | h | h
          · exact .inl h
          · exact .inr (.inl h)
          · refine .inr (.inr (.inl ⟨"", h, ?_, .inl rfl⟩))
            cases hz : hasG (rsOf m) "" with
            | false => rfl
            | true =>
              obtain ⟨p', hp', e'⟩ := hasG_iff.mp hz
              exact absurd e' (okW_ne (vd.okP p' (mem_gts.mp hp').1).nm)
          · refine .inr (.inr (.inl ⟨"nobody", h, ?_, .inr (by decide +kernel)⟩))
            cases hz : hasG (rsOf m) "nobody" with
            | false => rfl
            | true =>
              obtain ⟨p', hp', e'⟩ := hasG_iff.mp hz
              obtain ⟨y, hy, rfl⟩ := List.mem_map.mp (List.mem_reverse.mp (mem_gts.mp hp').1)
              exact absurd e' (nb y hy).2
          · obtain ⟨z, hz, h1, h2⟩ := gmem v0 hv0
            exact .inr (.inr (.inl ⟨z, h.trans hz, h1, h2⟩))
          · obtain ⟨z, hz, h1, h2⟩ := gmem v1 hv1
            exact .inr (.inr (.inl ⟨z, h.trans hz, h1, h2⟩))
          · exact .inr (.inr (.inr (.inl h)))
          · exact .inr (.inr (.inr (.inr (.inl ⟨la, h, butk _ _ lap hla'⟩))))
          · exact .inr (.inr (.inr (.inr (.inr (.inl ⟨da, h, butk _ _ dap hda'⟩)))))
          · exact .inr (.inr (.inr (.inr (.inr (.inr ⟨ta, h, butk _ _ tap hta'⟩)))))
        have Tk := tabs_but pena bak Ta
        have wtk := wat_keep (keep_of pena (ButP.of bak)) wta
        have hqk := bak _ _ hqp hqa
        have ptk : ∀ x ∈ m, PrtS Hk x.t x.k x.p := fun x hx => prt_but (pta x hx) pena bak
        obtain ⟨bd, okb, dqb⟩ := bad.dq (K := K)
        refine s_ifQ (rd_or (rd_test (rd_op (tcb_of' (rd_told Tk fun Hl nl Tl => ?_)))))
        refine tth_of (heard_bad (j0 0 (by simp)) (wtk.extn nl) el hSm (bad.n nl) Tl fun r Hm em hr => ?_) fun E' Q' h => rd_c2 (rd_var rfl (rd_var rfl h))
        obtain ⟨rp, rfl, hrp⟩ := hr
        have nkm := nl.trans (ex_extn em)
        refine ⟨rp, .tuple [.str "station", bd], rfl, .tup (st_of hrp) (.cons (.str _) (.cons (dqb _ nkm) .nil)), okb, tcb_of' (rd_tup (rd_cons (rd_c (rd_cons (rd_var rfl ⟨(by show 2 ≤ sizeLine; decide), fun tt ntt => ?_⟩)))))⟩
        have xtt := Ex.new (o := .tup [V.str "station", v]) ntt
        have nkn := nkm.trans (ex_extn xtt)
        refine ⟨tt, .tuple [.str "station", bd], rfl, .tup (st_of upd_same) (.cons (.str _) (.cons (dqb _ nkn) .nil)), okb, rfl, _, rfl, ?_⟩
        rw [decide_eq_true rfl]
        rw [if_neg (by decide)]
        have Tn := (Tl.ext em).ext xtt
        refine rd_test (rd_op (rd_var rfl (rd_c1 (rd_var rfl ⟨q, m, rfl, lst_n nkn hqk, fun x hx => (ptk x hx).extn nkn, vd, Tn, fun w2 lw2 Ho no el2 wt2 To => r_weqN (c := true) (wtk.extn (nkn.trans no)) wt2 To (decide_eq_true (by rw [el, el2])) fun Hq nq Tq => ⟨false, rfl, ?_⟩⟩))))
        rw [if_neg Bool.false_ne_true]
        exact ⟨u9, _, _, _, _, _, _, rfl, pen_extn (nkn.trans (no.trans nq)) penk, Tq, by omega, by push_cast; omega⟩
    · obtain ⟨u, z2, z3, z4, z5, z6, z7, rfl, pen2, T2, u0, u1⟩ := hh
      try dsimp only [gName, List.set]
      -- two gates, told
      refine q_asgR (c_out gv1 T2 fun b t1 k1 t2 k2 H6 n6 wt T6 => ?_)
      try dsimp only [gName, List.set]
      have vo := vd_out t1 k1 t2 k2
      refine s_retR (rd_op (tcb_of' (rd_c2 (rd_var rfl (rd_c ⟨b, .str "m", [⟨t1, k1, nPt⟩, ⟨t2, k2, mPt⟩], rfl, wt, .str _, T6, fun x hx => ?_, fun hF => ?_, fun p' hp' ep => ?_⟩)))))
      · rcases List.mem_cons.mp hx with z | z
        · rw [z]
          exact (by decide +kernel : PyData.strOk "n" = true)
        · rw [List.mem_singleton.mp z]
          exact (by decide +kernel : PyData.strOk "m" = true)
      · have : hasG [mPt, nPt] "m" = true := by decide +kernel
        have z : hasG [mPt, nPt] "m" = false := hF
        rw [this] at z
        cases z
      · have e0 : p' = mPt := same_nm vo (mem_gts.mp hp').1 (List.mem_cons_self : mPt ∈ [mPt, nPt]) (V.str.inj ep).symm
        subst e0
        refine ⟨fun h => ?_, fun _ _ h => ?_, fun _ _ _ pw kg kw hpw epw hkg hkw b' m' H7 n7 em wb T7 => ?_⟩
        · exfalso
          rcases h with h | ⟨q', hq', h1, h2⟩
          · exact absurd h (by decide +kernel : ¬ ("n" : Str) = "")
          · have : q' ∈ [mPt, nPt] := hq'
            rcases List.mem_cons.mp this with z | z
            · rw [z] at h2
              exact h2 rfl
            · rw [List.mem_singleton.mp z] at h1
              exact absurd h1 (by decide +kernel : ¬ ("" : Str) = "n")
        · exfalso
          obtain ⟨q', hq', h1, h2⟩ := h
          have : q' ∈ [mPt, nPt] := hq'
          rcases List.mem_cons.mp this with z | z
          · rw [z] at h1
            exact h1 rfl
          · rw [List.mem_singleton.mp z] at h2
            exact absurd h2 (by decide)
        · have e1 : pw = nPt := same_nm vo (mem_gts.mp hpw).1 (List.mem_cons_of_mem _ List.mem_cons_self : nPt ∈ [mPt, nPt]) epw
          subst e1
          cases hkg
          cases hkw
          have em2 : m'.map Pl.p = [⟨some ⟨"far", "both", false, none⟩, "m", "", 5⟩] := by
            rw [em]
            rw [me_out]
            rfl
          refine r_strW wb fun H8 e8 => ⟨rfl, ?_⟩
          have et : wtext m' = "gate m - 5 far/both" := (wtext_p (m' := [⟨0, 0, ⟨some ⟨"far", "both", false, none⟩, "m", "", 5⟩⟩]) em2).trans text_out
          rw [et, decide_eq_true rfl]
          exact k H8
end
end L2.Mj
set_option maxRecDepth 100000
set_option maxHeartbeats 8000000
namespace L2.Mj
open PySem PySem.Spec PyProof.Rows L2 Mx L2.Mb Evl Mv TL LamX Sr Srt SrtO NdefX
section
variable {P : Program} {w : World} {K : W.Frag} {mg : Str → Option Value} {base : Heap} {f : Addr} {fd : FuncData}
theorem ok_xnd {bk : EB} {CE : Addr} (F : FnC K "__init__" "Needed.__init__" s_Needed_init [] f fd) (T : EC K CE f bk) (no : W.findIn K (.ref CE) "name" = some none) : FnOk P w K mg base CX0 1 f fd ["self", "name"] (spI1 CE "name") := by
  refine F.ok sc_Needed_init (fun vs H Q E h => ?_) (fun cdv A outer s H vs Q E hr h => ?_)
  · obtain ⟨a, v, rfl, _⟩ := h
    rfl
  · obtain ⟨a, v, rfl, ha, k⟩ := h
    refine ⟨_, PSs.nox (pss_one (ps_putX (pv 0) (pv 1))), ?_⟩
    exact ⟨v, rfl, _, rfl, a, CE, f, bk, rfl, T, no, .inl ⟨ha, k⟩⟩
theorem ok_xcl {bk : EB} {CE : Addr} (F : FnC K "__init__" "Clash.__init__" s_Clash_init [] f fd) (T : EC K CE f bk) (no : W.findIn K (.ref CE) "number" = some none) : FnOk P w K mg base CX0 1 f fd ["self", "number"] (spI1 CE "number") := by
  refine F.ok sc_Clash_init (fun vs H Q E h => ?_) (fun cdv A outer s H vs Q E hr h => ?_)
  · obtain ⟨a, v, rfl, _⟩ := h
    rfl
  · obtain ⟨a, v, rfl, ha, k⟩ := h
    refine ⟨_, PSs.nox (pss_one (ps_putX (pv 0) (pv 1))), ?_⟩
    exact ⟨v, rfl, _, rfl, a, CE, f, bk, rfl, T, no, .inl ⟨ha, k⟩⟩
end
def gX {α : Type} (us _ms ws : List α) : List α := match ws with
  | [r, t, u, l] => us ++ [l, t, u, r]
  | _ => us
theorem gX_rel {vs mz zs : List V} {us mv ws : List Value} (h1 : Vals vs us) (h2 : Vals mz mv) (h3 : Vals zs ws) : Vals (gX vs mz zs) (gX us mv ws) := by
  cases h3 with
  | nil => exact h1
  | cons a h3 =>
    cases h3 with
    | nil => exact h1
    | cons b h3 =>
      cases h3 with
      | nil => exact h1
      | cons c h3 =>
        cases h3 with
        | nil => exact h1
        | cons d h3 =>
          cases h3 with
          | nil => exact h1.append (.cons d (.cons b (.cons c (.cons a .nil))))
          | cons _ _ => exact h1
section
variable {K : W.Frag} {f : Addr} {fd : FuncData}
theorem kx_of (F : FnC K "__init__" "Kind.__init__" s_Kind_init [("turns", .bl false), ("rests", .non)] f fd) : KX K fd := by
  refine ⟨?_, ?_, ?_, ?_⟩
  · obtain ⟨mv, kb⟩ := FunD.kbinds0 (ps := ["self", "lends", "lets", "turns", "rests"]) F 3 ["turns"] [("rests", .non)] (fun {_} us ms ws => us ++ (ws ++ ms)) (by intro z; cases z) (fun q hq => by simp at hq; simp [hq]) (fun r1 r2 r3 => r1.append (r3.append r2)) (fun D doc pm an cdv ct us mv ws l1 l2 l3 => by
      match us, l1, mv, l2, ws, l3 with
      | [_, _, _], _, [_], _, [_], _ => exact ⟨_, _, _, _, _, _, rfl, rfl, rfl⟩)
    exact ⟨_, _, kb, fun a b c d => rfl⟩
  · obtain ⟨mv, kb⟩ := FunD.kbinds0 (ps := ["self", "lends", "lets", "turns", "rests"]) F 3 ["rests"] [("turns", .bl false)] (fun {_} us ms ws => us ++ (ms ++ ws)) (by intro z; cases z) (fun q hq => by simp at hq; simp [hq]) (fun r1 r2 r3 => r1.append (r2.append r3)) (fun D doc pm an cdv ct us mv ws l1 l2 l3 => by
      match us, l1, mv, l2, ws, l3 with
      | [_, _, _], _, [_], _, [_], _ => exact ⟨_, _, _, _, _, _, rfl, rfl, rfl⟩)
    exact ⟨_, _, kb, fun a b c d => rfl⟩
  · obtain ⟨mv, kb⟩ := FunD.kbinds0 (ps := ["self", "lends", "lets", "turns", "rests"]) F 1 ["rests", "lets", "turns", "lends"] [] gX (by intro z; cases z) (fun q hq => by cases hq) (fun r1 r2 r3 => gX_rel r1 r2 r3) (fun D doc pm an cdv ct us mv ws l1 l2 l3 => by
      match us, l1, mv, l2, ws, l3 with
      | [_], _, [], _, [_, _, _, _], _ => exact rfl)
    exact ⟨_, _, kb, fun a r t u l => rfl⟩
  · obtain ⟨ds, v, b⟩ := FunD.binds0 (ps := ["self", "lends", "lets", "turns", "rests"]) F 3 (by intro z; cases z) rfl (fun D doc pm an cdv ct us ks l1 l2 => by
      match us, l1, ks, l2 with
      | [_, _, _], _, [_, _], _ => exact ⟨_, _, _, _, _, _, rfl, rfl, ⟨_, _, _, _, _, _, rfl, rfl, rfl⟩⟩)
    exact ⟨ds, v, b⟩
end
def gSwap {α : Type} : List α → List α → List α
  | [], [a, b] => [b, a]
  | _, _ => []
theorem gSwap_rel {vs : List V} {us : List Value} {zs : List V} {ws : List Value} (r1 : Vals vs us) (r2 : Vals zs ws) : Vals (gSwap vs zs) (gSwap us ws) := by
  cases r1 with
  | nil =>
    cases r2 with
    | nil => exact .nil
    | cons a h =>
      cases h with
      | nil => exact .nil
      | cons b h =>
        cases h with
        | nil => exact .cons b (.cons a .nil)
        | cons _ _ => exact .nil
  | cons _ _ => exact .nil
theorem kb_swap {K : W.Frag} {f : Addr} {fd : FuncData} (F : FnP K "joined" s_joined f fd) : KBinds K fd p_joined ["gate", "world"] gSwap gSwap := by
  obtain ⟨oc, od, dV, kV, doc, pm, an, cdv, ct, osl, rfl, lk, hcd, hD, hK⟩ := F.ex
  rcases hD with ⟨_, rfl⟩ | ⟨z, _⟩
  · refine ⟨fun s us ws _ hl => ?_, fun r1 r2 => gSwap_rel r1 r2⟩
    match us, ws, hl with
    | [], [_, _], _ => exact .of_eq rfl
  · exact absurd rfl z
end L2.Mj
set_option maxRecDepth 100000
set_option maxHeartbeats 4000000
namespace L2.Mj
open PySem PySem.Spec PyProof.Rows L2 Mx L2.Mb Evl Mv TL LamX
theorem ei_ok {K : W.Frag} {i : Nat} (h : eiB K i = true) (hE : ∃ (fE : Addr) (b : EB), EC K ((hcOf K).at i) fE b) (no : W.findIn K (.ref ((hcOf K).at i)) (fldH i) = some none) : EI K (hcOf K) i :=
  ⟨eib h 0 rfl, eib h 1 rfl, eib h 2 rfl, eib h 3 rfl, eib h 4 rfl, eib h 5 rfl, eib h 6 rfl, eib h 7 rfl, eib h 8 rfl, eib h 9 rfl, eib h 10 rfl, eib h 11 rfl, eib h 12 rfl, eib h 13 rfl, eib h 14 rfl, hE, no⟩
/-! ### all together -/
abbrev TtOf (K : W.Frag) : List (Addr × Str) := [((He.cT K mdA).2, "_in_any_order.<locals>.<lambda>"), ((He.cT K mdR).2, "_law_right.<locals>.<lambda>"), ((He.cT K mdW).2, "law.<locals>.<lambda>")]
theorem kind_n {K : W.Frag} {f : Addr} {fd : FuncData} (F : FnC K "__init__" "Kind.__init__" s_Kind_init [("turns", .bl false), ("rests", .non)] f fd) : ∃ ds, Vals [.bl false, .non] ds ∧ Binds K fd ["self", "lends", "lets", "turns", "rests"] ds := by
  obtain ⟨ds, v, b⟩ := FunD.binds0 (ps := ["self", "lends", "lets", "turns", "rests"]) F 3 (by intro z; cases z) rfl (fun D doc pm an cdv ct us ks l1 l2 => by
    match us, l1, ks, l2 with
    | [_, _, _], _, [_, _], _ => exact ⟨_, _, _, _, _, _, rfl, rfl, ⟨_, _, _, _, _, _, rfl, rfl, rfl⟩⟩)
  exact ⟨ds, v, b⟩
section
variable {P : Program} {w : World} {K : W.Frag} {h : Heap} {mg : Str → Option Value} {f : Addr}
theorem bt_of (X : K.In h) (G : h.Ns mainGlobals mg) (c : SaysY w h K) : Bt mg where
  IndexError := He.free_ok X G (c.d.fact 45 rfl)
  KeyError := He.free_ok X G (c.d.fact 46 rfl)
  LookupError := He.free_ok X G (c.d.fact 47 rfl)
  NotImplemented := He.free_ok X G (c.d.fact 48 rfl)
  OverflowError := He.free_ok X G (c.d.fact 49 rfl)
  RuntimeError := He.free_ok X G (c.d.fact 50 rfl)
  ValueError := He.free_ok X G (c.d.fact 51 rfl)
  abs := He.free_ok X G (c.d.fact 52 rfl)
  all := He.free_ok X G (c.d.fact 53 rfl)
  bool := He.free_ok X G (c.d.fact 54 rfl)
  classmethod := He.free_ok X G (c.d.fact 55 rfl)
  enumerate := He.free_ok X G (c.d.fact 56 rfl)
  int := He.free_ok X G (c.d.fact 57 rfl)
  isinstance := He.free_ok X G (c.d.fact 58 rfl)
  len := He.free_ok X G (c.d.fact 59 rfl)
  list := He.free_ok X G (c.d.fact 60 rfl)
  max := He.free_ok X G (c.d.fact 61 rfl)
  min := He.free_ok X G (c.d.fact 62 rfl)
  property := He.free_ok X G (c.d.fact 63 rfl)
  range := He.free_ok X G (c.d.fact 64 rfl)
  repr := He.free_ok X G (c.d.fact 65 rfl)
  sorted := He.free_ok X G (c.d.fact 66 rfl)
  str := He.free_ok X G (c.d.fact 67 rfl)
  tuple := He.free_ok X G (c.d.fact 68 rfl)
  zip := He.free_ok X G (c.d.fact 69 rfl)
theorem glo_at (X : K.In h) (G : h.Ns mainGlobals mg) (c : He.SaysD faZ fnZ K) (i : Nat) {x : Str} (e : faZ[i]? = some (.glo x)) : mg x = some (.ref (He.ga K x)) := He.glo_ok X G (c.fact i e)
theorem facts (X : K.In h) (G : h.Ns mainGlobals mg) (hfa : mg "law" = some (.ref f)) (c : SaysY w h K) :
    ∃ fd : FuncData, (∀ (s : Shared) (v : Value), BindsTo s fd ⟨[v], []⟩ [("_law_script", v)]) ∧ ∀ base : Heap, K.In base → base.Ns mainGlobals mg → (∀ p ∈ tfZ.map (He.cT K), TabB base mg p.1 p.2) → FnG P w K mg base CX0 11 f fd ["_law_script"] (spLaw K (TtOf K)) := by
  obtain ⟨dis_integer, Fis_integer⟩ := c.t.d.def_ 0 (d := tD "is_integer" 5) rfl
  have bis_integer : Binds K dis_integer p_is_integer [] := Fis_integer.bindsN fun _ _ _ _ _ _ us hl => match us, hl with | [_, _, _], _ => rfl
  have mis_integer : mg "is_integer" = some (.ref (He.ga K "is_integer")) := glo_at X G c.t.d 22 rfl
  obtain ⟨dis_address, Fis_address⟩ := c.t.d.def_ 1 (d := tD "is_address" 6) rfl
  have bis_address : Binds K dis_address p_is_address [] := Fis_address.bindsN fun _ _ _ _ _ _ us hl => match us, hl with | [_], _ => rfl
  have mis_address : mg "is_address" = some (.ref (He.ga K "is_address")) := glo_at X G c.t.d 23 rfl
  obtain ⟨dis_word, Fis_word⟩ := c.t.d.def_ 2 (d := tD "is_word" 7) rfl
  have bis_word : Binds K dis_word p_is_word [] := Fis_word.bindsN fun _ _ _ _ _ _ us hl => match us, hl with | [_], _ => rfl
  have mis_word : mg "is_word" = some (.ref (He.ga K "is_word")) := glo_at X G c.t.d 24 rfl
  obtain ⟨dis_part, Fis_part⟩ := c.t.d.def_ 3 (d := tD "_is_part" 42) rfl
  have bis_part : Binds K dis_part p_is_part [] := Fis_part.bindsN fun _ _ _ _ _ _ us hl => match us, hl with | [_], _ => rfl
  have mis_part : mg "_is_part" = some (.ref (He.ga K "_is_part")) := glo_at X G c.t.d 25 rfl
  obtain ⟨dline_of_part, Fline_of_part⟩ := c.t.d.def_ 4 (d := tD "_line_of_part" 43) rfl
  have bline_of_part : Binds K dline_of_part p_line_of_part [] := Fline_of_part.bindsN fun _ _ _ _ _ _ us hl => match us, hl with | [_], _ => rfl
  have mline_of_part : mg "_line_of_part" = some (.ref (He.ga K "_line_of_part")) := glo_at X G c.t.d 26 rfl
  obtain ⟨dranks, Franks⟩ := c.t.d.def_ 5 (d := tD "_ranks" 36) rfl
  have branks : Binds K dranks p_ranks [] := Franks.bindsN fun _ _ _ _ _ _ us hl => match us, hl with | [_], _ => rfl
  have mranks : mg "_ranks" = some (.ref (He.ga K "_ranks")) := glo_at X G c.t.d 27 rfl
  obtain ⟨din_any_order, Fin_any_order⟩ := c.t.d.def_ 6 (d := tD "_in_any_order" 41) rfl
  have bin_any_order : Binds K din_any_order p_in_any_order [] := Fin_any_order.bindsN fun _ _ _ _ _ _ us hl => match us, hl with | [_], _ => rfl
  have min_any_order : mg "_in_any_order" = some (.ref (He.ga K "_in_any_order")) := glo_at X G c.t.d 28 rfl
  obtain ⟨dkind_of_ranks, Fkind_of_ranks⟩ := c.t.d.def_ 7 (d := tD "_kind_of_ranks" 37) rfl
  have bkind_of_ranks : Binds K dkind_of_ranks p_kind_of_ranks [] := Fkind_of_ranks.bindsN fun _ _ _ _ _ _ us hl => match us, hl with | [_], _ => rfl
  have mkind_of_ranks : mg "_kind_of_ranks" = some (.ref (He.ga K "_kind_of_ranks")) := glo_at X G c.t.d 29 rfl
  obtain ⟨daddresses_but, Faddresses_but⟩ := c.t.d.def_ 8 (d := tD "_addresses_but" 48) rfl
  have baddresses_but : Binds K daddresses_but p_addresses_but [] := Faddresses_but.bindsN fun _ _ _ _ _ _ us hl => match us, hl with | [_, _], _ => rfl
  have maddresses_but : mg "_addresses_but" = some (.ref (He.ga K "_addresses_but")) := glo_at X G c.t.d 30 rfl
  obtain ⟨djoined, Fjoined⟩ := c.t.d.def_ 9 (d := tD "joined" 47) rfl
  have bjoined : Binds K djoined p_joined [] := Fjoined.bindsN fun _ _ _ _ _ _ us hl => match us, hl with | [_, _], _ => rfl
  have mjoined : mg "joined" = some (.ref (He.ga K "joined")) := glo_at X G c.t.d 31 rfl
  obtain ⟨dl_pen, Fl_pen⟩ := c.t.d.def_ 10 (d := tD "_law_pen" 50) rfl
  have bl_pen : Binds K dl_pen p_law_pen [] := Fl_pen.bindsN fun _ _ _ _ _ _ us hl => match us, hl with | [_], _ => rfl
  have ml_pen : mg "_law_pen" = some (.ref (He.ga K "_law_pen")) := glo_at X G c.t.d 32 rfl
  obtain ⟨dl_draw, Fl_draw⟩ := c.t.d.def_ 11 (d := tD "_law_draw" 51) rfl
  have bl_draw : Binds K dl_draw p_law_draw [] := Fl_draw.bindsN fun _ _ _ _ _ _ us hl => match us, hl with | [_, _], _ => rfl
  have ml_draw : mg "_law_draw" = some (.ref (He.ga K "_law_draw")) := glo_at X G c.t.d 33 rfl
  obtain ⟨dl_letters, Fl_letters⟩ := c.t.d.def_ 12 (d := tD "_law_letters" 52) rfl
  have bl_letters : Binds K dl_letters p_law_letters [] := Fl_letters.bindsN fun _ _ _ _ _ _ us hl => match us, hl with | [_, _, _], _ => rfl
  have ml_letters : mg "_law_letters" = some (.ref (He.ga K "_law_letters")) := glo_at X G c.t.d 34 rfl
  obtain ⟨dl_sort, Fl_sort⟩ := c.t.d.def_ 13 (d := tD "_law_sort" 53) rfl
  have bl_sort : Binds K dl_sort p_law_sort [] := Fl_sort.bindsN fun _ _ _ _ _ _ us hl => match us, hl with | [_], _ => rfl
  have ml_sort : mg "_law_sort" = some (.ref (He.ga K "_law_sort")) := glo_at X G c.t.d 35 rfl
  obtain ⟨dl_parts, Fl_parts⟩ := c.t.d.def_ 14 (d := tD "_law_parts" 54) rfl
  have bl_parts : Binds K dl_parts p_law_parts [] := Fl_parts.bindsN fun _ _ _ _ _ _ us hl => match us, hl with | [_, _, _], _ => rfl
  have ml_parts : mg "_law_parts" = some (.ref (He.ga K "_law_parts")) := glo_at X G c.t.d 36 rfl
  obtain ⟨dl_world, Fl_world⟩ := c.t.d.def_ 15 (d := tD "_law_world" 55) rfl
  have bl_world : Binds K dl_world p_law_world [] := Fl_world.bindsN fun _ _ _ _ _ _ us hl => match us, hl with | [_], _ => rfl
  have ml_world : mg "_law_world" = some (.ref (He.ga K "_law_world")) := glo_at X G c.t.d 37 rfl
  obtain ⟨dl_mixed, Fl_mixed⟩ := c.t.d.def_ 16 (d := tD "_law_mixed" 56) rfl
  have bl_mixed : Binds K dl_mixed p_law_mixed [] := Fl_mixed.bindsN fun _ _ _ _ _ _ us hl => match us, hl with | [_, _], _ => rfl
  have ml_mixed : mg "_law_mixed" = some (.ref (He.ga K "_law_mixed")) := glo_at X G c.t.d 38 rfl
  obtain ⟨dl_heard, Fl_heard⟩ := c.t.d.def_ 17 (d := tD "_law_heard" 57) rfl
  have bl_heard : Binds K dl_heard p_law_heard [] := Fl_heard.bindsN fun _ _ _ _ _ _ us hl => match us, hl with | [_], _ => rfl
  have ml_heard : mg "_law_heard" = some (.ref (He.ga K "_law_heard")) := glo_at X G c.t.d 39 rfl
  obtain ⟨dl_twos, Fl_twos⟩ := c.t.d.def_ 18 (d := tD "_law_twos" 58) rfl
  have bl_twos : Binds K dl_twos p_law_twos [] := Fl_twos.bindsN fun _ _ _ _ _ _ us hl => match us, hl with | [_, _], _ => rfl
  have ml_twos : mg "_law_twos" = some (.ref (He.ga K "_law_twos")) := glo_at X G c.t.d 40 rfl
  obtain ⟨dl_stricter, Fl_stricter⟩ := c.t.d.def_ 19 (d := tD "_law_stricter" 59) rfl
  have bl_stricter : Binds K dl_stricter p_law_stricter [] := Fl_stricter.bindsN fun _ _ _ _ _ _ us hl => match us, hl with | [_, _], _ => rfl
  have ml_stricter : mg "_law_stricter" = some (.ref (He.ga K "_law_stricter")) := glo_at X G c.t.d 41 rfl
  obtain ⟨dl_due, Fl_due⟩ := c.t.d.def_ 20 (d := tD "_law_due" 60) rfl
  have bl_due : Binds K dl_due p_law_due [] := Fl_due.bindsN fun _ _ _ _ _ _ us hl => match us, hl with | [_, _], _ => rfl
  have ml_due : mg "_law_due" = some (.ref (He.ga K "_law_due")) := glo_at X G c.t.d 42 rfl
  obtain ⟨dl_right, Fl_right⟩ := c.t.d.def_ 21 (d := tD "_law_right" 61) rfl
  have bl_right : Binds K dl_right p_law_right [] := Fl_right.bindsN fun _ _ _ _ _ _ us hl => match us, hl with | [_, _, _], _ => rfl
  have ml_right : mg "_law_right" = some (.ref (He.ga K "_law_right")) := glo_at X G c.t.d 43 rfl
  obtain ⟨dlaw, Flaw⟩ := c.t.d.def_ 22 (d := tD "law" 62) rfl
  have blaw : Binds K dlaw p_law [] := Flaw.bindsN fun _ _ _ _ _ _ us hl => match us, hl with | [_], _ => rfl
  have mlaw : mg "law" = some (.ref (He.ga K "law")) := glo_at X G c.t.d 44 rfl
  obtain ⟨dinit, Finit⟩ := c.t.d.def_ 23 (d := mD "Kind" "__init__" s_Kind_init [("turns", .bl false), ("rests", .non)]) rfl
  obtain ⟨deq, Feq⟩ := c.t.d.def_ 24 (d := mD "Kind" "__eq__" s_Kind_eq []) rfl
  have beq : Binds K deq ["self", "other"] [] := Feq.bindsN fun _ _ _ _ _ _ us hl => match us, hl with | [_, _], _ => rfl
  obtain ⟨dstr, Fstr⟩ := c.t.d.def_ 25 (d := mD "Kind" "__str__" s_Kind_str []) rfl
  have bstr : Binds K dstr ["self"] [] := Fstr.bindsN fun _ _ _ _ _ _ us hl => match us, hl with | [_], _ => rfl
  obtain ⟨dand, Fand⟩ := c.t.d.def_ 26 (d := mD "Kind" "__and__" s_Kind_and []) rfl
  have band : Binds K dand ["self", "other"] [] := Fand.bindsN fun _ _ _ _ _ _ us hl => match us, hl with | [_, _], _ => rfl
  obtain ⟨dxi, Fxi⟩ := c.t.d.def_ 27 (d := mD "InvalidKind" "__init__" s_InvalidKind_init []) rfl
  have bxi : Binds K dxi ["self", "place"] [] := Fxi.bindsN fun _ _ _ _ _ _ us hl => match us, hl with | [_, _], _ => rfl
  obtain ⟨dxs, Fxs⟩ := c.t.d.def_ 28 (d := mD "NoStation" "__init__" s_NoStation_init []) rfl
  have bxs : Binds K dxs ["self", "name"] [] := Fxs.bindsN fun _ _ _ _ _ _ us hl => match us, hl with | [_, _], _ => rfl
  obtain ⟨dxn, Fxn⟩ := c.t.d.def_ 29 (d := mD "Needed" "__init__" s_Needed_init []) rfl
  have bxn : Binds K dxn ["self", "name"] [] := Fxn.bindsN fun _ _ _ _ _ _ us hl => match us, hl with | [_, _], _ => rfl
  obtain ⟨dxc, Fxc⟩ := c.t.d.def_ 30 (d := mD "Clash" "__init__" s_Clash_init []) rfl
  have bxc : Binds K dxc ["self", "number"] [] := Fxc.bindsN fun _ _ _ _ _ _ us hl => match us, hl with | [_, _], _ => rfl
  obtain ⟨dwin, Fwin⟩ := c.t.d.def_ 31 (d := mD "World" "__init__" s_World_init []) rfl
  obtain ⟨dwcp, Fwcp⟩ := c.t.d.def_ 32 (d := mD "World" "_check_place" s_World_check_place []) rfl
  have bwcp : Binds K dwcp ["self", "index", "part"] [] := Fwcp.bindsN fun _ _ _ _ _ _ us hl => match us, hl with | [_, _, _], _ => rfl
  obtain ⟨dwcn, Fwcn⟩ := c.t.d.def_ 33 (d := mD "World" "_check_number" s_World_check_number []) rfl
  have bwcn : Binds K dwcn ["self", "index", "part"] [] := Fwcn.bindsN fun _ _ _ _ _ _ us hl => match us, hl with | [_, _, _], _ => rfl
  obtain ⟨dwtk, Fwtk⟩ := c.t.d.def_ 34 (d := mD "World" "_take" s_World_take []) rfl
  have bwtk : Binds K dwtk ["self", "part"] [] := Fwtk.bindsN fun _ _ _ _ _ _ us hl => match us, hl with | [_, _], _ => rfl
  obtain ⟨dwwp, Fwwp⟩ := c.t.d.def_ 35 (d := mD "World" "with_part" s_World_with_part []) rfl
  have bwwp : Binds K dwwp ["self", "part"] [] := Fwwp.bindsN fun _ _ _ _ _ _ us hl => match us, hl with | [_, _], _ => rfl
  obtain ⟨dwct, Fwct⟩ := c.t.d.def_ 36 (d := mD "World" "__contains__" s_World_contains []) rfl
  have bwct : Binds K dwct ["self", "x"] [] := Fwct.bindsN fun _ _ _ _ _ _ us hl => match us, hl with | [_, _], _ => rfl
  obtain ⟨dwkd, Fwkd⟩ := c.t.d.def_ 37 (d := mD "World" "kind" s_World_kind []) rfl
  have bwkd : Binds K dwkd ["self", "gate"] [] := Fwkd.bindsN fun _ _ _ _ _ _ us hl => match us, hl with | [_, _], _ => rfl
  obtain ⟨dwcr, Fwcr⟩ := c.t.d.def_ 38 (d := mD "World" "_check_realm" s_World_check_realm []) rfl
  have bwcr : Binds K dwcr ["self", "realm"] [] := Fwcr.bindsN fun _ _ _ _ _ _ us hl => match us, hl with | [_, _], _ => rfl
  obtain ⟨dwss, Fwss⟩ := c.t.d.def_ 39 (d := mD "World" "stations" s_World_stations []) rfl
  have bwss : Binds K dwss ["self", "realm"] [] := Fwss.bindsN fun _ _ _ _ _ _ us hl => match us, hl with | [_, _], _ => rfl
  obtain ⟨dweq, Fweq⟩ := c.t.d.def_ 40 (d := mD "World" "__eq__" s_World_eq []) rfl
  have bweq : Binds K dweq ["self", "other"] [] := Fweq.bindsN fun _ _ _ _ _ _ us hl => match us, hl with | [_, _], _ => rfl
  obtain ⟨dwstr, Fwstr⟩ := c.t.d.def_ 41 (d := mD "World" "__str__" s_World_str []) rfl
  have bwstr : Binds K dwstr ["self"] [] := Fwstr.bindsN fun _ _ _ _ _ _ us hl => match us, hl with | [_], _ => rfl
  obtain ⟨dwad, Fwad⟩ := c.t.d.def_ 42 (d := mD "World" "address" s_World_address []) rfl
  have bwad : Binds K dwad ["self", "name"] [] := Fwad.bindsN fun _ _ _ _ _ _ us hl => match us, hl with | [_, _], _ => rfl
  obtain ⟨dwre, Fwre⟩ := c.t.d.def_ 43 (d := mD "World" "realm" s_World_realm []) rfl
  have bwre : Binds K dwre ["self", "name"] [] := Fwre.bindsN fun _ _ _ _ _ _ us hl => match us, hl with | [_, _], _ => rfl
  cases hfa.symm.trans mlaw
  have bl := FunD.bindsA (ps := ["_law_script"]) Flaw fun _ _ _ _ _ _ us hl => match us, hl with | [_], _ => rfl
  refine ⟨dlaw, fun s v => bl s [v] rfl, fun base KB NB hTB => ?_⟩
  have B := bt_of X G c
  have q := c.more
  have sys : SysD K := sysB_ok (bit q 0 rfl)
  obtain ⟨t1, c1⟩ := He.int_ok X G (c.d.fact 70 rfl)
  obtain ⟨t2, c2⟩ := He.int_ok X G (c.d.fact 71 rfl)
  obtain ⟨t3, c3⟩ := He.int_ok X G (c.d.fact 72 rfl)
  obtain ⟨t4, c4⟩ := He.int_ok X G (c.d.fact 73 rfl)
  obtain ⟨t5, c5⟩ := He.str_ok X G (c.d.fact 74 rfl)
  have T : KF K mg (KA K) (.type "type") (kA K "LENDS") (kA K "LETS") := ⟨glo_at X G c.d 0 rfl, He.cls_ok (c.d.fact 75 rfl), He.noat_ok (c.d.fact 77 rfl), He.noat_ok (c.d.fact 78 rfl), He.noat_ok (c.d.fact 79 rfl),
    He.noat_ok (c.d.fact 80 rfl), crB_ok (bit q 2 rfl), cvB_ok (bit q 4 rfl), cvB_ok (bit q 5 rfl), fun H => tpB_ok (bit q 6 rfl) H, fun H => tpB_ok (bit q 7 rfl) H, He.keep_ok (c.d.fact 91 rfl)⟩
  have TW : WF K mg (WA K) (.type "type") := ⟨glo_at X G c.d 1 rfl, He.cls_ok (c.d.fact 76 rfl), He.noat_ok (c.d.fact 81 rfl), He.noat_ok (c.d.fact 82 rfl), He.noat_ok (c.d.fact 83 rfl),
    He.noat_ok (c.d.fact 84 rfl), He.noat_ok (c.d.fact 85 rfl), He.noat_ok (c.d.fact 86 rfl), He.noat_ok (c.d.fact 87 rfl), He.noat_ok (c.d.fact 88 rfl), crB_ok (bit q 3 rfl), ciB_ok (bit q 8 rfl), ciB_ok (bit q 9 rfl), ciB_ok (bit q 10 rfl)⟩
  -- the package's functions
  have Di : Fn0 P w K mg base "is_integer" 1 _ dis_integer p_is_integer spIntA := ⟨ok_is_integer B Fis_integer, mis_integer, Fis_integer.kp, bis_integer⟩
  have Da : Fn0 P w K mg base "is_address" 2 _ dis_address p_is_address spAdr := ⟨ok_is_address c4 Di Fis_address, mis_address, Fis_address.kp, bis_address⟩
  have Dw : Fn0 P w K mg base "is_word" 1 _ dis_word p_is_word spWrd := ⟨ok_is_word B c3 c5 Fis_word, mis_word, Fis_word.kp, bis_word⟩
  obtain ⟨ec, ety, eno⟩ := ecB_ok (bit q 13 rfl)
  obtain ⟨sc, sty, sno⟩ := ecB_ok (bit q 14 rfl)
  obtain ⟨nc, nty, nno⟩ := ecB_ok (bit q 15 rfl)
  obtain ⟨lc, lty, lno⟩ := ecB_ok (bit q 16 rfl)
  have XE : XT P w K mg base (He.ga K "InvalidKind") (He.ma K (He.ga K "InvalidKind") "__init__") dxi := ⟨ec, ety, glo_at X G c.d 20 rfl, ok_xk Fxi ec eno, bxi, eno⟩
  have XS : X1 P w K mg base "NoStation" "name" .key (He.ga K "NoStation") (He.ma K (He.ga K "NoStation") "__init__") dxs := ⟨sc, sty, glo_at X G c.d 4 rfl, ok_xns Fxs sc sno, bxs, sno⟩
  have XN : X1 P w K mg base "Needed" "name" .val (He.ga K "Needed") (He.ma K (He.ga K "Needed") "__init__") dxn := ⟨nc, nty, glo_at X G c.d 11 rfl, ok_xnd Fxn nc nno, bxn, nno⟩
  have XC : X1 P w K mg base "Clash" "number" .val (He.ga K "Clash") (He.ma K (He.ga K "Clash") "__init__") dxc := ⟨lc, lty, glo_at X G c.d 12 rfl, ok_xcl Fxc lc lno, bxc, lno⟩
  have mKd : mg "Kind" = some (.ref (KA K)) := glo_at X G c.d 0 rfl
  have okI : FnOk P w K mg base (L2.CX P w) 3 (kA K "__init__") dinit ["self", "lends", "lets", "turns", "rests"] (spInit (KA K) (He.ga K "InvalidKind")) := ok_init B T XE c1 c2 Di Finit
  obtain ⟨mv, kb⟩ := FunD.kbinds0 (ps := ["self", "lends", "lets", "turns", "rests"]) Finit 3 ["turns", "rests"] [] (fun {_} us _ ws => us ++ ws) (by intro z; cases z) (fun _ hq => by cases hq) (fun r1 _ r2 => r1.append r2) (fun D doc pm an cdv ct us mv ws l1 l2 l3 => by
    match us, l1, mv, l2, ws, l3 with
    | [_, _, _], _, [], _, [_, _], _ => exact rfl)
  have M : KM P w K mg base (KA K) (He.ga K "InvalidKind") (kA K "__init__") dinit _ _ := ⟨He.mkr_ok (c.d.fact 89 rfl), okI, kb, fun _ _ _ _ _ => rfl⟩
  obtain ⟨i1, i2⟩ := He.ba (bit q 11 (b := inB K) rfl)
  obtain ⟨i3, i4⟩ := He.ba i2
  have IC : C8.InsC K (KA K) := ⟨T.cl, He.eqO_ok i1, ec.gs, ec.tk, of_decide_eq_true i3, of_decide_eq_true i4⟩
  have I : IK K (KA K) := ⟨IC, fun t ht => of_decide_eq_true (List.all_eq_true.mp (bit q 12 (b := otB K) rfl) t ht)⟩
  obtain ⟨j1, j2⟩ := He.ba (bit q 25 (b := inW K) rfl)
  obtain ⟨j3, j4⟩ := He.ba j2
  have JC : C8.InsC K (WA K) := ⟨TW.cl, He.eqO_ok j1, ec.gs, ec.tk, of_decide_eq_true j3, of_decide_eq_true j4⟩
  have IW : IK K (WA K) := ⟨JC, fun t ht => of_decide_eq_true (List.all_eq_true.mp (bit q 26 (b := otW K) rfl) t ht)⟩
  have Dp : Fn0 P w K mg base "_is_part" 3 _ dis_part p_is_part (spPrt K (KA K)) := ⟨ok_is_part B T I Dw Da Fis_part, mis_part, Fis_part.kp, bis_part⟩
  have getD : ∀ (i : Nat) {d : DefA}, fnY[i]? = some d → ∃ fd, FunD K d.name d.qual (defArgs d.st) (defBody d.st) (defScope d.st) [] [] (d.at_ K) fd := fun i {d} e => by
    have z : (fnY.map fun d => fnA K (d.at_ K))[i]? = (fnY.map DefA.want)[i]? := by rw [c.fs]
    rw [List.getElem?_map, List.getElem?_map, e] at z
    exact fnA_ok (Option.some.inj z) (List.all_eq_true.mp (bit q 18 rfl) d (List.mem_of_getElem? e))
  obtain ⟨dg0, Fg0⟩ := getD 0 rfl
  obtain ⟨dg2, Fg2⟩ := getD 1 rfl
  obtain ⟨dg3, Fg3⟩ := getD 2 rfl
  obtain ⟨dg4, Fg4⟩ := getD 3 rfl
  obtain ⟨dg5, Fg5⟩ := getD 4 rfl
  obtain ⟨dg6, Fg6⟩ := getD 5 rfl
  have PG : Prp P w K mg base (WA K) "gates" 1 (spFd (WA K) "_gates") := ⟨_, _, dg0, prB_ok (bit q 1 rfl), ok_pgates TW Fg0, Fg0.bindsN fun _ _ _ _ _ _ us hl => match us, hl with | [_], _ => rfl⟩
  have PP : Prp P w K mg base (WA K) "parts" 1 (spFd (WA K) "_parts") := ⟨_, _, dg2, prB_ok (bit q 19 rfl), ok_pparts TW Fg2, Fg2.bindsN fun _ _ _ _ _ _ us hl => match us, hl with | [_], _ => rfl⟩
  have pL : KP P w K mg base (KA K) "lends" fun k => .str k.le := ⟨_, _, dg3, prB_ok (bit q 20 rfl), ok_lends T Fg3, Fg3.bindsN fun _ _ _ _ _ _ us hl => match us, hl with | [_], _ => rfl⟩
  have pT : KP P w K mg base (KA K) "lets" fun k => .str k.lt := ⟨_, _, dg4, prB_ok (bit q 21 rfl), ok_lets T Fg4, Fg4.bindsN fun _ _ _ _ _ _ us hl => match us, hl with | [_], _ => rfl⟩
  have pU : KP P w K mg base (KA K) "turns" fun k => .bl k.tu := ⟨_, _, dg5, prB_ok (bit q 22 rfl), ok_turns T Fg5, Fg5.bindsN fun _ _ _ _ _ _ us hl => match us, hl with | [_], _ => rfl⟩
  have pQ : KP P w K mg base (KA K) "rests" fun k => optV k.re := ⟨_, _, dg6, prB_ok (bit q 23 rfl), ok_rests T Fg6, Fg6.bindsN fun _ _ _ _ _ _ us hl => match us, hl with | [_], _ => rfl⟩
  obtain ⟨es, n, kd⟩ := c.t.tab 0 rfl
  have L : LO w K mg (He.ga K "LOOSE") es n := ⟨glo_at X G c.d 2 rfl, kd, fun x hx => by
    have v := bit q 24 rfl
    simp only [List.mem_cons, List.not_mem_nil, or_false] at hx
    rcases hx with rfl | rfl | rfl | rfl
    · obtain ⟨u, e, t, rfl⟩ := He.valsB_ok v (q := ("both", .int 0)) (by simp)
      exact ⟨t, e⟩
    · obtain ⟨u, e, t, rfl⟩ := He.valsB_ok v (q := ("far", .int 1)) (by simp)
      exact ⟨t, e⟩
    · obtain ⟨u, e, t, rfl⟩ := He.valsB_ok v (q := ("one", .int 2)) (by simp)
      exact ⟨t, e⟩
    · obtain ⟨u, e, t, rfl⟩ := He.valsB_ok v (q := ("any", .int 2)) (by simp)
      exact ⟨t, e⟩⟩
  have Dr : Fn0 P w K mg base "_ranks" 3 _ dranks p_ranks (spRanks (KA K)) := ⟨ok_ranks B T L c2 pL pT pU pQ Franks, mranks, Franks.kp, branks⟩
  have mK := He.meth_ok (c.d.fact 92 rfl)
  have oK := ok_eq B T I Dr (P := P) (w := w) (base := base) Feq
  have QK : OwnF P w K mg base (KA K) "__eq__" 4 ["self", "other"] (spEqA (KA K)) (kA K "__eq__") deq := ⟨oK, beq, mK.at_, mK.fn⟩
  have Dk : Fn0 P w K mg base "_kind_of_ranks" 5 _ dkind_of_ranks p_kind_of_ranks (spKOR (KA K)) := ⟨ok_kor T M c2 Fkind_of_ranks, mkind_of_ranks, Fkind_of_ranks.kp, bkind_of_ranks⟩
  have Mo : Mro1 K (KA K) := moB_ok (bit q 29 rfl)
  obtain ⟨a1, a2, a3⟩ := He.meth_ok (c.d.fact 93 rfl)
  have O : OW P w K mg base (KA K) "__and__" 6 (kA K "__and__") dand (spTwo (KA K) me) := ⟨ok_and B T I Dr Dk Fand, band, a1, a2⟩
  -- the world's methods
  have M1 : Mt P w K mg base (WA K) "_check_place" 1 ["self", "index", "part"] (spCP K (WA K) (KA K)) (He.ma K (WA K) "_check_place") dwcp := ⟨He.meth_ok (c.d.fact 95 rfl), ok_check_place TW Fwcp, bwcp⟩
  have M2 : Mt P w K mg base (WA K) "_check_number" 1 ["self", "index", "part"] (spCP K (WA K) (KA K)) (He.ma K (WA K) "_check_number") dwcn := ⟨He.meth_ok (c.d.fact 96 rfl), ok_check_number B TW Fwcn, bwcn⟩
  have M3 : Mt P w K mg base (WA K) "_take" 1 ["self", "part"] (spTk K (WA K) (KA K)) (He.ma K (WA K) "_take") dwtk := ⟨He.meth_ok (c.d.fact 97 rfl), ok_take TW Fwtk, bwtk⟩
  have MW : WMk P w K mg base (WA K) (KA K) (TtOf K) (He.ma K (WA K) "__init__") := by
    have hw := bit q 17 (b := wiB K) rfl
    unfold wiB at hw
    obtain ⟨oc, od, dV, kV, doc, pm, an, cdv, ct, osl, rfl, lk, hcd, hD, _⟩ := Fwin.ex
    rcases hD with ⟨_, rfl⟩ | ⟨z, _⟩
    · replace lk : K.lookup (He.ma K (WA K) "__init__") = _ := lk
      rw [lk] at hw
      have hk : kV = .none := of_decide_eq_true hw
      subst hk
      obtain ⟨cc, rfl⟩ := He.codeIn_ref hcd
      exact ⟨He.mkr_ok (c.d.fact 90 rfl), ok_winit B TW Dp M1 M2 M3 lk hcd⟩
    · exact absurd rfl z
  have MP : Mt P w K mg base (WA K) "with_part" 7 ["self", "part"] (spWith K (WA K) (KA K) (TtOf K)) (He.ma K (WA K) "with_part") dwwp := ⟨He.meth_ok (c.d.fact 98 rfl), ok_with_part TW MW Fwwp, bwwp⟩
  have MC : Mt P w K mg base (WA K) "__contains__" 1 ["self", "x"] (spCt K (WA K) (KA K)) (He.ma K (WA K) "__contains__") dwct := ⟨He.meth_ok (c.d.fact 99 rfl), ok_contains B TW Fwct, bwct⟩
  have MK : MtE P w K mg base (WA K) "kind" 3 ["self", "gate"] (spNm K (WA K) (KA K) (He.ga K "NoStation") hasG fun rs z v H' => ∃ p ∈ gts rs, p.nm = z ∧ ∃ k ka, p.kd = some k ∧ v = .ref ka ∧ KAt (KA K) H' ka k) (He.ma K (WA K) "kind") dwkd := ⟨He.meth_ok (c.d.fact 100 rfl), ok_kind_e B TW XS Fwkd, bwkd⟩
  have MCR : MtE P w K mg base (WA K) "_check_realm" 3 ["self", "realm"] (spCRe K (WA K) (KA K) (He.ga K "NoStation")) (He.ma K (WA K) "_check_realm") dwcr := ⟨He.meth_ok (c.d.fact 101 rfl), ok_check_realm_e B TW XS Fwcr, bwcr⟩
  have MSS : MtE P w K mg base (WA K) "stations" 5 ["self", "realm"] (spSts K (WA K) (KA K) (He.ga K "NoStation")) (He.ma K (WA K) "stations") dwss := ⟨He.meth_ok (c.d.fact 102 rfl), ok_stations_e B TW MCR Fwss, bwss⟩
  have MA : MtE P w K mg base (WA K) "address" 3 ["self", "name"] (spNm K (WA K) (KA K) (He.ga K "NoStation") hasN fun rs z v _ => ∃ p ∈ rs, p.nm = z ∧ v = .int p.ad) (He.ma K (WA K) "address") dwad := ⟨He.meth_ok (c.d.fact 105 rfl), ok_address_e B TW XS Fwad, bwad⟩
  have MR : MtE P w K mg base (WA K) "realm" 3 ["self", "name"] (spNm K (WA K) (KA K) (He.ga K "NoStation") hasN fun rs z v _ => ∃ p ∈ rs, p.nm = z ∧ v = .str p.rl) (He.ma K (WA K) "realm") dwre := ⟨He.meth_ok (c.d.fact 106 rfl), ok_realm_e TW XS MC Fwre, bwre⟩
  have n1 : (He.cT K mdA).2 ≠ (He.cT K mdR).2 := of_decide_eq_true (bit q 33 rfl)
  have n2 : (He.cT K mdA).2 ≠ (He.cT K mdW).2 := of_decide_eq_true (bit q 34 rfl)
  have n3 : (He.cT K mdR).2 ≠ (He.cT K mdW).2 := of_decide_eq_true (bit q 35 rfl)
  have DAo : Fn0 P w K mg base "_in_any_order" 5 (He.ga K "_in_any_order") din_any_order p_in_any_order (spAny K (WA K) (KA K) (TtOf K)) := by
    have hw := bit q 27 (b := aoB K) rfl
    unfold aoB at hw
    have kp := Fin_any_order.kp
    obtain ⟨oc, od, dV, kV, doc, pm, an, cdv, ct, osl, rfl, lk, hcd, hD, _⟩ := Fin_any_order.ex
    rcases hD with ⟨_, rfl⟩ | ⟨z, _⟩
    · replace lk : K.lookup (He.ga K "_in_any_order") = _ := lk
      rw [lk] at hw
      have hk : kV = .none := of_decide_eq_true hw
      subst hk
      obtain ⟨cc, rfl⟩ := He.codeIn_ref hcd
      have ce : He.codeOf K mdA = cc := He.codeOf_eq lk rfl
      have tb := hTB (He.cT K mdA) (List.mem_map.mpr ⟨mdA, by simp, rfl⟩)
      rw [show (He.cT K mdA).1 = cc from ce] at tb
      exact ⟨ok_any_order B TW PP lk hcd tb (by simp) (fun p hp e => by
        simp only [List.mem_cons, List.not_mem_nil, or_false] at hp
        rcases hp with rfl | rfl | rfl
        · rfl
        · exact absurd e.symm n1
        · exact absurd e.symm n2), min_any_order, kp, bin_any_order⟩
    · exact absurd rfl z
  have mE := He.meth_ok (c.d.fact 103 rfl)
  have QE : OwnF P w K mg base (WA K) "__eq__" 7 ["self", "other"] (spWEq K (WA K) (KA K) (TtOf K)) (He.ma K (WA K) "__eq__") dweq := ⟨ok_weq B TW IW QK DAo Fweq, bweq, mE.at_, mE.fn⟩
  have QN := He.eqO_ok (bit q 28 (b := He.eqO (W.findIn K (.ref (WA K)) "__ne__") (some (some (.builtin "object.__ne__")))) rfl)
  have QO : W.mroIn K (WA K) (.type "object") = some true := of_decide_eq_true j3
  obtain ⟨s1, s2, s3⟩ := He.meth_ok (c.d.fact 94 rfl)
  have SK : StrF P w K mg base (KA K) 1 (spText (KA K) Kd.text) (kA K "__str__") dstr := ⟨ok_str B T Fstr, s1, s2, bstr⟩
  have Dl : Fn0 P w K mg base "_line_of_part" 4 _ dline_of_part p_line_of_part (spLn K (KA K)) := ⟨ok_line_of_part B SK Fline_of_part, mline_of_part, Fline_of_part.kp, bline_of_part⟩
  obtain ⟨w1, w2, w3⟩ := He.meth_ok (c.d.fact 104 rfl)
  have WS : StrF P w K mg base (WA K) 5 (spWS K (WA K) (KA K)) (He.ma K (WA K) "__str__") dwstr := ⟨ok_wstr TW Dl Fwstr, w1, w2, bwstr⟩
  have DAb : Fn0 P w K mg base "_addresses_but" 3 _ daddresses_but p_addresses_but (spAB K (WA K) (KA K)) := ⟨ok_addresses_but TW PP Faddresses_but, maddresses_but, Faddresses_but.kp, baddresses_but⟩
  have DJ : FnE0 P w K mg base "joined" 7 _ djoined p_joined (spJo K (WA K) (KA K) (hcOf K).S (hcOf K).N (hcOf K).L (TtOf K)) := ⟨ok_joined B TW MW Mo XS XN XC PG PP DAb MR MSS MA MK O Fjoined, mjoined, Fjoined.kp, bjoined⟩
  have Z : HF mg (hcOf K) := ⟨glo_at X G c.d 3 rfl, glo_at X G c.d 4 rfl, glo_at X G c.d 5 rfl, glo_at X G c.d 6 rfl, glo_at X G c.d 7 rfl, glo_at X G c.d 8 rfl, glo_at X G c.d 9 rfl, glo_at X G c.d 10 rfl, glo_at X G c.d 11 rfl, glo_at X G c.d 12 rfl, glo_at X G c.d 13 rfl, glo_at X G c.d 14 rfl, glo_at X G c.d 15 rfl, glo_at X G c.d 16 rfl, glo_at X G c.d 17 rfl, glo_at X G c.d 18 rfl, glo_at X G c.d 19 rfl, glo_at X G c.d 20 rfl, glo_at X G c.d 21 rfl⟩
  have J8 : ∀ i ∈ ([0, 1, 2] : List Nat), i < 8 ∧ EI K (hcOf K) i := fun i hi => by
    simp only [List.mem_cons, List.not_mem_nil, or_false] at hi
    rcases hi with rfl | rfl | rfl
    · exact ⟨by decide, ei_ok (bit q 30 (b := eiB K 0) rfl) ⟨_, _, sc⟩ sno⟩
    · exact ⟨by decide, ei_ok (bit q 31 (b := eiB K 1) rfl) ⟨_, _, nc⟩ nno⟩
    · exact ⟨by decide, ei_ok (bit q 32 (b := eiB K 2) rfl) ⟨_, _, lc⟩ lno⟩
  -- the law's own functions
  have DH : HD K mg (He.ga K "_law_heard") dl_heard := ⟨Fl_heard, ml_heard, bl_heard⟩
  have DPn : Fn0 P w K mg base "_law_pen" 1 _ dl_pen p_law_pen (spPen K) := ⟨ok_pen B Fl_pen, ml_pen, Fl_pen.kp, bl_pen⟩
  have DD : Fn0 P w K mg base "_law_draw" 1 _ dl_draw p_law_draw spTake := ⟨ok_draw B Fl_draw, ml_draw, Fl_draw.kp, bl_draw⟩
  have DN : Fn0 P w K mg base "_law_letters" 2 _ dl_letters p_law_letters spLtr := ⟨ok_letters B DD Fl_letters, ml_letters, Fl_letters.kp, bl_letters⟩
  have DS : Fn0 P w K mg base "_law_sort" 2 _ dl_sort p_law_sort spSort := ⟨ok_sort B DD Fl_sort, ml_sort, Fl_sort.kp, bl_sort⟩
  have DL : Fn0 P w K mg base "_law_parts" 3 _ dl_parts p_law_parts spLP := ⟨ok_lparts B DD DN DS Fl_parts, ml_parts, Fl_parts.kp, bl_parts⟩
  have DW : Fn0 P w K mg base "_law_world" 8 _ dl_world p_law_world (spWld K (WA K) (KA K) (TtOf K)) := ⟨ok_lworld B TW MW T M MP Fl_world, ml_world, Fl_world.kp, bl_world⟩
  have DM : Fn0 P w K mg base "_law_mixed" 3 _ dl_mixed p_law_mixed spMix := ⟨ok_lmixed B DD Fl_mixed, ml_mixed, Fl_mixed.kp, bl_mixed⟩
  have DT : Fn0 P w K mg base "_law_twos" 3 _ dl_twos p_law_twos spTw := ⟨ok_ltwos B DD DS Fl_twos, ml_twos, Fl_twos.kp, bl_twos⟩
  have DSt : Fn0 P w K mg base "_law_stricter" 1 _ dl_stricter p_law_stricter spStri := ⟨ok_lstricter B Fl_stricter, ml_stricter, Fl_stricter.kp, bl_stricter⟩
  have DDu : Fn0 P w K mg base "_law_due" 2 _ dl_due p_law_due spDu := ⟨ok_ldue B DSt Fl_due, ml_due, Fl_due.kp, bl_due⟩
  have DR : Fn0 P w K mg base "_law_right" 10 (He.ga K "_law_right") dl_right p_law_right (spRt K (WA K) (KA K) (TtOf K)) := by
    have kp := Fl_right.kp
    obtain ⟨oc, od, dV, kV, doc, pm, an, cdv, ct, osl, rfl, lk, hcd, _, _⟩ := Fl_right.ex
    obtain ⟨cc, rfl⟩ := He.codeIn_ref hcd
    have ce : He.codeOf K mdR = cc := He.codeOf_eq lk rfl
    have tb := hTB (He.cT K mdR) (List.mem_map.mpr ⟨mdR, by simp, rfl⟩)
    rw [show (He.cT K mdR).1 = cc from ce] at tb
    exact ⟨ok_lright (fun _ h => h) B Z J8 DH DJ (kb_swap Fjoined) (fun _ _ => rfl) DDu DW WS tb (by simp) (fun p hp e => by
      simp only [List.mem_cons, List.not_mem_nil, or_false] at hp
      rcases hp with rfl | rfl | rfl
      · exact absurd e n1
      · rfl
      · exact absurd e.symm n3) lk hcd, ml_right, kp, bl_right⟩
  obtain ⟨oc, od, dV, kV, doc, pm, an, cdv, ct, osl, rfl, lk, hcd, _, _⟩ := Flaw.ex
  obtain ⟨cc, rfl⟩ := He.codeIn_ref hcd
  have ce : He.codeOf K mdW = cc := He.codeOf_eq lk rfl
  have tb := hTB (He.cT K mdW) (List.mem_map.mpr ⟨mdW, by simp, rfl⟩)
  rw [show (He.cT K mdW).1 = cc from ce] at tb
  exact ok_law (fun _ h => h) B sys Z J8 DH TW MW DPn DD DL DT DM DW DR DJ WS M mKd (kx_of Finit) QE QN QO tb (by simp) (fun p hp e => by
    simp only [List.mem_cons, List.not_mem_nil, or_false] at hp
    rcases hp with rfl | rfl | rfl
    · exact absurd e n2
    · exact absurd e n3
    · rfl) lk hcd
end
end L2.Mj
set_option maxRecDepth 100000
set_option maxHeartbeats 0
namespace L2.Mj
open PySem PySem.Spec PyProof.Rows L2 Mx L2.Mb Evl Mv TL LamX
theorem run (w : World) : HandSHeadRun.RunEq RY (W.view RY.prog [62]) hkY eyeY 20000 looseY w := W.byRow2 "special-get-raises" (P := fun w => HandSHeadRun.RunEq RY (W.view RY.prog [62]) hkY eyeY 20000 looseY w) run_f run_t w
theorem law_at {P : Program} {w : World} {mg : Str → Option Value} {h : Heap} {f : Addr} (Y : hkY.says w h) (G : h.Ns mainGlobals mg) (hmg : mg "law" = some (.ref f)) :
    ∃ (K : W.Frag) (fd : FuncData) (sp : Sp) (cs : List (Addr × Addr)), K.In h ∧ (∀ p ∈ cs, Bare h p.2) ∧ (∀ p ∈ cs, K.lookup p.2 = none) ∧ (∀ p ∈ cs, W.CodeHd h p.1 p.2) ∧ (∀ (s : Shared) (u : Value), BindsTo s fd ⟨[u], []⟩ [("_law_script", u)]) ∧
      (∀ (H : Hp) (a : Addr) (ns : List Int), ns.length ≤ 63 → (∀ p ∈ cs, H p.2 = some (.tbl #[])) → SqL K H a (ns.map V.int) → sp [.ref a] H (fun v _ => v = .bl true) fun _ _ _ => False) ∧
      ∀ base : Heap, K.In base → base.Ns mainGlobals mg → (∀ p ∈ cs, TabB base mg p.1 p.2) → FnG P w K mg base CX0 11 f fd ["_law_script"] sp := by
  obtain ⟨K, KX, c⟩ := Y
  obtain ⟨fd, hb, hF⟩ := facts (P := P) (w := w) KX G hmg c
  refine ⟨K, fd, spLaw K (TtOf K), tfZ.map (He.cT K), KX, fun p hp => ?_, fun p hp => ?_, fun p hp => ?_, hb, fun H a ns hl hT hS => ⟨a, ns, rfl, hS, hl, fun p hp => ?_, fun _ => rfl⟩, hF⟩
  · obtain ⟨d, hd, rfl⟩ := List.mem_map.mp hp
    exact c.bare d hd
  · obtain ⟨d, hd, rfl⟩ := List.mem_map.mp hp
    exact c.out d hd
  · obtain ⟨d, hd, rfl⟩ := List.mem_map.mp hp
    exact W.codeHd_of_K KX (c.hd d hd)
  · simp only [List.mem_cons, List.not_mem_nil, or_false] at hp
    rcases hp with rfl | rfl | rfl
    · exact TabS.nil (hT _ (List.mem_map.mpr ⟨mdA, by simp, rfl⟩))
    · exact TabS.nil (hT _ (List.mem_map.mpr ⟨mdR, by simp, rfl⟩))
    · exact TabS.nil (hT _ (List.mem_map.mpr ⟨mdW, by simp, rfl⟩))
end L2.Mj
open PySem PySem.W PySem.Calls PyProof.Rows
theorem PySem.Challenge.cw_meetbehind_k90_gates_joined_holds : PySem.Challenge.rw_meetbehind_k90_gates_joined.Holds := by
  w_on; o_law
  refine HandSHeadRun.head_any (r := L2.Mj.RY) (q := view L2.Mj.RY.prog [62]) (H := L2.Mj.hkY) (ob := L2.Mj.eyeY) (M := 20000) (loose := L2.Mj.looseY) (d := HandSHeadRun.topDef L2.Mj.RY.prog 62) (kwd := []) L2.Mj.eyeY_eq
    (by kernel_rfl) (fun s => by kernel_rfl) L2.Mj.run (by kernel_rfl) (by kernel_rfl) (by kernel_rfl) (by rfl) (by first | assumption | decide +kernel) (by decide +kernel) ⟨rfl, rfl, rfl, rfl, rfl, by decide +kernel⟩ ?hw ?hc
  case hw => w_witness2
  case hc =>
    refine L2.Mb.walkT (l := PySem.Challenge.rw_meetbehind_k90_gates_joined) (n := 63) (k := 11) (x := "_law_script") (CX := L2.CX0) rfl (by decide) (by kernel_rfl) ⟨rfl, by decide, by decide⟩ ?F (fun _ _ _ _ z => z)
    intro w mg fa h Y G hmg0
    have hmg : mg ("law" : PySem.Str) = some (.ref fa) := by
      have e : (HandSHeadRun.topDef (OpenLaw.row PySem.Challenge.rw_meetbehind_k90_gates_joined).prog 62).name = ("law" : PySem.Str) := by kernel_rfl
      rw [← e]
      exact hmg0
    exact L2.Mj.law_at (P := (PySem.Challenge.rw_meetbehind_k90_gates_joined).prog) Y G hmg
