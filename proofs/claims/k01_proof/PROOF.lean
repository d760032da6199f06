import PyProof.Rows.All
import Wide.All
import OpenK.AllK
import Wide.FinOn
import HandS.ForExc
import HandS.ExcInit
import HandS.ExcIs
import KE.KExcIs
import HandS.Defaults
import HandS.IsInst
import HandS.MakeKwOnly
import HandS.HeadEnd
import HandS.Dict
import HandS.EndTab
import KE.KTryMore
import HandS.Exc
import KE.KCallOwn
import HandS.ForMost
import HandS.ClsMeth
import HandS.Property
import HandS.OwnEq
import HandS.FStr
import HandS.Evl
import HandS.Walk
import HandS.Text
import PyProof.EqAt
import PyProof.EqKinds
import PyProof.P3In
import HandS.Deep
import PyProof.InstEq
import PyProof.InstNe
import HandS.Iter
import HandS.HeadHook2
import PySem.Challenge.RW_meetbehind_k01_kinds_made_and_compared
import HandS.Codes
import HandS.TryOnly
import PyProof.ReprLen
import HandS.Style
import HandS.Lambda
import HandS.Head0
import HandS.Head1
import HandS.Head2
import HandS.HeadHook1
import HandS.HeadHook3
import HandS.HeadHook4
import Wide.Once
set_option Elab.async false
set_option linter.all false
set_option maxRecDepth 100000
set_option maxHeartbeats 4000000
namespace Mx
open PySem PySem.Spec PyProof.Rows PySem.F

/-! exception bases -/
/-- the built-in classes over which the package's errors stand -/
inductive EB where | val | key | ind | look | run | over
  deriving DecidableEq
/-- the class whose maker serves -/
def EB.nm : EB → String
  | .val => "ValueError" | .key => "LookupError" | .ind => "IndexError" | .look => "LookupError"
  | .run => "RuntimeError" | .over => "OverflowError"
def EB.new : EB → String
  | .val => "ValueError.__new__" | .key => "LookupError.__new__" | .ind => "IndexError.__new__"
  | .look => "LookupError.__new__" | .run => "RuntimeError.__new__" | .over => "OverflowError.__new__"
def EB.ini : EB → String
  | .val => "ValueError.__init__" | .key => "LookupError.__init__" | .ind => "IndexError.__init__"
  | .look => "LookupError.__init__" | .run => "RuntimeError.__init__" | .over => "OverflowError.__init__"
def EB.names : EB → List String
  | .val => ["ValueError", "Exception", "BaseException", "object"]
  | .key => ["KeyError", "LookupError", "Exception", "BaseException", "object"]
  | .ind => ["IndexError", "LookupError", "Exception", "BaseException", "object"]
  | .look => ["LookupError", "Exception", "BaseException", "object"]
  | .run => ["RuntimeError", "Exception", "BaseException", "object"]
  | .over => ["OverflowError", "ArithmeticError", "Exception", "BaseException", "object"]
def EB.tl (b : EB) : List Value := b.names.map Value.type
def EB.mk : EB → EB
  | .key => .look
  | b => b
theorem EB.facts : ∀ b : EB, ExcBaseFacts b.nm b.new b.ini b.mk.tl
  | .val => excBase_ValueError
  | .key => excBase_LookupError
  | .ind => excBase_IndexError
  | .look => excBase_LookupError
  | .run => excBase_RuntimeError
  | .over => excBase_OverflowError
theorem EB.pass (self : Value) : ∀ b : EB, refuseLoop self "__setattr__" b.tl = pure ()
  | .val => by kernel_rfl
  | .key => by kernel_rfl
  | .ind => by kernel_rfl
  | .look => by kernel_rfl
  | .run => by kernel_rfl
  | .over => by kernel_rfl
theorem EB.obj (b : EB) : b.tl.contains (.type "object") = true := by cases b <;> decide +kernel
theorem EB.hasB (b : EB) : b.tl.contains (.type b.nm) = true := by cases b <;> decide +kernel
theorem EB.noA (b : EB) : b.tl.contains (.type "AttributeError") = false := by cases b <;> decide +kernel
theorem EB.noN (b : EB) : b.tl.contains (.type "NameError") = false := by cases b <;> decide +kernel
theorem EB.bas (b : EB) : b.tl.contains (.type "BaseException") = true := by cases b <;> decide +kernel
/-- own classes, then the built-in ones -/
def own (b : EB) : List Value → Bool
  | .ref _ :: r => own b r
  | l => l == b.tl
theorem own_cases {b : EB} {l : List Value} (h : own b l = true) : (∃ c r, l = .ref c :: r ∧ own b r = true) ∨ l = b.tl := by
  unfold own at h
  split at h
  · exact .inl ⟨_, _, rfl, h⟩
  · exact .inr (eq_of_beq h)
theorem own_has {b : EB} (X : String) : ∀ l : List Value, own b l = true → l.contains (.type X) = b.tl.contains (.type X)
  | [], h => by
    rcases own_cases h with ⟨c, r, e, _⟩ | e
    · cases e
    · rw [e]
  | a :: l, h => by
    rcases own_cases h with ⟨c, r, e, k⟩ | e
    · obtain ⟨rfl, rfl⟩ := List.cons.inj e
      have ih := own_has X l k
      rw [List.contains_cons, ih]
      rfl
    · rw [e]
theorem own_pass {b : EB} (self : Value) : ∀ l : List Value, own b l = true → refuseLoop self "__setattr__" l = pure ()
  | [], h => by
    rcases own_cases h with ⟨c, r, e, _⟩ | e
    · cases e
    · rw [e]
      exact EB.pass self b
  | a :: l, h => by
    rcases own_cases h with ⟨c, r, e, k⟩ | e
    · obtain ⟨rfl, rfl⟩ := List.cons.inj e
      rw [refuseLoop_ref]
      exact own_pass self l k
    · rw [e]
      exact EB.pass self b
theorem own_ne {b : EB} {l : List Value} (h : own b l = true) : l.isEmpty = false := by
  cases l with
  | nil =>
    rcases own_cases h with ⟨c, r, e, _⟩ | e
    · cases e
    · cases b <;> cases e
  | cons => rfl
section
variable {M : Model} {A : Around} {E : Value → Shared → Prop} {hp : Heap} {gs : Array GenState} {dr : Drawn} {tk : Nat} {os : OsState}
variable {nm q : Str} {C N : Addr} {bs bm : List Value} {hdct : Bool} {sn : List Str} {sub : List Value} {ab : Bool} {col : Option Bool} {dd : Option Addr} {k0 k1 k2 k3 k5 : Option Value}
theorem chk_new {b : EB} (hb : own b bm = true) {rest : List Value} {kw : List (Str × Value)} {Q : Unit → Shared → Prop}
    (hC : hp.get? C = some (excClassObj nm q C N bs bm hdct sn sub ab col dd k0 k1 k2 k3 k5 b.new)) (hq : Q () ⟨hp, gs, dr, tk, os⟩) :
    wpAny M A (checkBuiltinCall b.new ⟨.ref C :: rest, kw⟩) Q E ⟨hp, gs, dr, tk, os⟩ := by
  have F := b.facts
  have mB : (Value.ref C :: bm).contains (.type b.nm) = true := by rw [List.contains_cons, own_has _ _ hb, b.hasB, Bool.or_true]
  have st := F.noStar
  simp only [checkBuiltinCall, F.newKind, F.newSplit, F.newRow]
  repeat (first
    | refine wpAny_loadPart_at hC ?_
    | (refine wpAny_isSubtype_exc hC ?_; rw [mB])
    | refine wpAny_staticBase_exc hC ?_
    | refine wpAny_madeBy_exc hC ?_
    | simp only [bne_self_eq_false, Bool.false_eq_true, if_false]
    | wp_step)
  exact hq
end
section
variable {prog : Program} {w : World} {A : Around} {E : Value → Shared → Prop} {R : Result → Shared → Prop} {hp : Heap} {gs : Array GenState} {dr : Drawn} {tk : Nat} {os : OsState}
variable {nm q : Str} {C N : Addr} {bs bm : List Value} {hdct : Bool} {sn : List Str} {sub : List Value} {ab : Bool} {col : Option Bool} {dd : Option Addr} {k0 k1 k2 k3 k5 : Option Value}
/-- an exception that is not yet set up -/
abbrev rawX (C t : Addr) : Obj := { cls := .ref C, data := .fields #[.ref t, .none, .none, .none, .bool false, .none] }
abbrev tupO (us : List Value) : Obj := { cls := .type "tuple", data := .seq us.toArray }
theorem run_new {b : EB} (hb : own b bm = true) {rest : List Value} {kw : List (Str × Value)} (hr : rest.length ≤ sizeLine)
    (hC : hp.get? C = some (excClassObj nm q C N bs bm hdct sn sub ab col dd k0 k1 k2 k3 k5 b.new))
    (hq : R (.ok (.ret (.ref (hp.objs.size + 1)))) ⟨(hp.push (tupO rest)).push (rawX C hp.objs.size), gs, dr, tk, os⟩) :
    codeAny (model prog w) A (.builtin b.new ⟨.ref C :: rest, kw⟩) R ⟨hp, gs, dr, tk, os⟩ := by
  have F := b.facts
  have fe := F.ends
  have m1 : (Value.ref C :: bm).contains (.type b.nm) = true := by rw [List.contains_cons, own_has _ _ hb, b.hasB, Bool.or_true]
  have m2 : (Value.ref C :: bm).contains (.type "AttributeError") = false := by rw [List.contains_cons, own_has _ _ hb, b.noA]; rfl
  have m3 : (Value.ref C :: bm).contains (.type "NameError") = false := by rw [List.contains_cons, own_has _ _ hb, b.noN]; rfl
  refine codeAny_builtinAt F.entry ?_
  unfold Builtin.«BaseException.__new__»
  refine PySem.wpAt_bind ?_
  show PySem.wpAt _ _ _ (stack >>= _) _ _ _
  refine PySem.wpAt_bind (PySem.wpAt_stack fun p1 p2 => PySem.wpAt_of_wpAny ?_)
  wp_walk
  refine PySem.wpAt_of_wpAny ?_
  rw [F.owner]
  repeat (first
    | with_reducible refine wpAny_madeHere_exc F.canon hC ?_
    | with_reducible refine wpAny_loadPart_at hC ?_
    | (with_reducible refine wpAny_isSubtype_exc hC ?_; first | rw [m1] | rw [m2] | rw [m3])
    | wp_step)
  show R _ _
  rw [Heap.size_push]
  exact hq
/-- what comes back from the setting up -/
def BackX (e : Addr) (R : Result → Shared → Prop) : Result → Shared → Prop := fun r s => match r with
  | .ok (.ret v) => v = .none ∧ R (.ok (.ret (.ref e))) s
  | .ok _ => False
  | .error x => R (.error x) s
theorem run_typecall {b : EB} (hb : own b bm = true) {rest : List Value} {kw : List (Str × Value)} (hr : rest.length ≤ sizeLine) {fI : Addr} {Q : Fin → Shared → Prop}
    (hC : hp.get? C = some (excClassObj nm q C N bs bm hdct sn sub ab col dd k0 k1 k2 k3 k5 b.new))
    (hi : W.Looks (model prog w) hp (typeLookup (.ref C) "__init__") (some (.ref fI)))
    (hbd : ∀ self, W.Looks (model prog w) hp (bindSpecial (.ref fI) self) (.ref fI, [self]))
    (hq : codeAny (model prog w) A (.call (.ref fI) ⟨.ref (hp.objs.size + 1) :: rest, kw⟩)
      (fun r s' => match r with
        | .ok (.ret v) => v = .none ∧ Q (.done (.ret (.ref (hp.objs.size + 1)))) s'
        | .ok _ => False
        | .error x => E x s') ⟨(hp.push (tupO rest)).push (rawX C hp.objs.size), gs, dr, tk, os⟩) :
    wpAny (model prog w) A (Builtin.«type.__call__» ⟨.ref C :: rest, kw⟩) Q E ⟨hp, gs, dr, tk, os⟩ := by
  have F := b.facts
  repeat (first
    | with_reducible refine wpAny_loadPart_at hC ?_
    | with_reducible refine wpAny_madeBy_exc hC ?_
    | wp_step)
  refine codeAny_call_builtin_code (Code.quiet_builtin _ F.quiet) (chk_new hb hC ?_)
  refine run_new hb hr hC ?_
  show wpAny _ _ _ _ _ _
  have kp : ∀ c o, hp.get? c = some o → ((hp.push (tupO rest)).push (rawX C hp.objs.size)).get? c = some o :=
    fun c o e => Heap.get?_push_of_some _ (Heap.get?_push_of_some _ e)
  have hC2 := kp _ _ hC
  have ge : ((hp.push (tupO rest)).push (rawX C hp.objs.size)).get? (hp.objs.size + 1) = some (rawX C hp.objs.size) := by heap_get
  have mC : (Value.ref C :: bm).contains (.ref C) = true := by simp
  have j1 := hi.keeps kp
  have j2 := (hbd (.ref (hp.objs.size + 1))).keeps kp
  unfold isInstance
  repeat (first
    | with_reducible refine wpAny_loadPart_at ge ?_
    | (with_reducible refine wpAny_isSubtype_exc hC2 ?_; rw [mC])
    | wp_step)
  show wpAny _ _ (typeLookup (.ref C) _) _ _ _
  refine j1.at ?_
  refine wpAny_holding (wpAny_bind (j2.at ?_))
  refine wpAny_bind (wpAny_call (codeAny_mono hq fun r s' z => ?_))
  rcases r with x | (v | _ | _ | _) <;> first | exact z | exact z.elim | skip
  obtain ⟨ev, z⟩ := z
  subst ev
  first
    | exact wpAny_pure (wpAny_pure z)
    | (wp_walk; exact z)
theorem run_class {b : EB} (hb : own b bm = true) {rest : List Value} {kw : List (Str × Value)} (hr : rest.length ≤ sizeLine) {fI : Addr}
    (hC : hp.get? C = some (excClassObj nm q C N bs bm hdct sn sub ab col dd k0 k1 k2 k3 k5 b.new))
    (hi : W.Looks (model prog w) hp (typeLookup (.ref C) "__init__") (some (.ref fI)))
    (hbd : ∀ self, W.Looks (model prog w) hp (bindSpecial (.ref fI) self) (.ref fI, [self]))
    (hty : W.Looks (model prog w) hp (isInstance (.ref C) (.type "type")) true)
    (hq : codeAny (model prog w) (A.under (.builtin "type.__call__" ⟨.ref C :: rest, kw⟩)) (.call (.ref fI) ⟨.ref (hp.objs.size + 1) :: rest, kw⟩) (BackX (hp.objs.size + 1) R)
      ⟨(hp.push (tupO rest)).push (rawX C hp.objs.size), gs, dr, tk, os⟩) :
    codeAny (model prog w) A (.call (.ref C) ⟨rest, kw⟩) R ⟨hp, gs, dr, tk, os⟩ := by
  have f1 := tc_lookup
  have f2 := tc_bind (.ref C)
  have hTy : (⟨hp, gs, dr, tk, os⟩ : Shared).TypeIs (.ref C) "type" := ⟨_, hC, rfl⟩
  refine codeAny_of_tree ?_
  show wpAny _ _ (callAny (.ref C) _) _ _ _
  repeat (any_goals (first | assumption | with_reducible refine wpAny_loadPart_at hC ?_ | wp_step))
  refine ⟨rfl, ?_⟩
  refine codeAny_call_builtin_at (Code.quiet_builtin _ (by decide +kernel)) entry_typeCall
    (W.check_slot tc_kind tc_split hty (W.tc_args _ _ _) (run_typecall hb hr hC hi hbd ?_))
  refine codeAny_mono hq fun r s' z => ?_
  rcases r with x | (v | _ | _ | _) <;> exact z
end

/-! ### self.f = v -/
section
open Builtin Builtin.ObjectAttr PySem.W
variable {prog : Program} {w : World} {A : Around} {E : Value → Shared → Prop} {R : Result → Shared → Prop} {hp : Heap} {gs : Array GenState} {dr : Drawn} {tk : Nat} {os : OsState}
/-- the first field: the exception's dict is laid -/
theorem put_first {b : EB} {K : Frag} {f : Str} {u : Tok} {v : Value} {x C : Addr} {fv : Array Value} {cd : ClassData} (X : K.In hp)
    (hx : hp.get? x = some { cls := .ref C, data := .fields fv }) (hcd : clsIn K C = some cd) (hm : own b cd.mro = true) (hh : cd.hasDict = true) (ha : findIn K (.ref C) f = some none)
    (hq : ∀ h' tk' dx, (∀ c o, c ≠ x → hp.get? c = some o → h'.get? c = some o) → hp.objs.size ≤ dx → dx ≠ x →
      h'.get? x = some { cls := .ref C, dict := some dx, data := .fields fv } → h'.Ns1 dx (fun y => if y = f then some v else none) → R (.ok (.ret .none)) ⟨h', gs, dr, tk', os⟩) :
    codeAny (model prog w) A (.call (.builtin "object.__setattr__") ⟨[.ref x, .str f u, v], []⟩) R ⟨hp, gs, dr, tk, os⟩ := by
  have SF := F.store_object
  have I : InstAt hp x { cls := .ref C, data := .fields fv } C none := ⟨hx, rfl, rfl, trivial⟩
  have isob : cd.mro.contains (.type "object") = true := (own_has "object" _ hm).trans b.obj
  have ns := own_ne hm
  have xz : x ≠ hp.objs.size := Nat.ne_of_lt (Heap.lt_size hx)
  have Ls : Looks (model prog w) hp (isInstance (.ref x) (.type "object")) true :=
    I.type.andThen (looks_mroIn X (by unfold mroIn; rw [hcd, Option.bind_some, if_neg (by rw [ns]; decide), isob]))
  refine codeAny_call_builtin SF.slot.plain SF.entry
    (@check_slot (model prog w) _ _ ⟨hp, gs, dr, tk, os⟩ "object.__setattr__" "object" "__setattr__" (.ref x) [.str f u, v] [] _ SF.kind SF.split Ls (SF.args (.ref x) (.str f u) v) ?_)
  have Lm : Looks (model prog w) hp (mroOf (.ref C)) cd.mro := (looks_clsIn X hcd).andThen .now
  have Lt : Looks (model prog w) hp (storeTaker? none) none := .now
  have Lc : Looks (model prog w) hp (classData C) cd := looks_clsIn X hcd
  rw [osa_eq, refuse_eq]
  refine wpAny_bind (wpAny_bind (I.type.at (wpAny_bind (Lm.at ?_))))
  rw [own_pass _ _ hm]
  refine wpAny_pure (wpAny_bind (I.type.at (wpAny_bind ((looks_findIn X ha).at (wpAny_bind (Lt.at ?_))))))
  show wpAny _ _ (storeInOwnDict (.ref x) (.ref C) (.str f u) f v false) _ _ _
  obtain ⟨c1, c2, c3, c4, c5, c6, c7, c8, c9, c10, c11⟩ := cd
  dsimp only at hh
  subst hh
  unfold storeInOwnDict ownDictForStores
  repeat (first
    | with_reducible refine HandSPX.store_in_new ?_ ?_
    | with_reducible refine wpAny_loadPart_at hx ?_
    | with_reducible refine Lc.at ?_
    | wp_step)
  · exact ⟨_, #[], _, (Heap.get?_update_ne _ _ _ _ xz.symm).trans (Heap.get?_push_at rfl rfl), rfl, fun e he => absurd he (by simp), fun _ => rfl⟩
  · intro h' tk' hn' hs
    have hx1 : (hp.push { cls := .type "dict", data := .dict #[] }).get? x = some { cls := .ref C, data := .fields fv } := Heap.get?_push_of_some _ hx
    refine hq h' tk' hp.objs.size (fun c o hc ho => ?_) (Nat.le_refl _) xz.symm ?_ hn'
    · exact (hs.2 c (Nat.ne_of_lt (Heap.lt_size ho))).trans ((Heap.get?_update_ne _ _ _ _ hc).trans (Heap.get?_push_of_some _ ho))
    · exact (hs.2 x xz).trans (Heap.get?_update_self _ hx1 rfl)
/-- a further field -/
theorem put_more {b : EB} {K : Frag} {f : Str} {u : Tok} {v : Value} {x C dx : Addr} {fv : Array Value} {cd : ClassData} {m0 : Str → Option Value} {nl : List Str} (X : K.In hp)
    (hx : hp.get? x = some { cls := .ref C, dict := some dx, data := .fields fv }) (hns : hp.Ns1 dx m0) (hw : Within m0 nl) (hz : nl.length ≤ 1000)
    (hcd : clsIn K C = some cd) (hm : own b cd.mro = true) (hh : cd.hasDict = true) (ha : findIn K (.ref C) f = some none)
    (hq : ∀ h' tk', (∀ c o, c ≠ dx → hp.get? c = some o → h'.get? c = some o) → h'.Ns1 dx (fun y => if y = f then some v else m0 y) → R (.ok (.ret .none)) ⟨h', gs, dr, tk', os⟩) :
    codeAny (model prog w) A (.call (.builtin "object.__setattr__") ⟨[.ref x, .str f u, v], []⟩) R ⟨hp, gs, dr, tk, os⟩ := by
  have SF := F.store_object
  obtain ⟨oD, esD, epD, hoD, hdD, _⟩ := hns.count hw
  have I : InstAt hp x { cls := .ref C, dict := some dx, data := .fields fv } C (some oD) := ⟨hx, rfl, rfl, hoD⟩
  have isob : cd.mro.contains (.type "object") = true := (own_has "object" _ hm).trans b.obj
  have ns := own_ne hm
  have Ls : Looks (model prog w) hp (isInstance (.ref x) (.type "object")) true :=
    I.type.andThen (looks_mroIn X (by unfold mroIn; rw [hcd, Option.bind_some, if_neg (by rw [ns]; decide), isob]))
  refine codeAny_call_builtin SF.slot.plain SF.entry
    (@check_slot (model prog w) _ _ ⟨hp, gs, dr, tk, os⟩ "object.__setattr__" "object" "__setattr__" (.ref x) [.str f u, v] [] _ SF.kind SF.split Ls (SF.args (.ref x) (.str f u) v) ?_)
  have Lm : Looks (model prog w) hp (mroOf (.ref C)) cd.mro := (looks_clsIn X hcd).andThen .now
  have Lt : Looks (model prog w) hp (storeTaker? none) none := .now
  have Lc : Looks (model prog w) hp (classData C) cd := looks_clsIn X hcd
  rw [osa_eq, refuse_eq]
  refine wpAny_bind (wpAny_bind (I.type.at (wpAny_bind (Lm.at ?_))))
  rw [own_pass _ _ hm]
  refine wpAny_pure (wpAny_bind (I.type.at (wpAny_bind ((looks_findIn X ha).at (wpAny_bind (Lt.at ?_))))))
  show wpAny _ _ (storeInOwnDict (.ref x) (.ref C) (.str f u) f v false) _ _ _
  obtain ⟨c1, c2, c3, c4, c5, c6, c7, c8, c9, c10, c11⟩ := cd
  dsimp only at hh
  subst hh
  unfold storeInOwnDict ownDictForStores
  repeat (first
    | with_reducible refine OEX.store_in_old hns hw hz ?_
    | with_reducible refine wpAny_loadPart_at hx ?_
    | with_reducible refine Lc.at ?_
    | wp_step)
  intro h' tk' hn' hs
  exact hq h' tk' (fun c o hc ho => (hs.2 c hc).trans ho) hn'
end
end Mx
set_option maxRecDepth 100000
set_option maxHeartbeats 4000000
namespace L2.Mb
open PySem PySem.Spec PyProof.Rows Mx

/-- the own exception class at C over b, its setting up at fI -/
structure EC (K : W.Frag) (C fI : Addr) (b : EB) : Prop where
  cls : ∃ nm q N bs bm sn sub ab col dd k0 k1 k2 k3 k5, K.lookup C = some (excClassObj nm q C N bs bm true sn sub ab col dd k0 k1 k2 k3 k5 b.new) ∧ own b bm = true
  sa : W.findIn K (.ref C) "__setattr__" = some (some (.builtin "object.__setattr__"))
  ga : W.findIn K (.ref C) "__getattribute__" = some (some (.builtin "BaseException.__getattribute__"))
  gg : W.findIn K (.ref C) "__getattr__" = some none
  cl : W.findIn K (.ref C) "__class__" = some (some (.builtin "object.__class__"))
  ins : W.instIn K (.ref C) (.type "type") = some true
  kp : W.keepIn K (.ref C) = true
  ini : W.findIn K (.ref C) "__init__" = some (some (.ref fI))
  tfn : W.typeIn K (.ref fI) = some (.type "function")
  gs : W.specialIn K (.builtin "object.__class__") "__get__" = some (some (.builtin "getset_descriptor.__get__"))
  tk : W.takesIn K (.builtin "object.__class__") = some true
section
variable {K : W.Frag} {C fI : Addr} {b : EB}
theorem EC.cd (T : EC K C fI b) : ∃ cd, W.clsIn K C = some cd ∧ own b cd.mro = true ∧ cd.hasDict = true := by
  obtain ⟨nm, q, N, bs, bm, sn, sub, ab, col, dd, k0, k1, k2, k3, k5, hC, hb⟩ := T.cls
  refine ⟨{ name := nm, bases := bs, mro := .ref C :: bm, ns := N, qualname := q, hasDict := true, slotNames := sn, subclasses := sub, abstract := ab, collection := col, hasDel := false }, ?_, hb, rfl⟩
  unfold W.clsIn
  rw [hC]
  all_goals rfl
theorem EC.mro (T : EC K C fI b) (X : String) : W.mroIn K C (.type X) = some (b.tl.contains (.type X)) := by
  obtain ⟨cd, e, m, _⟩ := T.cd
  unfold W.mroIn
  rw [e, Option.bind_some, if_neg (by rw [own_ne m]; decide), own_has _ _ m]
theorem EC.base (T : EC K C fI b) : W.subIn K (.ref C) (.type "BaseException") = some true := by
  show W.mroIn K C (.type "BaseException") = some true
  rw [T.mro, b.bas]
theorem EC.isob (T : EC K C fI b) : W.mroIn K C (.type "object") = some true := by rw [T.mro, b.obj]
theorem EC.isc (T : EC K C fI b) : (W.clsIn K C).isSome = true := by
  obtain ⟨cd, e, _⟩ := T.cd
  rw [e]
  rfl
theorem EC.hd (T : EC K C fI b) : W.hasDictIn K C = true := by
  obtain ⟨cd, e, _, h⟩ := T.cd
  unfold W.hasDictIn
  rw [e]
  exact h
end
section
variable {X : Cx} {pins : List (Addr × Obj)} {σ : St} {H : Hp} {s : Shared} {C fI : Addr} {b : EB}
/-- C(..), the arguments reckoned -/
theorem run_mkX {CX : CXT} {k : Nat} {fd : FuncData} {ps : List Str} {sp : Sp} {Q : VK} {us ws : List Value} {vs : List V} {kw : List (Str × Value)} (T : EC X.K C fI b) (F : FnOk X.prog X.w X.K X.mg X.base CX k fI fd ps sp)
    (hr : Room (k + 1) X.A) (hx : Passes CX X (fun _ _ _ => False)) (I : Inv X pins σ H s) (hus : us.length ≤ sizeLine) (rv : Vals vs ws)
    (hto : ∀ (a : Addr) (s' : Shared), X.K.In s'.heap → BindsTo s' fd ⟨.ref a :: us, kw⟩ (ps.zip (.ref a :: ws)))
    (h : ∀ a, H a = none → sp (.ref a :: vs) (upd H a (exo a C none)) (fun v H2 => v = .non ∧ Q (.ref a) H2) (fun _ _ _ => False)) :
    wpAny (model X.prog X.w) X.A (call (.ref C) us kw) (EP X pins σ Q) X.xe s := by
  obtain ⟨nm, q, N, bs, bm, sn, sub, ab, col, dd, k0, k1, k2, k3, k5, hC, hb⟩ := T.cls
  obtain ⟨hp, g, dr, tk, os⟩ := s
  have hsz : hp.objs.size ≤ hp.objs.size + 1 := Nat.le_succ _
  have hn : H (hp.objs.size + 1) = none := I.hok.fresh hsz
  have kk : ∀ c o, hp.get? c = some o → ((hp.push (tupO us)).push (rawX C hp.objs.size)).get? c = some o := fun c o e => Heap.get?_push_of_some _ (Heap.get?_push_of_some _ e)
  have ge : ((hp.push (tupO us)).push (rawX C hp.objs.size)).get? (hp.objs.size + 1) = some (rawX C hp.objs.size) := by heap_get
  have I2 : Inv X pins σ (upd H (hp.objs.size + 1) (exo (hp.objs.size + 1) C none)) ⟨(hp.push (tupO us)).push (rawX C hp.objs.size), g, dr, tk, os⟩ :=
    I.laid (t' := tk) (a := hp.objs.size + 1) (o := exo (hp.objs.size + 1) C none) (h' := (hp.push (tupO us)).push (rawX C hp.objs.size)) kk hsz (exo_ok ge)
  refine wpAny_call (run_class hb hus (I.kIn _ _ hC) (W.looks_findIn I.kIn T.ini) (fun self => W.bind_fn I.kIn self T.tfn) (W.looks_instIn I.kIn T.ins)
    (codeAny_mono (F.run _ X.stack _ _ ⟨Value.ref (hp.objs.size + 1) :: us, kw⟩ (Value.ref (hp.objs.size + 1) :: ws) (V.ref (hp.objs.size + 1) :: vs) _ (fun _ _ _ => False) (hr.make C us kw) (I2.env0.make C us kw)
      (hto _ _ I2.kIn) (.cons rfl rv) (h _ hn)) fun r s' hq' => ?_))
  cases r with
  | error er => exact (hx pins σ _ _ er s' I2 hq')
  | ok fl =>
    cases fl with
    | ret u =>
      obtain ⟨v, H', I3, r3, ev, q3⟩ := I2.after hq'
      subst ev
      exact ⟨r3, ⟨V.ref (hp.objs.size + 1), H', I3, rfl, q3⟩⟩
    | next => exact False.elim hq'
    | brk => exact False.elim hq'
    | cont => exact False.elim hq'
end

/-! ### readings and rules -/
/-- the error of the class at C stands at a, with these fields -/
def XAt (H : Hp) (a C : Addr) (fs : List (Str × V)) : Prop := ∃ d, H a = some (exo a C (some d)) ∧ H d = some (exd d fs)
def tMkX (C : Addr) (sp : Sp) (ta : TA) : TE := fun σ H Q => ta σ H fun vs H1 => vs.length ≤ 1000 ∧
  ∀ a, H1 a = none → sp (.ref a :: vs) (upd H1 a (exo a C none)) (fun v H2 => v = .non ∧ Q (.ref a) H2) (fun _ _ _ => False)
def tMkXK (C : Addr) (sp : Sp) (n : Nat) (gV : List V → List V) (ta : TA) : TE := fun σ H Q => ta σ H fun vs H1 => vs.length = n ∧
  ∀ a, H1 a = none → sp (.ref a :: gV vs) (upd H1 a (exo a C none)) (fun v H2 => v = .non ∧ Q (.ref a) H2) (fun _ _ _ => False)
/-- how keywords alone bind -/
structure KwB (K : W.Frag) (fd : FuncData) (ps ks : List Str) (g : List Value → List Value) (gV : List V → List V) : Prop where
  to : ∀ (s : Shared) (a : Addr) (ws : List Value), K.In s.heap → ws.length = ks.length → BindsTo s fd ⟨[.ref a], ks.zip ws⟩ (ps.zip (.ref a :: g ws))
  rel : ∀ {zs : List V} {ws : List Value}, Vals zs ws → Vals (gV zs) (g ws)
section
variable {X : Cx} {CX : CXT} {k : Nat} {fI C : Addr} {b : EB} {fd : FuncData} {ps ks : List Str} {sp : Sp} {x f : Str} {p p' pos : Pos} {e o : Expr} {es : List Expr} {kws : List Keyword} {t tk : TA} {te to : TE} {g : List Value → List Value} {gV : List V → List V}
theorem pe_mkX (T : EC X.K C fI b) (F : FnOk X.prog X.w X.K X.mg X.base CX k fI fd ps sp) (hr : Room (k + 1) X.A) (hb : Binds X.K fd ps []) (hx : Passes CX X (fun _ _ _ => False)) (hg : Gl X x) (hm : X.mg x = some (.ref C)) (ha : PA X (e :: es) t)
    (hdb : (x == ("__debug__" : Str)) = false := by decide) (he : starEach (e :: es) X.env = (false, eval e X.env) :: starEach es X.env := by rfl) (hpl : (backTo pos (starEach es X.env)).any (·.1) = false := by rfl) :
    PE X (.Call (.Name x p) (e :: es) [] pos) (tMkX C sp t) := by
  refine ⟨fun pins s σ H Q I h => ?_⟩
  refine wpAny_Call_Name_kw (ld_glob I hg hm ?_ hdb)
  refine W.callWith_K (h₀ := X.base) I.ok.mod.kin T.kp (thn (ha.run pos pins s σ H _ I h) fun us s1 ⟨vs, H1, I1, r, hl, q⟩ => ⟨I1.kIn, ?_⟩) he hpl
  have hus : us.length ≤ sizeLine := by
    rw [← r.length, sizeLine_eq]
    omega
  have hn : (V.ref (s1.heap.objs.size + 1) :: vs).length = ps.length := F.len _ _ _ _ (q (s1.heap.objs.size + 1) (I1.hok.fresh (Nat.le_succ _)))
  refine run_mkX T F hr hx I1 hus r (fun a s' K' => ?_) q
  have z := hb s' (Value.ref a :: us) K' (by
    have r1 := r.length
    rw [List.length_cons] at hn
    rw [List.append_nil, List.length_cons]
    omega)
  rwa [List.append_nil] at z
theorem pe_mkXK (T : EC X.K C fI b) (F : FnOk X.prog X.w X.K X.mg X.base CX k fI fd ps sp) (hr : Room (k + 1) X.A) (hb : KwB X.K fd ps ks g gV) (hx : Passes CX X (fun _ _ _ => False)) (hg : Gl X x) (hm : X.mg x = some (.ref C)) (hkw : PK X kws tk)
    (hall : (backToKw pos (keywordEach kws X.env)).all (·.1.isSome) = true := by rfl) (hks : (backToKw pos (keywordEach kws X.env)).filterMap (·.1) = ks := by rfl) (hdb : (x == ("__debug__" : Str)) = false := by decide)
    (hpl : ((backTo pos (starEach [] X.env)).any (·.1) || (backToKw pos (keywordEach kws X.env)).any (·.1.isNone)) = false := by rfl) :
    PE X (.Call (.Name x p) [] kws pos) (tMkXK C sp ks.length gV tk) := by
  refine ⟨fun pins s σ H Q I h => ?_⟩
  refine wpAny_Call_Name_kw (ld_glob I hg hm ?_ hdb)
  refine W.callWith_KW0 (h₀ := X.base) I.ok.mod.kin T.kp hall ?_ hpl
  refine thn (hkw.run pos pins s σ H _ I h) fun ws s2 ⟨zs, H2, I2, rz, l2, q2⟩ => ⟨I2.kIn, ?_⟩
  rw [hks]
  exact run_mkX (us := []) T F hr hx I2 (Nat.zero_le _) (hb.rel rz) (fun a s' K' => hb.to s' a ws K' (rz.length.symm.trans l2)) q2
/-- self.f = e in an __init__ of such a class -/
def tPutX (K : W.Frag) (f : Str) (to te : TE) : TS := fun D σ H => te σ H fun y H1 => to σ H1 fun x H2 => ∃ (a C fI : Addr) (b : EB), x = .ref a ∧ EC K C fI b ∧ W.findIn K (.ref C) f = some none ∧
  ((H2 a = some (exo a C none) ∧ ∀ dx, H2 dx = none → dx ≠ a → D.nx σ (upd (upd H2 dx (exd dx [(f, y)])) a (exo a C (some dx)))) ∨
    ∃ (dx : Addr) (fs : List (Str × V)), H2 a = some (exo a C (some dx)) ∧ H2 dx = some (exd dx fs) ∧ fs.length ≤ 900 ∧ D.nx σ (upd H2 dx (exd dx ((f, y) :: fs))))
section
variable {pins : List (Addr × Obj)} {σ : St} {H : Hp} {s : Shared} {a dx : Addr} {y : V} {u : Value} {fs : List (Str × V)} {Q : Unit → Shared → Prop} {E : Value → Shared → Prop} {A : Around}
theorem putX_first (T : EC X.K C fI b) (I : Inv X pins σ H s) (e : H a = some (exo a C none)) (hno : W.findIn X.K (.ref C) f = some none) (ry : RelV y u)
    (h : ∀ dx s', H dx = none → dx ≠ a → Inv X pins σ (upd (upd H dx (exd dx [(f, y)])) a (exo a C (some dx))) s' → Q () s') : wpAny (model X.prog X.w) A (setAttr (.ref a) f u) Q E s := by
  obtain ⟨cd, hcl, hm, hd⟩ := T.cd
  obtain ⟨t1, ho⟩ := exo_at I.hok e
  obtain ⟨hp, g, d, t, os⟩ := s
  refine W.set_plain I.kIn (ox := { cls := .ref C, dict := none, data := .fields #[.ref t1, .none, .none, .none, .bool false, .none] }) (od := none) ⟨ho, rfl, rfl, trivial⟩ T.sa ?_
  refine put_first I.kIn ho hcl hm hd hno (fun h' tk' dx k dn dne hx hn => ?_)
  have hnd : H dx = none := I.hok.fresh dn
  have nd : ∀ {c : Addr} {o : Obj}, hp.get? c = some o → c ≠ dx := fun {c o} q => Nat.ne_of_lt (Nat.lt_of_lt_of_le (Heap.lt_size q) dn)
  have na : ∀ {c : Addr}, H c = none → c ≠ a := fun {c} n z => by
    rw [z, e] at n
    cases n
  have U : Un X.fs [] H (upd (upd H dx (exd dx [(f, y)])) a (exo a C (some dx))) hp h' := {
    keep := fun c o q n _ _ => k c o (na n) q
    slot := fun c o q n _ _ => ⟨o.slots, k c o (na n) q⟩
    free := fun c o q n _ => by
      rw [upd_ne (na n), upd_ne (nd q)]
      exact n
    there := fun c o q _ => by
      by_cases hc : c = a
      · exact ⟨_, by rw [hc]; exact hx⟩
      · exact ⟨o, k c o hc q⟩
    tups := fun c xs q => by
      rw [upd_ne (at_ne e q exo_tup), upd_ne (ne_of_none q hnd)]
      exact q
    frzs := fun c o v q => by
      rw [upd_ne (at_ne e q exo_frz), upd_ne (ne_of_none q hnd)]
      exact q
    tbls := fun c ps q => ⟨#[], by rw [upd_ne (at_ne e q exo_tbl), upd_ne (ne_of_none q hnd), q]; simp⟩ }
  refine h dx _ hnd dne (I.un (t' := tk') U fun c o q => ?_)
  by_cases hc : c = a
  · subst hc
    rw [upd_same] at q
    cases q
    exact exo_ok hx
  · rw [upd_ne hc] at q
    by_cases hd : c = dx
    · subst hd
      rw [upd_same] at q
      cases q
      exact exd_ok hn (relO_put (fs := []) ry fun g => True.intro)
    · rw [upd_ne hd] at q
      refine (I.hok c o q).stay (fun c2 v hc2 z => k c2 v ?_ z) (fun c2 hc2 => ?_) (fun c2 xs hc2 => ?_)
      · rcases hc2 with z2 | z2
        · rw [z2]
          exact hc
        · exact at_ne e z2 exo_own
      · rw [upd_ne (at_ne e hc2 exo_own), upd_ne (ne_of_none hc2 hnd)]
        exact hc2
      · rw [upd_ne (at_ne e hc2 exo_tup), upd_ne (ne_of_none hc2 hnd)]
        exact hc2
theorem putX_more (T : EC X.K C fI b) (I : Inv X pins σ H s) (e : H a = some (exo a C (some dx))) (ed : H dx = some (exd dx fs)) (hl : fs.length ≤ 900) (hno : W.findIn X.K (.ref C) f = some none) (ry : RelV y u)
    (h : ∀ s', Inv X pins σ (upd H dx (exd dx ((f, y) :: fs))) s' → Q () s') : wpAny (model X.prog X.w) A (setAttr (.ref a) f u) Q E s := by
  obtain ⟨cd, hcl, hm, hd⟩ := T.cd
  obtain ⟨t1, ho⟩ := exo_at I.hok e
  obtain ⟨mA, hns, rel⟩ := exd_at I.hok ed
  have hw := within_of rel
  obtain ⟨hp, g, d, t, os⟩ := s
  obtain ⟨oD, _, _, hoD, _, _⟩ := hns.count hw
  refine W.set_plain I.kIn (ox := { cls := .ref C, dict := some dx, data := .fields #[.ref t1, .none, .none, .none, .bool false, .none] }) (od := some oD) ⟨ho, rfl, rfl, hoD⟩ T.sa ?_
  refine put_more I.kIn ho hns hw (by rw [List.length_map]; omega) hcl hm hd hno (fun h' tk' k hn => ?_)
  obtain ⟨o1, _, _, e1, _⟩ := id hn
  exact h _ (I.write (t' := tk') (x := dx) (e := dx) (o := exd dx ((f, y) :: fs)) (by rw [ed]; exact True.intro) (.inl rfl) k ⟨o1, e1⟩ (exd_ok hn (relO_put ry rel)))
end
theorem ps_putX (ho : PE X o to) (he : PE X e te) (hs : swapsWith e (some (.Attribute o f p')) pos.line X.env = pure false := by rfl) : PS X (.Assign [.Attribute o f p'] e pos) (tPutX X.K f to te) := by
  refine ⟨fun pins s σ H D I h => ?_⟩
  refine plainObj_wpAny_Assign_Attribute (thn (he.run pins s σ H _ I h) fun v s1 ⟨y, H1, I1, r1, q1⟩ => thn (ho.run pins s1 σ H1 _ I1 q1) fun u s2 ⟨x, H2, I2, r2, a, C, fI, b, ex, T, hno, q⟩ => ?_) hs
  subst ex
  obtain rfl : u = Value.ref a := r2
  rcases q with ⟨ea, q⟩ | ⟨dx, fs, ea, ed, hl, q⟩
  · exact putX_first T I2 ea hno r1 fun dx s' n ne J => ⟨σ, _, J, q dx n ne⟩
  · exact putX_more T I2 ea ed hl hno r1 fun s' J => ⟨σ, _, J, q⟩
theorem xat_inst {pins : List (Addr × Obj)} {σ : St} {H : Hp} {s : Shared} {a : Addr} {fs : List (Str × V)} (I : Inv X pins σ H s) (h : XAt H a C fs) :
    ∃ (ox od : Obj) (d : Addr) (mA : Str → Option Value), W.InstAt s.heap a ox C (some od) ∧ s.heap.get? d = some od ∧ s.heap.Ns1 d mA ∧ ∀ g, RelO (fs.lookup g) (mA g) := by
  obtain ⟨d, e1, e2⟩ := h
  obtain ⟨t1, ho⟩ := exo_at I.hok e1
  obtain ⟨mA, hns, rel⟩ := exd_at I.hok e2
  obtain ⟨oD, _, _, hoD, _, _⟩ := hns.count (within_of rel)
  exact ⟨_, oD, d, mA, ⟨ho, rfl, rfl, hoD⟩, hoD, hns, rel⟩
/-- isinstance(e, c), e an error that is held as a value -/
def rIsX (K : W.Frag) : List V → Hp → VK → Prop := fun xs H Q => ∃ (a C fI : Addr) (b : EB) (fs : List (Str × V)) (c : V) (u : Value) (r : Bool), xs = [.ref a, c] ∧ XAt H a C fs ∧ EC K C fI b ∧ ClsV c u ∧ W.kitOne K (.ref C) u = some r ∧ Q (.bl r) H
theorem call_isX : CallR X (.builtin "isinstance") (rIsX X.K) := by
  intro pins s σ H xs us Q I r h
  obtain ⟨a, C, fI, b, fs, c, u, z, rfl, hx, T, k, e, q⟩ := h
  obtain ⟨u1, u2, rfl, r1, r2⟩ := vals2 r
  cases (show u1 = Value.ref a from r1)
  have e2 := k.eq r2
  subst e2
  obtain ⟨ox, od, d, mA, J, _⟩ := xat_inst I hx
  exact W.kia_one (W.kitx_exc T.isc T.ga T.gg T.base T.cl T.gs T.tk T.isob) I.kIn J e (fun z => nomatch z) fun tk => ⟨.bl z, H, I.tok tk, rfl, q⟩
/-- e.f, e an error that is held as a value -/
def tGetX (K : W.Frag) (f : Str) (te : TE) : TE := fun σ H Q => te σ H fun x H1 => ∃ (a C fI : Addr) (b : EB) (fs : List (Str × V)) (v : V), x = .ref a ∧ XAt H1 a C fs ∧ EC K C fI b ∧ W.findIn K (.ref C) f = some none ∧ fs.lookup f = some v ∧ Q v H1
theorem pe_getX (he : PE X e te) (hb : attributeBase e f X.env (eval e X.env) = eval e X.env := by rfl) : PE X (.Attribute e f pos) (tGetX X.K f te) := by
  refine ⟨fun pins s σ H Q I h => ?_⟩
  refine attr_of hb (thn (he.run pins s σ H _ I h) fun u s1 hh => ?_)
  obtain ⟨x, H1, I1, rx, a, C, fI, b, fs, v, ex, hx, T, hno, l, q⟩ := hh
  subst ex
  obtain rfl : u = Value.ref a := rx
  obtain ⟨ox, od, d, mA, J, hd, hns, hr⟩ := xat_inst I1 hx
  obtain ⟨od2, ho, hl⟩ := lookIn_ns hns
  rw [hd] at ho
  cases ho
  obtain ⟨u, hu, ru⟩ := RelO.some_of (v := v) (o := mA f) (by rw [← l]; exact hr f)
  exact HandSPX.exc_get I1.kIn J T.ga T.gg T.base (W.findObj_own T.hd hno rfl (by rw [hl, hu])) (handed_of ru) ⟨v, H1, I1.tok _, ru, q⟩
end
end L2.Mb
set_option maxRecDepth 100000
set_option maxHeartbeats 4000000
namespace L2.Mb
open PySem PySem.Spec PyProof.Rows Mx
/-! ### promises where no repr is under way -/
/-- no repr of a container runs around -/
abbrev Gd (A : Around) : Prop := A.guards = some []
theorem gd_deeper {A : Around} {env : Env} (h : Gd A) : Gd (A.deeper env) := h
structure FnG (P : Program) (w : World) (K : W.Frag) (mg : Str → Option Value) (base : Heap) (CX : CXT) (k : Nat) (f : Addr) (fd : FuncData) (ps : List Str) (sp : Sp) : Prop where
  len : ∀ vs H Q E, sp vs H Q E → vs.length = ps.length
  run : ∀ (A : Around) (outer : List Env) (s : Shared) (H : Hp) (args : Args) (us : List Value) (vs : List V) (Q : VK) (E : XK), Gd A → Room k A → Env0 P w K mg base A outer s H →
    BindsTo s fd args (ps.zip us) → Vals vs us → sp vs H Q E → codeAny (model P w) A (.call (.ref f) args) (CR CX outer P w H s Q E) s
section
variable {P : Program} {w : World} {K : W.Frag} {mg : Str → Option Value} {base : Heap} {CX : CXT} {k : Nat} {f : Addr} {fd : FuncData} {ps : List Str} {sp : Sp}
theorem FnG.of (F : FnOk P w K mg base CX k f fd ps sp) : FnG P w K mg base CX k f fd ps sp :=
  ⟨F.len, fun A outer s H args us vs Q E _ hr e hb hv hs => F.run A outer s H args us vs Q E hr e hb hv hs⟩
theorem FnG.mono {j : Nat} (F : FnG P w K mg base CX j f fd ps sp) (h : j ≤ k) : FnG P w K mg base CX k f fd ps sp :=
  ⟨F.len, fun A outer s H args us vs Q E hg hr => F.run A outer s H args us vs Q E hg (hr.mono h)⟩
theorem FnG.imp {sp' : Sp} (F : FnG P w K mg base CX k f fd ps sp) (h : ∀ vs H Q E, sp' vs H Q E → sp vs H Q E) : FnG P w K mg base CX k f fd ps sp' :=
  ⟨fun vs H Q E q => F.len vs H Q E (h _ _ _ _ q), fun A outer s H args us vs Q E hg hr he hb hv hs => F.run A outer s H args us vs Q E hg hr he hb hv (h _ _ _ _ hs)⟩
end
/-- a def by its body -/
theorem fng_of {CX : CXT} {P : Program} {w : World} {K : W.Frag} {mg : Str → Option Value} {base : Heap} {k : Nat} {f : Addr} {name qual : Str} {params : Arguments} {body : List Stmt} {scope : Scope} {dV kV doc pm cdv ct oc : Value} {an od : Option Addr}
    {osl : Array (Option Value)} {N ps : List Str} {sp : Sp} (lk : K.lookup f = some ⟨oc, od, .func (W.fnOf name qual params body scope dV kV doc pm an cdv ct), osl⟩) (hcd : W.codeIn K cdv qual = true) (S : FnScope N ps scope)
    (len : ∀ vs H Q E, sp vs H Q E → vs.length = ps.length)
    (hbody : ∀ (A : Around) (outer : List Env) (s : Shared) (H : Hp) (vs : List V) (Q : VK) (E : XK), Gd (A.deeper (envOfC qual scope s.heap.objs.size f cdv)) → Room k (A.deeper (envOfC qual scope s.heap.objs.size f cdv)) → sp vs H Q E →
      ∃ t, PSs (cxOf CX P w K mg base N qual scope f cdv A outer s H E) body t ∧ t { nx := fun _ H' => Q .non H', rt := Q } (start N vs) H) :
    FnG P w K mg base CX (k + 1) f (W.fnOf name qual params body scope dV kV doc pm an cdv ct) ps sp := by
  refine ⟨len, fun A outer s H args us vs Q E gd hr e0 hb r hsp => ?_⟩
  have hl := len _ _ _ _ hsp
  have kept : ∀ c o, base.get? c = some o → s.heap.get? c = some o := fun c o e => (e0.bs c o e).1
  have KX : K.In s.heap := e0.mod.kin.keeps kept
  have lim : s.heap.NoLimit := e0.mod.nolimit.keeps kept
  have kinds : ∀ y ∈ ps.zip us, scope.names.lookup y.1 = some .local ∨ (scope.names.lookup y.1 = some .cell ∧ ((cellsFrom (s.heap.objs.size + 1) scope.names []).lookup y.1).isSome = true) := fun ⟨n, v⟩ hy => by
    cases S.par n (List.of_mem_zip hy).1 with
    | inl q => exact .inl q
    | inr q => exact .inr ⟨q, W.cellsFrom_some _ _ _ (.inl q)⟩
  refine codeAny_call_function hr.depth (KX _ _ lk) rfl S.co S.gen rfl (W.codeRec_of KX hcd) (hb _ _ _ _ ?_)
  refine wpAny_newFunctionEnv_cells S.kind kinds fun env he s1 x => ?_
  subst he
  refine ⟨lim.keeps x.toInCall.keep, codeAny_func ?_⟩
  obtain ⟨t, ht, hq⟩ := hbody A outer s H vs Q E (gd_deeper gd) (hr.deeper _) hsp
  have I := inv_start (CX := CX) (E := E) S hr.hd e0 hl r x
  have back : ∀ {σ' : L2.St} {H' : Hp} {v : V} {u : Value} {s' : Shared}, Inv (cxOf CX P w K mg base N qual scope f cdv A outer s H E) [] σ' H' s' → RelV v u → Q v H' → CE outer P w H s Q u s' :=
    fun {σ' H' v u s'} J rv q => ⟨v, H', J.os, J.bare, J.base, J.hok, rv, q⟩
  refine wpAny_mono (ht.run [] s1 (start N vs) H _ I hq) (fun fl s' hs => ?_) fun e s' hs => hs
  cases fl with
  | ret u =>
    obtain ⟨v, σ', H', J, rv, q⟩ := hs
    exact back J rv q
  | next =>
    obtain ⟨σ', H', J, q⟩ := hs
    exact back (v := V.non) (u := Value.none) J rfl q
  | brk => exact (hs.elim fun _ z => z.elim fun _ z => z.elim fun _ z => False.elim z)
  | cont => exact (hs.elim fun _ z => z.elim fun _ z => z.elim fun _ z => False.elim z)
theorem fund_okG {P : Program} {w : World} {K : W.Frag} {mg : Str → Option Value} {base : Heap} {x qual : Str} {params : Arguments} {body : List Stmt} {scope : Scope} {dvs : List V} {kws : List (Str × V)} {f : Addr} {fd : FuncData} {CX : CXT} {N ps : List Str} {k : Nat} {sp : Sp}
    (F : FunD K x qual params body scope dvs kws f fd) (S : FnScope N ps scope) (len : ∀ vs H Q E, sp vs H Q E → vs.length = ps.length)
    (hbody : ∀ (cdv : Value) (A : Around) (outer : List Env) (s : Shared) (H : Hp) (vs : List V) (Q : VK) (E : XK), Gd (A.deeper (envOfC qual scope s.heap.objs.size f cdv)) → Room k (A.deeper (envOfC qual scope s.heap.objs.size f cdv)) → sp vs H Q E →
      ∃ t, PSs (cxOf CX P w K mg base N qual scope f cdv A outer s H E) body t ∧ t { nx := fun _ H' => Q .non H', rt := Q } (start N vs) H) : FnG P w K mg base CX (k + 1) f fd ps sp := by
  obtain ⟨oc, od, dV, kV, doc, pm, an, cdv, ct, osl, rfl, lk, hcd, _, _⟩ := F.ex
  exact fng_of lk hcd S len fun A outer s H vs Q E hg hr hsp => hbody cdv A outer s H vs Q E hg hr hsp
/-! ### calls -/
section
variable {X : Cx} {CX : CXT} {k : Nat} {f C : Addr} {fd : FuncData} {ps : List Str} {sp : Sp} {dvs : List V} {ds : List Value} {E : XK} {x m : Str} {p pos apos : Pos} {e o : Expr} {es : List Expr} {ta : TE} {t : TA}
theorem run_fnG {pins : List (Addr × Obj)} {σ : L2.St} {H : Hp} {s : Shared} {Q : VK} {us : List Value} {vs : List V} (gd : Gd X.A) (F : FnG X.prog X.w X.K X.mg X.base CX k f fd ps sp) (hr : Room k X.A) (hb : Binds X.K fd ps ds) (hd : Vals dvs ds) (hx : Passes CX X E)
    (I : Inv X pins σ H s) (r : Vals vs us) (h : sp (vs ++ dvs) H Q E) : wpAny (model X.prog X.w) X.A (call (.ref f) us) (EP X pins σ Q) X.xe s := by
  have r2 : Vals (vs ++ dvs) (us ++ ds) := r.append hd
  have hl : (us ++ ds).length = ps.length := by
    rw [← r2.length]
    exact F.len _ _ _ _ h
  refine wpAny_call (codeAny_mono (F.run X.A X.stack s H ⟨us, []⟩ (us ++ ds) (vs ++ dvs) Q E gd hr I.env0 (hb s us I.kIn hl) r2 h) fun r s' hq => ?_)
  cases r with
  | error er => exact (hx pins σ H s er s' I hq)
  | ok fl =>
    cases fl with
    | ret u => exact (I.after hq)
    | next => exact (False.elim hq)
    | brk => exact (False.elim hq)
    | cont => exact (False.elim hq)
theorem pe_callG (gd : Gd X.A) (F : FnG X.prog X.w X.K X.mg X.base CX k f fd ps sp) (hr : Room k X.A) (hg : Gl X x) (hm : X.mg x = some (.ref f)) (hk : W.keepIn X.K (.ref f) = true) (hb : Binds X.K fd ps ds) (hd : Vals dvs ds) (hx : Passes CX X E)
    (ha : PA X (e :: es) t) (hdb : (x == ("__debug__" : Str)) = false := by decide) (he : starEach (e :: es) X.env = (false, eval e X.env) :: starEach es X.env := by rfl) (hpl : (backTo pos (starEach es X.env)).any (·.1) = false := by rfl) :
    PE X (.Call (.Name x p) (e :: es) [] pos) (tCall sp dvs E t) :=
  ⟨fun pins s σ H Q I h => wpAny_Call_Name_kw (ld_glob I hg hm
    (W.callWith_K (h₀ := X.base) I.ok.mod.kin hk (thn (ha.run pos pins s σ H _ I h) fun us s1 ⟨vs, H1, I1, r, q⟩ => ⟨I1.kIn, run_fnG gd F hr hb hd hx I1 r q⟩) he hpl) hdb)⟩
theorem pe_callG0 (gd : Gd X.A) (F : FnG X.prog X.w X.K X.mg X.base CX k f fd ps sp) (hr : Room k X.A) (hg : Gl X x) (hm : X.mg x = some (.ref f)) (hk : W.keepIn X.K (.ref f) = true) (hb : Binds X.K fd ps ds) (hd : Vals dvs ds) (hx : Passes CX X E)
    (hdb : (x == ("__debug__" : Str)) = false := by decide) : PE X (.Call (.Name x p) [] [] pos) (tCall sp dvs E tNil) :=
  ⟨fun pins s σ H Q I h => wpAny_Call_Name_kw (ld_glob I hg hm (W.callWith_K0 I.kIn hk (run_fnG (us := []) gd F hr hb hd hx I .nil h)) hdb)⟩
end
/-! ### data: what a value says, dicts too -/
def keyD : Key → PyData
  | .inl i => .int i
  | .inr x => .str x
mutual
inductive Dq (K : W.Frag) (H : Hp) : V → PyData → Prop
  | non : Dq K H .non .none
  | bl (b : Bool) : Dq K H (.bl b) (.bool b)
  | int (i : Int) : Dq K H (.int i) (.int i)
  | str (x : Str) : Dq K H (.str x) (.str x)
  | lst {a : Addr} {xs : List V} {ds : List PyData} : SqL K H a xs → DqAll K H xs ds → Dq K H (.ref a) (.list ds)
  | tup {a : Addr} {xs : List V} {ds : List PyData} : SqT K H a xs → DqAll K H xs ds → Dq K H (.ref a) (.tuple ds)
  | dct {a : Addr} {ks : List Key} {xs : List V} {ds : List PyData} : H a = some (.dK (ks.zip xs)) → ks.length = xs.length → DqAll K H xs ds → Dq K H (.ref a) (.dict ((ks.map keyD).zip ds))
inductive DqAll (K : W.Frag) (H : Hp) : List V → List PyData → Prop
  | nil : DqAll K H [] []
  | cons {v : V} {vs : List V} {d : PyData} {ds : List PyData} : Dq K H v d → DqAll K H vs ds → DqAll K H (v :: vs) (d :: ds)
end

/-- the interpreter's table of modules is written down, and it is a dict -/
def SysD (K : W.Frag) : Prop := ∃ o, K.lookup sysModules = some o ∧ o.cls = .type "dict"
theorem keys_read {prog : Program} {w : World} {h : Heap} : ∀ {es : List DictEntry} {ks : List Key} {us : List Value}, ks.length = us.length → PySem.Pairs (mixKind prog w) es (ks.zip us) →
    ReadsAll h (es.map (·.key)) (ks.map keyD) [] ∧ es.map (·.val) = us
  | [], ks, us, l, p => by
    cases ks with
    | nil =>
      cases us with
      | nil => exact ⟨.nil, rfl⟩
      | cons _ _ => cases l
    | cons _ _ =>
      cases us with
      | nil => cases l
      | cons _ _ => cases p
  | e :: es, ks, us, l, p => by
    cases ks with
    | nil =>
      cases us with
      | nil => cases p
      | cons _ _ => cases l
    | cons k ks =>
      cases us with
      | nil => cases l
      | cons u us =>
        cases p with
        | cons h1 h2 h3 =>
          obtain ⟨r1, r2⟩ := keys_read (h := h) (Nat.succ.inj l) h3
          refine ⟨?_, ?_⟩
          · rcases keyIs_shape (show keyIs k e.key = true from h1) with ⟨i, t, e1, e2⟩ | ⟨x, t, e1, e2⟩
            · have q : ReadsAll h (e.key :: es.map (·.key)) (keyD k :: ks.map keyD) ([] ++ []) := by
                rw [e1, e2]
                exact .cons (.int i t) r1
              exact q
            · have q : ReadsAll h (e.key :: es.map (·.key)) (keyD k :: ks.map keyD) ([] ++ []) := by
                rw [e1, e2]
                exact .cons (.str x t) r1
              exact q
          · show e.val :: es.map (·.val) = u :: us
            rw [r2, show e.val = u from h2]
theorem kv_split : ∀ {ks : List Key} {xs : List V} {vs : List (Key × Value)}, ks.length = xs.length → KV (ks.zip xs) vs → ∃ us, us.length = xs.length ∧ vs = ks.zip us ∧ Vals xs us
  | [], [], _, _, h => by
    cases h
    exact ⟨[], rfl, rfl, .nil⟩
  | [], _ :: _, _, l, _ => by cases l
  | _ :: _, [], _, l, _ => by cases l
  | k :: ks, x :: xs, vs, l, h => by
    cases h with
    | @cons p q _ qs h1 h2 =>
      obtain ⟨us, e1, e2, e3⟩ := kv_split (Nat.succ.inj l) h2
      obtain ⟨qk, qv⟩ := q
      obtain ⟨a1, a2⟩ := h1
      refine ⟨qv :: us, congrArg Nat.succ e1, ?_, .cons a2 e3⟩
      rw [e2]
      have a1' : k = qk := a1
      rw [a1']
      rfl
section
variable {X : Cx} {pins : List (Addr × Obj)} {σ : L2.St} {H : Hp} {s : Shared}
theorem Dq.reads (sd : SysD X.K) (I : Inv X pins σ H s) {v : V} {d : PyData} (h : Dq X.K H v d) : ∀ u, RelV v u → ∃ as, Reads s.heap u d as ∧ sysModules ∉ as := by
  refine Dq.rec (motive_1 := fun v d _ => ∀ u, RelV v u → ∃ as, Reads s.heap u d as ∧ sysModules ∉ as)
    (motive_2 := fun vs ds _ => ds.length = vs.length ∧ ∀ us, Vals vs us → ∃ as, ReadsAll s.heap us ds as ∧ sysModules ∉ as) ?_ ?_ ?_ ?_ ?_ ?_ ?_ ?_ ?_ h
  · intro u r
    cases r
    exact ⟨_, .none, fun z => nomatch z⟩
  · intro b u r
    cases r
    exact ⟨_, .bool b, fun z => nomatch z⟩
  · intro i u r
    obtain ⟨t, rfl⟩ := r
    exact ⟨_, .int i t, fun z => nomatch z⟩
  · intro x u r
    obtain ⟨t, rfl⟩ := r
    exact ⟨_, .str x t, fun z => nomatch z⟩
  · intro a xs ds hs _ ih u r
    cases r
    obtain ⟨its, rv, ⟨o, n, ho, hc, _, hd⟩, _⟩ := I.list hs
    obtain ⟨as, hr, hn⟩ := ih.2 its rv
    refine ⟨_, .list ho hc hd hr, fun z => ?_⟩
    rcases List.mem_cons.mp z with z | z
    · obtain ⟨o2, q1, q2⟩ := sd
      have q3 := I.kIn _ _ q1
      rw [z, ho] at q3
      have q4 : o = o2 := Option.some.inj q3
      rw [← q4, hc] at q2
      exact absurd (Value.type.inj q2) (by decide)
    · exact hn z
  · intro a xs ds hs _ ih u r
    cases r
    obtain ⟨its, rv, ⟨o, ho, hc, n, hd⟩, _⟩ := I.tuple hs
    obtain ⟨as, hr, hn⟩ := ih.2 its rv
    exact ⟨_, .tuple ho hc hd hr, hn⟩
  · intro a ks xs ds ha hl _ ih u r
    cases r
    obtain ⟨el, hrs⟩ := ih
    obtain ⟨_, ya, vs, ra, o, es, ep, ho, hex, hd, _, hp, _⟩ := (show ObjOk X.prog X.w H s.heap a (.dK (ks.zip xs)) from I.hok a _ ha)
    obtain ⟨us, l1, e1, rv⟩ := kv_split hl ra
    subst e1
    have lk : ks.length = us.length := hl.trans l1.symm
    obtain ⟨k1, k2⟩ := keys_read (h := s.heap) lk hp
    obtain ⟨as, hr, hn⟩ := hrs us rv
    have m1 : (ks.map keyD).length = ds.length := by rw [List.length_map, hl, el]
    refine ⟨a :: [] ++ as, ?_, fun z => ?_⟩
    · refine .dict ho hex.1 hd ?_ ?_
      · rw [show ((ks.map keyD).zip ds).map (·.1) = ks.map keyD from List.map_fst_zip (Nat.le_of_eq m1)]
        exact k1
      · rw [show ((ks.map keyD).zip ds).map (·.2) = ds from List.map_snd_zip (Nat.le_of_eq m1.symm), k2]
        exact hr
    · rcases List.mem_cons.mp z with z | z
      · rw [← z] at ya
        simp at ya
      · exact hn z
  · exact ⟨rfl, fun us r => by
      cases r
      exact ⟨_, .nil, fun z => nomatch z⟩⟩
  · intro v vs d ds _ _ ih1 ih2
    refine ⟨congrArg Nat.succ ih2.1, fun us r => ?_⟩
    cases r with
    | cons r1 r2 =>
      obtain ⟨as, q1, n1⟩ := ih1 _ r1
      obtain ⟨bs, q2, n2⟩ := ih2.2 _ r2
      exact ⟨_, .cons q1 q2, fun z => (List.mem_append.mp z).elim n1 n2⟩
end
/-- what can be shown: short enough, no huge ints, at most 60 deep -/
def okD (d : PyData) : Bool := d.showable && (decide (d.depth ≤ 60) && decide (d.shown.length ≤ sizeLine))
section
variable {X : Cx}
/-- repr(x), x a list, a tuple or a dict of data -/
def rRepr (K : W.Frag) : List V → Hp → VK → Prop := fun xs H Q => ∃ (a : Addr) (d : PyData), xs = [.ref a] ∧ Dq K H (.ref a) d ∧ okD d = true ∧ Q (.str d.shown) H
theorem call_repr (gd : Gd X.A) (sd : SysD X.K) (hu : X.A.units + 64 < cLine) : CallR X (.builtin "repr") (rRepr X.K) := by
  intro pins s σ H xs us Q I r h
  obtain ⟨a, d, rfl, hd, ok, q⟩ := h
  obtain ⟨o1, o2⟩ := Bool.and_eq_true_iff.mp ok
  obtain ⟨o3, o4⟩ := Bool.and_eq_true_iff.mp o2
  have dp : d.depth ≤ 60 := of_decide_eq_true o3
  cases r with
  | cons r1 r2 =>
    cases r2
    obtain ⟨as, hr, hn⟩ := hd.reads sd I _ r1
    cases r1
    exact repr_of_reads' hr o1 (fun _ => hn) gd (by omega) (fun _ _ e => e) (fun h' u tk k => ⟨.str d.shown, H, I.kept (t' := tk) k, ⟨u, rfl⟩, q⟩) (of_decide_eq_true o4)
end
end L2.Mb
set_option maxRecDepth 100000
set_option maxHeartbeats 4000000
namespace L2.Mb
open PySem PySem.Spec PyProof.Rows Mx
section
variable {P : Program} {w : World} {K : W.Frag} {mg mb : Str → Option Value} {CX : CXT} {k : Nat} {fa a : Addr} {fd : FuncData} {x : Str} {sp : Sp} {s1 : Shared} {vs : List Value} {ns : List Int}
/-- what the law's call leaves -/
abbrev LawEnd (s1 : Shared) : Result → Shared → Prop := fun r s' => r = .ok (.ret (.bool true)) ∧ OldK s1.heap s'.heap ∧ s'.os = s1.os ∧ AllBare s'.gens
theorem lawG_core {H : Hp} {V0 : Array Value} (KX : K.In s1.heap) (hns : s1.heap.Ns mainGlobals mg) (hb : s1.heap.Ns builtinsNs mb) (hbb : ∀ x : Str, x ≠ "__name__" → mb x = bootBuiltins x) (hlim : s1.heap.NoLimit) (hg : s1.gens = #[])
    (hr : Room k callerA) (F : ∀ base : Heap, K.In base → base.Ns mainGlobals mg → FnG P w K mg base CX k fa fd [x] sp) (hbind : ∀ (s : Shared) (u : Value), BindsTo s fd ⟨[u], []⟩ [(x, u)])
    (ha : s1.heap.get? a = some { cls := .type "list", data := .seq V0 }) (hO : Only H) (hok : HOk P w H s1.heap) (hA : ∀ c, c ≠ a → H c = none) (hK : H a ≠ none → K.lookup a = none)
    (hsp : sp [.ref a] H (fun v _ => v = .bl true) fun _ _ _ => False) (hCX : ∀ e s', CX [] H s1 (fun _ _ _ => False) e s' → False) :
    codeAny (model P w) callerA (.call (.ref fa) ⟨[.ref a], []⟩) (LawEnd s1) s1 := by
  have keepD : ∀ {c : Addr} {o : Obj} {es : Array DictEntry} {ep : Nat}, s1.heap.get? c = some o → o.data = .dict es ep → H c = none := fun {c o es ep} e d => by
    by_cases q : c = a
    · rw [q, ha] at e
      cases e
      cases d
    · exact hA c q
  have nsH : ∀ {c : Addr} {m : Str → Option Value}, s1.heap.Ns c m → (hidT s1.heap H).Ns c m := fun {c m} z => by
    obtain ⟨o, es, ep, e, d, r⟩ := z
    exact ⟨o, es, ep, hidT_get e (keepD e d), d, r⟩
  have KH : K.In (hidT s1.heap H) := fun c o e => by
    refine hidT_get (KX c o e) ?_
    by_cases q : c = a
    · cases z : H c with
      | none => rfl
      | some u =>
        have y := hK (by rw [← q, z]; exact fun t => nomatch t)
        rw [q, y] at e
        cases e
    · exact hA c q
  obtain ⟨mc, l1, l2⟩ := hlim
  have M : Mod K mg (hidT s1.heap H) := { kin := KH, glob := nsH hns, blt := ⟨mb, nsH hb, hbb⟩, nolimit := ⟨mc, nsH l1, l2⟩ }
  have e0 : Env0 P w K mg (hidT s1.heap H) callerA [] s1 H := ⟨rfl, M, fun c o e => of_hidT e, Nat.le_of_eq (hidT_size _ _), trivial, (fun c hc => absurd (show c ∈ ([] : List Addr) from hc) (by simp)), hok, .of_eq hg⟩
  have run := (F _ KH (nsH hns)).run callerA [] s1 H ⟨[.ref a], []⟩ [.ref a] [.ref a] _ _ rfl hr e0 (hbind s1 (.ref a)) (.cons rfl .nil) hsp
  refine codeAny_mono run fun r s' h => ?_
  cases r with
  | error e => exact ((hCX e s' h).elim)
  | ok fl =>
    cases fl with
    | next => exact (False.elim h)
    | brk => exact (False.elim h)
    | cont => exact (False.elim h)
    | ret u =>
      obtain ⟨v, H', os, bare, un, hok', rv, q⟩ := h
      have q' : v = .bl true := q
      subst q'
      obtain rfl : u = Value.bool true := rv
      refine ⟨rfl, OldK.of_keep fun c o e => ?_, os, bare⟩
      cases z : H c with
      | none => exact un.keep c o e z (fun y => absurd (show c ∈ ([] : List Addr) from y) (by simp)) (by simp)
      | some u =>
        rcases hO c with y | ⟨ob, xs, y⟩
        · rw [z] at y
          cases y
        · obtain ⟨e1, _⟩ := hok c _ y
          obtain ⟨e2, _⟩ := hok' c _ (un.frzs c ob _ y)
          rw [e] at e1
          cases e1
          exact e2
theorem lawG_call (KX : K.In s1.heap) (hns : s1.heap.Ns mainGlobals mg) (hb : s1.heap.Ns builtinsNs mb) (hbb : ∀ x : Str, x ≠ "__name__" → mb x = bootBuiltins x) (hlim : s1.heap.NoLimit) (hg : s1.gens = #[])
    (ha : s1.heap.get? a = some { cls := .type "list", data := .seq vs.toArray }) (hi : IntsAre vs ns) (hl : ns.length ≤ sizeLine) (hr : Room k callerA)
    (F : ∀ base : Heap, K.In base → base.Ns mainGlobals mg → FnG P w K mg base CX k fa fd [x] sp) (hbind : ∀ (s : Shared) (u : Value), BindsTo s fd ⟨[u], []⟩ [(x, u)])
    (hsp : ∀ H : Hp, Only H → SqL K H a (ns.map V.int) → sp [.ref a] H (fun v _ => v = .bl true) fun _ _ _ => False) (hCX : ∀ H e s', CX [] H s1 (fun _ _ _ => False) e s' → False) :
    codeAny (model P w) callerA (.call (.ref fa) ⟨[.ref a], []⟩) (LawEnd s1) s1 := by
  have rv := vals_ints hi
  have hlen := hi.length
  cases hk : K.lookup a with
  | some o =>
    have e := KX a o hk
    rw [ha] at e
    cases e
    have hO : Only (fun _ => none) := fun _ => .inl rfl
    have hS : SqL K (fun _ => none) a (ns.map V.int) := .inr ⟨_, vs.toArray, _, hk, rfl, rfl, rfl, by rw [List.size_toArray, hlen]; exact hl, by simpa using rv⟩
    exact lawG_core KX hns hb hbb hlim hg hr F hbind ha hO (fun c u z => by cases (show (none : Option HO) = some u from z)) (fun _ _ => rfl) (fun z => absurd rfl z) (hsp _ hO hS) (hCX _)
  | none =>
    let H : Hp := fun c => if c = a then some (.frz { cls := .type "list", data := .seq vs.toArray } (.lst (ns.map V.int))) else none
    have Ha : H a = some (.frz { cls := .type "list", data := .seq vs.toArray } (.lst (ns.map V.int))) := if_pos rfl
    have Hn : ∀ c, c ≠ a → H c = none := fun c hc => if_neg hc
    have hO : Only H := fun c => by
      by_cases hc : c = a
      · exact .inr ⟨_, _, by rw [hc]; exact Ha⟩
      · exact .inl (Hn c hc)
    have hS : SqL K H a (ns.map V.int) := .inl (.inr ⟨_, Ha⟩)
    refine lawG_core KX hns hb hbb hlim hg hr F hbind ha hO (fun c u z => ?_) Hn (fun _ => hk) (hsp _ hO hS) (hCX _)
    by_cases hc : c = a
    · rw [hc, Ha] at z
      cases z
      rw [hc]
      exact ⟨ha, by rw [List.length_map]; exact hl, vs, _, rv, ha⟩
    · rw [Hn c hc] at z
      cases z
end
/-- the law's end over a head that reads facts -/
theorem walkG {l : W.OpenLaw} {n k : Nat} {q : Program} {loose : List Str} {XP : (Str → Option Value) → Heap → Prop} {YP : World → Heap → Prop} {d : DefRec} {CX : CXT} {x : Str}
    (hn : l.most = some n) (hn2 : n ≤ sizeLine) (hdf : d.params.defaults = []) (hr : Room k callerA)
    (F : ∀ (w : World) (mg : Str → Option Value) (fa : Addr) (h : Heap), YP w h → h.Ns mainGlobals mg → mg d.name = some (.ref fa) →
      ∃ (K : W.Frag) (fd : FuncData) (sp : Sp), K.In h ∧ (∀ (s : Shared) (u : Value), BindsTo s fd ⟨[u], []⟩ [(x, u)]) ∧
        (∀ (H : Hp) (a : Addr) (ns : List Int), ns.length ≤ n → Only H → SqL K H a (ns.map V.int) → sp [.ref a] H (fun v _ => v = .bl true) fun _ _ _ => False) ∧
        ∀ base : Heap, K.In base → base.Ns mainGlobals mg → FnG l.prog w K mg base CX k fa fd [x] sp)
    (hCX : ∀ (H : Hp) (s : Shared) (e : Value) (s' : Shared), CX [] H s (fun _ _ _ => False) e s' → False) :
    W.WalkO q loose XP YP l.row.toRowW d [] (fun f vs => PySem.call f vs) := by
  refine Att.attach_call hn hdf fun w s0 s1 mg mb fa o pm cd doc a vs ns G Y ho hd hcd hmg hobj hints hlen hg => ?_
  obtain ⟨K, fd, sp, KX, hb, hsp, hF⟩ := F w mg fa _ Y G.T.g hmg
  exact lawG_call KX G.T.g G.T.b G.T.builtins G.T.nolimit hg hobj hints (Nat.le_trans hlen hn2) hr hF hb (fun H hO hS => hsp H a ns hlen hO hS) fun H e s' => hCX H s1 e s'
end L2.Mb
set_option maxRecDepth 100000
set_option maxHeartbeats 4000000
namespace L2.Mb
open PySem PySem.Spec PyProof.Rows Mx LamX
/-! ### the law's end where lambdas run: tables of code objects, no repr under way -/
/-- an empty table stands at t -/
def Bare (h : Heap) (t : Addr) : Prop := h.get? t = some { cls := .none, data := .fields #[] }
/-- what is known of the module of built-ins -/
def BltMod (mg : Str → Option Value) (h : Heap) : Prop := ∃ (bm : Addr) (ob : Obj), mg "__builtins__" = some (.ref bm) ∧ bm ≠ builtinsNs ∧ h.get? bm = some ob ∧ ob.cls = .type "module" ∧ ob.dict = some builtinsNs ∧ ob.data = .plain
/-- what is tracked at first: the tables, perhaps the script -/
def hpT (a : Addr) (ts : List Addr) (fr : Option HO) : Hp := fun c => if c ∈ ts then some (.tbl #[]) else if c = a then fr else none
section
variable {a : Addr} {ts : List Addr} {fr : Option HO}
theorem hpT_t {c : Addr} (h : c ∈ ts) : hpT a ts fr c = some (.tbl #[]) := if_pos h
theorem hpT_a (h : a ∉ ts) : hpT a ts fr a = fr := (if_neg h).trans (if_pos rfl)
theorem hpT_n {c : Addr} (h : c ∉ ts) (n : c ≠ a) : hpT a ts fr c = none := (if_neg h).trans (if_neg n)
theorem hpT_cases {c : Addr} {u : HO} (h : hpT a ts fr c = some u) : (c ∈ ts ∧ u = .tbl #[]) ∨ (c ∉ ts ∧ c = a ∧ fr = some u) := by
  by_cases m : c ∈ ts
  · rw [hpT_t m] at h
    cases h
    exact .inl ⟨m, rfl⟩
  · by_cases e : c = a
    · subst e
      rw [hpT_a m] at h
      exact .inr ⟨m, rfl, h⟩
    · rw [hpT_n m e] at h
      cases h
end
section
variable {P : Program} {w : World} {K : W.Frag} {mg mb : Str → Option Value} {CX : CXT} {k : Nat} {fa a : Addr} {fd : FuncData} {x : Str} {sp : Sp} {s1 : Shared} {vs : List Value} {ns : List Int} {cs : List (Addr × Addr)}
theorem lawT_core {fr : Option HO} {V0 : Array Value} (KX : K.In s1.heap) (hns : s1.heap.Ns mainGlobals mg) (hb : s1.heap.Ns builtinsNs mb) (hbb : ∀ x : Str, x ≠ "__name__" → mb x = bootBuiltins x) (hlim : s1.heap.NoLimit) (hg : s1.gens = #[])
    (bt : ∀ p ∈ cs, Bare s1.heap p.2) (nk : ∀ p ∈ cs, K.lookup p.2 = none) (cd : ∀ p ∈ cs, W.CodeHd s1.heap p.1 p.2) (bm : BltMod mg s1.heap) (hr : Room k callerA)
    (F : ∀ base : Heap, K.In base → base.Ns mainGlobals mg → (∀ p ∈ cs, TabB base mg p.1 p.2) → FnG P w K mg base CX k fa fd [x] sp) (hbind : ∀ (s : Shared) (u : Value), BindsTo s fd ⟨[u], []⟩ [(x, u)])
    (ha : s1.heap.get? a = some { cls := .type "list", data := .seq V0 }) (hfr : fr = none ∨ (∃ o xs, fr = some (.frz o (.lst xs))) ∧ K.lookup a = none) (hfo : ∀ u, fr = some u → ∀ H : Hp, ObjOk P w H s1.heap a u)
    (hsp : sp [.ref a] (hpT a (cs.map Prod.snd) fr) (fun v _ => v = .bl true) fun _ _ _ => False) (hCX : ∀ e s', CX [] (hpT a (cs.map Prod.snd) fr) s1 (fun _ _ _ => False) e s' → False) :
    codeAny (model P w) callerA (.call (.ref fa) ⟨[.ref a], []⟩) (LawEnd s1) s1 := by
  generalize hts : cs.map Prod.snd = ts at hsp hCX
  have isT : ∀ c ∈ ts, Bare s1.heap c := fun c hc => by
    rw [← hts] at hc
    obtain ⟨p, hp, rfl⟩ := List.mem_map.mp hc
    exact bt p hp
  have notK : ∀ c ∈ ts, K.lookup c = none := fun c hc => by
    rw [← hts] at hc
    obtain ⟨p, hp, rfl⟩ := List.mem_map.mp hc
    exact nk p hp
  have aT : a ∉ ts := fun z => by
    have q := (isT a z).symm.trans ha
    have q2 : Data.fields #[] = Data.seq V0 _ := congrArg Obj.data (Option.some.inj q)
    cases q2
  -- what is neither a list nor an empty table is not tracked
  have free : ∀ {c : Addr} {o : Obj}, s1.heap.get? c = some o → (∀ v n, o.data ≠ .seq v n) → o.data ≠ .fields #[] → hpT a ts fr c = none := fun {c o} e d1 d2 => by
    refine hpT_n (fun m => ?_) fun z => ?_
    · have q := Option.some.inj ((isT c m).symm.trans e)
      exact d2 (by rw [← q])
    · rw [z] at e
      have q := Option.some.inj (ha.symm.trans e)
      exact d1 V0 _ (by rw [← q])
  have nsT : ∀ {c : Addr} {m : Str → Option Value}, s1.heap.Ns c m → (hidT s1.heap (hpT a ts fr)).Ns c m := fun {c m} z => by
    obtain ⟨o, es, ep, e, d, r⟩ := z
    exact ⟨o, es, ep, hidT_get e (free e (fun v n y => by rw [d] at y; cases y) fun y => by rw [d] at y; cases y), d, r⟩
  have KT : K.In (hidT s1.heap (hpT a ts fr)) := fun c o e => by
    refine hidT_get (KX c o e) ?_
    cases z : hpT a ts fr c with
    | none => rfl
    | some u =>
      rcases hpT_cases z with ⟨m, _⟩ | ⟨_, m, hu⟩
      · rw [notK c m] at e
        cases e
      · rcases hfr with y | ⟨_, y⟩
        · rw [y] at hu
          cases hu
        · rw [m, y] at e
          cases e
  have tb : ∀ p ∈ cs, TabB (hidT s1.heap (hpT a ts fr)) mg p.1 p.2 := fun p hp => by
    have b0 := bt p hp
    obtain ⟨go, ge, gp, g1, g2, g3⟩ := hns
    have gT : mainGlobals ≠ p.2 := fun z => by
      rw [z] at g1
      have q := Option.some.inj (b0.symm.trans g1)
      rw [← q] at g2
      cases g2
    refine ⟨?_, ?_, gT⟩
    · obtain ⟨o, us, file, tf, flags, tg, inF, text, tt, e1, c1, c2, c3, rest⟩ := cd p hp
      exact ⟨o, us, file, tf, flags, tg, inF, text, tt, hidT_get e1 (free e1 (fun v n y => by rw [c2] at y; cases y) fun y => by
        rw [c2] at y
        cases y
        simp at c3), c1, c2, c3, rest⟩
    · obtain ⟨m, ob, m1, m2, m3, m4, m5, m6⟩ := bm
      refine ⟨m, ob, m1, m2, fun z => ?_, fun z => ?_, hidT_get m3 (free m3 (fun v n y => by rw [m6] at y; cases y) fun y => by rw [m6] at y; cases y), m4, m5, m6⟩
      · rw [z] at m3
        have q := Option.some.inj (m3.symm.trans g1)
        rw [q, g2] at m6
        cases m6
      · rw [z] at m3
        have q := Option.some.inj (m3.symm.trans b0)
        rw [q] at m6
        cases m6
  have ok : HOk P w (hpT a ts fr) s1.heap := fun c u z => by
    rcases hpT_cases z with ⟨m, rfl⟩ | ⟨_, rfl, hu⟩
    · exact isT c m
    · exact hfo u hu _
  obtain ⟨mc, l1, l2⟩ := hlim
  have M : Mod K mg (hidT s1.heap (hpT a ts fr)) := { kin := KT, glob := nsT hns, blt := ⟨mb, nsT hb, hbb⟩, nolimit := ⟨mc, nsT l1, l2⟩ }
  have e0 : Env0 P w K mg (hidT s1.heap (hpT a ts fr)) callerA [] s1 (hpT a ts fr) := ⟨rfl, M, fun c o e => of_hidT e, Nat.le_of_eq (hidT_size _ _), True.intro, (fun c hc => absurd (show c ∈ ([] : List Addr) from hc) (by simp)), ok, .of_eq hg⟩
  have run := (F _ KT (nsT hns) tb).run callerA [] s1 (hpT a ts fr) ⟨[.ref a], []⟩ [.ref a] [.ref a] _ _ rfl hr e0 (hbind s1 (.ref a)) (.cons rfl .nil) hsp
  refine codeAny_mono run fun r s' h => ?_
  cases r with
  | error e => exact ((hCX e s' h).elim)
  | ok fl =>
    cases fl with
    | next => exact (False.elim h)
    | brk => exact (False.elim h)
    | cont => exact (False.elim h)
    | ret u =>
      obtain ⟨v, H', os, bare, un, hok', rv, q⟩ := h
      have q' : v = .bl true := q
      subst q'
      obtain rfl : u = Value.bool true := rv
      have keep : ∀ c o, c ∉ ts → s1.heap.get? c = some o → s'.heap.get? c = some o := fun c o nt e => by
        cases z : hpT a ts fr c with
        | none => exact un.keep c o e z (fun y => absurd (show c ∈ ([] : List Addr) from y) (by simp)) (by simp)
        | some u =>
          rcases hpT_cases z with ⟨m, _⟩ | ⟨_, rfl, hu⟩
          · exact absurd m nt
          · rcases hfr with y | ⟨⟨ob, xs, y⟩, _⟩
            · rw [y] at hu
              cases hu
            · rw [y] at hu
              cases hu
              obtain ⟨e1, _⟩ := ok c _ z
              obtain ⟨e2, _⟩ := hok' c _ (un.frzs c ob _ z)
              rw [e] at e1
              cases e1
              exact e2
      have more : ∀ p ∈ cs, ∃ us : Array Value, s'.heap.get? p.2 = some { cls := .none, data := .fields us } := fun p hp => by
        obtain ⟨us, z⟩ := un.tbls p.2 #[] (hpT_t (by rw [← hts]; exact List.mem_map.mpr ⟨p, hp, rfl⟩))
        exact ⟨_, hok' p.2 _ z⟩
      refine ⟨rfl, { old := fun c o e => ?_, there := fun c o e => ?_ }, os, bare⟩
      · by_cases m : c ∈ ts
        · rw [← hts] at m
          obtain ⟨p, hp, rfl⟩ := List.mem_map.mp m
          obtain ⟨us, hus⟩ := more p hp
          have b0 := bt p hp
          obtain rfl := Option.some.inj (b0.symm.trans e)
          exact .inr (.inl ⟨((cd p hp).tab b0).isCodeTable, rfl, #[], us, rfl, hus.trans (by rw [Array.empty_append])⟩)
        · exact .inl (keep c o m e)
      · by_cases m : c ∈ ts
        · rw [← hts] at m
          obtain ⟨p, hp, rfl⟩ := List.mem_map.mp m
          obtain ⟨us, hus⟩ := more p hp
          exact ⟨_, hus⟩
        · exact ⟨o, keep c o m e⟩
theorem lawT_call (KX : K.In s1.heap) (hns : s1.heap.Ns mainGlobals mg) (hb : s1.heap.Ns builtinsNs mb) (hbb : ∀ x : Str, x ≠ "__name__" → mb x = bootBuiltins x) (hlim : s1.heap.NoLimit) (hg : s1.gens = #[])
    (bt : ∀ p ∈ cs, Bare s1.heap p.2) (nk : ∀ p ∈ cs, K.lookup p.2 = none) (cd : ∀ p ∈ cs, W.CodeHd s1.heap p.1 p.2) (bm : BltMod mg s1.heap)
    (ha : s1.heap.get? a = some { cls := .type "list", data := .seq vs.toArray }) (hi : IntsAre vs ns) (hl : ns.length ≤ sizeLine) (hr : Room k callerA)
    (F : ∀ base : Heap, K.In base → base.Ns mainGlobals mg → (∀ p ∈ cs, TabB base mg p.1 p.2) → FnG P w K mg base CX k fa fd [x] sp) (hbind : ∀ (s : Shared) (u : Value), BindsTo s fd ⟨[u], []⟩ [(x, u)])
    (hsp : ∀ H : Hp, (∀ p ∈ cs, H p.2 = some (.tbl #[])) → SqL K H a (ns.map V.int) → sp [.ref a] H (fun v _ => v = .bl true) fun _ _ _ => False) (hCX : ∀ H e s', CX [] H s1 (fun _ _ _ => False) e s' → False) :
    codeAny (model P w) callerA (.call (.ref fa) ⟨[.ref a], []⟩) (LawEnd s1) s1 := by
  have rv := vals_ints hi
  have hlen := hi.length
  have aT : a ∉ cs.map Prod.snd := fun z => by
    obtain ⟨p, hp, e⟩ := List.mem_map.mp z
    have q := bt p hp
    rw [e] at q
    have q2 := (q.symm.trans ha)
    have q3 : Data.fields #[] = Data.seq vs.toArray _ := congrArg Obj.data (Option.some.inj q2)
    cases q3
  have ht : ∀ (fr : Option HO) (p), p ∈ cs → hpT a (cs.map Prod.snd) fr p.2 = some (.tbl #[]) := fun fr p hp => hpT_t (List.mem_map.mpr ⟨p, hp, rfl⟩)
  cases hk : K.lookup a with
  | some o =>
    have e := KX a o hk
    rw [ha] at e
    cases e
    have hS : SqL K (hpT a (cs.map Prod.snd) none) a (ns.map V.int) := .inr ⟨_, vs.toArray, _, hk, rfl, rfl, rfl, by rw [List.size_toArray, hlen]; exact hl, by simpa using rv⟩
    exact lawT_core (fr := none) KX hns hb hbb hlim hg bt nk cd bm hr F hbind ha (.inl rfl) (fun u z => by cases z) (hsp _ (ht _) hS) (hCX _)
  | none =>
    have hS : SqL K (hpT a (cs.map Prod.snd) (some (.frz { cls := .type "list", data := .seq vs.toArray } (.lst (ns.map V.int))))) a (ns.map V.int) := .inl (.inr ⟨_, hpT_a aT⟩)
    refine lawT_core KX hns hb hbb hlim hg bt nk cd bm hr F hbind ha (.inr ⟨⟨_, _, rfl⟩, hk⟩) (fun u z => ?_) (hsp _ (ht _) hS) (hCX _)
    cases z
    exact fun H => ⟨ha, by rw [List.length_map]; exact hl, vs, _, rv, ha⟩
end
/-- the law's end over a head that reads facts, with tables -/
theorem walkT {l : W.OpenLaw} {n k : Nat} {q : Program} {loose : List Str} {XP : (Str → Option Value) → Heap → Prop} {YP : World → Heap → Prop} {d : DefRec} {CX : CXT} {x : Str}
    (hn : l.most = some n) (hn2 : n ≤ sizeLine) (hdf : d.params.defaults = []) (hr : Room k callerA)
    (F : ∀ (w : World) (mg : Str → Option Value) (fa : Addr) (h : Heap), YP w h → h.Ns mainGlobals mg → mg d.name = some (.ref fa) →
      ∃ (K : W.Frag) (fd : FuncData) (sp : Sp) (cs : List (Addr × Addr)), K.In h ∧ (∀ p ∈ cs, Bare h p.2) ∧ (∀ p ∈ cs, K.lookup p.2 = none) ∧ (∀ p ∈ cs, W.CodeHd h p.1 p.2) ∧ (∀ (s : Shared) (u : Value), BindsTo s fd ⟨[u], []⟩ [(x, u)]) ∧
        (∀ (H : Hp) (a : Addr) (ns : List Int), ns.length ≤ n → (∀ p ∈ cs, H p.2 = some (.tbl #[])) → SqL K H a (ns.map V.int) → sp [.ref a] H (fun v _ => v = .bl true) fun _ _ _ => False) ∧
        ∀ base : Heap, K.In base → base.Ns mainGlobals mg → (∀ p ∈ cs, TabB base mg p.1 p.2) → FnG l.prog w K mg base CX k fa fd [x] sp)
    (hCX : ∀ (H : Hp) (s : Shared) (e : Value) (s' : Shared), CX [] H s (fun _ _ _ => False) e s' → False) :
    W.WalkO q loose XP YP l.row.toRowW d [] (fun f vs => PySem.call f vs) := by
  refine Att.attach_call hn hdf fun w s0 s1 mg mb fa o pm cd doc a vs ns G Y ho hd hcd hmg hobj hints hlen hg => ?_
  obtain ⟨K, fd, sp, cs, KX, bt, nk, ch, hb, hsp, hF⟩ := F w mg fa _ Y G.T.g hmg
  exact lawT_call KX G.T.g G.T.b G.T.builtins G.T.nolimit hg bt nk ch G.T.bmain hobj hints (Nat.le_trans hlen hn2) hr hF hb (fun H hT hS => hsp H a ns hlen hT hS) fun H e s' => hCX H s1 e s'
end L2.Mb
set_option maxRecDepth 100000
set_option maxHeartbeats 4000000
namespace L2.Mb
open PySem PySem.Spec PyProof.Rows Mx

/-! ### an error that was caught and is kept behind its suite -/
/-- the record of a caught error: its class, its dict -/
def exh (a C d : Addr) : HO := .ext fun h => ∃ (o : Obj) (vs : Array Value), h.get? a = some o ∧ o.cls = .ref C ∧ o.dict = some d ∧ o.data = .fields vs
def HAt (H : Hp) (a C : Addr) (fs : List (Str × V)) : Prop := ∃ d, H a = some (exh a C d) ∧ H d = some (.xd fs)
theorem exh_ok {P : Program} {w : World} {H : Hp} {h : Heap} {a C d : Addr} {o : Obj} {vs : Array Value} (e : h.get? a = some o) (c : o.cls = .ref C) (k : o.dict = some d) (f : o.data = .fields vs) : ObjOk P w H h a (exh a C d) :=
  ⟨⟨o, vs, e, c, k, f⟩, ⟨o, e⟩, fun h1 h2 z kk => by
    obtain ⟨o1, v1, e1, r⟩ := z
    exact ⟨o1, v1, kk _ e1, r⟩⟩
section
variable {X : Cx} {pins : List (Addr × Obj)} {σ : St} {H : Hp} {s : Shared}
/-- an object that was made since the def began is looked at from now on -/
theorem inv_know {a : Addr} {o : HO} (I : Inv X pins σ H s) (na : H a = none) (n0 : X.s_0.heap.get? a = none) (nL : a ≠ X.env.locals) (nc : ∀ x c, X.env.cells.lookup x = some c → c ≠ a) (np : ∀ p ∈ X.pn ++ pins, p.1 ≠ a)
    (new : ObjOk X.prog X.w (upd H a o) s.heap a o) : Inv X pins σ (upd H a o) s := by
  have far : ∀ {b : Addr} {u : HO}, H b = some u → b ≠ a := fun e => ne_of_none e na
  refine ⟨I.ok, I.os, I.bare, ⟨I.base.keep, I.base.slot, fun b u e n hx => ?_, I.base.there, fun b xs e => ?_, fun b u v e => ?_, fun b ps e => ?_⟩, I.loc, I.cell, ?_, fun x c e => ?_, fun p hp => ?_, fun b u e => ?_, I.len⟩
  · have hb : b ≠ a := fun z => by
      rw [z, n0] at e
      cases e
    rw [upd_ne hb]
    exact I.base.free b u e n hx
  · have q := I.base.tups b xs e
    rw [upd_ne (far q)]
    exact q
  · have q := I.base.frzs b u v e
    rw [upd_ne (far q)]
    exact q
  · obtain ⟨more, q⟩ := I.base.tbls b ps e
    exact ⟨more, by rw [upd_ne (far q)]; exact q⟩
  · rw [upd_ne (Ne.symm nL)]
    exact I.free
  · rw [upd_ne (nc x c e)]
    exact I.freeC x c e
  · obtain ⟨z1, z2, z3⟩ := I.pin p hp
    exact ⟨z1, by rw [upd_ne (np p hp)]; exact z2, z3⟩
  · by_cases hb : b = a
    · subst hb
      rw [upd_same] at e
      cases e
      exact new
    · rw [upd_ne hb] at e
      refine (I.hok b u e).stay (fun c v _ q => q) (fun c q => ?_) fun c xs q => ?_
      · rw [upd_ne (far q)]
        exact q
      · rw [upd_ne (far q)]
        exact q
theorem unsuiteK {a : Addr} {q : Addr × Obj} {pn' : List (Addr × Obj)} (I : Inv (X.suite a (q :: (X.pn ++ pins))) pn' σ H s) (ok : X.Ok) : Inv X (q :: pins) σ H s :=
  ⟨ok, I.os, I.bare, I.base, I.loc, I.cell, I.free, I.freeC, fun p hp => by
    refine I.pin p (List.mem_append_left _ ?_)
    rcases List.mem_append.mp hp with z | z
    · exact List.mem_cons_of_mem _ (List.mem_append_left _ z)
    · rcases List.mem_cons.mp z with z | z
      · rw [z]
        exact List.mem_cons_self
      · exact List.mem_cons_of_mem _ (List.mem_append_right _ z), I.hok, I.len⟩
theorem flying_kept {B h h' : Heap} {l : List Env} {e : Addr} {Z : Obj → Prop} (x : HandSPX.FlyingZ B l e Z h) (k : ∀ b o, h.get? b = some o → h'.get? b = some o) : HandSPX.FlyingZ B l e Z h' := by
  obtain ⟨k1, k2, k3, oe, vs, T, oT, ts, e1, e2, e3, e4, e5, e6, e7, e8⟩ := x
  exact ⟨fun b o q => k b o (k1 b o q), k2, k3.of_keeps fun b o q _ => ⟨o, k b o q, rfl⟩, oe, vs, T, oT, ts, k _ _ e1, e2, e3, e4, e5, e6, k _ _ e7, e8⟩
end
/-- what 'except (x1, x2, x3) as n' wishes of an error that it catches, behind which the error is kept -/
def wHold (K : W.Frag) (n : Nat) (cs : List Value) (i : Nat) (ts : Addr → Value → Option Addr → TS) (D : Ends) : WX := fun cls d σ H => ∃ C dd, cls = .ref C ∧ d = some dd ∧ W.exmAny K cls cs = some true ∧
  ∀ a, σ.length = n → H a = none → ts a cls d { nx := fun σ' H' => H' a = none → D.nx (σ'.set i none) (upd H' a (exh a C dd)), rt := fun _ _ => False, bk := fun _ _ => False, ct := fun _ _ => False } (σ.set i (some (.ref a))) H
section
variable {X : Cx} {x1 x2 x3 n : Str} {c1 c2 c3 : Value} {i j : Nat} {body suite : List Stmt} {b₀ : Stmt} {p1 p2 p3 pt pos pos' : Pos} {tb : WX → TS} {ts : Addr → Value → Option Addr → TS}
theorem ps_try_hold (hs : X.stack = X.env :: X.outer) (hf : X.env.frame = some X.env.locals) (hx : X.ex = []) (hN : X.N.Nodup) (hi : X.N[i]? = some n) (hln : X.env.kindOf n = some .local) (g1 : Gl X x1) (m1 : X.mg x1 = some c1) (g2 : Gl X x2) (m2 : X.mg x2 = some c2)
    (g3 : Gl X x3) (m3 : X.mg x3 = some c3) (d1 : (x1 == ("__debug__" : Str)) = false) (d2 : (x2 == ("__debug__" : Str)) = false) (d3 : (x3 == ("__debug__" : Str)) = false)
    (hb : ∀ (W : WX) (pn : List (Addr × Obj)) (xe : Value → Shared → Prop), Takes (X.tr pn xe) W → PassesOwn (model X.prog X.w) X.A X.env xe → PSs (X.tr pn xe) body (tb W))
    (hsu : ∀ (a : Addr) (oe : Obj) (cls : Value) (d : Option Addr) (pn : List (Addr × Obj)), Zc cls d oe → (∃ vs, oe.data = .fields vs) → PSs (X.suite a ((a, oe) :: pn)) (b₀ :: suite) (ts a cls d)) :
    PS X (.Try body [.ExceptHandler (some (.Tuple [.Name x1 p1, .Name x2 p2, .Name x3 p3] j pt)) (some n) (b₀ :: suite) pos'] [] [] pos) (fun D σ H => tb (wHold X.K X.N.length [c1, c2, c3] i ts D) D σ H) := by
  refine ⟨fun pins s σ H D I h => ?_⟩
  have ok := I.ok
  have fr : X.A.frames = some (X.env :: X.outer) := by
    rw [ok.frames, hs]
  have hloc : Loc X.env.scope n := .inl hln
  refine wpAny_Try_except ?_
  refine wpAny_mono ((hb (wHold X.K X.N.length [c1, c2, c3] i ts D) (X.pn ++ pins) (fun e sa => wpAny (model X.prog X.w) X.A (noteFrame e X.env) (fun _ sb => wpAny (model X.prog X.w) X.A (setFlight e none) (fun _ sc =>
    wpAny (model X.prog X.w) X.A (handleBy e X.env [.ExceptHandler (some (.Tuple [.Name x1 p1, .Name x2 p2, .Name x3 p3] j pt)) (some n) (b₀ :: suite) pos']) (SP X pins D) X.xe sc) X.xe sb) X.xe sa) (fun u s' xx => ?_) PassesOwn.looking).run [] s σ H D (I.toTry _) h) (fun f s1 hsp => ?_) (fun _ _ z => z)
  · obtain ⟨a, B, sI, pins', σ', H', cls, d, rfl, J', nb, up, sky, na, os, ag, C, dd, rfl, rfl, ha, hyes⟩ := xx
    have J : Inv X pins σ' H' sI := J'.ofTry ok
    have sky2 : Sky B (X.env :: X.outer) a (Zc (.ref C) (some dd)) X.env.locals s'.heap := by
      rw [← hs]
      exact sky
    show wpAny (model X.prog X.w) X.A (noteFrame (.ref a) X.env) _ _ _
    refine Sky.land Zc.steady fr hf sky2 fun hA flA upA => ?_
    have JA : Inv X pins σ' H' { s' with heap := hA } := J.landed nb flA.1 (up.trans upA) os ag
    obtain ⟨oA, vA, eA, zA, dA⟩ := flA.there
    have nfr : a ∉ frs (X.env :: X.outer) := fun hm => by
      obtain ⟨_, o2, e2, nf2⟩ := flA.2.2.1.mem hm
      rw [eA] at e2
      cases e2
      exact nf2 _ dA
    have nL : a ≠ X.env.locals := fun z => nfr (List.mem_filterMap.mpr ⟨X.env, List.mem_cons_self, by rw [hf, z]⟩)
    have nF : a ∉ X.fs := fun hm => by
      obtain ⟨e, he, q⟩ := List.mem_filterMap.mp hm
      exact nfr (List.mem_filterMap.mpr ⟨e, List.mem_cons_of_mem _ he, q⟩)
    have nI : ∀ o, sI.heap.get? a ≠ some o := fun o e => by
      have q := nb a o e (by rw [hs]; exact nfr)
      rw [flA.2.1] at q
      cases q
    have n0 : X.s_0.heap.get? a = none := by
      cases q : X.s_0.heap.get? a with
      | none => rfl
      | some o =>
        obtain ⟨o2, e2⟩ := J.base.there a o q (by rw [hx]; exact List.not_mem_nil)
        exact absurd e2 (nI o2)
    have nc : ∀ x c, X.env.cells.lookup x = some c → c ≠ a := fun x c e z => by
      obtain ⟨_, oc, hoc, _⟩ := J.cell x c e
      rw [z] at hoc
      exact nI _ hoc
    have np : ∀ p ∈ X.pn ++ pins, p.1 ≠ a := fun p hp z => by
      have q := (J.pin p hp).1
      rw [z] at q
      exact nI _ q
    have SA := JA.suite eA dA na nL nF
    refine wpAny_handleBy_cons (codeAny_handlers_test ?_) (by intro q; cases q)
    refine wpAny_Tuple ?_
    refine wpAny_items_cons (ld_glob (X := X.suite a ((a, oA) :: (X.pn ++ pins))) SA g1 m1 ?_ d1)
    refine wpAny_items_cons (ld_glob (X := X.suite a ((a, oA) :: (X.pn ++ pins))) SA g2 m2 ?_ d2)
    refine wpAny_items_cons (ld_glob (X := X.suite a ((a, oA) :: (X.pn ++ pins))) SA g3 m3 ?_ d3)
    refine wpAny_items_nil ⟨by size_fits, ?_⟩
    have kp : ∀ q o, hA.get? q = some o → (hA.push { cls := .type "tuple", data := .seq [c1, c2, c3].toArray }).get? q = some o := fun _ _ z => Heap.get?_push_of_some _ z
    have LT : W.Looks (model X.prog X.w) hA (typeOf (.ref a)) (.ref C) := fun A Q E s k q => wpAny_typeOf_ref (k _ _ eA) (by rw [zA.1]; exact q)
    refine (W.exm_tup3 (M := model X.prog X.w) (JA.kIn.keeps kp) (LT.keeps kp) (Heap.get?_push_size hA rfl) ha).here ?_
    refine codeAny_handlers_suite_as ?_
    have flB := flying_kept flA kp
    have upB : hA.UpToSlots (hA.push { cls := .type "tuple", data := .seq [c1, c2, c3].toArray }) := Heap.UpToSlots.of_keeps kp
    refine HandSPX.lands_againZ flB fun h4 fl4 up4 => ?_
    have J4 : Inv X pins σ' H' { s' with heap := h4 } := J.landed nb fl4.1 (((up.trans upA).trans upB).trans up4) os ag
    obtain ⟨o4, v4, e4, z4, f4⟩ := fl4.there
    have S4 := J4.suite e4 f4 na nL nF
    refine store_ok (X := X.suite a ((a, o4) :: (X.pn ++ pins))) (v := .ref a) S4 hN hi hloc rfl (fun s5 S5 => ?_) (.inr hln)
    refine wpAny_mono ((hsu a o4 (.ref C) (some dd) (X.pn ++ pins) z4 ⟨_, f4⟩).run [] s5 _ H' _ S5 (hyes a J.len na)) (fun f s6 hsp => ?_) (fun _ _ z => False.elim z)
    cases f with
    | next =>
      obtain ⟨σ6, H6, S6, q6⟩ := hsp
      refine gone_ok (unsuiteK S6 ok) hN hi hln fun s7 J7 => ?_
      have e7 := (J7.pin (a, o4) (List.mem_append_right _ List.mem_cons_self)).1
      have u7 := (J7.pin (a, o4) (List.mem_append_right _ List.mem_cons_self)).2.1
      have K7 : Inv X pins (σ6.set i none) H6 s7 := J7.pins_of fun r hr => J7.pin r (List.mem_append_right _ (List.mem_cons_of_mem _ hr))
      exact ⟨_, _, inv_know K7 u7 n0 nL nc np (exh_ok e7 z4.1 z4.2 f4), q6 u7⟩
    | brk =>
      obtain ⟨σ6, H6, S6, q6⟩ := hsp
      exact q6.elim
    | cont =>
      obtain ⟨σ6, H6, S6, q6⟩ := hsp
      exact q6.elim
    | ret u =>
      obtain ⟨v6, σ6, H6, S6, r6, q6⟩ := hsp
      exact q6.elim
  · cases f with
    | next =>
      obtain ⟨σ', H', J', q⟩ := hsp
      exact wpAny_execs_nil ⟨σ', H', J'.ofTry ok, q⟩
    | brk =>
      obtain ⟨σ', H', J', q⟩ := hsp
      exact ⟨σ', H', J'.ofTry ok, q⟩
    | cont =>
      obtain ⟨σ', H', J', q⟩ := hsp
      exact ⟨σ', H', J'.ofTry ok, q⟩
    | ret u =>
      obtain ⟨v, σ', H', J', r, q⟩ := hsp
      exact ⟨v, σ', H', J'.ofTry ok, r, q⟩
end
/-! ### what is asked of it -/
section
variable {X : Cx} {C : Addr} {f : Str} {e : Expr} {te : TE} {pos : Pos} {b : EB} {fI : Addr}
theorem hat_inst {pins : List (Addr × Obj)} {σ : St} {H : Hp} {s : Shared} {a : Addr} {fs : List (Str × V)} (I : Inv X pins σ H s) (h : HAt H a C fs) :
    ∃ (ox od : Obj) (d : Addr) (mA : Str → Option Value), W.InstAt s.heap a ox C (some od) ∧ s.heap.get? d = some od ∧ s.heap.Ns1 d mA ∧ ∀ g, RelO (fs.lookup g) (mA g) := by
  obtain ⟨d, e1, e2⟩ := h
  have z : ObjOk X.prog X.w H s.heap a (.ext fun h => ∃ (o : Obj) (vs : Array Value), h.get? a = some o ∧ o.cls = .ref C ∧ o.dict = some d ∧ o.data = .fields vs) := I.hok a _ e1
  obtain ⟨⟨o, vs, q1, q2, q3, q4⟩, _, _⟩ := z
  have y : ObjOk X.prog X.w H s.heap d (.xd fs) := I.hok d _ e2
  obtain ⟨mA, hns, rel⟩ := y
  obtain ⟨oD, hoD, _⟩ := lookIn_ns hns
  exact ⟨o, oD, d, mA, ⟨q1, q2, by unfold W.notCls; rw [q4] <;> rfl, by rw [q3]; exact hoD⟩, hoD, hns, rel⟩
/-- isinstance(e, c) | isinstance(e, (c, ..)), e such an error -/
def rIsH (K : W.Frag) : List V → Hp → VK → Prop := fun xs H Q => ∃ (a C fI : Addr) (b : EB) (fs : List (Str × V)) (c : V) (r : Bool), xs = [.ref a, c] ∧ HAt H a C fs ∧ EC K C fI b ∧ Q (.bl r) H ∧
  ((∃ u, ClsV c u ∧ W.kitOne K (.ref C) u = some r) ∨ ∃ (tp : Addr) (cs : List V) (us : List Value), c = .ref tp ∧ H tp = some (.tup cs) ∧ Paired ClsV cs us ∧ W.kitAny K (.ref C) us = some r)
theorem call_isH : CallR X (.builtin "isinstance") (rIsH X.K) := by
  intro pins s σ H xs us Q I r h
  obtain ⟨a, C, fI, b, fs, c, z, rfl, hx, T, q, hc⟩ := h
  obtain ⟨u1, u2, rfl, r1, r2⟩ := vals2 r
  cases (show u1 = Value.ref a from r1)
  obtain ⟨ox, od, d, mA, J, _⟩ := hat_inst I hx
  rcases hc with ⟨u, k, e⟩ | ⟨tp, cs, ws, rfl, hT, k, e⟩
  · have e2 := k.eq r2
    subst e2
    exact W.kia_one (W.kitx_exc T.isc T.ga T.gg T.base T.cl T.gs T.tk T.isob) I.kIn J e (fun z => nomatch z) fun tk => ⟨.bl z, H, I.tok tk, rfl, q⟩
  · cases (show u2 = Value.ref tp from r2)
    obtain ⟨_, its, rv, o, h1, h2, n, h3⟩ := (show ObjOk X.prog X.w H s.heap tp (.tup cs) from I.hok tp _ hT)
    have e3 := ClsV.all k rv
    subst e3
    obtain ⟨oc, od2, dt, sl⟩ := o
    simp only at h2 h3
    subst h2 h3
    exact W.kia_tup (W.kitx_exc T.isc T.ga T.gg T.base T.cl T.gs T.tk T.isob) I.kIn J h1 e (fun z => nomatch z) fun tk => ⟨.bl z, H, I.tok tk, rfl, q⟩
/-- e.f of such an error -/
def tGetH (K : W.Frag) (f : Str) (te : TE) : TE := fun σ H Q => te σ H fun x H1 => ∃ (a C fI : Addr) (b : EB) (fs : List (Str × V)) (v : V), x = .ref a ∧ HAt H1 a C fs ∧ EC K C fI b ∧ W.findIn K (.ref C) f = some none ∧ fs.lookup f = some v ∧ Q v H1
theorem pe_getH (he : PE X e te) (hb : attributeBase e f X.env (eval e X.env) = eval e X.env := by rfl) : PE X (.Attribute e f pos) (tGetH X.K f te) := by
  refine ⟨fun pins s σ H Q I h => ?_⟩
  refine attr_of hb (thn (he.run pins s σ H _ I h) fun u s1 hh => ?_)
  obtain ⟨x, H1, I1, rx, a, C, fI, b, fs, v, ex, hx, T, hno, l, q⟩ := hh
  subst ex
  obtain rfl : u = Value.ref a := rx
  obtain ⟨ox, od, d, mA, J, hd, hns, hr⟩ := hat_inst I1 hx
  obtain ⟨od2, ho, hl⟩ := lookIn_ns hns
  rw [hd] at ho
  cases ho
  obtain ⟨u, hu, ru⟩ := RelO.some_of (v := v) (o := mA f) (by rw [← l]; exact hr f)
  exact HandSPX.exc_get I1.kIn J T.ga T.gg T.base (W.findObj_own T.hd hno rfl (by rw [hl, hu])) (handed_of ru) ⟨v, H1, I1.tok _, ru, q⟩
end
/-! ### the own classes over ValueError are raised -/
theorem own_VE (l : List Value) : own .val l = true → HandSPX.refsVE l = true := by
  induction l with
  | nil => exact fun h => by cases h
  | cons v r ih =>
    intro h
    rcases own_cases h with ⟨c, r2, e, h2⟩ | e
    · cases e
      exact ih h2
    · rw [e]
      rfl
theorem EC.oex {K : W.Frag} {C fI : Addr} (T : EC K C fI .val) (ty : W.typeIn K (.ref C) = some (.type "type")) : OexC K C where
  cls := by
    obtain ⟨nm, q, N, bs, bm, sn, sub, ab, col, dd, k0, k1, k2, k3, k5, h, ho⟩ := T.cls
    exact ⟨nm, q, N, bs, bm, sn, sub, ab, col, dd, k0, k1, k2, k3, k5, h, own_VE _ ho⟩
  sa := T.sa
  exC := T.base
  tyC := ty
  kC := T.kp
end L2.Mb
set_option maxRecDepth 100000
set_option maxHeartbeats 4000000
namespace L2.Mb
open PySem PySem.Spec PyProof.Rows Mx
/-! ### str(x), repr(x) of an own instance -/
/-- the own method is asked -/
def rOwn (C : Addr) (sp : Sp) : List V → Hp → VK → Prop := fun xs H Q => ∃ (a dx : Addr) (fs : List (Str × V)), xs = [.ref a] ∧ H a = some (.ins C dx fs) ∧ sp [.ref a] H (fun v H' => (∃ y, v = .str y) ∧ Q v H') (fun _ _ _ => False)
section
variable {X : Cx} {CX : CXT} {k : Nat} {C f : Addr} {fd : FuncData} {p0 : Str} {sp : Sp}
theorem back_str {pins : List (Addr × Obj)} {σ : St} {H : Hp} {s : Shared} {Q : VK} {a : Addr} {A2 : Around} (F : FnOk X.prog X.w X.K X.mg X.base CX k f fd [p0] sp) (hr : Room k A2) (e0 : Env0 X.prog X.w X.K X.mg X.base A2 X.stack s H) (hb : Binds X.K fd [p0] [])
    (hx : Passes CX X (fun _ _ _ => False)) (I : Inv X pins σ H s) (h : sp [.ref a] H (fun v H' => (∃ y, v = .str y) ∧ Q v H') (fun _ _ _ => False)) :
    wpAny (model X.prog X.w) A2 (call (.ref f) [.ref a]) (W.StrBack (EP X pins σ Q)) X.xe s := by
  refine wpAny_call (codeAny_mono (F.run A2 X.stack s H ⟨[.ref a], []⟩ [.ref a] [.ref a] _ _ hr e0 (by
    have z := hb s [.ref a] I.kIn rfl
    simpa using z) (.cons rfl .nil) h) fun r s' hq => ?_)
  cases r with
  | error e => exact hx pins σ H s e s' I hq
  | ok fl =>
    cases fl with
    | ret u =>
      obtain ⟨v, H', J, rv, ⟨y, ey⟩, q⟩ := I.after hq
      subst ey
      obtain ⟨t, et⟩ := rv
      subst et
      exact ⟨.str y, H', J, ⟨t, rfl⟩, q⟩
    | next => exact False.elim hq
    | brk => exact False.elim hq
    | cont => exact False.elim hq
theorem call_strO (F : FnOk X.prog X.w X.K X.mg X.base CX k f fd [p0] sp) (hs : W.findIn X.K (.ref C) "__str__" = some (some (.ref f))) (hf : W.isFn X.K (.ref f) = true) (hb : Binds X.K fd [p0] []) (hx : Passes CX X (fun _ _ _ => False)) (hr : Room (k + 2) X.A) :
    CallR X (.type "str") (rOwn C sp) := by
  intro pins s σ H xs us Q I r h
  obtain ⟨a, dx, fs, rfl, ea, q⟩ := h
  cases r with
  | cons r1 r2 =>
    cases r2
    cases r1
    obtain ⟨mA, O, _⟩ := ins_get I.hok ea
    obtain ⟨od, J, _⟩ := O.look
    exact W.kso_call hr.in1.in1.units0 I.kIn J hs hf (back_str F hr.in1.in1 I.env0.in1.in1 hb hx I q)
theorem call_reprO (F : FnOk X.prog X.w X.K X.mg X.base CX k f fd [p0] sp) (hs : W.findIn X.K (.ref C) "__repr__" = some (some (.ref f))) (hf : W.isFn X.K (.ref f) = true) (hb : Binds X.K fd [p0] []) (hx : Passes CX X (fun _ _ _ => False)) (hr : Room (k + 1) X.A) :
    CallR X (.builtin "repr") (rOwn C sp) := by
  intro pins s σ H xs us Q I r h
  obtain ⟨a, dx, fs, rfl, ea, q⟩ := h
  cases r with
  | cons r1 r2 =>
    cases r2
    cases r1
    obtain ⟨mA, O, _⟩ := ins_get I.hok ea
    obtain ⟨od, J, _⟩ := O.look
    obtain ⟨m, fr⟩ := I.fr
    exact W.repr_K hr.in1.units0 fr I.ok.mod.kin J hs hf (back_str F hr.in1 I.env0.in1 hb hx I q)
end
/-! ### C.m(k = v), a classmethod -/
section
variable {X : Cx} {CX : CXT} {k : Nat} {C p g : Addr} {mc : Value} {fd : FuncData} {ps ks : List Str} {sp : Sp} {E : XK} {o : Expr} {kws : List Keyword} {m : Str} {pos apos : Pos} {ta : TE} {t : TA} {pl : Sem Bool} {gg : List Value → List Value} {gV : List V → List V}
def tCMethK (C : Addr) (sp : Sp) (n : Nat) (gV : List V → List V) (E : XK) (ta : TE) (t : TA) : TE := fun σ H Q => ta σ H fun x H1 => x = .ref C ∧ t σ H1 fun vs H2 => vs.length = n ∧ sp (.ref C :: gV vs) H2 Q E
theorem pe_cmethK (he : PE X o ta) (r : ClX.CRead X.K C mc) (c : ClX.CMet X.K C mc m p g) (F : FnOk X.prog X.w X.K X.mg X.base CX k g fd ps sp) (hb : KwB X.K fd ps ks gg gV) (hr : Room k X.A) (hx : Passes CX X E) (ha : PK X kws t)
    (hall : (backToKw pos (keywordEach kws X.env)).all (·.1.isSome) = true := by rfl) (hks : (backToKw pos (keywordEach kws X.env)).filterMap (·.1) = ks := by rfl)
    (hpl : ((backTo pos (starEach [] X.env)).any (·.1) || (backToKw pos (keywordEach kws X.env)).any (·.1.isNone)) = false := by rfl)
    (ht : eval (.Call (.Attribute o m apos) [] kws pos) X.env = (do
      let ov ← eval o X.env
      standAt apos.atName
      let (f, first) ← holding [ov] (getMethod ov m pl)
      callWith pos f first (backTo pos (starEach [] X.env)) (backToKw pos (keywordEach kws X.env))) := by rfl) :
    PE X (.Call (.Attribute o m apos) [] kws pos) (tCMethK C sp ks.length gV E ta t) := by
  refine ⟨fun pins s σ H Q I h => ?_⟩
  refine W.methodCall_KW (pl := pl) (thn (he.run pins s σ H _ I h) fun u s1 ⟨x, H1, I1, rx, ex, q⟩ => ?_) ht
  subst ex
  obtain rfl : u = Value.ref C := rx
  refine ClX.getmethcm_ok I1 r c fun s2 I2 => ?_
  refine W.callWith_of hpl (W.keeps_M (self := .ref C) c.fi) (evalArgs_kw2_nil hall (thn (ha.run pos _ s2 σ H1 _ I2 q) fun ws s3 ⟨zs, H2, I3, rz, l2, q2⟩ => ⟨⟨ClX.pin_at I3, I3.kIn⟩, ?_⟩))
  rw [hks]
  have hq := q2
  have e0 := I3.env0
  have z : wpAny (model X.prog X.w) X.A (call (.ref s1.heap.objs.size) [] (ks.zip ws)) (EP X ((s1.heap.objs.size, W.methodObj (.ref g) (.ref C)) :: _) σ Q) X.xe s3 :=
    wpAny_call (W.method_call (ClX.pin_at I3) (codeAny_mono (F.run X.A X.stack s3 H2 ⟨[.ref C], ks.zip ws⟩ (.ref C :: gg ws) (.ref C :: gV zs) Q E hr e0 (hb.to s3 C ws I3.kIn (rz.length.symm.trans l2)) (.cons rfl (hb.rel rz)) hq) fun r s' hq' => by
      cases r with
      | error e => exact hx _ σ H2 s3 e s' I3 hq'
      | ok fl =>
        cases fl with
        | ret u => exact I3.after hq'
        | next => exact False.elim hq'
        | brk => exact False.elim hq'
        | cont => exact False.elim hq'))
  exact thn z fun _ _ y => ClX.unpinE y
end
end L2.Mb
set_option maxRecDepth 100000
set_option maxHeartbeats 4000000
namespace Mv
open PySem PySem.Spec PyProof.Rows L2 Evl
/-! ### more of what a reading evaluates to -/
section
variable {K : W.Frag} {σ : L2.St} {H H' : Hp} {te ta tb tc tl : TE} {t : TT} {v x y z : V}
theorem ev_chain {r r' : R2} {a b : Bool} (ha : Ev ta σ H x) (hb : Ev tb σ H y) (hr : RV r x y H (.bl a)) (hc : a = true → Ev tc σ H z) (hr2 : a = true → RV r' y z H (.bl b)) : Ev (tChain r r' ta tb tc) σ H (.bl (a && b)) := fun H1 e Q q =>
  ha H1 e _ fun H2 e2 => hb H2 (e.trans e2) _ fun H3 e3 => hr H3 ((e.trans e2).trans e3) _ fun H4 e4 => ⟨a, rfl, by
    have e14 := (e2.trans e3).trans e4
    cases a with
    | true => exact hc rfl H4 (e.trans e14) _ fun H5 e5 => hr2 rfl H5 ((e.trans e14).trans e5) _ fun H6 e6 => q H6 ((e14.trans e5).trans e6)
    | false => exact q H4 e14⟩
theorem et_chain {r r' : R2} {a b : Bool} (h : Ev (tChain r r' ta tb tc) σ H (.bl (a && b))) : EvT (tTest (tChain r r' ta tb tc)) σ H (a && b) := et_test h
theorem rv_int {g : Int → Int → V} {i j : Int} : RV (rI0 g) (.int i) (.int j) H (g i j) := rv_I0
/-- s + t -/
def rCatS : R2 := fun x y H Q => ∃ i j : Str, x = .str i ∧ y = .str j ∧ i.length + j.length ≤ sizeLine ∧ Q (.str (i ++ j)) H
theorem rv_catS {i j : Str} (h : i.length + j.length ≤ 100000) : RV rCatS (.str i) (.str j) H (.str (i ++ j)) := fun H1 _ _ q => ⟨i, j, rfl, rfl, sz_of h, q H1 (Ex.refl H1)⟩
/-- c in s, c one sign -/
def rInSg : R2 := fun x y H Q => ∃ (c : Nat) (z : Str), x = .str ⟨#[c]⟩ ∧ y = .str z ∧ Q (.bl (decide (c ∈ z.cps.toList))) H
theorem rv_inSg {c : Nat} {z : Str} : RV rInSg (.str ⟨#[c]⟩) (.str z) H (.bl (decide (c ∈ z.cps.toList))) := fun H1 _ _ q => ⟨c, z, rfl, rfl, q H1 (Ex.refl H1)⟩
def rNiSg : R2 := fun x y H Q => ∃ (c : Nat) (z : Str), x = .str ⟨#[c]⟩ ∧ y = .str z ∧ Q (.bl (!decide (c ∈ z.cps.toList))) H
theorem rv_niSg {c : Nat} {z : Str} : RV rNiSg (.str ⟨#[c]⟩) (.str z) H (.bl (!decide (c ∈ z.cps.toList))) := fun H1 _ _ q => ⟨c, z, rfl, rfl, q H1 (Ex.refl H1)⟩
/-- len(s), int(s), str(n) -/
def rLenT : List V → Hp → VK → Prop := fun xs H Q => ∃ z : Str, xs = [.str z] ∧ z.length ≤ sizeLine ∧ Q (.int z.length) H
theorem rc_lenT {w : Str} (h : w.length ≤ 100000) : RC rLenT [.str w] H (.int (w.length : Int)) := fun H1 _ _ q => ⟨w, rfl, sz_of h, q H1 (Ex.refl H1)⟩
def rIntT : List V → Hp → VK → Prop := fun xs H Q => ∃ (a : Str) (n : Int), xs = [.str a] ∧ PySem.intText? a = some n ∧ a.length ≤ 640 ∧ Q (.int n) H
theorem rc_intT {w : Str} {n : Int} (h : PySem.intText? w = some n) (l : w.length ≤ 640) : RC rIntT [.str w] H (.int n) := fun H1 _ _ q => ⟨w, n, rfl, h, l, q H1 (Ex.refl H1)⟩
def rStrI : List V → Hp → VK → Prop := fun xs H Q => ∃ i : Int, xs = [.int i] ∧ i.natAbs.log2 < 1920 ∧ Q (.str (toString i)) H
theorem rc_strI {i : Int} (h : i.natAbs.log2 < 1920) : RC rStrI [.int i] H (.str (toString i)) := fun H1 _ _ q => ⟨i, rfl, h, q H1 (Ex.refl H1)⟩
theorem rc_isi {x c : V} {t u : Value} {b : Bool} (k : ClsV c u) (ty : ∀ H1, Ex H H1 → TyX K H1 x t) (e : W.kitOne K t u = some b) : RC (rIsi K) [x, c] H (.bl b) := fun H1 e1 _ q => ⟨x, c, t, u, b, rfl, k, ty H1 e1, e, q H1 (Ex.refl H1)⟩
/-- a text's slice -/
theorem ev_slS {tl th : TO} {w : Str} {lo hi : Option Int} (h : Ev te σ H (.str w)) (h1 : EvO tl σ H lo) (h2 : EvO th σ H hi) (hs : w.length ≤ 100000) : Ev (tSl rSlS te tl th) σ H (.str (cutS w lo hi)) := fun H1 e _ q =>
  h H1 e _ fun H2 e2 => h1 H2 (e.trans e2) _ fun H3 e3 => h2 H3 ((e.trans e2).trans e3) _ fun H4 e4 => ⟨w, rfl, sz_of hs, q H4 ((e2.trans e3).trans e4)⟩
/-- a comprehension over a text -/
theorem el_lcS {w : Str} {j : Nat} {vs : List Nat} (f : Nat → Bool) (g : Nat → V) (h : Ev tl σ H (.str w)) (hz : w.cps.size ≤ 40000) (hw : ∀ x, wipe ((wipe σ vs).set j (some x)) vs = wipe σ vs)
    (ht : ∀ (i c : Nat) H1, Ex H H1 → w.cps[i]? = some c → EvT t ((wipe σ vs).set j (some (.str ⟨#[c]⟩))) H1 (f i)) (he : ∀ (i c : Nat) H1, Ex H H1 → w.cps[i]? = some c → f i = true → Ev te ((wipe σ vs).set j (some (.str ⟨#[c]⟩))) H1 (g i)) :
    EvL (tLc (iStr tl) (gName j) t te vs) σ H (given w.cps.size f g) := fun H0 e Q q => h H0 e _ fun H1 e1 => ⟨w, rfl, fun Dl hD =>
  lc_it walk_str (Cw H1 f g Dl) ⟨hD, Ex.new hD, upd_same⟩ (fun _ _ _ _ => trivial) (fun i x H2 H3 hi p y => by
    obtain ⟨rfl, c, hc, rfl⟩ := y
    exact ⟨hw _, cw_turn p (by omega) (ht i c H1 (e.trans e1) hc) (fun hf => he i c H1 (e.trans e1) hc hf)⟩) (fun H' p => q Dl H' (fresh_back e1 p.1) (e1.trans p.2.1) p.2.2)⟩
/-- over a new tuple -/
theorem el_lcNT {xs : List V} {j : Nat} {vs : List Nat} (f : Nat → Bool) (g : Nat → V) (h : EvU tl σ H xs) (hz : xs.length ≤ 40000) (hw : ∀ x, wipe ((wipe σ vs).set j (some x)) vs = wipe σ vs)
    (ht : ∀ (i : Nat) (x : V) H1, Ex H H1 → xs[i]? = some x → EvT t ((wipe σ vs).set j (some x)) H1 (f i)) (he : ∀ (i : Nat) (x : V) H1, Ex H H1 → xs[i]? = some x → f i = true → Ev te ((wipe σ vs).set j (some x)) H1 (g i)) :
    EvL (tLc (iTup K tl) (gName j) t te vs) σ H (given xs.length f g) := fun H0 e Q q => h H0 e _ fun a H1 ha e1 hx => ⟨a, rfl, ⟨xs, st_of hx⟩, fun Dl hD =>
  lc_it (walk_tup (K := K) (xs := xs)) (Cw H1 f g Dl) ⟨hD, Ex.new hD, upd_same⟩ (fun _ H' _ p => st_of (p.2.1 a _ hx)) (fun i x H2 H3 hi p y => by
    obtain ⟨rfl, hc⟩ := y
    exact ⟨hw x, cw_turn p (by omega) (ht i x H1 (e.trans e1) hc) (fun hf => he i x H1 (e.trans e1) hc hf)⟩) (fun H' p => q Dl H' (fresh_back e1 p.1) (e1.trans p.2.1) p.2.2)⟩
/-- all(a new list of truths) -/
theorem ev_allN {bs : List Bool} (ha : EvL ta σ H (bs.map V.bl)) : Ev (tCB (rAll K) (tCons ta tNil)) σ H (.bl (bs.all id)) := fun H1 e Q q => ha H1 e _ fun p H2 _ e2 hp => ⟨p, bs, rfl, sq_of hp, q H2 e2⟩
/-- s.split(t), s.partition(t), s.join(xs) -/
theorem el_split {a b : Str} {r : V → List V → Hp → VK → Prop} (h : Ev ta σ H (.str a)) (h2 : Ev tb σ H (.str b)) (hr : r = fun x xs H Q => ∃ a b, x = .str a ∧ xs = [.str b] ∧ (b.length == 0) = false ∧ a.length + 2 ≤ sizeLine ∧ rNewStrs (Txt.split a b) H Q)
    (hb : (b.length == 0) = false) (hz : a.length ≤ 99000) : EvL (tM1 r ta tb) σ H ((Txt.split a b).map V.str) := fun H1 e Q q => h H1 e _ fun H2 e2 => ⟨⟨a, rfl⟩, h2 H2 (e.trans e2) _ fun H3 e3 => by
    subst hr
    exact ⟨a, b, rfl, rfl, hb, Nat.le_trans (show a.length + 2 ≤ 100000 by omega) (by decide), fun p hp => q p _ (fresh_back (e2.trans e3) hp) ((e2.trans e3).trans (Ex.new hp)) upd_same⟩⟩
end
end Mv
set_option maxRecDepth 100000
set_option maxHeartbeats 4000000
namespace Mv
open PySem PySem.Spec PyProof.Rows L2 L2.Mb Evl
section
variable {K : W.Frag} {σ : L2.St} {H H' : Hp} {te ta tb tc tl : TE} {t : TT} {v x y z : V}
/-! ### lists of texts -/
theorem dp_strs : ∀ l : List Str, DpAll K H (l.map V.str) (l.map PyData.str)
  | [] => .nil
  | b :: r => .cons (.str b) (dp_strs r)
abbrev okS (l : List Str) : Prop := l.all PyData.strOk = true
theorem strs_lay : ∀ l : List Str, okS l → PyData.canLayAll0 (l.map PyData.str) = true ∧ PyData.depthAll (l.map PyData.str) = 0
  | [], _ => ⟨by simp [PyData.canLayAll0], by simp [PyData.depthAll]⟩
  | b :: r, h => by
    have h0 : (PyData.strOk b && r.all PyData.strOk) = true := by simpa [okS] using h
    obtain ⟨hb, hr⟩ := Bool.and_eq_true_iff.mp h0
    obtain ⟨h1, h2⟩ := strs_lay r hr
    refine ⟨?_, ?_⟩
    · simp only [List.map_cons, PyData.canLayAll0, PyData.canLay0, h1, hb, Bool.and_self]
    · simp only [List.map_cons, PyData.depthAll, PyData.depth, h2, Nat.max_self]
theorem strs_shaped (l : List Str) (h : okS l) : SeqAt.shaped (.list (l.map PyData.str)) = true := by
  obtain ⟨h1, h2⟩ := strs_lay l h
  show (PyData.canLay0 (.list (l.map PyData.str)) && decide (PyData.depth (.list (l.map PyData.str)) ≤ 64)) = true
  simp only [PyData.canLay0, PyData.depth, h1, h2]
  decide
theorem eqv_strs : ∀ l m : List Str, PyData.eqvAll (l.map PyData.str) (m.map PyData.str) = decide (l = m)
  | [], [] => by simp [PyData.eqvAll]
  | [], b :: r => by simp [PyData.eqvAll]
  | a :: l, [] => by simp [PyData.eqvAll]
  | a :: l, b :: r => by
    simp only [List.map_cons, PyData.eqvAll, PyData.eqv, eqv_strs l r, List.cons.injEq, Bool.decide_and]
    by_cases h : a = b <;> simp [h]
theorem rv_eqStrs {r q : Addr} {l m : List Str} (hr : SqL K H r (l.map V.str)) (hq : SqL K H q (m.map V.str)) (ol : okS l) (om : okS m) : RV (rEqD K) (.ref r) (.ref q) H (.bl (decide (l = m))) := fun H1 e Q k => by
  refine ⟨_, _, .lst (ex_l e hr) (dp_strs l), .lst (ex_l e hq) (dp_strs m), strs_shaped l ol, strs_shaped m om, ?_⟩
  have z : PyData.eqv (.list (l.map PyData.str)) (.list (m.map PyData.str)) = decide (l = m) := by simp only [PyData.eqv, eqv_strs]
  rw [z]
  exact k H1 (Ex.refl H1)
/-- the piece of one item -/
def one1 (l : List Str) (k : Nat) : List Str := match l[k]? with
  | some x => [x]
  | none => []
theorem cut_one (l : List Str) (k : Nat) : cutV (l.map V.str) (some (k : Int)) (some ((k : Int) + 1)) = (one1 l k).map V.str := by
  unfold cutV one1
  rw [show ((k : Int) + 1) = ((k + 1 : Nat) : Int) by omega, HT.sIx_nat, HT.sIx_nat, List.length_map]
  cases h : l[k]? with
  | none =>
    have hk := List.getElem?_eq_none_iff.mp h
    have e : min (k + 1) l.length - min k l.length = 0 := by omega
    rw [e]
    rfl
  | some x =>
    obtain ⟨hk, hx⟩ := List.getElem?_eq_some_iff.mp h
    rw [show min k l.length = k by omega, show min (k + 1) l.length = k + 1 by omega, show k + 1 - k = 1 by omega, ← List.map_drop, List.drop_eq_getElem_cons hk, hx]
    rfl
theorem one_eq (l : List Str) (k : Nat) (x : Str) : decide (one1 l k = [x]) = decide (l[k]? = some x) := by
  unfold one1
  cases l[k]? with
  | none => simp
  | some y => simp
/-- s.partition(t) -/
theorem eu_part {a b : Str} {r : V → List V → Hp → VK → Prop} (h : Ev ta σ H (.str a)) (h2 : Ev tb σ H (.str b)) (hr : r = fun x xs H Q => ∃ a b, x = .str a ∧ xs = [.str b] ∧ (b.length == 0) = false ∧ a.length ≤ sizeLine ∧
      ∀ p, H p = none → Q (.ref p) (upd H p (.tup [.str (Txt.partition a b).1, .str (Txt.partition a b).2.1, .str (Txt.partition a b).2.2])))
    (hb : (b.length == 0) = false) (hz : a.length ≤ 100000) : EvU (tM1 r ta tb) σ H [.str (Txt.partition a b).1, .str (Txt.partition a b).2.1, .str (Txt.partition a b).2.2] := fun H1 e Q q => h H1 e _ fun H2 e2 => ⟨⟨a, rfl⟩, h2 H2 (e.trans e2) _ fun H3 e3 => by
    subst hr
    exact ⟨a, b, rfl, rfl, hb, sz_of hz, fun p hp => q p _ (fresh_back (e2.trans e3) hp) ((e2.trans e3).trans (Ex.new hp)) upd_same⟩⟩
/-- s.join(xs), xs known -/
theorem ev_join {a : Str} {p : Addr} {ys : List Str} {r : V → List V → Hp → VK → Prop} (h : Ev ta σ H (.str a)) (h2 : Ev tb σ H (.ref p)) (hr : r = fun x xs H Q => ∃ a p, ∃ ys : List Str, x = .str a ∧ xs = [.ref p] ∧ (SqL K H p (ys.map V.str) ∨ SqT K H p (ys.map V.str)) ∧
      (ys.map (·.length)).sum + ys.length * a.length ≤ 16777216 ∧ Q (.str (Txt.join a ys)) H) (hp : SqL K H p (ys.map V.str)) (hz : (ys.map (·.length)).sum + ys.length * a.length ≤ 16777216) : Ev (tM1 r ta tb) σ H (.str (Txt.join a ys)) := fun H1 e Q q =>
  h H1 e _ fun H2 e2 => ⟨⟨a, rfl⟩, h2 H2 (e.trans e2) _ fun H3 e3 => by
    subst hr
    exact ⟨a, p, ys, rfl, rfl, .inl (ex_l ((e.trans e2).trans e3) hp), hz, q H3 (e2.trans e3)⟩⟩
/-- a, b, c = e, e a new tuple -/
theorem s_unp3 {D : Ends} {i j k : Nat} {a b c : V} (h : EvU te σ H [a, b, c]) (kk : ∀ H1, Ex H H1 → D.nx (((σ.set i (some a)).set j (some b)).set k (some c)) H1) :
    tAsg te (gTup K 3 (gCons (gName i) (gCons (gName j) (gCons (gName k) gNil)))) D σ H := h H (Ex.refl H) _ fun p H1 _ e hp => ⟨p, [a, b, c], rfl, st_of hp, rfl, a, [b, c], rfl, b, [c], rfl, c, [], rfl, rfl, kk H1 e⟩
end
end Mv
set_option maxRecDepth 100000
set_option maxHeartbeats 4000000
namespace L2.Mb
open PySem PySem.Spec PyProof.Rows Mx PySem.W
/-! ### x | y, x & y by an own method, both of one own class -/
section
variable {prog : Program} {w : World} {A : Around} {E : Value → Shared → Prop} {s : Shared} {K : W.Frag} {x y C f : Addr} {ox oy : Obj} {od oe : Option Obj} {nm : String} {name : Str} {cd : ClassData} {r : List Value}
theorem fills_own {M : Model} {h : Heap} (X : K.In h) (hc : clsIn K C = some cd) (hm : cd.mro = .ref C :: r) (hs : findIn K (.ref C) (dunder nm) = some (some (.ref f))) : Looks M h (fillsNumberSlot (.ref C) nm) true := by
  have L : Looks M h (mroOf (.ref C)) cd.mro := (looks_clsIn X hc).andThen .now
  have L2 : Looks M h (typeLookup (.ref C) (dunder nm)) (some (.ref f)) := looks_findIn X hs
  unfold fillsNumberSlot
  refine L.andThen ?_
  rw [hm]
  intro A Q E s k q
  simp only [List.anyM]
  refine wpAny_bind (wpAny_bind (wpAny_bind (L2 A _ E s k ?_)))
  exact wpAny_pure (wpAny_pure (wpAny_pure q))
theorem special_own {M : Model} {args : List Value} {Q : Option Value → Shared → Prop} (X : K.In s.heap) (I : InstAt s.heap x ox C od) (hs : findIn K (.ref C) name = some (some (.ref f))) (hf : isFn K (.ref f) = true)
    (h : wpAny M A (call (.ref f) (.ref x :: args)) (fun v => Q (some v)) E s) : wpAny M A (callSpecial? (.ref x) name args) Q E s := by
  unfold callSpecial?
  refine wpAny_bind (wpAny_bind (I.type.here ((looks_findIn X hs).here ?_)))
  refine wpAny_holding (wpAny_bind ((bind_fn X _ (beq_iff_eq.mp hf)).here ?_))
  exact wpAny_bind (wpAny_mono h (fun v s' h' => wpAny_pure h') fun _ _ h' => h')
theorem or_one {Q : Value → Shared → Prop} (nm : String) (X : K.In s.heap) (I : InstAt s.heap x ox C od) (J : InstAt s.heap y oy C oe) (hc : clsIn K C = some cd) (hm : cd.mro = .ref C :: r) (hs : findIn K (.ref C) (dunder nm) = some (some (.ref f))) (hf : isFn K (.ref f) = true)
    (h : wpAny (model prog w) A (call (.ref f) [.ref x, .ref y]) (W.CmpBack Q) E s) : wpAny (model prog w) A (binaryOp1 nm (.ref x) (.ref y)) (fun r s' => ∃ v, r = some v ∧ Q v s') E s := by
  have one : wpAny (model prog w) A (tryMethod (.ref x) (dunder nm) (.ref y)) (fun r s' => ∃ v, r = some v ∧ Q v s') E s := by
    unfold tryMethod
    refine wpAny_bind (special_own X I hs hf (wpAny_mono h (fun v s' hv => ?_) fun _ _ e => e))
    cases v <;> first | exact hv.elim | exact wpAny_pure ⟨_, rfl, hv⟩
  unfold binaryOp1
  refine wpAny_bind (I.type.here (wpAny_bind (J.type.here (wpAny_bind ((fills_own X hc hm hs).here ?_)))))
  have e : (Value.ref C == Value.ref C) = true := beq_self_eq_true _
  simp only [e, if_true, Bool.and_false, Bool.false_eq_true, if_false, Bool.true_and, Bool.not_false]
  refine wpAny_bind (wpAny_pure ?_)
  simp only [Bool.false_eq_true, if_false, if_true, Bool.false_and]
  refine wpAny_bind (wpAny_pure ?_)
  simp only [Bool.false_eq_true, if_false, if_true, Bool.false_and]
  refine wpAny_bind (wpAny_mono one (fun v s' z => ?_) fun _ _ e => e)
  obtain ⟨u, rfl, hq⟩ := z
  exact wpAny_pure ⟨u, rfl, hq⟩
theorem bor_own {Q : Value → Shared → Prop} (X : K.In s.heap) (I : InstAt s.heap x ox C od) (J : InstAt s.heap y oy C oe) (hc : clsIn K C = some cd) (hm : cd.mro = .ref C :: r) (hs : findIn K (.ref C) "__or__" = some (some (.ref f))) (hf : isFn K (.ref f) = true)
    (h : wpAny (model prog w) A (call (.ref f) [.ref x, .ref y]) (W.CmpBack Q) E s) : wpAny (model prog w) A (binaryOp .BitOr (.ref x) (.ref y)) Q E s := by
  unfold binaryOp
  refine wpAny_holding ?_
  refine wpAny_bind (wpAny_mono (or_one (Q := Q) "or" X I J hc hm hs hf h) (fun v s' z => ?_) fun _ _ e => e)
  obtain ⟨u, rfl, hq⟩ := z
  exact wpAny_pure hq
theorem band_own {Q : Value → Shared → Prop} (X : K.In s.heap) (I : InstAt s.heap x ox C od) (J : InstAt s.heap y oy C oe) (hc : clsIn K C = some cd) (hm : cd.mro = .ref C :: r) (hs : findIn K (.ref C) "__and__" = some (some (.ref f))) (hf : isFn K (.ref f) = true)
    (h : wpAny (model prog w) A (call (.ref f) [.ref x, .ref y]) (W.CmpBack Q) E s) : wpAny (model prog w) A (binaryOp .BitAnd (.ref x) (.ref y)) Q E s := by
  unfold binaryOp
  refine wpAny_holding ?_
  refine wpAny_bind (wpAny_mono (or_one (Q := Q) "and" X I J hc hm hs hf h) (fun v s' z => ?_) fun _ _ e => e)
  obtain ⟨u, rfl, hq⟩ := z
  exact wpAny_pure hq
end
/-- the own method is asked of both -/
def rOwn2 (C : Addr) (sp : Sp) : R2 := fun a b H Q => ∃ (x y dx dy : Addr) (fs gs : List (Str × V)), a = .ref x ∧ b = .ref y ∧ H x = some (.ins C dx fs) ∧ H y = some (.ins C dy gs) ∧ sp [.ref x, .ref y] H (fun v H' => (∃ p, v = .ref p) ∧ Q v H') (fun _ _ _ => False)
/-- the class stands first in its own order -/
def Mro1 (K : W.Frag) (C : Addr) : Prop := ∃ cd r, clsIn K C = some cd ∧ cd.mro = .ref C :: r
section
variable {X : Cx} {CX : CXT} {k : Nat} {C f : Addr} {fd : FuncData} {ps : List Str} {sp : Sp}
theorem back_ref {pins : List (Addr × Obj)} {σ : L2.St} {H : Hp} {s : Shared} {Q : VK} {x y : Addr} (F : FnOk X.prog X.w X.K X.mg X.base CX k f fd ps sp) (hr : Room k X.A) (hb : Binds X.K fd ps []) (hx : Passes CX X (fun _ _ _ => False)) (I : Inv X pins σ H s)
    (h : sp [.ref x, .ref y] H (fun v H' => (∃ p, v = .ref p) ∧ Q v H') (fun _ _ _ => False)) :
    wpAny (model X.prog X.w) X.A (call (.ref f) [.ref x, .ref y]) (W.CmpBack (EP X pins σ Q)) X.xe s := by
  have hl := F.len _ _ _ _ h
  refine wpAny_call (codeAny_mono (F.run X.A X.stack s H ⟨[.ref x, .ref y], []⟩ [.ref x, .ref y] [.ref x, .ref y] _ _ hr I.env0 (by
    have z := hb s [.ref x, .ref y] I.kIn (by simpa using hl)
    simpa using z) (.cons rfl (.cons rfl .nil)) h) fun r s' hq => ?_)
  cases r with
  | error e => exact hx pins σ H s e s' I hq
  | ok fl =>
    cases fl with
    | ret u =>
      obtain ⟨v, H', J, rv, ⟨p, ep⟩, q⟩ := I.after hq
      subst ep
      obtain rfl : u = Value.ref p := rv
      exact ⟨.ref p, H', J, rfl, q⟩
    | next => exact False.elim hq
    | brk => exact False.elim hq
    | cont => exact False.elim hq
theorem op_borO (F : FnOk X.prog X.w X.K X.mg X.base CX k f fd ps sp) (hr : Room k X.A) (hb : Binds X.K fd ps []) (hx : Passes CX X (fun _ _ _ => False)) (hm : Mro1 X.K C) (hs : findIn X.K (.ref C) "__or__" = some (some (.ref f))) (hf : isFn X.K (.ref f) = true) :
    OpR X (binaryOp .BitOr) (rOwn2 C sp) := by
  intro pins s σ H a b u v Q I ra rb h
  obtain ⟨x, y, dx, dy, fs, gs, rfl, rfl, e1, e2, q⟩ := h
  cases ra
  cases rb
  obtain ⟨cd, r, h1, h2⟩ := hm
  obtain ⟨_, O1, _⟩ := ins_get I.hok e1
  obtain ⟨_, O2, _⟩ := ins_get I.hok e2
  obtain ⟨_, J1, _⟩ := O1.look
  obtain ⟨_, J2, _⟩ := O2.look
  exact bor_own I.kIn J1 J2 h1 h2 hs hf (back_ref F hr hb hx I q)
theorem op_bandO (F : FnOk X.prog X.w X.K X.mg X.base CX k f fd ps sp) (hr : Room k X.A) (hb : Binds X.K fd ps []) (hx : Passes CX X (fun _ _ _ => False)) (hm : Mro1 X.K C) (hs : findIn X.K (.ref C) "__and__" = some (some (.ref f))) (hf : isFn X.K (.ref f) = true) :
    OpR X (binaryOp .BitAnd) (rOwn2 C sp) := by
  intro pins s σ H a b u v Q I ra rb h
  obtain ⟨x, y, dx, dy, fs, gs, rfl, rfl, e1, e2, q⟩ := h
  cases ra
  cases rb
  obtain ⟨cd, r, h1, h2⟩ := hm
  obtain ⟨_, O1, _⟩ := ins_get I.hok e1
  obtain ⟨_, O2, _⟩ := ins_get I.hok e2
  obtain ⟨_, J1, _⟩ := O1.look
  obtain ⟨_, J2, _⟩ := O2.look
  exact band_own I.kIn J1 J2 h1 h2 hs hf (back_ref F hr hb hx I q)
end
end L2.Mb
set_option maxRecDepth 100000
set_option maxHeartbeats 4000000
namespace L2.Mb
open PySem PySem.Spec PyProof.Rows Mx
open PySem.SeqAt PySem.MeetsSeq
/-! ### a text beside a dict -/
theorem strDict1 (z : Str) (t : Tok) (a : Addr) (c : Value) (es : Array DictEntry) (k : Nat) (dd : Option Addr) (sl : Array (Option Value)) :
    Meets (Builtin.«str.__eq__» ⟨[.str z t, .ref a], []⟩) (fun _ R s => s.heap.get? a = some { cls := c, dict := dd, data := .dict es k, slots := sl } ∧ R (.ok (.ret .notImplemented)) s) := by
  refine .of_wp fun p w A R s q => ?_
  obtain ⟨hp, g, d, tk, os⟩ := s
  obtain ⟨hl, q⟩ := q
  wp_walk using wpAny_loadPart' hl, wpAny_load hl
  exact ⟨_, rfl, q⟩
theorem strDict2 (z : Str) (t : Tok) (a : Addr) (es : Array DictEntry) (k : Nat) (dd : Option Addr) (sl : Array (Option Value)) :
    Meets (Builtin.«dict.__eq__» ⟨[.ref a, .str z t], []⟩) (fun _ R s => s.heap.get? a = some { cls := .type "dict", dict := dd, data := .dict es k, slots := sl } ∧ R (.ok (.ret .notImplemented)) s) := by
  refine .of_wp fun p w A R s q => ?_
  obtain ⟨hp, g, d, tk, os⟩ := s
  obtain ⟨hl, q⟩ := q
  have f1 := F.sub_str_dict
  wp_walk using wpAny_loadPart' hl, wpAny_load hl
  exact ⟨_, rfl, q⟩
theorem eqAt_strDict {A : Around} {s : Shared} {a : Addr} {o : Obj} {es : Array DictEntry} {k : Nat} (z : Str) (t : Tok) (ho : s.heap.get? a = some o) (hc : o.cls = .type "dict") (hd : o.data = .dict es k) (hu : A.units < cLine) : EqAt A s (.str z t) (.ref a) false := fun prog w E Q h => by
  obtain ⟨oc, dd, data, sl⟩ := o
  simp only at hc hd
  subst hc hd
  unfold eqBool
  refine wpAny_holding (wpAny_ite_split (fun q => absurd (eq_of_beq q) nofun) (fun _ => wpAny_bind ?_))
  refine rc_eq_decline_or (k := false) (typeIs_str s z t) ⟨_, ho, rfl⟩ (by decide) F.sub_dict_str F.slot_str_eq F.slot_dict_eq_refl
    (fun _ q => call_meets F.slot_str_eq (typeIs_str s z t) F.entry_str_eq (F.args_str_eq_2 _ _) (strDict1 z t a (.type "dict") es k dd sl) ⟨ho, q⟩)
    (fun _ q => call_meets F.slot_dict_eq_refl ⟨_, ho, rfl⟩ F.entry_dict_eq (F.args_dict_eq_2 _ _) (strDict2 z t a es k dd sl) ⟨ho, q⟩)
    (fun _ q => wpAny_of_eq (rfl : isSame (.str z t) (.ref a) = pure false) q) (.inr hu) (wpAny_truthy_bool h)
/-! ### any value that was written or laid on the way -/
inductive AnyV (H : Hp) : V → Prop
  | non : AnyV H .non
  | bl (b : Bool) : AnyV H (.bl b)
  | int (n : Int) : AnyV H (.int n)
  | str (z : Str) : AnyV H (.str z)
  | lst {a : Addr} {xs : List V} : H a = some (.lst xs) → AnyV H (.ref a)
  | tup {a : Addr} {xs : List V} : H a = some (.tup xs) → AnyV H (.ref a)
  | dct {a : Addr} {kvs : List (Key × V)} : H a = some (.dK kvs) → AnyV H (.ref a)
theorem AnyV.mono {H H' : Hp} {v : V} (h : AnyV H v) (e : ∀ a o, H a = some o → (∀ ps, o ≠ .tbl ps) → H' a = some o) : AnyV H' v := by
  cases h with
  | non => exact .non
  | bl b => exact .bl b
  | int n => exact .int n
  | str z => exact .str z
  | lst h => exact .lst (e _ _ h fun ps z => by cases z)
  | tup h => exact .tup (e _ _ h fun ps z => by cases z)
  | dct h => exact .dct (e _ _ h fun ps z => by cases z)
def inS : V → List Str → Bool
  | .str z, ws => ws.any fun w => w == z
  | _, _ => false
def eS (x : V) (y : Value) : Bool := match x, y with
  | .str z, .str w _ => w == z
  | _, _ => false
theorem any_strs (x : V) : ∀ (ws : List Str) (its : List Value), Vals (ws.map V.str) its → its.any (eS x) = inS x ws
  | [], its, r => by
    cases r
    cases x <;> rfl
  | w :: ws, its, r => by
    cases r with
    | cons r1 r2 =>
      obtain ⟨t, rfl⟩ := r1
      have ih := any_strs x ws _ r2
      rw [List.any_cons, ih]
      cases x <;> simp [eS, inS]
def rNotW (K : W.Frag) : R2 := fun x y H Q => ∃ (p : Addr) (ws : List Str), y = .ref p ∧ SqT K H p (ws.map V.str) ∧ AnyV H x ∧ Q (.bl (!inS x ws)) H
theorem item_str : ∀ {ws : List Str} {its : List Value}, Vals (ws.map V.str) its → ∀ {y : Value}, y ∈ its → ∃ w t, y = .str w t
  | [], its, r, y, hy => by
    cases r
    cases hy
  | w :: ws, its, r, y, hy => by
    cases r with
    | cons r1 r2 =>
      rcases List.mem_cons.mp hy with e | h
      · obtain ⟨t, q⟩ := r1
        exact ⟨w, t, e.trans q⟩
      · exact item_str r2 h
theorem op_notInW {X : Cx} (hu : X.A.units + 64 < cLine) : OpR X (compareOp .NotIn) (rNotW X.K) := by
  intro pins s σ H x y v u Q I rx ry h
  obtain ⟨p, ws, rfl, ht, hx, q⟩ := h
  cases ry
  obtain ⟨its, rv, ⟨o, ho, hc, n, hd⟩, _⟩ := I.tuple ht
  have hu1 : X.A.in1.units < cLine := by
    show X.A.units + 1 < cLine
    omega
  refine notIn_tupleAt (eS x) ⟨o, ho, hc, n, hd⟩ (fun y hy => ?_) ?_
  · obtain ⟨w, t, rfl⟩ := item_str rv (by simpa using hy)
    cases hx with
    | non =>
      cases rx
      exact EqAt.str_none w t
    | bl b =>
      cases rx
      exact EqAt.str_bool w t b
    | int n =>
      obtain ⟨t2, rfl⟩ := rx
      exact EqAt.str_int w t n t2
    | str z =>
      obtain ⟨t2, rfl⟩ := rx
      exact EqAt.str_str w t z t2
    | lst h =>
      cases rx
      obtain ⟨its2, _, ⟨o2, n2, ho2, hc2, _, hd2⟩, _⟩ := I.list (SqL.of h)
      exact EqAt.str_list w t ⟨o2, ho2, hc2, n2, hd2⟩ hu1
    | tup h =>
      cases rx
      obtain ⟨its2, _, ⟨o2, ho2, hc2, n2, hd2⟩, _⟩ := I.tuple (.inl (.inl h))
      exact EqAt.str_tuple w t ⟨o2, ho2, hc2, n2, hd2⟩ hu1
    | dct h =>
      cases rx
      obtain ⟨_, ya, vs, ra, o2, es, ep, ho2, hex, hd2, _⟩ := (show ObjOk X.prog X.w H s.heap _ (.dK _) from I.hok _ _ h)
      exact eqAt_strDict w t ho2 hex.1 hd2 hu1
  · rw [show its.toArray.any (eS x) = inS x ws from (List.any_toArray).trans (any_strs x ws its rv)]
    exact ⟨.bl _, H, I, rfl, q⟩
end L2.Mb
set_option maxRecDepth 100000
set_option maxHeartbeats 4000000
namespace L2.Mb
open PySem PySem.Spec PyProof.Rows Mx PySem.W
/-! ### x != y where the class has an own == alone -/
theorem neSlot : Slot "object" (Str.ofString "__ne__") "object.__ne__" :=
  Slot.of (owner := "object") (n := "__ne__") (by rw [typeLookup_type, builtinLookup_eq_fast]; kernel_rfl) (by decide +kernel) (by decide +kernel) (by decide +kernel) (.inl (by decide +kernel)) (by rw [isSubtype_type]; kernel_rfl)
section
variable {prog : Program} {w : World} {A : Around} {E : Value → Shared → Prop} {s : Shared} {K : W.Frag} {x C f : Addr} {ox : Obj} {od : Option Obj} {b tb : Value}
theorem objNe_own {Q : Fin → Shared → Prop} (X : K.In s.heap) (I : InstAt s.heap x ox C od) (hs : findIn K (.ref C) "__eq__" = some (some (.ref f))) (hf : isFn K (.ref f) = true) (hu : A.units < cLine)
    (h : wpAny (model prog w) A (call (.ref f) [.ref x, b]) (fun v s' => ∃ k, v = .bool k ∧ Q (.done (.ret (.bool (!k)))) s') E s) : wpAny (model prog w) A (Builtin.«object.__ne__» ⟨[.ref x, b], []⟩) Q E s := by
  unfold Builtin.«object.__ne__»
  repeat (first
    | with_reducible refine wpAny_cRoomFor hu ?_
    | (refine wpAny_bind (m := callSpecialIfBound? (.ref x) (Str.ofString "__eq__") [b]) (ifBound_K X I hs hf (wpAny_mono h (fun r s' hr => by
          obtain ⟨k, rfl, hq⟩ := hr
          repeat (first | exact hq | exact wpAny_pure hq | exact wpAny_truthy_bool hq | (refine wpAny_bind (m := truthy (.bool _)) (wpAny_truthy_bool ?_)) | wp_step)) fun _ _ e => e)))
    | wp_step)
theorem tryNe_own {Q : Value → Shared → Prop} (X : K.In s.heap) (I : InstAt s.heap x ox C od) (hs : findIn K (.ref C) "__eq__" = some (some (.ref f))) (hf : isFn K (.ref f) = true) (hn : findIn K (.ref C) "__ne__" = some (some (.builtin "object.__ne__")))
    (ho : mroIn K C (.type "object") = some true) (hu : A.units + 1 < cLine) (h : wpAny (model prog w) A.in1 (call (.ref f) [.ref x, b]) (fun v s' => ∃ k, v = .bool k ∧ Q (.bool (!k)) s') E s) :
    wpAny (model prog w) A (tryCompare (.ref x) (Str.ofString "__ne__") b) (fun r s' => ∃ v, r = some v ∧ Q v s') E s := by
  have hi : Looks (model prog w) s.heap (isInstance (.ref x) (.type "object")) true := I.type.andThen (looks_mroIn X ho)
  have run : wpAny (model prog w) A (call (.builtin "object.__ne__") [.ref x, b]) (fun v s' => ∃ k, v = .bool (!k) ∧ Q (.bool (!k)) s') E s :=
    wpAny_call (codeAny_call_builtin neSlot.plain F.cmpEntry_ne (@check_slot (model prog w) _ _ s "object.__ne__" "object" "__ne__" (.ref x) [b] [] _ F.cmpKind_ne F.cmpSplit_ne hi (F.cmpArgs_ne _ _)
      (objNe_own (A := A.in1) X I hs hf hu (wpAny_mono h (fun v s' hv => by
        obtain ⟨k, e, q⟩ := hv
        exact ⟨k, e, k, rfl, q⟩) fun _ _ e => e))))
  have one : wpAny (model prog w) A (callSpecialIfBound? (.ref x) (Str.ofString "__ne__") [b]) (fun r s' => ∃ k, r = some (.bool k) ∧ Q (.bool k) s') E s := by
    have fin2 : wpAny (model prog w) A (call (.builtin "object.__ne__") ([.ref x] ++ [b]) >>= fun v => pure (some v)) (fun r s' => ∃ k, r = some (.bool k) ∧ Q (.bool k) s') E s :=
      wpAny_bind (wpAny_mono run (fun v s' hv => by
        obtain ⟨k, rfl, q⟩ := hv
        exact wpAny_pure ⟨_, rfl, q⟩) fun _ _ e => e)
    simp only [callSpecialIfBound?, bindSpecialIfBound?]
    refine wpAny_holding (wpAny_bind (wpAny_bind (wpAny_bind (I.type.here ((looks_findIn X hn).here ?_)))))
    refine wpAny_bind (wpAny_askSetting (wpAny_ite ?_))
    split
    · exact wpAny_bind (wpAny_of_eq (neSlot.bind _) (wpAny_pure (by exact fin2)))
    · exact wpAny_tryCatch (wpAny_bind (wpAny_of_eq (neSlot.bind _) (wpAny_pure (by exact fin2))))
  unfold tryCompare
  refine wpAny_bind (wpAny_mono one (fun r s' z => ?_) fun _ _ e => e)
  obtain ⟨k, rfl, q⟩ := z
  exact wpAny_pure ⟨_, rfl, q⟩
theorem ne_own {Q : Value → Shared → Prop} (X : K.In s.heap) (I : InstAt s.heap x ox C od) (hb : Looks (model prog w) s.heap (typeOf b) tb) (nf : notFirst K C tb = true) (hs : findIn K (.ref C) "__eq__" = some (some (.ref f))) (hf : isFn K (.ref f) = true)
    (hn : findIn K (.ref C) "__ne__" = some (some (.builtin "object.__ne__"))) (ho : mroIn K C (.type "object") = some true) (hu : A.units + 1 < cLine)
    (h : wpAny (model prog w) A.in1 (call (.ref f) [.ref x, b]) (fun v s' => ∃ k, v = .bool k ∧ Q (.bool (!k)) s') E s) : wpAny (model prog w) A (richCompare .NotEq (.ref x) b) Q E s := by
  have one := tryNe_own (Q := Q) X I hs hf hn ho hu h
  unfold richCompare
  simp only [oneThing_ref]
  refine wpAny_holding (wpAny_bind (wpAny_cRoomFor (Nat.lt_of_succ_lt hu) ?_))
  refine wpAny_bind (I.type.here (wpAny_bind (hb.here ?_)))
  split
  · rename_i q
    have e : subIn K tb (.ref C) = some false := (Bool.or_eq_true_iff.mp nf).elim (fun e => by rw [beq_iff_eq.mp e] at q; simp at q) beq_iff_eq.mp
    refine wpAny_bind ((looks_subIn X e).here ?_)
    simp only [Bool.false_eq_true, if_false]
    refine wpAny_bind (wpAny_mono one (fun r s' z => ?_) fun _ _ e => e)
    obtain ⟨v, rfl, hq⟩ := z
    exact wpAny_pure hq
  · refine wpAny_bind (wpAny_pure ?_)
    simp only [Bool.false_eq_true, if_false]
    refine wpAny_bind (wpAny_mono one (fun r s' z => ?_) fun _ _ e => e)
    obtain ⟨v, rfl, hq⟩ := z
    exact wpAny_pure hq
end
end L2.Mb
set_option maxRecDepth 100000
set_option maxHeartbeats 4000000
namespace L2.Mb
open PySem PySem.Spec PyProof.Rows Mx PySem.W
/-! ### x == y, x != y by an own ==, y an instance of the same class or any other value -/
def CmpV (C : Addr) (H : Hp) (y : V) : Prop := (∃ b dy gs, y = .ref b ∧ H b = some (.ins C dy gs)) ∨ AnyV H y
section
variable {X : Cx} {CX : CXT} {k : Nat} {C f : Addr} {fd : FuncData} {ps : List Str} {sp : Sp} {pins : List (Addr × Obj)} {σ : L2.St} {H : Hp} {s : Shared}
theorem looks_obj {M : Model} {h : Heap} {a : Addr} {o : Obj} {t : Value} (e : h.get? a = some o) (c : o.cls = t) : Looks M h (typeOf (.ref a)) t := c ▸ (Looks.ld e).andThen .now
theorem cmp_type {y : V} {u : Value} {M : Model} (I : Inv X pins σ H s) (ry : RelV y u) (hy : CmpV C H y) : ∃ tb, Looks M s.heap (typeOf u) tb ∧ notFirst X.K C tb = true := by
  rcases hy with ⟨b, dy, gs, rfl, hb⟩ | hy
  · cases ry
    obtain ⟨_, O, _⟩ := ins_get I.hok hb
    obtain ⟨_, J, _⟩ := O.look
    exact ⟨.ref C, J.type, by simp [notFirst]⟩
  · cases hy with
    | non =>
      cases ry
      exact ⟨.type "NoneType", looks_typeIn I.kIn rfl, by kernel_rfl⟩
    | bl b =>
      cases ry
      exact ⟨.type "bool", looks_typeIn I.kIn rfl, by kernel_rfl⟩
    | int n =>
      obtain ⟨t, rfl⟩ := ry
      exact ⟨.type "int", looks_typeIn I.kIn rfl, by kernel_rfl⟩
    | str z =>
      obtain ⟨t, rfl⟩ := ry
      exact ⟨.type "str", looks_typeIn I.kIn rfl, by kernel_rfl⟩
    | lst h =>
      cases ry
      obtain ⟨_, _, ⟨o, n, ho, hc, _⟩, _⟩ := I.list (SqL.of h)
      exact ⟨.type "list", looks_obj ho hc, by kernel_rfl⟩
    | tup h =>
      cases ry
      obtain ⟨_, _, ⟨o, ho, hc, _⟩, _⟩ := I.tuple (.inl (.inl h))
      exact ⟨.type "tuple", looks_obj ho hc, by kernel_rfl⟩
    | dct h =>
      cases ry
      obtain ⟨_, ya, vs, ra, o, es, ep, ho, hex, hd, _⟩ := (show ObjOk X.prog X.w H s.heap _ (.dK _) from I.hok _ _ h)
      exact ⟨.type "dict", looks_obj ho hex.1, by kernel_rfl⟩
theorem back_bool {R : Bool → Hp → Prop} {a : Addr} {y : V} {u : Value} {A2 : Around} (F : FnOk X.prog X.w X.K X.mg X.base CX k f fd ps sp) (hr : Room k A2) (e0 : Env0 X.prog X.w X.K X.mg X.base A2 X.stack s H) (hb : Binds X.K fd ps []) (hx : Passes CX X (fun _ _ _ => False))
    (I : Inv X pins σ H s) (ry : RelV y u) (h : sp [.ref a, y] H (fun v H' => ∃ c, v = .bl c ∧ R c H') (fun _ _ _ => False)) :
    wpAny (model X.prog X.w) A2 (call (.ref f) [.ref a, u]) (fun v s' => ∃ c H', v = .bool c ∧ Inv X pins σ H' s' ∧ R c H') X.xe s := by
  have hl := F.len _ _ _ _ h
  refine wpAny_call (codeAny_mono (F.run A2 X.stack s H ⟨[.ref a, u], []⟩ [.ref a, u] [.ref a, y] _ _ hr e0 (by
    have z := hb s [.ref a, u] I.kIn (by simpa using hl)
    simpa using z) (.cons rfl (.cons ry .nil)) h) fun r s' hq => ?_)
  cases r with
  | error e => exact hx pins σ H s e s' I hq
  | ok fl =>
    cases fl with
    | ret v =>
      obtain ⟨v, H', J, rv, ⟨c, ec, q⟩⟩ := I.after hq
      subst ec
      cases rv
      exact ⟨c, H', rfl, J, q⟩
    | next => exact False.elim hq
    | brk => exact False.elim hq
    | cont => exact False.elim hq
def rCmpO (C : Addr) (sp : Sp) (neg : Bool) : R2 := fun x y H Q => ∃ a dx fs, x = .ref a ∧ H a = some (.ins C dx fs) ∧ CmpV C H y ∧ sp [.ref a, y] H (fun v H' => ∃ c, v = .bl c ∧ Q (.bl (if neg then !c else c)) H') (fun _ _ _ => False)
theorem op_eqO (F : FnOk X.prog X.w X.K X.mg X.base CX k f fd ps sp) (hr : Room k X.A) (hb : Binds X.K fd ps []) (hx : Passes CX X (fun _ _ _ => False)) (hs : findIn X.K (.ref C) "__eq__" = some (some (.ref f))) (hf : isFn X.K (.ref f) = true) : OpR X (compareOp .Eq) (rCmpO C sp false) := by
  intro pins s σ H x y v u Q I rx ry h
  obtain ⟨a, dx, fs, rfl, ea, hy, q⟩ := h
  cases rx
  obtain ⟨tb, L, nf⟩ := cmp_type (C := C) (M := model X.prog X.w) I ry hy
  obtain ⟨_, O, _⟩ := ins_get I.hok ea
  obtain ⟨_, J, _⟩ := O.look
  obtain ⟨m, hF⟩ := I.fr
  refine cmp_K (op := .Eq) (tb := tb) hr.units0 hF I.ok.mod.kin J L nf hs hf (wpAny_mono (back_bool (R := fun c H' => Q (.bl c) H') F hr I.env0 hb hx I ry q) (fun r s' z => ?_) fun _ _ e => e)
  obtain ⟨c, H', rfl, J, z⟩ := z
  exact ⟨.bl c, H', J, rfl, z⟩
theorem op_neO (F : FnOk X.prog X.w X.K X.mg X.base CX k f fd ps sp) (hr : Room (k + 1) X.A) (hb : Binds X.K fd ps []) (hx : Passes CX X (fun _ _ _ => False)) (hs : findIn X.K (.ref C) "__eq__" = some (some (.ref f))) (hf : isFn X.K (.ref f) = true)
    (hn : findIn X.K (.ref C) "__ne__" = some (some (.builtin "object.__ne__"))) (ho : mroIn X.K C (.type "object") = some true) : OpR X (compareOp .NotEq) (rCmpO C sp true) := by
  intro pins s σ H x y v u Q I rx ry h
  obtain ⟨a, dx, fs, rfl, ea, hy, q⟩ := h
  cases rx
  obtain ⟨tb, L, nf⟩ := cmp_type (C := C) (M := model X.prog X.w) I ry hy
  obtain ⟨_, O, _⟩ := ins_get I.hok ea
  obtain ⟨_, J, _⟩ := O.look
  have hun := hr.units
  refine ne_own (tb := tb) I.kIn J L nf hs hf hn ho (by omega) (wpAny_mono (back_bool (R := fun c H' => Q (.bl (!c)) H') F hr.in1 I.env0.in1 hb hx I ry q) (fun r s' z => ?_) fun _ _ e => e)
  obtain ⟨c, H', rfl, J, z⟩ := z
  exact ⟨c, rfl, .bl (!c), H', J, rfl, z⟩
end
end L2.Mb
set_option maxRecDepth 100000
set_option maxHeartbeats 4000000
namespace L2.Mb
open PySem PySem.Spec PyProof.Rows Mx Evl
/-! ### a list over zip of two lists -/
section
variable {K : W.Frag} {σ : L2.St} {H : Hp} {te : TE}
/-- two lists, one after the other -/
def EvLL (ta : TA) (σ : L2.St) (H : Hp) (xs ys : List V) : Prop := ∀ H1, Ex H H1 → ∀ Q : List V → Hp → Prop, (∀ a b H2, Ex H1 H2 → H2 a = some (.lst xs) → H2 b = some (.lst ys) → Q [.ref a, .ref b] H2) → ta σ H1 Q
theorem ell_cons {ta tb : TE} {xs ys : List V} (h1 : EvL ta σ H xs) (h2 : EvL tb σ H ys) : EvLL (tCons ta (tCons tb tNil)) σ H xs ys := fun H1 e Q q => h1 H1 e _ fun a H2 _ e2 ha => h2 H2 (e.trans e2) _ fun b H3 _ e3 hb => q a b H3 (e2.trans e3) (e3 _ _ ha) hb
theorem el_lcZ {ta : TA} {i j : Nat} {vs : List Nat} {xs ys : List V} (v : Nat → V) (h : EvLL ta σ H xs ys) (hl : xs.length = ys.length) (hz : xs.length ≤ 40000) (hw : ∀ x y, wipe (((wipe σ vs).set i (some x)).set j (some y)) vs = wipe σ vs)
    (he : ∀ (k : Nat) (x y : V) H1, Ex H H1 → xs[k]? = some x → ys[k]? = some y → Ev te (((wipe σ vs).set i (some x)).set j (some y)) H1 (v k)) :
    EvL (tLc (iZip K ta) (gTup K 2 (gCons (gName i) (gCons (gName j) gNil))) tYes te vs) σ H (given xs.length (fun _ => true) v) := fun H0 e Q q => h H0 e _ fun a b H1 e1 ha hb =>
  ⟨a, b, xs, ys, rfl, sq_of ha, sq_of hb, fun Dl hD => lc_it (walk_zip (n := xs.length) (by omega)) (Cw H1 (fun _ => true) v Dl) ⟨hD, Ex.new hD, upd_same⟩ (fun k H' _ p => ⟨sq_of (p.2.1 a _ ha), sq_of (p.2.1 b _ hb)⟩) (fun k x H2 H3 hk p y => by
    obtain ⟨T, x', y', rfl, hT, rfl, f1, f2⟩ := y
    refine ⟨T, [x', y'], rfl, st_of upd_same, rfl, x', [y'], rfl, y', [], rfl, rfl, hw x' y', ?_⟩
    have p2 : Cw H1 (fun _ => true) v Dl k (upd H2 T (.tup [x', y'])) := ⟨p.1, p.2.1.trans (Ex.new hT), by rw [upd_ne (ne_of_none p.2.2 hT)]; exact p.2.2⟩
    exact cw_turn p2 (by omega) (fun H4 _ Q q => q H4 (Ex.refl H4)) (fun _ => he k x' y' H1 (e.trans e1) f1 f2)) (fun H' p => q Dl H' (fresh_back e1 p.1) (e1.trans p.2.1) p.2.2)⟩
end
end L2.Mb
set_option maxRecDepth 100000
set_option maxHeartbeats 4000000
namespace L2.Mb
open PySem PySem.Spec PyProof.Rows Mx
/-! ### o.m(k = v), an own method -/
section
variable {X : Cx} {CX : CXT} {k : Nat} {C f : Addr} {fd : FuncData} {ps ks : List Str} {sp : Sp} {E : XK} {o : Expr} {kws : List Keyword} {m : Str} {pos apos : Pos} {ta : TE} {t : TA} {pl : Sem Bool} {gg : List Value → List Value} {gV : List V → List V}
def tMethK (C : Addr) (m : Str) (sp : Sp) (n : Nat) (gV : List V → List V) (E : XK) (ta : TE) (t : TA) : TE := fun σ H Q => ta σ H fun x H1 => ∃ a dx fs, x = .ref a ∧ H1 a = some (.ins C dx fs) ∧ fs.lookup m = none ∧ t σ H1 fun vs H2 => vs.length = n ∧ sp (.ref a :: gV vs) H2 Q E
theorem pe_methK (he : PE X o ta) (c : Cls X.K C) (hm : Meth X.K C m f) (F : FnOk X.prog X.w X.K X.mg X.base CX k f fd ps sp) (hb : KwB X.K fd ps ks gg gV) (hr : Room k X.A) (hx : Passes CX X E) (ha : PK X kws t)
    (hall : (backToKw pos (keywordEach kws X.env)).all (·.1.isSome) = true := by rfl) (hks : (backToKw pos (keywordEach kws X.env)).filterMap (·.1) = ks := by rfl)
    (hpl : ((backTo pos (starEach [] X.env)).any (·.1) || (backToKw pos (keywordEach kws X.env)).any (·.1.isNone)) = false := by rfl)
    (ht : eval (.Call (.Attribute o m apos) [] kws pos) X.env = (do
      let ov ← eval o X.env
      standAt apos.atName
      let (f, first) ← holding [ov] (getMethod ov m pl)
      callWith pos f first (backTo pos (starEach [] X.env)) (backToKw pos (keywordEach kws X.env))) := by rfl) :
    PE X (.Call (.Attribute o m apos) [] kws pos) (tMethK C m sp ks.length gV E ta t) := by
  refine ⟨fun pins s σ H Q I h => ?_⟩
  refine W.methodCall_KW (pl := pl) (thn (he.run pins s σ H _ I h) fun u s1 ⟨x, H1, I1, rx, a, dx, fs, ex, ea, l, q⟩ => ?_) ht
  subst ex
  obtain rfl : u = Value.ref a := rx
  refine getmeth_ok I1 ea c hm l ?_
  refine W.callWith_of hpl (W.keeps_K hm.kp) (evalArgs_kw2_nil hall (thn (ha.run pos _ s1 σ H1 _ I1 q) fun ws s3 ⟨zs, H2, I3, rz, l2, q2⟩ => ⟨I3.kIn, ?_⟩))
  rw [hks]
  exact wpAny_call (codeAny_mono (F.run X.A X.stack s3 H2 ⟨[.ref a], ks.zip ws⟩ (.ref a :: gg ws) (.ref a :: gV zs) Q E hr I3.env0 (hb.to s3 a ws I3.kIn (rz.length.symm.trans l2)) (.cons rfl (hb.rel rz)) q2) fun r s' hq' => by
    cases r with
    | error e => exact hx _ σ H2 s3 e s' I3 hq'
    | ok fl =>
      cases fl with
      | ret u => exact I3.after hq'
      | next => exact False.elim hq'
      | brk => exact False.elim hq'
      | cont => exact False.elim hq')
end
end L2.Mb
set_option maxRecDepth 100000
set_option maxHeartbeats 4000000
namespace L2.M1
open PySem PySem.Spec PyProof.Rows L2 Mx L2.Mb
def top (i : Nat) : Stmt := PySem.Challenge.pw_meetbehind_k01_kinds_made_and_compared.main.body.getD i (.Pass ⟨0, 0, 0, 0⟩)
abbrev FnP (K : W.Frag) (x : Str) (st : Stmt) (f : Addr) (fd : FuncData) : Prop := FunD K x x (defArgs st) (defBody st) (defScope st) [] [] f fd
/-- a def of a class: m its name, q the qualified one -/
abbrev FnC (K : W.Frag) (m q : Str) (st : Stmt) (kws : List (Str × V)) (f : Addr) (fd : FuncData) : Prop := FunD K m q (defArgs st) (defBody st) (defScope st) [] kws f fd
/-- the built-in names that nobody has taken -/
structure Bt (mg : Str → Option Value) : Prop where
  KeyError : mg "KeyError" = none
  NotImplemented : mg "NotImplemented" = none
  OverflowError : mg "OverflowError" = none
  ValueError : mg "ValueError" = none
  abs : mg "abs" = none
  all : mg "all" = none
  bool : mg "bool" = none
  classmethod : mg "classmethod" = none
  int : mg "int" = none
  isinstance : mg "isinstance" = none
  len : mg "len" = none
  list : mg "list" = none
  max : mg "max" = none
  min : mg "min" = none
  property : mg "property" = none
  range : mg "range" = none
  repr : mg "repr" = none
  str : mg "str" = none
  zip : mg "zip" = none
abbrev s_is_integer : Stmt := top 1
abbrev n_is_integer : List Str := ["value", "least", "most"]
abbrev p_is_integer : List Str := ["value", "least", "most"]
theorem sc_is_integer : FnScope n_is_integer p_is_integer (defScope s_is_integer) := ⟨rfl, rfl, rfl, by decide +kernel, rfl, by decide +kernel, by decide +kernel⟩
abbrev s_InvalidKind_init : Stmt := inClass (top 4) 0
abbrev n_InvalidKind_init : List Str := ["self", "place"]
abbrev p_InvalidKind_init : List Str := ["self", "place"]
theorem sc_InvalidKind_init : FnScope n_InvalidKind_init p_InvalidKind_init (defScope s_InvalidKind_init) := ⟨rfl, rfl, rfl, by decide +kernel, rfl, by decide +kernel, by decide +kernel⟩
abbrev s_InvalidPart_init : Stmt := inClass (top 5) 0
abbrev n_InvalidPart_init : List Str := ["self", "index"]
abbrev p_InvalidPart_init : List Str := ["self", "index"]
theorem sc_InvalidPart_init : FnScope n_InvalidPart_init p_InvalidPart_init (defScope s_InvalidPart_init) := ⟨rfl, rfl, rfl, by decide +kernel, rfl, by decide +kernel, by decide +kernel⟩
abbrev s_Clash_init : Stmt := inClass (top 6) 0
abbrev n_Clash_init : List Str := ["self", "number"]
abbrev p_Clash_init : List Str := ["self", "number"]
theorem sc_Clash_init : FnScope n_Clash_init p_Clash_init (defScope s_Clash_init) := ⟨rfl, rfl, rfl, by decide +kernel, rfl, by decide +kernel, by decide +kernel⟩
abbrev s_InvalidText_init : Stmt := inClass (top 7) 0
abbrev n_InvalidText_init : List Str := ["self", "line", "word"]
abbrev p_InvalidText_init : List Str := ["self", "line", "word"]
theorem sc_InvalidText_init : FnScope n_InvalidText_init p_InvalidText_init (defScope s_InvalidText_init) := ⟨rfl, rfl, rfl, by decide +kernel, rfl, by decide +kernel, by decide +kernel⟩
abbrev s_NoStation_init : Stmt := inClass (top 8) 0
abbrev n_NoStation_init : List Str := ["self", "name"]
abbrev p_NoStation_init : List Str := ["self", "name"]
theorem sc_NoStation_init : FnScope n_NoStation_init p_NoStation_init (defScope s_NoStation_init) := ⟨rfl, rfl, rfl, by decide +kernel, rfl, by decide +kernel, by decide +kernel⟩
abbrev s_TooMany_init : Stmt := inClass (top 9) 0
abbrev n_TooMany_init : List Str := ["self", "limit"]
abbrev p_TooMany_init : List Str := ["self", "limit"]
theorem sc_TooMany_init : FnScope n_TooMany_init p_TooMany_init (defScope s_TooMany_init) := ⟨rfl, rfl, rfl, by decide +kernel, rfl, by decide +kernel, by decide +kernel⟩
abbrev s_number_of : Stmt := top 12
abbrev n_number_of : List Str := ["word", "least", "most", "sign", "number"]
abbrev p_number_of : List Str := ["word", "least", "most"]
theorem sc_number_of : FnScope n_number_of p_number_of (defScope s_number_of) := ⟨rfl, rfl, rfl, by decide +kernel, rfl, by decide +kernel, by decide +kernel⟩
abbrev s_Kind_init : Stmt := inClass (top 17) 2
abbrev n_Kind_init : List Str := ["self", "lends", "lets", "turns", "rests"]
abbrev p_Kind_init : List Str := ["self", "lends", "lets", "turns", "rests"]
theorem sc_Kind_init : FnScope n_Kind_init p_Kind_init (defScope s_Kind_init) := ⟨rfl, rfl, rfl, by decide +kernel, rfl, by decide +kernel, by decide +kernel⟩
abbrev s_Kind_lends : Stmt := inClass (top 17) 3
abbrev n_Kind_lends : List Str := ["self"]
abbrev p_Kind_lends : List Str := ["self"]
theorem sc_Kind_lends : FnScope n_Kind_lends p_Kind_lends (defScope s_Kind_lends) := ⟨rfl, rfl, rfl, by decide +kernel, rfl, by decide +kernel, by decide +kernel⟩
abbrev s_Kind_lets : Stmt := inClass (top 17) 4
abbrev n_Kind_lets : List Str := ["self"]
abbrev p_Kind_lets : List Str := ["self"]
theorem sc_Kind_lets : FnScope n_Kind_lets p_Kind_lets (defScope s_Kind_lets) := ⟨rfl, rfl, rfl, by decide +kernel, rfl, by decide +kernel, by decide +kernel⟩
abbrev s_Kind_turns : Stmt := inClass (top 17) 5
abbrev n_Kind_turns : List Str := ["self"]
abbrev p_Kind_turns : List Str := ["self"]
theorem sc_Kind_turns : FnScope n_Kind_turns p_Kind_turns (defScope s_Kind_turns) := ⟨rfl, rfl, rfl, by decide +kernel, rfl, by decide +kernel, by decide +kernel⟩
abbrev s_Kind_rests : Stmt := inClass (top 17) 6
abbrev n_Kind_rests : List Str := ["self"]
abbrev p_Kind_rests : List Str := ["self"]
theorem sc_Kind_rests : FnScope n_Kind_rests p_Kind_rests (defScope s_Kind_rests) := ⟨rfl, rfl, rfl, by decide +kernel, rfl, by decide +kernel, by decide +kernel⟩
abbrev s_Kind_within : Stmt := inClass (top 17) 7
abbrev n_Kind_within : List Str := ["self", "other", "mine", "yours"]
abbrev p_Kind_within : List Str := ["self", "other"]
theorem sc_Kind_within : FnScope n_Kind_within p_Kind_within (defScope s_Kind_within) := ⟨rfl, rfl, rfl, by decide +kernel, rfl, by decide +kernel, by decide +kernel⟩
abbrev s_Kind_read : Stmt := inClass (top 17) 8
abbrev n_Kind_read : List Str := ["cls", "text"]
abbrev p_Kind_read : List Str := ["cls", "text"]
theorem sc_Kind_read : FnScope n_Kind_read p_Kind_read (defScope s_Kind_read) := ⟨rfl, rfl, rfl, by decide +kernel, rfl, by decide +kernel, by decide +kernel⟩
abbrev s_Kind_or : Stmt := inClass (top 17) 9
abbrev n_Kind_or : List Str := ["self", "other", "mine", "yours"]
abbrev p_Kind_or : List Str := ["self", "other"]
theorem sc_Kind_or : FnScope n_Kind_or p_Kind_or (defScope s_Kind_or) := ⟨rfl, rfl, rfl, by decide +kernel, rfl, by decide +kernel, by decide +kernel⟩
abbrev s_Kind_and : Stmt := inClass (top 17) 10
abbrev n_Kind_and : List Str := ["self", "other", "mine", "yours"]
abbrev p_Kind_and : List Str := ["self", "other"]
theorem sc_Kind_and : FnScope n_Kind_and p_Kind_and (defScope s_Kind_and) := ⟨rfl, rfl, rfl, by decide +kernel, rfl, by decide +kernel, by decide +kernel⟩
abbrev s_Kind_eq : Stmt := inClass (top 17) 11
abbrev n_Kind_eq : List Str := ["self", "other"]
abbrev p_Kind_eq : List Str := ["self", "other"]
theorem sc_Kind_eq : FnScope n_Kind_eq p_Kind_eq (defScope s_Kind_eq) := ⟨rfl, rfl, rfl, by decide +kernel, rfl, by decide +kernel, by decide +kernel⟩
abbrev s_Kind_str : Stmt := inClass (top 17) 12
abbrev n_Kind_str : List Str := ["self", "words"]
abbrev p_Kind_str : List Str := ["self"]
theorem sc_Kind_str : FnScope n_Kind_str p_Kind_str (defScope s_Kind_str) := ⟨rfl, rfl, rfl, by decide +kernel, rfl, by decide +kernel, by decide +kernel⟩
abbrev s_Kind_repr : Stmt := inClass (top 17) 13
abbrev n_Kind_repr : List Str := ["self"]
abbrev p_Kind_repr : List Str := ["self"]
theorem sc_Kind_repr : FnScope n_Kind_repr p_Kind_repr (defScope s_Kind_repr) := ⟨rfl, rfl, rfl, by decide +kernel, rfl, by decide +kernel, by decide +kernel⟩
abbrev s_ranks : Stmt := top 18
abbrev n_ranks : List Str := ["kind", "rests"]
abbrev p_ranks : List Str := ["kind"]
theorem sc_ranks : FnScope n_ranks p_ranks (defScope s_ranks) := ⟨rfl, rfl, rfl, by decide +kernel, rfl, by decide +kernel, by decide +kernel⟩
abbrev s_kind_of_ranks : Stmt := top 19
abbrev n_kind_of_ranks : List Str := ["ranks", "lends", "lets", "turns", "rests", "limit"]
abbrev p_kind_of_ranks : List Str := ["ranks"]
theorem sc_kind_of_ranks : FnScope n_kind_of_ranks p_kind_of_ranks (defScope s_kind_of_ranks) := ⟨rfl, rfl, rfl, by decide +kernel, rfl, by decide +kernel, by decide +kernel⟩
abbrev s_kind_of_words : Stmt := top 20
abbrev n_kind_of_words : List Str := ["words", "line", "before", "lends", "_", "lets", "at", "turns", "rests"]
abbrev p_kind_of_words : List Str := ["words", "line", "before"]
theorem sc_kind_of_words : FnScope n_kind_of_words p_kind_of_words (defScope s_kind_of_words) := ⟨rfl, rfl, rfl, by decide +kernel, rfl, by decide +kernel, by decide +kernel⟩
abbrev s_law_begin : Stmt := top 22
abbrev n_law_begin : List Str := ["_law_script"]
abbrev p_law_begin : List Str := ["_law_script"]
theorem sc_law_begin : FnScope n_law_begin p_law_begin (defScope s_law_begin) := ⟨rfl, rfl, rfl, by decide +kernel, rfl, by decide +kernel, by decide +kernel⟩
abbrev s_law_take : Stmt := top 23
abbrev n_law_take : List Str := ["_law_hand", "_law_bound", "_law_digit", "_law_at", "_law_piece", "_law_great", "_law_mixed"]
abbrev p_law_take : List Str := ["_law_hand", "_law_bound"]
theorem sc_law_take : FnScope n_law_take p_law_take (defScope s_law_take) := ⟨rfl, rfl, rfl, by decide +kernel, rfl, by decide +kernel, by decide +kernel⟩
abbrev s_law_right : Stmt := top 24
abbrev n_law_right : List Str := ["_law_hand", "_law_lend", "_law_let", "_law_rest"]
abbrev p_law_right : List Str := ["_law_hand"]
theorem sc_law_right : FnScope n_law_right p_law_right (defScope s_law_right) := ⟨rfl, rfl, rfl, by decide +kernel, rfl, by decide +kernel, by decide +kernel⟩
abbrev s_law_odd : Stmt := top 25
abbrev n_law_odd : List Str := ["_law_hand", "_law_spot", "_law_words", "_law_some"]
abbrev p_law_odd : List Str := ["_law_hand", "_law_spot"]
theorem sc_law_odd : FnScope n_law_odd p_law_odd (defScope s_law_odd) := ⟨rfl, rfl, rfl, by decide +kernel, rfl, by decide +kernel, by decide +kernel⟩
abbrev s_law_arguments : Stmt := top 26
abbrev n_law_arguments : List Str := ["_law_hand", "_law_found", "_law_first", "_law_spot"]
abbrev p_law_arguments : List Str := ["_law_hand"]
theorem sc_law_arguments : FnScope n_law_arguments p_law_arguments (defScope s_law_arguments) := ⟨rfl, rfl, rfl, by decide +kernel, rfl, by decide +kernel, by decide +kernel⟩
abbrev s_law_told : Stmt := top 27
abbrev n_law_told : List Str := ["_law_ask", "_law_caught", "_law_made"]
abbrev p_law_told : List Str := ["_law_ask"]
theorem sc_law_told : FnScope n_law_told p_law_told (defScope s_law_told) := ⟨rfl, rfl, rfl, by decide +kernel, rfl, by decide +kernel, by decide +kernel⟩
abbrev s_law_made_right : Stmt := top 28
abbrev n_law_made_right : List Str := ["_law_hand", "_law_some", "_law_first", "_law_lend", "_law_let", "_law_turn", "_law_rest", "_law_kept", "_law_due"]
abbrev p_law_made_right : List Str := ["_law_hand"]
theorem sc_law_made_right : FnScope n_law_made_right p_law_made_right (defScope s_law_made_right) := ⟨rfl, rfl, rfl, by decide +kernel, rfl, by decide +kernel, by decide +kernel⟩
abbrev s_law_same_right : Stmt := top 29
abbrev n_law_same_right : List Str := ["_law_hand", "_law_one", "_law_two", "_law_spot", "_law_first", "_law_second", "_law_due", "_law_mate"]
abbrev p_law_same_right : List Str := ["_law_hand"]
theorem sc_law_same_right : FnScope n_law_same_right p_law_same_right (defScope s_law_same_right) := ⟨rfl, rfl, rfl, by decide +kernel, rfl, by decide +kernel, by decide +kernel⟩
abbrev s_law_ranks : Stmt := top 30
abbrev n_law_ranks : List Str := ["_law_hand", "_law_rest"]
abbrev p_law_ranks : List Str := ["_law_hand"]
theorem sc_law_ranks : FnScope n_law_ranks p_law_ranks (defScope s_law_ranks) := ⟨rfl, rfl, rfl, by decide +kernel, rfl, by decide +kernel, by decide +kernel⟩
abbrev s_law_kind : Stmt := top 31
abbrev n_law_kind : List Str := ["_law_ranks_here", "_law_lend", "_law_let"]
abbrev p_law_kind : List Str := ["_law_ranks_here"]
theorem sc_law_kind : FnScope n_law_kind p_law_kind (defScope s_law_kind) := ⟨rfl, rfl, rfl, by decide +kernel, rfl, by decide +kernel, by decide +kernel⟩
abbrev s_law_parts : Stmt := top 32
abbrev n_law_parts : List Str := ["_law_kind_here"]
abbrev p_law_parts : List Str := ["_law_kind_here"]
theorem sc_law_parts : FnScope n_law_parts p_law_parts (defScope s_law_parts) := ⟨rfl, rfl, rfl, by decide +kernel, rfl, by decide +kernel, by decide +kernel⟩
abbrev s_law_looser : Stmt := top 33
abbrev n_law_looser : List Str := ["_law_one", "_law_two", "_law_rest", "_law_k"]
abbrev p_law_looser : List Str := ["_law_one", "_law_two"]
theorem sc_law_looser : FnScope n_law_looser p_law_looser (defScope s_law_looser) := ⟨rfl, rfl, rfl, by decide +kernel, rfl, by decide +kernel, by decide +kernel⟩
abbrev s_law_stricter : Stmt := top 34
abbrev n_law_stricter : List Str := ["_law_one", "_law_two", "_law_some_rests", "_law_rest", "_law_k"]
abbrev p_law_stricter : List Str := ["_law_one", "_law_two"]
theorem sc_law_stricter : FnScope n_law_stricter p_law_stricter (defScope s_law_stricter) := ⟨rfl, rfl, rfl, by decide +kernel, rfl, by decide +kernel, by decide +kernel⟩
abbrev s_law_is_within : Stmt := top 35
abbrev n_law_is_within : List Str := ["_law_one", "_law_two", "_law_k"]
abbrev p_law_is_within : List Str := ["_law_one", "_law_two"]
theorem sc_law_is_within : FnScope n_law_is_within p_law_is_within (defScope s_law_is_within) := ⟨rfl, rfl, rfl, by decide +kernel, rfl, by decide +kernel, by decide +kernel⟩
abbrev s_law_pair_right : Stmt := top 36
abbrev n_law_pair_right : List Str := ["_law_one", "_law_two", "_law_first", "_law_second", "_law_kept", "_law_loose", "_law_strict", "_law_due"]
abbrev p_law_pair_right : List Str := ["_law_one", "_law_two"]
theorem sc_law_pair_right : FnScope n_law_pair_right p_law_pair_right (defScope s_law_pair_right) := ⟨rfl, rfl, rfl, by decide +kernel, rfl, by decide +kernel, by decide +kernel⟩
abbrev s_law_three_right : Stmt := top 37
abbrev n_law_three_right : List Str := ["_law_one", "_law_two", "_law_three", "_law_first", "_law_second", "_law_third"]
abbrev p_law_three_right : List Str := ["_law_one", "_law_two", "_law_three"]
theorem sc_law_three_right : FnScope n_law_three_right p_law_three_right (defScope s_law_three_right) := ⟨rfl, rfl, rfl, by decide +kernel, rfl, by decide +kernel, by decide +kernel⟩
abbrev s_law_three_kinds_right : Stmt := top 38
abbrev n_law_three_kinds_right : List Str := ["_law_hand", "_law_rows", "_law_k", "_law_one", "_law_two"]
abbrev p_law_three_kinds_right : List Str := ["_law_hand"]
theorem sc_law_three_kinds_right : FnScope n_law_three_kinds_right p_law_three_kinds_right (defScope s_law_three_kinds_right) := ⟨rfl, rfl, rfl, by decide +kernel, rfl, by decide +kernel, by decide +kernel⟩
abbrev s_law : Stmt := top 39
abbrev n_law : List Str := ["_law_script", "_law_hand", "_law_turn"]
abbrev p_law : List Str := ["_law_script"]
theorem sc_law : FnScope n_law p_law (defScope s_law) := ⟨rfl, rfl, rfl, by decide +kernel, rfl, by decide +kernel, by decide +kernel⟩
end L2.M1
set_option maxRecDepth 100000
set_option maxHeartbeats 4000000
namespace L2.M1
open PySem PySem.Spec PyProof.Rows L2 Mx L2.Mb Evl Mv TL
/-! ### whole numbers in bounds, of any value -/
def inRest (n : Int) : Bool := decide (2 ≤ n) && decide (n ≤ 1000000)
def optV : Option Int → V
  | some n => .int n
  | none => .non
def isI : V → Int → Int → Bool
  | .int n, a, b => decide (a ≤ n) && decide (n ≤ b)
  | _, _, _ => false
theorem given_map {n : Nat} {f : Nat → Bool} {g : Nat → V} (h : ∀ i, f i = true) : given n f g = (List.range n).map g := by
  unfold given
  rw [List.filter_eq_self.mpr fun i _ => h i]
section
variable {P : Program} {w : World} {K : W.Frag} {mg : Str → Option Value} {base : Heap} {f : Addr} {fd : FuncData}
def isIntB : V → Bool
  | .int _ => true
  | .bl _ => true
  | _ => false
def isBlB : V → Bool
  | .bl _ => true
  | _ => false
theorem rc_int {H : Hp} {v : V} (h : AnyV H v) : RC (rIsi K) [v, .ty "int"] H (.bl (isIntB v)) := by
  cases h with
  | non => exact rc_isi (t := .type "NoneType") (.ty "int") (fun _ _ => .base .non) (kit_ty (a := "NoneType") (b := "int") (r := false) (by decide +kernel))
  | bl b => exact rc_isi (t := .type "bool") (.ty "int") (fun _ _ => .base (.bl b)) (kit_ty (a := "bool") (b := "int") (r := true) (by decide +kernel))
  | int n => exact rc_isi (t := .type "int") (.ty "int") (fun _ _ => .base (.int n)) (kit_ty (a := "int") (b := "int") (r := true) (by decide +kernel))
  | str z => exact rc_isi (t := .type "str") (.ty "int") (fun _ _ => .base (.str z)) (kit_ty (a := "str") (b := "int") (r := false) (by decide +kernel))
  | lst h => exact rc_isi (t := .type "list") (.ty "int") (fun _ e => .base (.lst (e _ _ h))) (kit_ty (a := "list") (b := "int") (r := false) (by decide +kernel))
  | tup h => exact rc_isi (t := .type "tuple") (.ty "int") (fun _ e => .base (.tup (e _ _ h))) (kit_ty (a := "tuple") (b := "int") (r := false) (by decide +kernel))
  | dct h => exact rc_isi (t := .type "dict") (.ty "int") (fun _ e => .base (.dK (e _ _ h))) (kit_ty (a := "dict") (b := "int") (r := false) (by decide +kernel))
theorem rc_bool {H : Hp} {v : V} (h : AnyV H v) : RC (rIsi K) [v, .ty "bool"] H (.bl (isBlB v)) := by
  cases h with
  | non => exact rc_isi (t := .type "NoneType") (.ty "bool") (fun _ _ => .base .non) (kit_ty (a := "NoneType") (b := "bool") (r := false) (by decide +kernel))
  | bl b => exact rc_isi (t := .type "bool") (.ty "bool") (fun _ _ => .base (.bl b)) (kit_ty (a := "bool") (b := "bool") (r := true) (by decide +kernel))
  | int n => exact rc_isi (t := .type "int") (.ty "bool") (fun _ _ => .base (.int n)) (kit_ty (a := "int") (b := "bool") (r := false) (by decide +kernel))
  | str z => exact rc_isi (t := .type "str") (.ty "bool") (fun _ _ => .base (.str z)) (kit_ty (a := "str") (b := "bool") (r := false) (by decide +kernel))
  | lst h => exact rc_isi (t := .type "list") (.ty "bool") (fun _ e => .base (.lst (e _ _ h))) (kit_ty (a := "list") (b := "bool") (r := false) (by decide +kernel))
  | tup h => exact rc_isi (t := .type "tuple") (.ty "bool") (fun _ e => .base (.tup (e _ _ h))) (kit_ty (a := "tuple") (b := "bool") (r := false) (by decide +kernel))
  | dct h => exact rc_isi (t := .type "dict") (.ty "bool") (fun _ e => .base (.dK (e _ _ h))) (kit_ty (a := "dict") (b := "bool") (r := false) (by decide +kernel))
theorem any_ex {H H' : Hp} {v : V} (h : AnyV H v) (e : Ex H H') : AnyV H' v := h.mono fun a o q _ => e a o q
def spIntA : Sp := fun vs H Q _ => ∃ (v : V) (a b : Int), vs = [v, .int a, .int b] ∧ AnyV H v ∧ ∀ H', Ex H H' → Q (.bl (isI v a b)) H'
theorem ok_is_integer (B : Bt mg) (F : FnP K "is_integer" s_is_integer f fd) : FnOk P w K mg base CX0 1 f fd p_is_integer spIntA := by
  refine F.ok sc_is_integer (fun vs H Q E h => ?_) (fun cdv A outer s H vs Q E hr h => ?_)
  · obtain ⟨v, a, b, rfl, _⟩ := h
    rfl
  · obtain ⟨v, a, b, rfl, hv, k⟩ := h
    refine ⟨_, PSs.nox (pss_one (ps_ret (pe_and (pe_callB call_isi (by rfl) B.isinstance (by decide +kernel) (pa_cons (pv 0) (pa_cons (pe_bltn (v := .ty "int") (by rfl) B.int (by decide +kernel) rfl) pa_nil)))
      (pe_and (pe_not (pe_callB call_isi (by rfl) B.isinstance (by decide +kernel) (pa_cons (pv 0) (pa_cons (pe_bltn (v := .ty "bool") (by rfl) B.bool (by decide +kernel) rfl) pa_nil)))) (pe_one (pe_chain op_le op_le (pv 1) (pv 0) (pv 2))))))), ?_⟩
    have e0 : isI v a b = (isIntB v && (!isBlB v && isI v a b)) := by cases v <;> simp [isI, isIntB, isBlB]
    rw [e0] at k
    refine s_ret (ev_andV (a := isIntB v) (b := !isBlB v && isI v a b) (ev_cb (ea_cons (ev_var rfl) (ea_cons ev_c ea_nil)) (rc_int hv)) (fun h1 => ev_andV (a := !isBlB v) (b := isI v a b) (ev_notV (ev_cb (ea_cons (ev_var rfl) (ea_cons ev_c ea_nil)) (rc_bool hv))) (fun h2 => ?_))) fun H1 e1 => k H1 e1
    cases v with
    | int n => exact ev_chain (ev_var rfl) (ev_var rfl) rv_int (fun _ => ev_var rfl) (fun _ => rv_int)
    | bl c => cases h2
    | _ => cases h1
/-! ### the error of one field, raised -/
def spI1 (C : Addr) (f : Str) : Sp := fun vs H Q _ => ∃ (a : Addr) (v : V), vs = [.ref a, v] ∧ H a = some (exo a C none) ∧ ∀ dx, H dx = none → dx ≠ a → Q .non (upd (upd H dx (exd dx [(f, v)])) a (exo a C (some dx)))
theorem ok_xk {CE : Addr} (F : FnC K "__init__" "InvalidKind.__init__" s_InvalidKind_init [] f fd) (T : EC K CE f .val) (no : W.findIn K (.ref CE) "place" = some none) : FnOk P w K mg base CX0 1 f fd ["self", "place"] (spI1 CE "place") := by
  refine F.ok sc_InvalidKind_init (fun vs H Q E h => ?_) (fun cdv A outer s H vs Q E hr h => ?_)
  · obtain ⟨a, v, rfl, _⟩ := h
    rfl
  · obtain ⟨a, v, rfl, ha, k⟩ := h
    refine ⟨_, PSs.nox (pss_one (ps_putX (pv 0) (pv 1))), ?_⟩
    exact ⟨v, rfl, _, rfl, a, CE, f, .val, rfl, T, no, .inl ⟨ha, k⟩⟩
theorem s_raise1 {C : Addr} {σ : L2.St} {H : Hp} {ta : TA} {f : Str} {v : V} {W : WX} (h : EvA ta σ H [v]) (k : ∀ d H1, Ex H H1 → H1 d = some (.xd [(f, v)]) → W (.ref C) (some d) σ H1) :
    tMkO C (spI1 C f) [] ta σ H (fun cls d H' => W cls d σ H') := h H (Ex.refl H) _ fun H2 e2 => ⟨by show 1 ≤ 1000; decide, fun a na => ⟨a, v, rfl, upd_same, fun dx hd ne => by
    have hd2 : H2 dx = none := by
      rw [upd_ne ne] at hd
      exact hd
    refine ⟨rfl, dx, _, upd_same, ?_, hd2, k dx _ ?_ upd_same⟩
    · rw [upd_ne ne, upd_same]
    · intro c o hc
      have h2 := e2 c o hc
      have c1 : c ≠ a := ne_of_none h2 na
      have c2 : c ≠ dx := ne_of_none h2 hd2
      rw [upd_ne c2, del_ne c1, upd_ne c1, upd_ne c2, upd_ne c1]
      exact h2⟩⟩
/-- what is known of the error InvalidKind -/
structure XT (P : Program) (w : World) (K : W.Frag) (mg : Str → Option Value) (base : Heap) (CE fE : Addr) (dE : FuncData) : Prop where
  ec : EC K CE fE .val
  ty : W.typeIn K (.ref CE) = some (.type "type")
  m : mg "InvalidKind" = some (.ref CE)
  ok : FnOk P w K mg base CX0 1 fE dE ["self", "place"] (spI1 CE "place")
  b : Binds K dE ["self", "place"] []
  no : W.findIn K (.ref CE) "place" = some none
end
end L2.M1
set_option maxRecDepth 100000
set_option maxHeartbeats 4000000
namespace L2.M1
open PySem PySem.Spec PyProof.Rows L2 Mx L2.Mb Evl Mv TL
abbrev lendL : List Str := ["both", "far", "one"]
abbrev letL : List Str := ["both", "far", "any"]
/-- what is known of the class Kind at C: its metaclass, the two tuples of words -/
structure KF (K : W.Frag) (mg : Str → Option Value) (C : Addr) (mc : Value) (aL aT : Addr) : Prop where
  m : mg "Kind" = some (.ref C)
  cl : Cls K C
  n1 : NoAttr K C "_lends"
  n2 : NoAttr K C "_lets"
  n3 : NoAttr K C "_turns"
  n4 : NoAttr K C "_rests"
  rd : ClX.CRead K C mc
  vL : ClX.CVal K C mc "LENDS" (.ref aL) (.ref aL)
  vT : ClX.CVal K C mc "LETS" (.ref aT) (.ref aT)
  tL : ∀ H, SqT K H aL (lendL.map V.str)
  tT : ∀ H, SqT K H aT (letL.map V.str)
  kp : W.keepIn K (.ref C) = true
/-- a kind's parts -/
structure Kd where
  le : Str
  lt : Str
  tu : Bool
  re : Option Int
def Kd.ok (k : Kd) : Bool := lendL.contains k.le && (letL.contains k.lt && k.re.all inRest)
abbrev Kd.fs (k : Kd) : List (Str × V) := putF "_rests" (optV k.re) (putF "_turns" (.bl k.tu) (putF "_lets" (.str k.lt) (putF "_lends" (.str k.le) [])))
/-- the kind stands at a -/
def KAt (C : Addr) (H : Hp) (a : Addr) (k : Kd) : Prop := ∃ dx, H a = some (.ins C dx k.fs)
theorem KAt.mono {C : Addr} {H H' : Hp} {a : Addr} {k : Kd} (h : KAt C H a k) (e : Ex H H') : KAt C H' a k := h.elim fun dx z => ⟨dx, e _ _ z⟩
theorem inV_str (x : Str) (l : List Str) : inV (.str x) (l.map V.str) = l.contains x := by
  unfold inV
  rw [List.any_map, List.contains_eq_any_beq]
  congr 1
  funext y
  show eqV (.str y) (.str x) = (x == y)
  by_cases h : x = y
  · subst h
    simp [eqV]
  · have h2 : ¬ y = x := fun z => h z.symm
    have h3 : (y == x) = false := by simpa using h2
    have h4 : (x == y) = false := by simpa using h
    simp [eqV, h3, h4]
section
variable {P : Program} {w : World} {K : W.Frag} {mg : Str → Option Value} {base : Heap} {f fI C aL aT : Addr} {fd dI : FuncData} {mc : Value}
theorem flat_strs (l : List Str) : (l.map V.str).all flatV = true := by
  rw [List.all_map]
  exact List.all_eq_true.mpr fun _ _ => rfl
/-- a def for its callers, errors and all -/
structure Fn0 (P : Program) (w : World) (K : W.Frag) (mg : Str → Option Value) (base : Heap) (x : Str) (k : Nat) (f : Addr) (fd : FuncData) (ps : List Str) (sp : Sp) : Prop where
  ok : FnOk P w K mg base CX0 k f fd ps sp
  m : mg x = some (.ref f)
  k : W.keepIn K (.ref f) = true
  b : Binds K fd ps []
theorem ev_cval {t : TE} {σ : L2.St} {H : Hp} {u : Value} {x : Str} {a : Addr} (h : Ev t σ H (.ref C)) (rd : ClX.CRead K C mc) (v : ClX.CVal K C mc x (.ref a) u) : Ev (ClX.tCVal K t x) σ H (.ref a) := fun H1 e Q q => h H1 e _ fun H2 e2 => ⟨C, mc, _, u, rfl, rd, v, q H2 e2⟩
/-! ### a kind made, or refused -/
def okL : V → Bool
  | .str z => lendL.contains z
  | _ => false
def okT : V → Bool
  | .str z => letL.contains z
  | _ => false
def okR : V → Bool
  | .non => true
  | .int n => inRest n
  | _ => false
def badAt (l t u r : V) : Option Int := if okL l then (if okT t then (if isBlB u then (if okR r then none else some 3) else some 2) else some 1) else some 0
theorem kd_of {l t u r : V} (h : badAt l t u r = none) : ∃ kd : Kd, kd.ok = true ∧ l = .str kd.le ∧ t = .str kd.lt ∧ u = .bl kd.tu ∧ r = optV kd.re := by
  unfold badAt at h
  split at h
  · rename_i h1
    split at h
    · rename_i h2
      split at h
      · rename_i h3
        split at h
        · rename_i h4
          cases l with
          | str le =>
            cases t with
            | str lt =>
              cases u with
              | bl tu =>
                cases r with
                | non => exact ⟨⟨le, lt, tu, none⟩, by unfold Kd.ok; rw [show lendL.contains le = true from h1, show letL.contains lt = true from h2]; rfl, rfl, rfl, rfl, rfl⟩
                | int n => exact ⟨⟨le, lt, tu, some n⟩, by unfold Kd.ok; rw [show lendL.contains le = true from h1, show letL.contains lt = true from h2]; exact h4, rfl, rfl, rfl, rfl⟩
                | _ => cases h4
              | _ => cases h3
            | _ => cases h2
          | _ => cases h1
        · cases h
      · cases h
    · cases h
  · cases h
theorem bad_kd {kd : Kd} (h : kd.ok = true) : badAt (.str kd.le) (.str kd.lt) (.bl kd.tu) (optV kd.re) = none := by
  unfold Kd.ok at h
  simp only [Bool.and_eq_true] at h
  obtain ⟨h1, h2, h3⟩ := h
  unfold badAt
  rw [if_pos (show okL (.str kd.le) = true from h1), if_pos (show okT (.str kd.lt) = true from h2), if_pos (show isBlB (.bl kd.tu) = true from rfl), if_pos]
  cases hr : kd.re with
  | none => rfl
  | some n =>
    rw [hr] at h3
    exact h3
theorem inS_l (v : V) : inS v lendL = okL v := by
  cases v <;> try rfl
  rename_i z
  show (lendL.any fun w => w == z) = lendL.contains z
  rw [List.contains_eq_any_beq]
  congr 1
  funext w
  exact Bool.beq_comm
theorem inS_t (v : V) : inS v letL = okT v := by
  cases v <;> try rfl
  rename_i z
  show (letL.any fun w => w == z) = letL.contains z
  rw [List.contains_eq_any_beq]
  congr 1
  funext w
  exact Bool.beq_comm
def spInit (C CE : Addr) : Sp := fun vs H Q E => ∃ (a dx : Addr) (l t u r : V), vs = [.ref a, l, t, u, r] ∧ H a = some (.ins C dx []) ∧ AnyV H l ∧ AnyV H t ∧ AnyV H u ∧ AnyV H r ∧
  (∀ kd : Kd, kd.ok = true → l = .str kd.le → t = .str kd.lt → u = .bl kd.tu → r = optV kd.re → ∀ H', (∀ c o, c ≠ a → H c = some o → H' c = some o) → H' a = some (.ins C dx kd.fs) → Q .non H') ∧
  (∀ n, badAt l t u r = some n → ∀ d H', Ex H H' → H' d = some (.xd [("place", .int n)]) → E (.ref CE) (some d) H')
theorem rv_notW {H : Hp} {v : V} {p : Addr} {ws : List Str} (h : AnyV H v) (t : SqT K H p (ws.map V.str)) : RV (rNotW K) v (.ref p) H (.bl (!inS v ws)) := fun H1 e Q q => ⟨p, ws, rfl, ex_t e t, any_ex h e, q H1 (Ex.refl H1)⟩
theorem ok_init {CE fE : Addr} {dE : FuncData} {t1 t2 : Tok} (B : Bt mg) (T : KF K mg C mc aL aT) (XE : XT P w K mg base CE fE dE) (c1 : mg "LEAST_REST" = some (.int 2 t1)) (c2 : mg "MOST_REST" = some (.int 1000000 t2)) (D : Fn0 P w K mg base "is_integer" 1 fI dI p_is_integer spIntA)
    {kws : List (Str × V)} {q : Str} (F : FnC K "__init__" q s_Kind_init kws f fd) : FnOk P w K mg base (L2.CX P w) 3 f fd ["self", "lends", "lets", "turns", "rests"] (spInit C CE) := by
  refine F.ok sc_Kind_init (fun vs H Q E h => ?_) (fun cdv A outer s H vs Q E hr h => ?_)
  · obtain ⟨a, dx, l, t, u, r, rfl, _⟩ := h
    rfl
  · obtain ⟨a, dx, l, t, u, r, rfl, ha, vl, vt, vu, vr, kq, ke⟩ := h
    have nd := sc_Kind_init.nd
    have hun := hr.units
    refine ⟨_, (pss_cons (ps_if (pt_cmpR (op_notInW hun) (pv 1) (ClX.pe_cval (pe_glob (v := .ref C) (by rfl) T.m rfl)) rfl) (pss_one (ps_raise rfl (takes_of rfl rfl rfl rfl) (pmk_oex (XE.ec.oex XE.ty) XE.ec.ini XE.ec.tfn XE.ok hr XE.b .nil pass0 (by rfl) XE.m (pa_cons pe_int pa_nil)))) pss_nil)
      (pss_cons (ps_if (pt_cmpR (op_notInW hun) (pv 2) (ClX.pe_cval (pe_glob (v := .ref C) (by rfl) T.m rfl)) rfl) (pss_one (ps_raise rfl (takes_of rfl rfl rfl rfl) (pmk_oex (XE.ec.oex XE.ty) XE.ec.ini XE.ec.tfn XE.ok hr XE.b .nil pass0 (by rfl) XE.m (pa_cons pe_int pa_nil)))) pss_nil)
      (pss_cons (ps_if (pt_not (pt_val (pe_callB call_isi (by rfl) B.isinstance (by decide +kernel) (pa_cons (pv 3) (pa_cons (pe_bltn (v := .ty "bool") (by rfl) B.bool (by decide +kernel) rfl) pa_nil))))) (pss_one (ps_raise rfl (takes_of rfl rfl rfl rfl) (pmk_oex (XE.ec.oex XE.ty) XE.ec.ini XE.ec.tfn XE.ok hr XE.b .nil pass0 (by rfl) XE.m (pa_cons pe_int pa_nil)))) pss_nil)
      (pss_cons (ps_if (pw_and (pt_cmpR op_notN (pv 4) pe_non (nomark _)) (pw_and1 (pt_not (pt_val (pe_call D.ok (hr.mono (by decide)) (by rfl) D.m D.k D.b .nil pass0 (pa_cons (pv 4) (pa_cons (pe_glob (v := .int 2) (by rfl) c1 ⟨_, rfl⟩) (pa_cons (pe_glob (v := .int 1000000) (by rfl) c2 ⟨_, rfl⟩) pa_nil)))))))).pt (pss_one (ps_raise rfl (takes_of rfl rfl rfl rfl) (pmk_oex (XE.ec.oex XE.ty) XE.ec.ini XE.ec.tfn XE.ok hr XE.b .nil pass0 (by rfl) XE.m (pa_cons pe_int pa_nil)))) pss_nil)
      (pss_cons (ps_fld (pv 0) (pv 1) rfl) (pss_cons (ps_fld (pv 0) (pv 2) rfl) (pss_cons (ps_fld (pv 0) (pv 3) rfl) (pss_one (ps_fld (pv 0) (pv 4) rfl))))))))), ?_⟩
    have bad : ∀ (n : Int) {H1 : Hp}, Ex H H1 → badAt l t u r = some n → tMkO CE (spI1 CE "place") [] (tCons (tC (.int n)) tNil) [some (.ref a), some l, some t, some u, some r] H1 (fun cls d H' => E cls d H') := fun n {H1} e hn =>
      s_raise1 (W := fun cls d _ H' => E cls d H') (ea_cons ev_c ea_nil) fun d H4 e4 hd => ke n hn d H4 (e.trans e4) hd
    refine q_when (b := !okL l) (et_test (ev_is (ev_op (ev_var rfl) (ev_cval ev_c T.rd T.vL) (rv_notW vl (T.tL _))) (by rw [inS_l]))) (fun z H1 e1 => ?_) (fun z H1 e1 => ?_)
    · exact bad 0 e1 (by unfold badAt; rw [if_neg (by simpa using z)])
    have z1 : okL l = true := by simpa using z
    refine q_when (b := !okT t) (et_test (ev_is (ev_op (ev_var rfl) (ev_cval ev_c T.rd T.vT) (rv_notW (any_ex vt e1) (T.tT _))) (by rw [inS_t]))) (fun z H2 e2 => ?_) (fun z H2 e2 => ?_)
    · exact bad 1 (e1.trans e2) (by unfold badAt; rw [if_pos z1, if_neg (by simpa using z)])
    have z2 : okT t = true := by simpa using z
    have e02 := e1.trans e2
    refine q_when (b := !isBlB u) (et_not (et_B (ev_cb (ea_cons (ev_var rfl) (ea_cons ev_c ea_nil)) (rc_bool (any_ex vu e02))))) (fun z H3 e3 => ?_) (fun z H3 e3 => ?_)
    · exact bad 2 (e02.trans e3) (by unfold badAt; rw [if_pos z1, if_pos z2, if_neg (by simpa using z)])
    have z3 : isBlB u = true := by simpa using z
    have e03 := e02.trans e3
    have er : ((!decide (r = .non)) && !isI r 2 1000000) = !okR r := by cases r <;> simp [isI, okR, inRest]
    refine q_when (b := !okR r) (et_is (et_and (a := !decide (r = .non)) (b := !isI r 2 1000000) (et_test (ev_is (ev_op (ev_var rfl) ev_c (fun H9 _ Q9 q9 => ⟨rfl, q9 H9 (Ex.refl H9)⟩)) (by cases r <;> rfl)))
      (fun _ => et_not (et_B (ev_call (z := .bl (isI r 2 1000000)) (ea_cons (ev_var rfl) (ea_cons ev_c (ea_cons ev_c ea_nil))) (fun H9 e9 Q q E => ⟨r, 2, 1000000, rfl, any_ex vr (e03.trans e9), fun H8 e8 => q H8 e8⟩))))) er) (fun z H4 e4 => ?_) (fun z H4 e4 => ?_)
    · exact bad 3 (e03.trans e4) (by unfold badAt; rw [if_pos z1, if_pos z2, if_pos z3, if_neg (by simpa using z)])
    have z4 : okR r = true := by simpa using z
    obtain ⟨kd, hk, rfl, rfl, rfl, rfl⟩ := kd_of (l := l) (t := t) (u := u) (r := r) (by unfold badAt; rw [if_pos z1, if_pos z2, if_pos z3, if_pos z4])
    have a4 := (e03.trans e4) _ _ ha
    refine ⟨_, rfl, _, rfl, a, C, dx, _, rfl, a4, T.cl, T.n1, (by show 0 < 1000; decide), ?_⟩
    refine ⟨_, rfl, _, rfl, a, C, dx, _, rfl, upd_same, T.cl, T.n2, (by show 1 < 1000; decide), ?_⟩
    refine ⟨_, rfl, _, rfl, a, C, dx, _, rfl, upd_same, T.cl, T.n3, (by show 2 < 1000; decide), ?_⟩
    refine ⟨_, rfl, _, rfl, a, C, dx, _, rfl, upd_same, T.cl, T.n4, (by show 3 < 1000; decide), ?_⟩
    refine kq kd hk rfl rfl rfl rfl _ (fun c o hc h => ?_) upd_same
    rw [upd_ne hc, upd_ne hc, upd_ne hc, upd_ne hc]
    exact (e03.trans e4) c o h
/-- what a getter gives -/
def spGet (C : Addr) (v : Kd → V) : Sp := fun vs H Q _ => ∃ (a : Addr) (k : Kd), vs = [.ref a] ∧ KAt C H a k ∧ Q (v k) H
theorem ok_lends (T : KF K mg C mc aL aT) {q : Str} (F : FnC K "lends" q s_Kind_lends [] f fd) : FnOk P w K mg base CX0 1 f fd ["self"] (spGet C fun k => .str k.le) := by
  refine F.ok sc_Kind_lends (fun vs H Q E h => ?_) (fun cdv A outer s H vs Q E hr h => ?_)
  · obtain ⟨a, k, rfl, _⟩ := h
    rfl
  · obtain ⟨a, kd, rfl, ⟨dx, ha⟩, k⟩ := h
    exact ⟨_, PSs.nox (pss_one (ps_ret (pe_fld (pv 0) rfl))), _, rfl, a, C, dx, _, _, rfl, ha, T.cl, T.n1, rfl, k⟩
theorem ok_lets (T : KF K mg C mc aL aT) {q : Str} (F : FnC K "lets" q s_Kind_lets [] f fd) : FnOk P w K mg base CX0 1 f fd ["self"] (spGet C fun k => .str k.lt) := by
  refine F.ok sc_Kind_lets (fun vs H Q E h => ?_) (fun cdv A outer s H vs Q E hr h => ?_)
  · obtain ⟨a, k, rfl, _⟩ := h
    rfl
  · obtain ⟨a, kd, rfl, ⟨dx, ha⟩, k⟩ := h
    exact ⟨_, PSs.nox (pss_one (ps_ret (pe_fld (pv 0) rfl))), _, rfl, a, C, dx, _, _, rfl, ha, T.cl, T.n2, rfl, k⟩
theorem ok_turns (T : KF K mg C mc aL aT) {q : Str} (F : FnC K "turns" q s_Kind_turns [] f fd) : FnOk P w K mg base CX0 1 f fd ["self"] (spGet C fun k => .bl k.tu) := by
  refine F.ok sc_Kind_turns (fun vs H Q E h => ?_) (fun cdv A outer s H vs Q E hr h => ?_)
  · obtain ⟨a, k, rfl, _⟩ := h
    rfl
  · obtain ⟨a, kd, rfl, ⟨dx, ha⟩, k⟩ := h
    exact ⟨_, PSs.nox (pss_one (ps_ret (pe_fld (pv 0) rfl))), _, rfl, a, C, dx, _, _, rfl, ha, T.cl, T.n3, rfl, k⟩
theorem ok_rests (T : KF K mg C mc aL aT) {q : Str} (F : FnC K "rests" q s_Kind_rests [] f fd) : FnOk P w K mg base CX0 1 f fd ["self"] (spGet C fun k => optV k.re) := by
  refine F.ok sc_Kind_rests (fun vs H Q E h => ?_) (fun cdv A outer s H vs Q E hr h => ?_)
  · obtain ⟨a, k, rfl, _⟩ := h
    rfl
  · obtain ⟨a, kd, rfl, ⟨dx, ha⟩, k⟩ := h
    exact ⟨_, PSs.nox (pss_one (ps_ret (pe_fld (pv 0) rfl))), _, rfl, a, C, dx, _, _, rfl, ha, T.cl, T.n4, rfl, k⟩
end
end L2.M1
set_option maxRecDepth 100000
set_option maxHeartbeats 4000000
namespace L2.M1
open PySem PySem.Spec PyProof.Rows L2 Mx L2.Mb Evl Mv TL
section
variable {P : Program} {w : World} {K : W.Frag} {mg : Str → Option Value} {base : Heap} {f fI C CE aL aT : Addr} {fd dI : FuncData} {mc : Value}
/-! ### a kind's text -/
def Kd.words (k : Kd) : List Str := [k.le ++ "/" ++ k.lt] ++ (if k.tu = true then (["turns"] : List Str) else []) ++ (match k.re with
  | some n => [("rests " : Str) ++ (toString n : Str)]
  | none => [])
def Kd.text (k : Kd) : Str := Txt.join " " k.words
def spText (C : Addr) (g : Kd → Str) : Sp := fun vs H Q _ => ∃ (a : Addr) (k : Kd), vs = [.ref a] ∧ k.ok = true ∧ KAt C H a k ∧ ∀ H', Ex H H' → Q (.str (g k)) H'
theorem lend_len {x : Str} (h : lendL.contains x = true) : x.length ≤ 4 := by
  have z := List.contains_iff_mem.mp h
  simp only [List.mem_cons, List.not_mem_nil, or_false] at z
  rcases z with rfl | rfl | rfl <;> decide +kernel
theorem let_len {x : Str} (h : letL.contains x = true) : x.length ≤ 4 := by
  have z := List.contains_iff_mem.mp h
  simp only [List.mem_cons, List.not_mem_nil, or_false] at z
  rcases z with rfl | rfl | rfl <;> decide +kernel
theorem num_len {n : Int} (h : inRest n = true) : ((toString n : String) : Str).length ≤ 7 := by
  unfold inRest at h
  simp only [Bool.and_eq_true, decide_eq_true_eq] at h
  obtain ⟨m, rfl⟩ := Int.eq_ofNat_of_zero_le (show 0 ≤ n by omega)
  rw [len_tl, tl_num]
  exact numL_len (by decide) (by omega)
theorem num_log {n : Int} (h : inRest n = true) : n.natAbs.log2 < 1920 := by
  unfold inRest at h
  simp only [Bool.and_eq_true, decide_eq_true_eq] at h
  by_cases hz : n.natAbs = 0
  · rw [hz]
    decide
  · refine (Nat.log2_lt hz).mpr (Nat.lt_of_lt_of_le (show n.natAbs < 2 ^ 20 by omega) (Nat.pow_le_pow_right (by decide) (by decide)))
theorem words_sum {kd : Kd} (o1 : lendL.contains kd.le = true) (o2 : letL.contains kd.lt = true) (o3 : kd.re.all inRest = true) : (kd.words.map (·.length)).sum + kd.words.length * (" " : Str).length ≤ 100 := by
  have l1 := lend_len o1
  have l2 := let_len o2
  have s1 : ("/" : Str).length = 1 := by decide +kernel
  have s2 : (" " : Str).length = 1 := by decide +kernel
  have s3 : ("turns" : Str).length = 5 := by decide +kernel
  have s4 : ("rests " : Str).length = 6 := by decide +kernel
  have h1 : (kd.le ++ "/" ++ kd.lt).length = kd.le.length + 1 + kd.lt.length := by
    rw [len_tl, tl_append, tl_append, List.length_append, List.length_append, ← len_tl, ← len_tl, ← len_tl, s1]
  unfold Kd.words
  cases hre : kd.re with
  | none => cases kd.tu <;> simp [h1, s2, s3] <;> omega
  | some n =>
    rw [hre] at o3
    have y1 := num_len (show inRest n = true from o3)
    have h2 : (("rests " : Str) ++ (toString n : Str)).length = 6 + ((toString n : String) : Str).length := by
      rw [len_tl, tl_append, List.length_append, ← len_tl, ← len_tl, s4]
    have h3 : (("rests " : Str) ++ Str.ofString n.repr).length = 6 + (Str.ofString n.repr).length := h2
    have y2 : (Str.ofString n.repr).length ≤ 7 := y1
    cases kd.tu <;> simp [h1, h3, s2, s3] <;> omega
theorem join_len (y : Str) : ∀ l : List Str, (Str.join y l).length ≤ (l.map (·.length)).sum + l.length * y.length
  | [] => Nat.zero_le _
  | [x] => by
    show x.length ≤ _
    simp
  | x :: z :: r => by
    have ih := join_len y (z :: r)
    show (x ++ y ++ Str.join y (z :: r)).length ≤ _
    rw [len_tl, tl_append, tl_append, List.length_append, List.length_append, ← len_tl, ← len_tl, ← len_tl]
    simp only [List.map_cons, List.sum_cons, List.length_cons, Nat.succ_mul] at ih ⊢
    omega
theorem text_len {kd : Kd} (h : kd.ok = true) : kd.text.length ≤ 100 := by
  unfold Kd.ok at h
  simp only [Bool.and_eq_true] at h
  unfold Kd.text
  rw [join_eq]
  exact Nat.le_trans (join_len _ _) (words_sum h.1 h.2.1 h.2.2)
theorem emp_app (x : Str) : Str.empty ++ x = x := ext_tl (by rw [tl_append]; rfl)
theorem ev_fK {σ : L2.St} {H : Hp} {a : Addr} {kd : Kd} {i : Nat} {x : Str} {v : V} (cl : Cls K C) (n : NoAttr K C x) (h0 : σ[i]? = some (some (.ref a))) (ha : KAt C H a kd) (hl : kd.fs.lookup x = some v) : Ev (tFld K (tVar i) x) σ H v := fun H1 e Q q => by
  obtain ⟨dx, hd⟩ := ha
  exact ⟨_, h0, a, C, dx, _, v, rfl, e _ _ hd, cl, n, hl, q H1 (Ex.refl H1)⟩
theorem ok_str {q : Str} (B : Bt mg) {aL aT : Addr} (T : KF K mg C mc aL aT) (F : FnC K "__str__" q s_Kind_str [] f fd) : FnOk P w K mg base CX0 1 f fd ["self"] (spText C Kd.text) := by
  refine F.ok sc_Kind_str (fun vs H Q E h => ?_) (fun cdv A outer s H vs Q E hr h => ?_)
  · obtain ⟨a, k, rfl, _⟩ := h
    rfl
  · obtain ⟨a, kd, rfl, hok, ha, k⟩ := h
    have nd := sc_Kind_str.nd
    unfold Kd.ok at hok
    simp only [Bool.and_eq_true] at hok
    obtain ⟨o1, o2, o3⟩ := hok
    have l1 := lend_len o1
    have l2 := let_len o2
    refine ⟨_, PSs.nox (pss_cons (ps_set (i := 1) nd rfl (Or.inl rfl) (pe_lst (pa_cons (pe_op op_add_str (pe_op op_add_str (pe_fld (pv 0) rfl) pe_str) (pe_fld (pv 0) rfl)) pa_nil)))
      (Evl.pss_cut (ps_if (pt_val (pe_fld (pv 0) rfl)) (pss_one (ps_expr (pe_bm PySem.F.plainAttrs_list PySem.F.slot_list_append PySem.F.type_list_append mt_append (pv 1) (pa_cons pe_str pa_nil)))) pss_nil)
      (Evl.pss_cut (ps_if (pt_cmpR op_notN (pe_fld (pv 0) rfl) pe_non (nomark _)) (pss_one (ps_expr (pe_bm PySem.F.plainAttrs_list PySem.F.slot_list_append PySem.F.type_list_append mt_append (pv 1) (pa_cons (pe_op op_add_str pe_str (pe_callTy call_str_int (by rfl) B.str (by decide +kernel) (pa_cons (pe_fld (pv 0) rfl) pa_nil))) pa_nil)))) pss_nil)
      (pss_one (ps_ret (pe_join pe_str (pv 1))))))), ?_⟩
    have sl : ("/" : Str).length = 1 := by decide +kernel
    have sl2 : (kd.le ++ "/").length = kd.le.length + 1 := by
      rw [len_tl, tl_append, List.length_append, ← len_tl, ← len_tl, sl]
    refine q_asgL (xs := ([kd.le ++ "/" ++ kd.lt] : List Str).map V.str) (el_lst (ea_cons (ev_op (ev_op (ev_fK T.cl T.n1 rfl ha rfl) ev_c (rv_catS (by rw [sl]; omega))) (ev_fK T.cl T.n2 rfl ha rfl) (rv_catS (by rw [sl2]; omega))) ea_nil) (by show 1 ≤ 100000; decide)) fun l H1 nl e1 hl => ?_
    have nla : H l = none := nl
    refine q_cut (M := fun σ' H' => σ' = [some (.ref a), some (.ref l)] ∧ Ex H H' ∧ H' l = some (.lst (([kd.le ++ "/" ++ kd.lt] ++ (if kd.tu = true then (["turns"] : List Str) else [])).map V.str))) ?_ ?_
    · refine s_if (b := kd.tu) (et_B (ev_fK T.cl T.n3 rfl (ha.mono e1) rfl)) (fun h H2 e2 => ?_) (fun h H2 e2 => ⟨rfl, e1.trans e2, ?_⟩)
      · refine s_app (xs := ([kd.le ++ "/" ++ kd.lt] : List Str).map V.str) (e2 _ _ hl) (ev_var rfl) ev_c (by show 1 < 100000; decide) fun H3 e3 => ⟨rfl, Ex.mut ((e1.trans e2).trans e3) nla, ?_⟩
        rw [if_pos h]
        exact upd_same
      · rw [if_neg (by rw [h]; simp)]
        exact e2 _ _ hl
    rintro σ' H2 ⟨rfl, e2, hl2⟩
    refine q_cut (M := fun σ' H' => σ' = [some (.ref a), some (.ref l)] ∧ Ex H H' ∧ H' l = some (.lst (kd.words.map V.str))) ?_ ?_
    · refine s_if (b := kd.re.isSome) (et_test (ev_is (ev_op (ev_fK T.cl T.n4 rfl (ha.mono e2) rfl) ev_c (fun H9 _ Q9 q9 => ⟨rfl, q9 H9 (Ex.refl H9)⟩)) (by cases kd.re <;> rfl))) (fun h H3 e3 => ?_) (fun h H3 e3 => ⟨rfl, e2.trans e3, ?_⟩)
      · cases hre : kd.re with
        | none =>
          rw [hre] at h
          cases h
        | some n =>
          rw [hre] at o3
          have o4 : inRest n = true := o3
          have hv : kd.fs.lookup ("_rests" : Str) = some (V.int n) := by
            show some (optV kd.re) = _
            rw [hre]
            rfl
          have y1 := num_len o4
          have y2 : ("rests " : Str).length = 6 := by decide +kernel
          refine s_app (e3 _ _ hl2) (ev_var rfl) (ev_op ev_c (ev_cb (r := rStrI) (ea_cons (ev_fK T.cl T.n4 rfl ((ha.mono e2).mono e3) hv) ea_nil) (rc_strI (num_log o4))) (rv_catS (by omega))) (by rw [List.length_map]; split <;> simp) fun H4 e4 => ⟨rfl, Ex.mut ((e2.trans e3).trans e4) nla, ?_⟩
          unfold Kd.words
          rw [hre, List.map_append, List.map_append, List.map_append]
          exact upd_same
      · unfold Kd.words
        cases hre : kd.re with
        | some n =>
          rw [hre] at h
          cases h
        | none =>
          rw [List.append_nil]
          exact e3 _ _ hl2
    rintro σ' H3 ⟨rfl, e3, hl3⟩
    refine s_ret (ev_join (a := " ") (ys := kd.words) ev_c (ev_var rfl) rfl (sq_of hl3) (Nat.le_trans (words_sum o1 o2 o3) (by decide))) fun H4 e4 => k H4 (e3.trans e4)
end
end L2.M1
set_option maxRecDepth 100000
set_option maxHeartbeats 4000000
namespace L2.M1
open PySem PySem.Spec PyProof.Rows L2 Mx L2.Mb Evl Mv TL
/-- d[k], d a written dict with text keys -/
def rIxK (K : W.Frag) (d : Addr) : R2 := fun x y H Q => ∃ (z : Str) (u0 : Value) (v0 : V), x = .ref d ∧ y = .str z ∧ W.nsIn K d z = some (some u0) ∧ RelV v0 u0 ∧ Q v0 H
theorem ix_kd {X : Cx} {d : Addr} {es : Array DictEntry} {n : Nat} (D : KDict X.K X.w d es n) : IxR X (rIxK X.K d) := by
  intro value slice pins s σ H x y v u Q I rx ry h hs
  obtain ⟨z, u0, v0, rfl, rfl, e, r, q⟩ := h
  cases rx
  obtain ⟨t, rfl⟩ := ry
  exact subscriptTail_builtinR (x := u0) (kd_type D I) slot_dict_getitem.lookup (wpAny_getItem_of (Q := fun r s' => r = u0 ∧ EP X pins σ Q r s') (strKind_is X.prog X.w z t) (W.mapOf_K (prog := X.prog) I.kIn D.at_ D.lit) (W.find_K D.at_ e) ⟨rfl, v0, H, I.tok _, r, q⟩) hs
/-- the getters of Kind -/
structure KP (P : Program) (w : World) (K : W.Frag) (mg : Str → Option Value) (base : Heap) (C : Addr) (x : Str) (v : Kd → V) : Prop where
  ex : ∃ (p g : Addr) (fd : FuncData), PropOf K C x p g ∧ FnOk P w K mg base CX0 1 g fd ["self"] (spGet C v) ∧ Binds K fd ["self"] []
section
variable {P : Program} {w : World} {K : W.Frag} {mg : Str → Option Value} {base : Heap} {f fI C CE aL aT : Addr} {fd dI : FuncData} {mc : Value}
/-- e.x, x a property -/
def tPr (C : Addr) (v : Kd → V) (ta : TE) : TE := fun σ H Q => ta σ H fun x H1 => ∃ (a : Addr) (k : Kd), x = .ref a ∧ KAt C H1 a k ∧ Q (v k) H1
theorem pe_pr {X : Cx} {e : Expr} {x : Str} {pos : Pos} {ta : TE} {v : Kd → V} (T : KF X.K X.mg C mc aL aT) (p : KP X.prog X.w X.K X.mg X.base C x v) (hr : Room 2 X.A) (he : PE X e ta) (hab : attributeBase e x X.env (eval e X.env) = eval e X.env := by rfl) : PE X (.Attribute e x pos) (tPr C v ta) := by
  obtain ⟨pp, g, fd, h1, h2, h3⟩ := p.ex
  refine ⟨fun pins s σ H Q I h => ?_⟩
  refine attr_of hab (thn (he.run pins s σ H _ I h) fun u s1 ⟨y, H1, I1, ry, a, kd, ey, ⟨dx, ea⟩, q⟩ => ?_)
  subst ey
  obtain rfl : u = Value.ref a := ry
  exact getprop_ok I1 ea T.cl h1 h2 hr h3 .nil pass0 ⟨a, kd, rfl, ⟨dx, ea⟩, q⟩
theorem ev_pr {σ : L2.St} {H : Hp} {te : TE} {a : Addr} {kd : Kd} {v : Kd → V} (h : Ev te σ H (.ref a)) (ha : KAt C H a kd) : Ev (tPr C v te) σ H (v kd) := fun H1 e Q q => h H1 e _ fun H2 e2 => ⟨a, kd, rfl, ha.mono (e.trans e2), q H2 e2⟩
/-- the table LOOSE -/
structure LO (w : World) (K : W.Frag) (mg : Str → Option Value) (d : Addr) (es : Array DictEntry) (n : Nat) : Prop where
  m : mg "LOOSE" = some (.ref d)
  k : KDict K w d es n
  v : ∀ x : Str, x ∈ (["both", "far", "one", "any"] : List Str) → ∃ t, W.nsIn K d x = some (some (.int (if x = "both" then 0 else if x = "far" then 1 else 2) t))
def looseV (x : Str) : Int := if x = "both" then 0 else if x = "far" then 1 else 2
def Kd.ranks (k : Kd) : List Int := [looseV k.le, looseV k.lt, if k.tu = true then 1 else 0, match k.re with
  | some n => n
  | none => 1000001]
def spRanks (C : Addr) : Sp := fun vs H Q _ => ∃ (a : Addr) (k : Kd), vs = [.ref a] ∧ k.ok = true ∧ KAt C H a k ∧ ∀ p H', H p = none → Ex H H' → H' p = some (.lst (k.ranks.map V.int)) → Q (.ref p) H'
theorem ok_ranks {d : Addr} {es : Array DictEntry} {n : Nat} {t2 : Tok} (B : Bt mg) (T : KF K mg C mc aL aT) (L : LO w K mg d es n) (c2 : mg "MOST_REST" = some (.int 1000000 t2)) (pL : KP P w K mg base C "lends" fun k => .str k.le) (pT : KP P w K mg base C "lets" fun k => .str k.lt) (pU : KP P w K mg base C "turns" fun k => .bl k.tu)
    (pR : KP P w K mg base C "rests" fun k => optV k.re) (F : FnP K "_ranks" s_ranks f fd) : FnOk P w K mg base CX0 3 f fd p_ranks (spRanks C) := by
  refine F.ok sc_ranks (fun vs H Q E h => ?_) (fun cdv A outer s H vs Q E hr h => ?_)
  · obtain ⟨a, k, rfl, _⟩ := h
    rfl
  · obtain ⟨a, kd, rfl, hok, ha, k⟩ := h
    have nd := sc_ranks.nd
    unfold Kd.ok at hok
    simp only [Bool.and_eq_true] at hok
    obtain ⟨o1, o2, o3⟩ := hok
    refine ⟨_, PSs.nox (pss_cons (ps_set (i := 1) nd rfl (Or.inl rfl) (pe_ifExp (pt_cmpR op_isN (pe_pr T pR hr (pv 0)) pe_non (nomark _)) (pe_op op_add (pe_glob (v := .int 1000000) (by rfl) c2 ⟨_, rfl⟩) pe_int) (pe_pr T pR hr (pv 0))))
      (pss_one (ps_ret (pe_lst (pa_cons (pe_ix (ix_kd L.k) (pe_glob (v := .ref d) (by rfl) L.m rfl) (pe_pr T pL hr (pv 0)) (fun _ _ => rfl)) (pa_cons (pe_ix (ix_kd L.k) (pe_glob (v := .ref d) (by rfl) L.m rfl) (pe_pr T pT hr (pv 0)) (fun _ _ => rfl)) (pa_cons (pe_callTy call_int1 (by rfl) B.int (by decide +kernel) (pa_cons (pe_pr T pU hr (pv 0)) pa_nil)) (pa_cons (pv 1) pa_nil)))))))), ?_⟩
    have ixl : ∀ {σ : L2.St} {H9 : Hp} {te : TE} {x : Str}, x ∈ (["both", "far", "one", "any"] : List Str) → Ev te σ H9 (.str x) → Ev (tOp (rIxK K d) (tC (.ref d)) te) σ H9 (.int (looseV x)) := fun {σ H9 te x} hx h => by
      obtain ⟨t, e⟩ := L.v x hx
      exact ev_op ev_c h fun H8 _ Q q => ⟨x, _, .int (looseV x), rfl, rfl, e, ⟨t, rfl⟩, q H8 (Ex.refl H8)⟩
    have m1 : kd.le ∈ (["both", "far", "one", "any"] : List Str) := by
      have z := List.contains_iff_mem.mp o1
      simp only [List.mem_cons, List.not_mem_nil, or_false] at z
      rcases z with z | z | z <;> rw [z] <;> simp
    have m2 : kd.lt ∈ (["both", "far", "one", "any"] : List Str) := by
      have z := List.contains_iff_mem.mp o2
      simp only [List.mem_cons, List.not_mem_nil, or_false] at z
      rcases z with z | z | z <;> rw [z] <;> simp
    refine q_asg (v := .int (match kd.re with | some n => n | none => 1000001)) (ev_if (b := kd.re.isNone) (et_test (ev_is (ev_op (ev_pr (ev_var rfl) ha) ev_c (fun H9 _ Q9 q9 => ⟨rfl, q9 H9 (Ex.refl H9)⟩)) (by cases kd.re <;> rfl)))
      (fun h => ev_is (ev_op ev_c ev_c rv_int) (by cases hre : kd.re with | none => rfl | some n => rw [hre] at h; cases h)) (fun h => ev_is (ev_pr (ev_var rfl) ha) (by cases hre : kd.re with | some n => rfl | none => rw [hre] at h; cases h))) fun H1 e1 => ?_
    refine s_retL (xs := kd.ranks.map V.int) (el_lst (ea_cons (ixl m1 (ev_pr (ev_var rfl) (ha.mono e1))) (ea_cons (ixl m2 (ev_pr (ev_var rfl) (ha.mono e1))) (ea_cons ?_ (ea_cons (ev_var rfl) ea_nil)))) (by show 4 ≤ 100000; decide)) fun p H2 np e2 hp => k p H2 (fresh_back e1 np) (e1.trans e2) hp
    refine ev_cb (ea_cons (ev_pr (v := fun k => .bl k.tu) (ev_var rfl) (ha.mono e1)) ea_nil) fun H9 _ Q q => .inr ⟨kd.tu, rfl, ?_⟩
    exact q H9 (Ex.refl H9)
theorem dp_is {H : Hp} : ∀ ns : List Int, DpAll K H (ns.map V.int) (ns.map PyData.int)
  | [] => .nil
  | n :: r => .cons (.int n) (dp_is r)
theorem is_lay : ∀ ns : List Int, PyData.canLayAll0 (ns.map PyData.int) = true ∧ PyData.depthAll (ns.map PyData.int) = 0
  | [] => ⟨by simp [PyData.canLayAll0], by simp [PyData.depthAll]⟩
  | n :: r => by
    obtain ⟨h1, h2⟩ := is_lay r
    exact ⟨by simp only [List.map_cons, PyData.canLayAll0, PyData.canLay0, h1, Bool.and_self], by simp only [List.map_cons, PyData.depthAll, PyData.depth, h2, Nat.max_self]⟩
theorem is_shaped (ns : List Int) : SeqAt.shaped (.list (ns.map PyData.int)) = true := by
  obtain ⟨h1, h2⟩ := is_lay ns
  show (PyData.canLay0 (.list (ns.map PyData.int)) && decide (PyData.depth (.list (ns.map PyData.int)) ≤ 64)) = true
  simp only [PyData.canLay0, PyData.depth, h1, h2]
  decide
theorem eqv_is : ∀ l : List Int, PyData.eqvAll (l.map PyData.int) (l.map PyData.int) = true
  | [] => by simp [PyData.eqvAll]
  | b :: r => by simp [PyData.eqvAll, PyData.eqv, eqv_is r]
theorem rv_eqIs {H : Hp} {r q : Addr} {l : List Int} (hr : SqL K H r (l.map V.int)) (hq : SqL K H q (l.map V.int)) : RV (rEqD K) (.ref r) (.ref q) H (.bl true) := fun H1 e Q k => by
  refine ⟨_, _, .lst (ex_l e hr) (dp_is l), .lst (ex_l e hq) (dp_is l), is_shaped l, is_shaped l, ?_⟩
  have z : PyData.eqv (.list (l.map PyData.int)) (.list (l.map PyData.int)) = true := by simp only [PyData.eqv, eqv_is]
  rw [z]
  exact k H1 (Ex.refl H1)
/-! ### kinds compared -/
instance : DecidableEq Kd := fun a b => decidable_of_iff (a.le = b.le ∧ a.lt = b.lt ∧ a.tu = b.tu ∧ a.re = b.re) ⟨fun h => by
  obtain ⟨h1, h2, h3, h4⟩ := h
  obtain ⟨a1, a2, a3, a4⟩ := a
  obtain ⟨b1, b2, b3, b4⟩ := b
  simp only at h1 h2 h3 h4
  rw [h1, h2, h3, h4], fun h => h ▸ ⟨rfl, rfl, rfl, rfl⟩⟩
theorem eqv_ints : ∀ l m : List Int, PyData.eqvAll (l.map PyData.int) (m.map PyData.int) = decide (l = m)
  | [], [] => by simp [PyData.eqvAll]
  | [], _ :: _ => by simp [PyData.eqvAll]
  | _ :: _, [] => by simp [PyData.eqvAll]
  | a :: l, b :: m => by
    have ih := eqv_ints l m
    simp only [List.map_cons, PyData.eqvAll, ih, PyData.eqv]
    by_cases h1 : a = b <;> by_cases h2 : l = m <;> simp [h1, h2]
theorem rv_eqI2 {H : Hp} {r q : Addr} {l m : List Int} (hr : SqL K H r (l.map V.int)) (hq : SqL K H q (m.map V.int)) : RV (rEqD K) (.ref r) (.ref q) H (.bl (decide (l = m))) := fun H1 e Q k => by
  refine ⟨_, _, .lst (ex_l e hr) (dp_is l), .lst (ex_l e hq) (dp_is m), is_shaped l, is_shaped m, ?_⟩
  have z : PyData.eqv (.list (l.map PyData.int)) (.list (m.map PyData.int)) = decide (l = m) := by simp only [PyData.eqv, eqv_ints]
  rw [z]
  exact k H1 (Ex.refl H1)
theorem ranks_inj {k1 k2 : Kd} (o1 : k1.ok = true) (o2 : k2.ok = true) : decide (k1.ranks = k2.ranks) = decide (k1 = k2) := by
  refine decide_eq_decide.mpr ⟨fun h => ?_, fun h => by rw [h]⟩
  unfold Kd.ok at o1 o2
  simp only [Bool.and_eq_true] at o1 o2
  obtain ⟨a1, a2, a3⟩ := o1
  obtain ⟨b1, b2, b3⟩ := o2
  obtain ⟨l1, t1, u1, r1⟩ := k1
  obtain ⟨l2, t2, u2, r2⟩ := k2
  unfold Kd.ranks at h
  simp only [List.cons.injEq, and_true] at h
  obtain ⟨h1, h2, h3, h4⟩ := h
  have m1 := List.contains_iff_mem.mp a1
  have m2 := List.contains_iff_mem.mp a2
  have m3 := List.contains_iff_mem.mp b1
  have m4 := List.contains_iff_mem.mp b2
  simp only [List.mem_cons, List.not_mem_nil, or_false] at m1 m2 m3 m4
  have e1 : l1 = l2 := by
    rcases m1 with e | e | e <;> rcases m3 with e' | e' | e' <;> (rw [e, e'] at h1 ⊢ <;> first | rfl | (revert h1; decide +kernel))
  have e2 : t1 = t2 := by
    rcases m2 with e | e | e <;> rcases m4 with e' | e' | e' <;> (rw [e, e'] at h2 ⊢ <;> first | rfl | (revert h2; decide +kernel))
  have e3 : u1 = u2 := by cases u1 <;> cases u2 <;> first | rfl | simp at h3
  have e4 : r1 = r2 := by
    cases r1 with
    | none =>
      cases r2 with
      | none => rfl
      | some n =>
        have b4 : inRest n = true := b3
        unfold inRest at b4
        simp only [Bool.and_eq_true, decide_eq_true_eq] at b4
        have h5 : (1000001 : Int) = n := h4
        omega
    | some n =>
      have a4 : inRest n = true := a3
      unfold inRest at a4
      simp only [Bool.and_eq_true, decide_eq_true_eq] at a4
      cases r2 with
      | none =>
        have h5 : n = (1000001 : Int) := h4
        omega
      | some m =>
        have h5 : n = m := h4
        rw [h5]
  rw [e1, e2, e3, e4]
/-- what isinstance(.., Kind) says -/
structure IK (K : W.Frag) (C : Addr) : Prop where
  ic : C8.InsC K C
  ot : ∀ T ∈ (["int", "bool", "str", "NoneType", "list", "tuple", "dict"] : List String), W.kitOne K (.type T) (.ref C) = some false
theorem rc_isK {H : Hp} {a : Addr} {k : Kd} (I : IK K C) (h : KAt C H a k) : RC (rIsi K) [.ref a, .ref C] H (.bl true) := by
  obtain ⟨dx, hd⟩ := h
  exact rc_isi (t := .ref C) (.own C) (fun H1 e => .base (.ins (e _ _ hd) I.ic.cl I.ic.ha I.ic.hn I.ic.htk I.ic.hm)) I.ic.me
theorem rc_isN {H : Hp} {v : V} (I : IK K C) (h : AnyV H v) : RC (rIsi K) [v, .ref C] H (.bl false) := by
  cases h with
  | non => exact rc_isi (t := .type "NoneType") (.own C) (fun _ _ => .base .non) (I.ot _ (by simp))
  | bl b => exact rc_isi (t := .type "bool") (.own C) (fun _ _ => .base (.bl b)) (I.ot _ (by simp))
  | int n => exact rc_isi (t := .type "int") (.own C) (fun _ _ => .base (.int n)) (I.ot _ (by simp))
  | str z => exact rc_isi (t := .type "str") (.own C) (fun _ _ => .base (.str z)) (I.ot _ (by simp))
  | lst h => exact rc_isi (t := .type "list") (.own C) (fun _ e => .base (.lst (e _ _ h))) (I.ot _ (by simp))
  | tup h => exact rc_isi (t := .type "tuple") (.own C) (fun _ e => .base (.tup (e _ _ h))) (I.ot _ (by simp))
  | dct h => exact rc_isi (t := .type "dict") (.own C) (fun _ e => .base (.dK (e _ _ h))) (I.ot _ (by simp))
def spEqA (C : Addr) : Sp := fun vs H Q _ => ∃ (a : Addr) (y : V) (kd : Kd), vs = [.ref a, y] ∧ kd.ok = true ∧ KAt C H a kd ∧
  ((∃ b k2, y = .ref b ∧ k2.ok = true ∧ KAt C H b k2 ∧ ∀ H', Ex H H' → Q (.bl (decide (kd = k2))) H') ∨ (AnyV H y ∧ ∀ H', Ex H H' → Q (.bl false) H'))
theorem el_ranks {σ : L2.St} {H : Hp} {i : Nat} {x : Addr} {kd : Kd} (hi : σ[i]? = some (some (.ref x))) (hk : kd.ok = true) (hx : KAt C H x kd) : EvL (tCall (spRanks C) [] E0 (tCons (tVar i) tNil)) σ H (kd.ranks.map V.int) :=
  el_call (ea_cons (ev_var hi) ea_nil) fun H1 e1 Q q E => ⟨x, kd, rfl, hk, hx.mono e1, fun p H' np e hp => q p H' np e hp⟩
theorem ok_eq {fR : Addr} {dR : FuncData} {q : Str} (B : Bt mg) (T : KF K mg C mc aL aT) (I : IK K C) (D : Fn0 P w K mg base "_ranks" 3 fR dR p_ranks (spRanks C)) (F : FnC K "__eq__" q s_Kind_eq [] f fd) : FnOk P w K mg base CX0 4 f fd ["self", "other"] (spEqA C) := by
  refine F.ok sc_Kind_eq (fun vs H Q E h => ?_) (fun cdv A outer s H vs Q E hr h => ?_)
  · obtain ⟨a, y, kd, rfl, _⟩ := h
    rfl
  · obtain ⟨a, y, kd, rfl, hok, ha, h⟩ := h
    have hu := hr.units
    refine ⟨_, PSs.nox (pss_one (ps_ret (pe_and (pe_callB call_isi (by rfl) B.isinstance (by decide +kernel) (pa_cons (pv 1) (pa_cons (pe_glob (v := .ref C) (by rfl) T.m rfl) pa_nil)))
      (pe_one (pe_cmpR (op_eqD hu) (pe_call D.ok hr (by rfl) D.m D.k D.b .nil pass0 (pa_cons (pv 0) pa_nil)) (pe_call D.ok hr (by rfl) D.m D.k D.b .nil pass0 (pa_cons (pv 1) pa_nil)) (nomark _)))))), ?_⟩
    rcases h with ⟨b, k2, rfl, hok2, hb, k⟩ | ⟨hy, k⟩
    · refine s_ret (v := .bl (true && decide (kd = k2))) (ev_andV (a := true) (b := decide (kd = k2)) (ev_cb (ea_cons (ev_var rfl) (ea_cons ev_c ea_nil)) (rc_isK I hb)) (fun _ => ev_is (ev_opLL (el_ranks rfl hok ha) (el_ranks rfl hok2 hb) (fun r q H1 hr hq _ => rv_eqI2 (sq_of hr) (sq_of hq))) (by rw [ranks_inj hok hok2]))) fun H1 e1 => ?_
      rw [Bool.true_and]
      exact k H1 e1
    · exact s_ret (v := .bl false) (ev_andV (a := false) (b := false) (ev_cb (ea_cons (ev_var rfl) (ea_cons ev_c ea_nil)) (rc_isN I hy)) (fun z => by cases z)) fun H1 e1 => k H1 e1
end
end L2.M1
set_option maxRecDepth 100000
set_option maxHeartbeats 4000000
namespace L2.M1
open PySem PySem.Spec PyProof.Rows L2 Mx L2.Mb Evl Mv TL
/-! ### a kind made of right parts -/
theorem passF {X : Cx} : Passes (L2.CX X.prog X.w) X (fun _ _ _ => False) := fun _ _ _ _ _ _ _ h => by
  obtain ⟨_, _, _, _, _, _, _, _, _, _, _, _, hE⟩ := h
  exact hE.elim
theorem optV_inj {a b : Option Int} (h : optV a = optV b) : a = b := by
  cases a <;> cases b <;> first | rfl | (cases h; rfl) | cases h
theorem any_opt {H : Hp} (o : Option Int) : AnyV H (optV o) := by
  cases o with
  | none => exact .non
  | some n => exact .int n
theorem kd_eq {k1 k2 : Kd} (e1 : V.str k1.le = .str k2.le) (e2 : V.str k1.lt = .str k2.lt) (e3 : V.bl k1.tu = .bl k2.tu) (e4 : optV k1.re = optV k2.re) : k1 = k2 := by
  obtain ⟨a, b, c, d⟩ := k1
  obtain ⟨a', b', c', d'⟩ := k2
  have h1 : a = a' := V.str.inj e1
  have h2 : b = b' := V.str.inj e2
  have h3 : c = c' := V.bl.inj e3
  have h4 : d = d' := optV_inj e4
  rw [h1, h2, h3, h4]
structure KM (P : Program) (w : World) (K : W.Frag) (mg : Str → Option Value) (base : Heap) (C CE fK : Addr) (dK : FuncData) (g : List Value → List Value → List Value) (gV : List V → List V → List V) : Prop where
  made : Mk K C fK
  ok : FnOk P w K mg base (L2.CX P w) 3 fK dK ["self", "lends", "lets", "turns", "rests"] (spInit C CE)
  kb : KBn K dK ["self", "lends", "lets", "turns", "rests"] 3 ["turns", "rests"] g gV
  gv : ∀ a b c d e : V, gV [a, b, c] [d, e] = [a, b, c, d, e]
/-- the new instance, set up with right parts -/
theorem sp_made {C CE : Addr} {kd : Kd} {H : Hp} {x dx : Addr} {E : XK} {Q : VK} (ok : kd.ok = true) (hx : H x = none) (hd : H dx = none) (q : ∀ H2, Ex H H2 → KAt C H2 x kd → Q (.ref x) H2) :
    spInit C CE [.ref x, .str kd.le, .str kd.lt, .bl kd.tu, optV kd.re] (upd (upd H dx (.own x)) x (.ins C dx [])) (fun v H3 => v = .non ∧ Q (.ref x) H3) E :=
  ⟨x, dx, .str kd.le, .str kd.lt, .bl kd.tu, optV kd.re, rfl, upd_same, .str _, .str _, .bl _, any_opt _, fun k2 _ e1 e2 e3 e4 H' hk ha => by
    have e := kd_eq e1 e2 e3 e4
    subst e
    refine ⟨rfl, q H' (fun c o hc => ?_) ⟨dx, ha⟩⟩
    refine hk c o (ne_of_none hc hx) ?_
    rw [upd_ne (ne_of_none hc hx), upd_ne (ne_of_none hc hd)]
    exact hc, fun n hn => by
    rw [bad_kd ok] at hn
    cases hn⟩
section
variable {P : Program} {w : World} {K : W.Frag} {mg : Str → Option Value} {base : Heap} {f C CE aL aT : Addr} {fd : FuncData} {mc : Value}
theorem e_make {σ : L2.St} {H : Hp} {ta tk : TA} {gV : List V → List V → List V} {E : XK} {kd : Kd} (hg : ∀ a b c d e : V, gV [a, b, c] [d, e] = [a, b, c, d, e]) (h1 : EvA ta σ H [.str kd.le, .str kd.lt]) (h2 : EvA tk σ H [.bl kd.tu, optV kd.re]) (ok : kd.ok = true) :
    ∀ H1, Ex H H1 → ∀ Q : VK, (∀ a H2, Ex H1 H2 → KAt C H2 a kd → Q (.ref a) H2) → tMakeK C 2 2 (spInit C CE) gV E ta tk σ H1 Q := fun H1 e Q q => h1 H1 e _ fun H2 e2 => h2 H2 (e.trans e2) _ fun H3 e3 => ⟨rfl, rfl, fun x dx hx hd ne => by
    rw [hg]
    exact sp_made ok hx hd fun H4 e4 ha => q x H4 ((e2.trans e3).trans e4) ha⟩
/-! ### a kind of its ranks -/
theorem len_ranks (k : Kd) : k.ranks.length = 4 := rfl
def spKOR (C : Addr) : Sp := fun vs H Q _ => ∃ (p : Addr) (kd : Kd), vs = [.ref p] ∧ kd.ok = true ∧ H p = some (.lst (kd.ranks.map V.int)) ∧ ∀ b H', Ex H H' → KAt C H' b kd → Q (.ref b) H'
theorem le_at {k : Kd} (h : k.ok = true) : atI (lendL.map V.str) (looseV k.le) = some (.str k.le) := by
  unfold Kd.ok at h
  simp only [Bool.and_eq_true] at h
  have m := List.contains_iff_mem.mp h.1
  simp only [List.mem_cons, List.not_mem_nil, or_false] at m
  rcases m with e | e | e <;> rw [e] <;> first | exact atI_nat (j := 0) rfl | exact atI_nat (j := 1) rfl | exact atI_nat (j := 2) rfl
theorem lt_at {k : Kd} (h : k.ok = true) : atI (letL.map V.str) (looseV k.lt) = some (.str k.lt) := by
  unfold Kd.ok at h
  simp only [Bool.and_eq_true] at h
  have m := List.contains_iff_mem.mp h.2.1
  simp only [List.mem_cons, List.not_mem_nil, or_false] at m
  rcases m with e | e | e <;> rw [e] <;> first | exact atI_nat (j := 0) rfl | exact atI_nat (j := 1) rfl | exact atI_nat (j := 2) rfl
theorem ok_kor {fK : Addr} {dK : FuncData} {g : List Value → List Value → List Value} {gV : List V → List V → List V} {t2 : Tok} (T : KF K mg C mc aL aT) (M : KM P w K mg base C CE fK dK g gV) (c2 : mg "MOST_REST" = some (.int 1000000 t2))
    (F : FnP K "_kind_of_ranks" s_kind_of_ranks f fd) : FnOk P w K mg base CX0 5 f fd p_kind_of_ranks (spKOR C) := by
  refine F.ok sc_kind_of_ranks (fun vs H Q E h => ?_) (fun cdv A outer s H vs Q E hr h => ?_)
  · obtain ⟨p, kd, rfl, _⟩ := h
    rfl
  · obtain ⟨p, kd, rfl, hok, hp, k⟩ := h
    have nd := sc_kind_of_ranks.nd
    refine ⟨_, PSs.nox (pss_cons (ps_asg (pv 0) (pg_lst rfl (pgs_cons (pg_name (i := 1) nd rfl (Or.inl rfl)) (pgs_cons (pg_name (i := 2) nd rfl (Or.inl rfl)) (pgs_cons (pg_name (i := 3) nd rfl (Or.inl rfl)) (pgs_cons (pg_name (i := 4) nd rfl (Or.inl rfl)) pgs_nil))))))
      (pss_cons (ps_set (i := 5) nd rfl (Or.inl rfl) (pe_ifExp (pt_cmpR op_gt (pv 4) (pe_glob (v := .int 1000000) (by rfl) c2 ⟨_, rfl⟩) (nomark _)) pe_non (pv 4)))
      (pss_one (ps_ret (pe_makeK (E := fun _ _ _ => False) M.made M.ok hr (by rfl) T.m M.kb passF (pa_cons (pe_ix ix_tup (ClX.pe_cval (pe_glob (v := .ref C) (by rfl) T.m rfl)) (pv 1) (fun _ _ => rfl)) (pa_cons (pe_ix ix_tup (ClX.pe_cval (pe_glob (v := .ref C) (by rfl) T.m rfl)) (pv 2) (fun _ _ => rfl)) pa_nil))
        (pk_cons (pe_cmpR op_eq (pv 3) pe_int (nomark _)) (pk_cons (pv 5) pk_nil))))))), ?_⟩
    refine ⟨_, rfl, p, _, rfl, sq_of hp, rfl, .int (looseV kd.le), _, rfl, .int (looseV kd.lt), _, rfl, .int (if kd.tu = true then 1 else 0), _, rfl, .int (match kd.re with | some n => n | none => 1000001), _, rfl, rfl, ?_⟩
    have o3 : kd.re.all inRest = true := by
      unfold Kd.ok at hok
      simp only [Bool.and_eq_true] at hok
      exact hok.2.2
    refine q_asg (v := optV kd.re) (ev_if (b := kd.re.isNone) (et_test (ev_is (ev_op (ev_var rfl) ev_c rv_int) (congrArg V.bl (by
        cases hre : kd.re with
        | none => decide
        | some n =>
          rw [hre] at o3
          have o4 : inRest n = true := o3
          unfold inRest at o4
          simp only [Bool.and_eq_true, decide_eq_true_eq] at o4
          show decide (n > 1000000) = false
          exact decide_eq_false (by omega)))))
      (fun h => ev_is ev_c (by cases hre : kd.re with | none => rfl | some n => rw [hre] at h; cases h)) (fun h => ev_is (ev_var rfl) (by cases hre : kd.re with | some n => rfl | none => rw [hre] at h; cases h))) fun H1 e1 => ?_
    refine e_make (CE := CE) M.gv (ea_cons (ev_op (ev_cval ev_c T.rd T.vL) (ev_var rfl) (rv_ixT (T.tL _) (le_at hok))) (ea_cons (ev_op (ev_cval ev_c T.rd T.vT) (ev_var rfl) (rv_ixT (T.tT _) (lt_at hok))) ea_nil))
      (ea_cons (ev_is (ev_op (ev_var rfl) ev_c (rv_eq rfl)) (by cases kd.tu <;> rfl)) (ea_cons (ev_var rfl) ea_nil)) hok H1 (Ex.refl H1) _ fun a H2 e2 ha => k a H2 (e1.trans e2) ha
end
end L2.M1
set_option maxRecDepth 100000
set_option maxHeartbeats 4000000
namespace L2.M1
open PySem PySem.Spec PyProof.Rows L2 Mx L2.Mb Evl Mv TL
/-! ### the looser, the stricter of two kinds -/
def jo (x y : Kd) : Kd := ⟨if looseV y.le > looseV x.le then y.le else x.le, if looseV y.lt > looseV x.lt then y.lt else x.lt, x.tu || y.tu, match x.re, y.re with
  | some a, some b => some (if b > a then b else a)
  | _, _ => none⟩
def me (x y : Kd) : Kd := ⟨if looseV y.le < looseV x.le then y.le else x.le, if looseV y.lt < looseV x.lt then y.lt else x.lt, x.tu && y.tu, match x.re, y.re with
  | some a, some b => some (if b < a then b else a)
  | none, r => r
  | r, none => r⟩
theorem ok_parts {k : Kd} (h : k.ok = true) : lendL.contains k.le = true ∧ letL.contains k.lt = true ∧ k.re.all inRest = true := by
  unfold Kd.ok at h
  simp only [Bool.and_eq_true] at h
  exact h
theorem ok_of {k : Kd} (h1 : lendL.contains k.le = true) (h2 : letL.contains k.lt = true) (h3 : k.re.all inRest = true) : k.ok = true := by
  unfold Kd.ok
  rw [h1, h2, h3]
  rfl
theorem jo_ok {x y : Kd} (hx : x.ok = true) (hy : y.ok = true) : (jo x y).ok = true := by
  obtain ⟨a1, a2, a3⟩ := ok_parts hx
  obtain ⟨b1, b2, b3⟩ := ok_parts hy
  refine ok_of ?_ ?_ ?_
  · show lendL.contains (if _ then y.le else x.le) = true
    split <;> assumption
  · show letL.contains (if _ then y.lt else x.lt) = true
    split <;> assumption
  · unfold jo
    cases hx : x.re <;> cases hy : y.re <;> first | rfl | skip
    rw [hx] at a3
    rw [hy] at b3
    show inRest (if _ then _ else _) = true
    split <;> assumption
theorem me_ok {x y : Kd} (hx : x.ok = true) (hy : y.ok = true) : (me x y).ok = true := by
  obtain ⟨a1, a2, a3⟩ := ok_parts hx
  obtain ⟨b1, b2, b3⟩ := ok_parts hy
  refine ok_of ?_ ?_ ?_
  · show lendL.contains (if _ then y.le else x.le) = true
    split <;> assumption
  · show letL.contains (if _ then y.lt else x.lt) = true
    split <;> assumption
  · unfold me
    cases hx : x.re <;> cases hy : y.re <;> rw [hx] at a3 <;> rw [hy] at b3 <;> first | rfl | exact a3 | exact b3 | skip
    show inRest (if _ then _ else _) = true
    split <;> assumption
theorem re_le {k : Kd} (h : k.ok = true) {n : Int} (e : k.re = some n) : n ≤ 1000000 := by
  obtain ⟨_, _, h3⟩ := ok_parts h
  rw [e] at h3
  have h4 : inRest n = true := h3
  unfold inRest at h4
  simp only [Bool.and_eq_true, decide_eq_true_eq] at h4
  exact h4.2
theorem cons2 {α : Type} {a b : α} {l m : List α} (h : a = b) (k : l = m) : a :: l = b :: m := by rw [h, k]
def mx (a b : Int) : Int := if b > a then b else a
def mn (a b : Int) : Int := if b < a then b else a
def zipW (f : Int → Int → Int) (x y : Kd) : List Int := (List.range 4).map fun i => f (x.ranks.getD i 0) (y.ranks.getD i 0)
theorem jo_ranks {x y : Kd} (hx : x.ok = true) (hy : y.ok = true) : zipW mx x y = (jo x y).ranks := by
  obtain ⟨l1, t1, u1, r1⟩ := x
  obtain ⟨l2, t2, u2, r2⟩ := y
  have e1 : ∀ (c : Prop) [Decidable c] (a b : Str), looseV (if c then a else b) = if c then looseV a else looseV b := fun c _ a b => by split <;> rfl
  refine cons2 (e1 _ _ _).symm (cons2 (e1 _ _ _).symm (cons2 ?_ (cons2 ?_ rfl)))
  · cases u1 <;> cases u2 <;> rfl
  · cases r1 with
    | none =>
      cases r2 with
      | none => rfl
      | some n =>
        have := re_le hy rfl
        show mx 1000001 n = 1000001
        unfold mx
        rw [if_neg (by omega)]
    | some m =>
      have := re_le hx rfl
      cases r2 with
      | none =>
        show mx m 1000001 = 1000001
        unfold mx
        rw [if_pos (by omega)]
      | some n => rfl
theorem me_ranks {x y : Kd} (hx : x.ok = true) (hy : y.ok = true) : zipW mn x y = (me x y).ranks := by
  obtain ⟨l1, t1, u1, r1⟩ := x
  obtain ⟨l2, t2, u2, r2⟩ := y
  have e1 : ∀ (c : Prop) [Decidable c] (a b : Str), looseV (if c then a else b) = if c then looseV a else looseV b := fun c _ a b => by split <;> rfl
  refine cons2 (e1 _ _ _).symm (cons2 (e1 _ _ _).symm (cons2 ?_ (cons2 ?_ rfl)))
  · cases u1 <;> cases u2 <;> rfl
  · cases r1 with
    | none =>
      cases r2 with
      | none => rfl
      | some n =>
        have := re_le hy rfl
        show mn 1000001 n = n
        unfold mn
        rw [if_pos (by omega)]
    | some m =>
      have := re_le hx rfl
      cases r2 with
      | none =>
        show mn m 1000001 = m
        unfold mn
        rw [if_neg (by omega)]
      | some n => rfl
/-- x at most as loose as y in each part -/
def wi (x y : Kd) : Bool := (List.range 4).all fun i => decide (x.ranks.getD i 0 ≤ y.ranks.getD i 0)
theorem at_rank {x : Kd} {k : Nat} {v : V} (h : (x.ranks.map V.int)[k]? = some v) : v = .int (x.ranks.getD k 0) := by
  rw [List.getElem?_map] at h
  obtain ⟨n, e, rfl⟩ := Option.map_eq_some_iff.mp h
  rw [List.getD_eq_getElem?_getD, e]
  rfl
def spTwo (C : Addr) (j : Kd → Kd → Kd) : Sp := fun vs H Q _ => ∃ (a b : Addr) (x y : Kd), vs = [.ref a, .ref b] ∧ x.ok = true ∧ y.ok = true ∧ KAt C H a x ∧ KAt C H b y ∧ ∀ c H', Ex H H' → KAt C H' c (j x y) → Q (.ref c) H'
def spWi (C : Addr) : Sp := fun vs H Q _ => ∃ (a b : Addr) (x y : Kd), vs = [.ref a, .ref b] ∧ x.ok = true ∧ y.ok = true ∧ KAt C H a x ∧ KAt C H b y ∧ ∀ H', Ex H H' → Q (.bl (wi x y)) H'
section
variable {P : Program} {w : World} {K : W.Frag} {mg : Str → Option Value} {base : Heap} {f fR fK C aL aT : Addr} {fd dR dK : FuncData} {mc : Value}
theorem s_retCL {σ : L2.St} {H : Hp} {te : TE} {sp : Sp} {E : XK} {xs : List V} {D : Ends} (h : EvL te σ H xs) (k : ∀ p H1, H p = none → Ex H H1 → H1 p = some (.lst xs) → sp [.ref p] H1 D.rt E) : tRet (tCall sp [] E (tCons te tNil)) D σ H :=
  h H (Ex.refl H) (fun v H1 => sp ([v] ++ []) H1 D.rt E) k
theorem el_z {a b : Addr} {x y : Kd} {H : Hp} {te : TE} (z : Int → Int → V) (hx : x.ok = true) (hy : y.ok = true) (ha : KAt C H a x) (hb : KAt C H b y) (he : ∀ m n H1, Ev te [some (.ref a), some (.ref b), some (.int m), some (.int n)] H1 (z m n)) :
    EvL (tLc (iZip K (tCons (tCall (spRanks C) [] E0 (tCons (tVar 0) tNil)) (tCons (tCall (spRanks C) [] E0 (tCons (tVar 1) tNil)) tNil))) (gTup K 2 (gCons (gName 2) (gCons (gName 3) gNil))) tYes te [2, 3]) [some (.ref a), some (.ref b), none, none] H
      ((List.range 4).map fun i => z (x.ranks.getD i 0) (y.ranks.getD i 0)) := by
  have w := el_lcZ (K := K) (σ := [some (.ref a), some (.ref b), none, none]) (H := H) (te := te) (ta := tCons (tCall (spRanks C) [] E0 (tCons (tVar 0) tNil)) (tCons (tCall (spRanks C) [] E0 (tCons (tVar 1) tNil)) tNil)) (i := 2) (j := 3) (vs := [2, 3]) (xs := x.ranks.map V.int) (ys := y.ranks.map V.int) (fun i => z (x.ranks.getD i 0) (y.ranks.getD i 0))
    (ell_cons (el_ranks rfl hx ha) (el_ranks rfl hy hb)) rfl (by show 4 ≤ 40000; decide) (fun _ _ => rfl) (fun i u v H2 e2 hu hv => by
      rw [at_rank hu, at_rank hv]
      exact he _ _ H2)
  rw [given_map fun _ => rfl] at w
  exact w
theorem ok_or {q : Str} (B : Bt mg) (T : KF K mg C mc aL aT) (I : IK K C) (D : Fn0 P w K mg base "_ranks" 3 fR dR p_ranks (spRanks C)) (G : Fn0 P w K mg base "_kind_of_ranks" 5 fK dK p_kind_of_ranks (spKOR C)) (F : FnC K "__or__" q s_Kind_or [] f fd) :
    FnOk P w K mg base CX0 6 f fd ["self", "other"] (spTwo C jo) := by
  refine F.ok sc_Kind_or (fun vs H Q E h => ?_) (fun cdv A outer s H vs Q E hr h => ?_)
  · obtain ⟨a, b, x, y, rfl, _⟩ := h
    rfl
  · obtain ⟨a, b, x, y, rfl, hx, hy, ha, hb, k⟩ := h
    have nd := sc_Kind_or.nd
    have hr3 := hr.mono (show 3 ≤ 5 by decide)
    refine ⟨_, PSs.nox (pss_cons (ps_if (pt_not (pt_val (pe_callB call_isi (by rfl) B.isinstance (by decide +kernel) (pa_cons (pv 1) (pa_cons (pe_glob (v := .ref C) (by rfl) T.m rfl) pa_nil))))) (pss_one ps_never) pss_nil)
      (pss_one (ps_ret (pe_call G.ok hr (by rfl) G.m G.k G.b .nil pass0 (pa_cons (pe_lc (own := [("mine", 2), ("yours", 3)]) (g := gTup K 2 (gCons (gName 2) (gCons (gName 3) gNil))) (tt := tYes) rfl nd (pi_zip (by rfl) B.zip (pa_cons (pe_call D.ok hr3 (by rfl) D.m D.k D.b .nil pass0 (pa_cons (pv 0) pa_nil)) (pa_cons (pe_call D.ok hr3 (by rfl) D.m D.k D.b .nil pass0 (pa_cons (pv 1) pa_nil)) pa_nil)))
        (blkOk_by (N := n_Kind_or) (sc := defScope s_Kind_or) (by decide +kernel)) (fun _ _ _ _ _ => pg_tup rfl (pgs_cons (pg_name (i := 2) nd rfl (Or.inl rfl)) (pgs_cons (pg_name (i := 3) nd rfl (Or.inl rfl)) pgs_nil))) (fun _ _ _ _ _ => pts_nil)
        (fun _ _ _ _ _ => pe_callB (call_max2 rfl) (by rfl) B.max (by decide +kernel) (pa_cons (pv 2) (pa_cons (pv 3) pa_nil)))) pa_nil))))), ?_⟩
    refine q_when (b := false) (et_not (a := true) (et_B (ev_cb (ea_cons (ev_var rfl) (ea_cons ev_c ea_nil)) (rc_isK I hb)))) (fun z => by cases z) (fun _ H1 e1 => ?_)
    refine s_retCL (el_z (K := K) (C := C) (te := tCB (fun xs H Q => ∃ i j, xs = [V.int i, V.int j] ∧ Q (.int (if j > i then j else i)) H) (tCons (tVar 2) (tCons (tVar 3) tNil))) (fun m n => .int (mx m n)) hx hy (ha.mono e1) (hb.mono e1) (fun m n H2 => ev_cb (ea_cons (ev_var rfl) (ea_cons (ev_var rfl) ea_nil)) (fun H3 _ Q q => ⟨m, n, rfl, q H3 (Ex.refl H3)⟩))) fun p H2 np e2 hp => ?_
    refine ⟨p, jo x y, rfl, jo_ok hx hy, ?_, fun c H3 e3 hc => k c H3 ((e1.trans e2).trans e3) hc⟩
    rw [hp, ← jo_ranks hx hy]
    unfold zipW
    rw [List.map_map]
    rfl
theorem ok_and {q : Str} (B : Bt mg) (T : KF K mg C mc aL aT) (I : IK K C) (D : Fn0 P w K mg base "_ranks" 3 fR dR p_ranks (spRanks C)) (G : Fn0 P w K mg base "_kind_of_ranks" 5 fK dK p_kind_of_ranks (spKOR C)) (F : FnC K "__and__" q s_Kind_and [] f fd) :
    FnOk P w K mg base CX0 6 f fd ["self", "other"] (spTwo C me) := by
  refine F.ok sc_Kind_and (fun vs H Q E h => ?_) (fun cdv A outer s H vs Q E hr h => ?_)
  · obtain ⟨a, b, x, y, rfl, _⟩ := h
    rfl
  · obtain ⟨a, b, x, y, rfl, hx, hy, ha, hb, k⟩ := h
    have nd := sc_Kind_and.nd
    have hr3 := hr.mono (show 3 ≤ 5 by decide)
    refine ⟨_, PSs.nox (pss_cons (ps_if (pt_not (pt_val (pe_callB call_isi (by rfl) B.isinstance (by decide +kernel) (pa_cons (pv 1) (pa_cons (pe_glob (v := .ref C) (by rfl) T.m rfl) pa_nil))))) (pss_one ps_never) pss_nil)
      (pss_one (ps_ret (pe_call G.ok hr (by rfl) G.m G.k G.b .nil pass0 (pa_cons (pe_lc (own := [("mine", 2), ("yours", 3)]) (g := gTup K 2 (gCons (gName 2) (gCons (gName 3) gNil))) (tt := tYes) rfl nd (pi_zip (by rfl) B.zip (pa_cons (pe_call D.ok hr3 (by rfl) D.m D.k D.b .nil pass0 (pa_cons (pv 0) pa_nil)) (pa_cons (pe_call D.ok hr3 (by rfl) D.m D.k D.b .nil pass0 (pa_cons (pv 1) pa_nil)) pa_nil)))
        (blkOk_by (N := n_Kind_and) (sc := defScope s_Kind_and) (by decide +kernel)) (fun _ _ _ _ _ => pg_tup rfl (pgs_cons (pg_name (i := 2) nd rfl (Or.inl rfl)) (pgs_cons (pg_name (i := 3) nd rfl (Or.inl rfl)) pgs_nil))) (fun _ _ _ _ _ => pts_nil)
        (fun _ _ _ _ _ => pe_callB (call_min2 rfl) (by rfl) B.min (by decide +kernel) (pa_cons (pv 2) (pa_cons (pv 3) pa_nil)))) pa_nil))))), ?_⟩
    refine q_when (b := false) (et_not (a := true) (et_B (ev_cb (ea_cons (ev_var rfl) (ea_cons ev_c ea_nil)) (rc_isK I hb)))) (fun z => by cases z) (fun _ H1 e1 => ?_)
    refine s_retCL (el_z (K := K) (C := C) (te := tCB (fun xs H Q => ∃ i j, xs = [V.int i, V.int j] ∧ Q (.int (if j < i then j else i)) H) (tCons (tVar 2) (tCons (tVar 3) tNil))) (fun m n => .int (mn m n)) hx hy (ha.mono e1) (hb.mono e1) (fun m n H2 => ev_cb (ea_cons (ev_var rfl) (ea_cons (ev_var rfl) ea_nil)) (fun H3 _ Q q => ⟨m, n, rfl, q H3 (Ex.refl H3)⟩))) fun p H2 np e2 hp => ?_
    refine ⟨p, me x y, rfl, me_ok hx hy, ?_, fun c H3 e3 hc => k c H3 ((e1.trans e2).trans e3) hc⟩
    rw [hp, ← me_ranks hx hy]
    unfold zipW
    rw [List.map_map]
    rfl
theorem ok_within {q : Str} (B : Bt mg) (T : KF K mg C mc aL aT) (D : Fn0 P w K mg base "_ranks" 3 fR dR p_ranks (spRanks C)) (F : FnC K "within" q s_Kind_within [] f fd) : FnOk P w K mg base CX0 4 f fd ["self", "other"] (spWi C) := by
  refine F.ok sc_Kind_within (fun vs H Q E h => ?_) (fun cdv A outer s H vs Q E hr h => ?_)
  · obtain ⟨a, b, x, y, rfl, _⟩ := h
    rfl
  · obtain ⟨a, b, x, y, rfl, hx, hy, ha, hb, k⟩ := h
    have nd := sc_Kind_within.nd
    refine ⟨_, PSs.nox (pss_one (ps_ret (pe_callB (cr_all rfl) (by rfl) B.all (by decide +kernel) (pa_cons (pe_lc (own := [("mine", 2), ("yours", 3)]) (g := gTup K 2 (gCons (gName 2) (gCons (gName 3) gNil))) (tt := tYes) rfl nd (pi_zip (by rfl) B.zip (pa_cons (pe_call D.ok hr (by rfl) D.m D.k D.b .nil pass0 (pa_cons (pv 0) pa_nil)) (pa_cons (pe_call D.ok hr (by rfl) D.m D.k D.b .nil pass0 (pa_cons (pv 1) pa_nil)) pa_nil)))
        (blkOk_by (N := n_Kind_within) (sc := defScope s_Kind_within) (by decide +kernel)) (fun _ _ _ _ _ => pg_tup rfl (pgs_cons (pg_name (i := 2) nd rfl (Or.inl rfl)) (pgs_cons (pg_name (i := 3) nd rfl (Or.inl rfl)) pgs_nil))) (fun _ _ _ _ _ => pts_nil)
        (fun _ _ _ _ _ => pe_cmpR op_le (pv 2) (pv 3) (nomark _))) pa_nil)))), ?_⟩
    have w := el_z (K := K) (C := C) (te := tOp (rI0 fun i j => .bl (decide (i ≤ j))) (tVar 2) (tVar 3)) (fun m n => .bl (decide (m ≤ n))) hx hy ha hb (fun m n H2 => ev_op (ev_var rfl) (ev_var rfl) rv_int)
    refine s_ret (v := .bl (wi x y)) (ev_is (ev_allN (bs := (List.range 4).map fun i => decide (x.ranks.getD i 0 ≤ y.ranks.getD i 0)) (by rw [List.map_map]; exact w)) (by unfold wi; rw [List.all_map]; rfl)) fun H1 e1 => k H1 e1
end
end L2.M1
set_option maxRecDepth 100000
set_option maxHeartbeats 4000000
namespace L2.M1
open PySem PySem.Spec PyProof.Rows L2 Mx L2.Mb Evl Mv TL
/-- the cells and where they stand -/
structure Cells where
  l : Addr
  xs : List Int
abbrev Cells.length (c : Cells) : Nat := c.xs.length
/-- the pen at p: its list of cells, the next cell's index, the rest of a great cell -/
def PenAt (H : Hp) (p : Addr) (ns : Cells) (t : Int) : Prop := ∃ g : Int, H p = some (.lst [.ref ns.l, .int t, .int g]) ∧ H ns.l = some (.lst (ns.xs.map V.int))
/-- all but p stands as it stood -/
def But (p : Addr) (H H' : Hp) : Prop := ∀ c o, c ≠ p → H c = some o → H' c = some o
def spTake : Sp := fun vs H Q _ => ∃ (p : Addr) (m : Int) (ns : Cells) (t : Int), vs = [.ref p, .int m] ∧ PenAt H p ns t ∧ ns.length ≤ 63 ∧ 0 ≤ t ∧ t ≤ 1000000 ∧ 1 ≤ m ∧ m ≤ 1000000 ∧
  ∀ (d t' : Int) (H' : Hp), 0 ≤ d → d < m → t ≤ t' → t' ≤ t + 1 → PenAt H' p ns t' → But p H H' → Q (.int d) H'
theorem pow_bd {x : Int} {n : Nat} (k : Nat) (h : x.natAbs ≤ n) : (x ^ k).natAbs ≤ n ^ k := by
  rw [Int.natAbs_pow]
  exact Nat.pow_le_pow_left h k
theorem ifB {c : Bool} {X Y : Prop} (h1 : c = true → X) (h2 : c = false → Y) : if c = true then X else Y := by
  cases c with
  | true => exact (h1 rfl)
  | false => exact (h2 rfl)
section
variable {P : Program} {w : World} {K : W.Frag} {mg : Str → Option Value} {base : Heap} {f : Addr} {fd : FuncData}
theorem ok_take (B : Bt mg) (F : FnP K "_law_take" s_law_take f fd) : FnOk P w K mg base CX0 1 f fd p_law_take spTake := by
  refine F.ok sc_law_take (fun vs H Q E h => ?_) (fun cdv A outer s H vs Q E hr h => ?_)
  · obtain ⟨p, m, ns, t, rfl, _⟩ := h
    rfl
  · obtain ⟨p, m, ⟨l, ns⟩, t, rfl, ⟨g, hp, hl⟩, hn, t0, t1, m0, m1, k⟩ := h
    replace hp : H p = some (.lst [.ref l, .int t, .int g]) := hp
    replace hl : H l = some (.lst (ns.map V.int)) := hl
    replace hn : ns.length ≤ 63 := hn
    have hu := hr.units
    refine ⟨_, PSs.nox (pss_cons (ps_if (pt_cmpR op_gt (pe_ix ix_list (pv 0) pe_int (fun _ _ => rfl)) pe_int (nomark _)) (pss_cons (ps_set (i := 2) sc_law_take.nd rfl (Or.inl rfl) (pe_op op_mod (pe_callTy call_int1 (by rfl) B.int (by decide +kernel) (pa_cons (pe_ix ix_list (pv 0) pe_int (fun _ _ => rfl)) pa_nil)) (pv 1)))
      (pss_cons (ps_asg (pe_op op_fdiv (pe_ix ix_list (pv 0) pe_int (fun _ _ => rfl)) (pv 1)) (pg_sub (pv 0) pe_int set_list))
      (pss_one (ps_ret (pv 2))))) pss_nil)
    (pss_cons (ps_set (i := 3) sc_law_take.nd rfl (Or.inl rfl) (pe_ix ix_list (pv 0) pe_int (fun _ _ => rfl)))
    (pss_cons (ps_asg (pe_op op_add (pv 3) pe_int) (pg_sub (pv 0) pe_int set_list))
    (pss_cons (ps_set (i := 4) sc_law_take.nd rfl (Or.inl rfl) (pe_op op_add (pe_op op_mul pe_int (pv 3)) pe_int))
    (Evl.pss_cut (ps_if (pt_cmpR (op_neD hu) (pe_ix ix_list (pv 0) pe_int (fun _ _ => rfl)) (pe_lst pa_nil) (nomark _)) (pss_one (ps_set (i := 4) sc_law_take.nd rfl (Or.inl rfl) (pe_ix ix_list (pe_ix ix_list (pv 0) pe_int (fun _ _ => rfl)) (pe_op op_mod (pe_callTy call_int1 (by rfl) B.int (by decide +kernel) (pa_cons (pv 3) pa_nil)) (pe_callB call_len_seq (by rfl) B.len (by decide +kernel) (pa_cons (pe_ix ix_list (pv 0) pe_int (fun _ _ => rfl)) pa_nil))) (fun _ _ => rfl)))) pss_nil)
    (Evl.pss_cut (ps_if ((pw_and (pt_cmpR op_lt (pv 3) (pe_callB call_len_seq (by rfl) B.len (by decide +kernel) (pa_cons (pe_ix ix_list (pv 0) pe_int (fun _ _ => rfl)) pa_nil)) (nomark _)) (pw_and1 (pt_cmpR op_ge (pe_callB call_abs (by rfl) B.abs (by decide +kernel) (pa_cons (pv 4) pa_nil)) (pe_op op_pow pe_int pe_int) (nomark _))))).pt (pss_cons (ps_set (i := 5) sc_law_take.nd rfl (Or.inl rfl) (pe_op op_add (pe_op op_mul pe_int (pe_op op_sub (pe_callB call_abs (by rfl) B.abs (by decide +kernel) (pa_cons (pv 4) pa_nil)) (pe_op op_pow pe_int pe_int))) (pe_callTy call_int1 (by rfl) B.int (by decide +kernel) (pa_cons (pe_cmpR op_lt (pv 4) pe_int (nomark _)) pa_nil))))
      (pss_cons (ps_asg (pe_op op_fdiv (pv 5) (pv 1)) (pg_sub (pv 0) pe_int set_list))
      (pss_one (ps_ret (pe_op op_mod (pe_callTy call_int1 (by rfl) B.int (by decide +kernel) (pa_cons (pv 5) pa_nil)) (pv 1)))))) pss_nil)
    (pss_cons (ps_set (i := 6) sc_law_take.nd rfl (Or.inl rfl) (pe_op op_mod (pe_callTy call_int1 (by rfl) B.int (by decide +kernel) (pa_cons (pe_op op_pow (pe_op op_add (pe_op op_add (pe_op op_add (pe_op op_mod (pe_callTy call_int1 (by rfl) B.int (by decide +kernel) (pa_cons (pv 4) pa_nil)) pe_int) (pe_op op_mul pe_int (pv 3))) (pe_op op_mul (pe_op op_mul pe_int (pv 3)) (pv 3))) pe_int) pe_int) pa_nil)) pe_int))
    (pss_cons (ps_set (i := 6) sc_law_take.nd rfl (Or.inl rfl) (pe_op op_mod (pe_callTy call_int1 (by rfl) B.int (by decide +kernel) (pa_cons (pe_op op_pow (pe_op op_add (pe_op op_add (pe_op op_mul (pv 6) (pe_op op_add (pe_op op_mul pe_int (pv 3)) pe_int)) (pe_op op_mul pe_int (pv 3))) pe_int) pe_int) pa_nil)) pe_int))
    (pss_one (ps_ret (pe_op op_mod (pe_callTy call_int1 (by rfl) B.int (by decide +kernel) (pa_cons (pe_op op_fdiv (pv 6) pe_int) pa_nil)) (pv 1)))))))))))), ?_⟩
    have npl : p ≠ l := by
      intro e
      rw [e, hl] at hp
      cases ns with
      | nil => simp at hp
      | cons a r => simp at hp
    -- if pen[2] > 0
    refine ⟨_, rfl, p, _, _, _, rfl, rfl, SqL.of hp, atI_nat (j := 2) rfl, _, _, rfl, rfl, _, rfl, ?_⟩
    refine ite2 (fun _ => ?_) (fun _ => ?_)
    · refine ⟨_, rfl, p, _, _, _, rfl, rfl, SqL.of hp, atI_nat (j := 2) rfl, .inl ⟨g, rfl, _, rfl, _, _, rfl, rfl, by omega, ?_⟩⟩
      refine ⟨_, rfl, p, _, _, _, rfl, rfl, SqL.of hp, atI_nat (j := 2) rfl, _, rfl, _, _, rfl, rfl, ⟨by omega, by omega⟩, ?_⟩
      refine ⟨_, rfl, p, _, _, 2, rfl, rfl, hp, rfl, ?_⟩
      refine ⟨_, rfl, ?_⟩
      refine k _ t _ (Int.emod_nonneg _ (by omega)) (Int.emod_lt_of_pos _ (by omega)) (Int.le_refl _) (by omega) ⟨_, upd_same, ?_⟩ (fun c o hc e => by rw [upd_ne hc]; exact e)
      rw [upd_ne npl.symm]
      exact hl
    · refine ⟨_, rfl, p, _, _, _, rfl, rfl, SqL.of hp, atI_nat (j := 1) rfl, ?_⟩
      refine ⟨_, rfl, _, _, rfl, rfl, _, rfl, p, _, _, 1, rfl, rfl, hp, rfl, ?_⟩
      refine ⟨_, rfl, _, _, rfl, rfl, .inl ⟨by decide, by decide⟩, _, _, rfl, rfl, ?_⟩
      have hp1 : (upd H p (.lst [.ref l, .int (t + 1), .int g])) p = some (.lst [.ref l, .int (t + 1), .int g]) := upd_same
      have hl1 : (upd H p (.lst [.ref l, .int (t + 1), .int g])) l = some (.lst (ns.map V.int)) := by
        rw [upd_ne npl.symm]
        exact hl
      refine ⟨fun σ' H' => ∃ c : Int, σ' = [some (.ref p), some (.int m), none, some (.int t), some (.int c), none, none] ∧ H' p = some (.lst [.ref l, .int (t + 1), .int g]) ∧ H' l = some (.lst (ns.map V.int)) ∧ But p H H', ?_, ?_⟩
      · -- if pen[0] != []
        refine ⟨_, rfl, p, _, _, _, rfl, rfl, SqL.of hp1, atI_nat (j := 0) rfl, Nat.zero_le _, fun q hq => ?_⟩
        have nq : ∀ {c : Addr} {o : HO}, (upd H p (.lst [.ref l, .int (t + 1), .int g])) c = some o → c ≠ q := fun e => ne_of_none e hq
        have hp2 : (upd (upd H p (.lst [.ref l, .int (t + 1), .int g])) q (.lst [])) p = some (.lst [.ref l, .int (t + 1), .int g]) := by
          rw [upd_ne (nq hp1)]
          exact hp1
        have hl2 : (upd (upd H p (.lst [.ref l, .int (t + 1), .int g])) q (.lst [])) l = some (.lst (ns.map V.int)) := by
          rw [upd_ne (nq hl1)]
          exact hl1
        have bt2 : But p H (upd (upd H p (.lst [.ref l, .int (t + 1), .int g])) q (.lst [])) := fun c o hc e => by
          have e1 : (upd H p (.lst [.ref l, .int (t + 1), .int g])) c = some o := by
            rw [upd_ne hc]
            exact e
          rw [upd_ne (nq e1)]
          exact e1
        refine ⟨_, _, .lst (SqL.of hl2) (dp_is ns), .lst (SqL.of upd_same) .nil, is_shaped ns, rfl, _, rfl, ?_⟩
        cases hns : ns with
        | nil =>
          refine ifB (fun z => ?_) (fun _ => ?_)
          · simp [PyData.eqv, PyData.eqvAll] at z
          · rw [hns] at hl2
            exact ⟨_, rfl, hp2, hl2, bt2⟩
        | cons a r =>
          refine ifB (fun _ => ?_) (fun z => ?_)
          · have lp : (0 : Int) < ((ns.map V.int).length : Int) := by
              rw [hns]
              simp
              try omega
            have ix0 := Int.emod_nonneg t (show ((ns.map V.int).length : Int) ≠ 0 by omega)
            have ix1 := Int.emod_lt_of_pos t lp
            obtain ⟨j, hj⟩ := Int.eq_ofNat_of_zero_le ix0
            have hjl : j < ns.length := by
              rw [List.length_map] at hj ix1
              omega
            obtain ⟨c, hc⟩ : ∃ c, ns[j]? = some c := ⟨ns[j], List.getElem?_eq_getElem hjl⟩
            refine ⟨_, rfl, p, _, _, _, rfl, rfl, SqL.of hp2, atI_nat (j := 0) rfl, _, rfl, .inl ⟨_, rfl, _, rfl, p, _, _, _, rfl, rfl, SqL.of hp2, atI_nat (j := 0) rfl, l, _, rfl, .inl (SqL.of hl2), _, _, rfl, rfl, lp, ?_⟩⟩
            refine ⟨l, _, _, .int c, rfl, rfl, SqL.of hl2, ?_, ?_⟩
            · rw [hj]
              exact atI_nat (by rw [List.getElem?_map, hc]; rfl)
            · rw [hns] at hl2
              exact ⟨_, rfl, hp2, hl2, bt2⟩
          · simp [PyData.eqv, PyData.eqvAll] at z
      · rintro σ' H' ⟨c, rfl, hp3, hl3, bt3⟩
        -- if turn < len(pen[0]) and abs(cell) >= 10 ** 18
        refine ⟨fun σ'' H'' => σ'' = [some (.ref p), some (.int m), none, some (.int t), some (.int c), none, none] ∧ H'' p = some (.lst [.ref l, .int (t + 1), .int g]) ∧ H'' l = some (.lst (ns.map V.int)) ∧ But p H H'', ?_, ?_⟩
        · refine ⟨_, rfl, _, rfl, p, _, _, _, rfl, rfl, SqL.of hp3, atI_nat (j := 0) rfl, l, _, rfl, .inl (SqL.of hl3), _, _, rfl, rfl, _, rfl, ?_⟩
          refine ite2 (fun _ => ?_) (fun _ => ?_)
          · refine ⟨_, rfl, c, rfl, _, _, rfl, rfl, ⟨by decide, by decide, by decide⟩, _, _, rfl, rfl, _, rfl, ?_⟩
            refine ite2 (fun _ => ?_) (fun _ => ?_)
            · refine ⟨_, rfl, c, rfl, _, _, rfl, rfl, ⟨by decide, by decide, by decide⟩, _, _, rfl, rfl, _, _, rfl, rfl, .inl ⟨by decide, by decide⟩, ?_⟩
              refine ⟨_, rfl, _, _, rfl, rfl, .inr ⟨_, rfl, _, _, rfl, rfl, ?_⟩⟩
              refine ⟨_, rfl, _, rfl, _, _, rfl, rfl, ⟨by omega, by omega⟩, _, rfl, p, _, _, 2, rfl, rfl, hp3, rfl, ?_⟩
              refine ⟨_, rfl, .inl ⟨_, rfl, _, rfl, _, _, rfl, rfl, by omega, ?_⟩⟩
              refine k _ (t + 1) _ (Int.emod_nonneg _ (by omega)) (Int.emod_lt_of_pos _ (by omega)) (by omega) (Int.le_refl _) ⟨_, upd_same, ?_⟩ (fun c o hc e => by rw [upd_ne hc]; exact bt3 c o hc e)
              rw [upd_ne npl.symm]
              exact hl3
            · exact ⟨rfl, hp3, hl3, bt3⟩
          · exact ⟨rfl, hp3, hl3, bt3⟩
        · rintro σ'' H'' ⟨rfl, hp4, hl4, bt4⟩
          have q0 := Int.emod_nonneg c (show (2147483563 : Int) ≠ 0 by decide)
          have q1 := Int.emod_lt_of_pos c (show (0 : Int) < 2147483563 by decide)
          have tt0 : 0 ≤ t * t := Int.mul_nonneg t0 t0
          have tt1 : t * t ≤ 1000000 * 1000000 := Int.mul_le_mul t1 t1 t0 (by decide)
          have te : 5 * t * t = 5 * (t * t) := Int.mul_assoc _ _ _
          -- the first mix
          refine ⟨_, rfl, .inl ⟨c, rfl, _, _, rfl, rfl, (by show (0 : Int) < 2147483563; decide), _, rfl, _, _, rfl, rfl, .inl ⟨by decide, by decide⟩, _, _, rfl, rfl,
            _, rfl, _, _, rfl, rfl, .inl ⟨by decide, by decide⟩, _, rfl, _, _, rfl, rfl, .inr ⟨by omega, by omega⟩, _, _, rfl, rfl, _, _, rfl, rfl, _, _, rfl, rfl, ⟨by decide, by decide, ?_⟩, .inl ⟨_, rfl, _, _, rfl, rfl, (by show (0 : Int) < 2147483629; decide), ?_⟩⟩⟩
          · show (c % 2147483563 + 40013 * t + 5 * t * t + 19).natAbs < 2 ^ 64
            rw [te]
            omega
          · show gName 6 (V.int ((c % 2147483563 + 40013 * t + 5 * t * t + 19) ^ Int.toNat 5 % 2147483629)) _ _ _
            generalize hz : (c % 2147483563 + 40013 * t + 5 * t * t + 19) ^ Int.toNat 5 % 2147483629 = z
            have z0 : 0 ≤ z := by
              rw [← hz]
              exact Int.emod_nonneg _ (by decide)
            have z1 : z < 2147483629 := by
              rw [← hz]
              exact Int.emod_lt_of_pos _ (by decide)
            have y0 : 0 ≤ z * (2 * t + 43) := Int.mul_nonneg z0 (by omega)
            have y1 : z * (2 * t + 43) ≤ 2147483629 * 2000043 := Int.mul_le_mul (by omega) (by omega) (by omega) (by decide)
            -- the second
            refine ⟨_, rfl, _, rfl, _, _, rfl, rfl, .inl ⟨by decide, by decide⟩, _, _, rfl, rfl, _, _, rfl, rfl, .inl ⟨by omega, by omega⟩, _, rfl, _, _, rfl, rfl, .inl ⟨by decide, by decide⟩, _, _, rfl, rfl, _, _, rfl, rfl,
              _, _, rfl, rfl, ⟨by decide, by decide, ?_⟩, .inl ⟨_, rfl, _, _, rfl, rfl, (by show (0 : Int) < 2147483587; decide), ?_⟩⟩
            · show (z * (2 * t + 43) + 30013 * t + 11).natAbs < 2 ^ 64
              omega
            · refine ⟨_, rfl, _, _, rfl, rfl, ⟨by decide, by decide⟩, .inl ⟨_, rfl, _, rfl, _, _, rfl, rfl, by omega, ?_⟩⟩
              exact k _ (t + 1) _ (Int.emod_nonneg _ (by omega)) (Int.emod_lt_of_pos _ (by omega)) (by omega) (Int.le_refl _) ⟨_, hp4, hl4⟩ bt4
end
end L2.M1
set_option maxRecDepth 100000
set_option maxHeartbeats 4000000
namespace L2.M1
open PySem PySem.Spec PyProof.Rows L2 Mx L2.Mb Evl Mv TL
section
variable {P : Program} {w : World} {K : W.Frag} {mg : Str → Option Value} {base : Heap} {f : Addr} {fd : FuncData}
/-- what is drawn from: a new pen over the script -/
def spBegin (K : W.Frag) : Sp := fun vs H Q _ => ∃ (a : Addr) (ns : List Int), vs = [.ref a] ∧ SqL K H a (ns.map V.int) ∧ ns.length ≤ 63 ∧ ∀ (p : Addr) (n2 : Cells) H1, n2.length ≤ 63 → PenAt H1 p n2 0 → Ex H H1 → Q (.ref p) H1
theorem ok_begin (B : Bt mg) (F : FnP K "_law_begin" s_law_begin f fd) : FnOk P w K mg base CX0 1 f fd p_law_begin (spBegin K) := by
  refine F.ok sc_law_begin (fun vs H Q E h => ?_) (fun cdv A outer s H vs Q E hr h => ?_)
  · obtain ⟨a, ns, rfl, _⟩ := h
    rfl
  · obtain ⟨a, ns, rfl, hS, hn, k⟩ := h
    refine ⟨_, PSs.nox (pss_one (ps_ret (pe_lst (pa_cons (pe_callTy call_list_of (by rfl) B.list (by decide +kernel) (pa_cons (pe_slice sl_list (pv 0) po_none (po_some pe_int)) pa_nil)) (pa_cons pe_int (pa_cons pe_int pa_nil)))))), ?_⟩
    obtain ⟨n2, e2⟩ : ∃ n2 : List Int, cutV (ns.map V.int) none (some 63) = n2.map V.int ∧ n2.length ≤ 63 := by
      refine ⟨(ns.drop (HT.sIx (ns.map V.int).length 0 none)).take (HT.sIx (ns.map V.int).length (ns.map V.int).length (some 63) - HT.sIx (ns.map V.int).length 0 none), ?_, ?_⟩
      · unfold cutV
        rw [← List.map_drop, ← List.map_take]
      · rw [List.length_take, List.length_drop]
        omega
    refine ⟨_, rfl, 63, rfl, a, _, rfl, hS, fun p1 h1 => ⟨p1, _, rfl, .inl (SqL.of upd_same), fun p2 h2 => ⟨(by show 3 ≤ sizeLine; decide), fun p3 h3 => ?_⟩⟩⟩
    have n32 : p2 ≠ p3 := fun z => by
      rw [← z, upd_same] at h3
      cases h3
    refine k p3 ⟨p2, n2⟩ _ e2.2 ⟨0, upd_same, ?_⟩ (((Ex.new h1).trans (Ex.new h2)).trans (Ex.new h3))
    show (upd _ p3 _) p2 = _
    rw [upd_ne n32, upd_same, e2.1]
end
end L2.M1
set_option maxRecDepth 100000
set_option maxHeartbeats 4000000
namespace L2.M1
open PySem PySem.Spec PyProof.Rows L2 Mx L2.Mb Evl Mv TL
/-! ### rows of ranks, kinds of them, their parts -/
theorem pen_mono {H H' : Hp} {p : Addr} {ns : Cells} {t : Int} (e : Ex H H') (h : PenAt H p ns t) : PenAt H' p ns t := by
  obtain ⟨g, h1, h2⟩ := h
  exact ⟨g, e _ _ h1, e _ _ h2⟩
theorem but_ex {H H' : Hp} {p : Addr} (e : Ex H H') : But p H H' := fun c o _ h => e c o h
theorem But.trans {H H1 H2 : Hp} {p : Addr} (a : But p H H1) (b : But p H1 H2) : But p H H2 := fun c o hc h => b c o hc (a c o hc h)
def lrow (k : Kd) : List Int := [looseV k.le, looseV k.lt, if k.tu = true then 1 else 0, match k.re with
  | some n => n
  | none => 0]
def kdI (a b c r : Int) : Kd := ⟨if a = 0 then "both" else if a = 1 then "far" else "one", if b = 0 then "both" else if b = 1 then "far" else "any", decide (c = 1), if r = 0 then none else some r⟩
theorem kdI_ok {a b c r : Int} (hr : r = 0 ∨ inRest r = true) : (kdI a b c r).ok = true := by
  refine ok_of ?_ ?_ ?_
  · show lendL.contains (if a = 0 then "both" else if a = 1 then "far" else "one") = true
    split
    · decide +kernel
    · split <;> decide +kernel
  · show letL.contains (if b = 0 then "both" else if b = 1 then "far" else "any") = true
    split
    · decide +kernel
    · split <;> decide +kernel
  · show (if r = 0 then none else some r).all inRest = true
    rcases hr with h | h
    · rw [if_pos h]
      rfl
    · split
      · rfl
      · exact h
theorem lv0 : looseV "both" = 0 ∧ looseV "far" = 1 ∧ looseV "one" = 2 ∧ looseV "any" = 2 := by decide +kernel
theorem kdI_row {a b c r : Int} (a0 : 0 ≤ a) (a1 : a < 3) (b0 : 0 ≤ b) (b1 : b < 3) (c0 : 0 ≤ c) (c1 : c < 2) : lrow (kdI a b c r) = [a, b, c, r] := by
  refine cons2 ?_ (cons2 ?_ (cons2 ?_ (cons2 ?_ rfl)))
  · rcases (show a = 0 ∨ a = 1 ∨ a = 2 by omega) with rfl | rfl | rfl
    · exact lv0.1
    · exact lv0.2.1
    · exact lv0.2.2.1
  · rcases (show b = 0 ∨ b = 1 ∨ b = 2 by omega) with rfl | rfl | rfl
    · exact lv0.1
    · exact lv0.2.1
    · exact lv0.2.2.2
  · rcases (show c = 0 ∨ c = 1 by omega) with rfl | rfl <;> rfl
  · show (match (if r = 0 then none else some r : Option Int) with | some n => n | none => 0) = r
    split
    · rename_i h
      split at h
      · cases h
      · cases h
        rfl
    · rename_i h
      split at h
      · rename_i z
        exact z.symm
      · cases h
def spRk : Sp := fun vs H Q _ => ∃ (p : Addr) (ns : Cells) (t : Int), vs = [.ref p] ∧ PenAt H p ns t ∧ ns.length ≤ 63 ∧ 0 ≤ t ∧ t ≤ 900000 ∧
  ∀ (kd : Kd) (l : Addr) (t' : Int) (H' : Hp), kd.ok = true → t ≤ t' → t' ≤ t + 5 → PenAt H' p ns t' → But p H H' → H l = none → H' l = some (.lst ((lrow kd).map V.int)) → Q (.ref l) H'
theorem pen_fresh {H : Hp} {p q : Addr} {ns : Cells} {t : Int} (pen : PenAt H p ns t) (n : H q = none) : q ≠ p := fun z => by
  obtain ⟨_, hp, _⟩ := pen
  rw [z, hp] at n
  cases n
theorem new_but {H H' : Hp} {p l : Addr} {ns : Cells} {t : Int} (pen : PenAt H' p ns t) (b : But p H H') (n : H' l = none) : H l = none := by
  cases h : H l with
  | none => rfl
  | some o =>
    by_cases e : l = p
    · obtain ⟨_, hp, _⟩ := pen
      rw [e, hp] at n
      cases n
    · rw [b l o e h] at n
      cases n
section
variable {P : Program} {w : World} {K : W.Frag} {mg : Str → Option Value} {base : Heap} {f fT C CE aL aT : Addr} {fd dT : FuncData} {mc : Value}
theorem ok_ranksL (B : Bt mg) (D : Fn0 P w K mg base "_law_take" 1 fT dT p_law_take spTake) (F : FnP K "_law_ranks" s_law_ranks f fd) : FnOk P w K mg base CX0 2 f fd p_law_ranks spRk := by
  refine F.ok sc_law_ranks (fun vs H Q E h => ?_) (fun cdv A outer s H vs Q E hr h => ?_)
  · obtain ⟨p, ns, t, rfl, _⟩ := h
    rfl
  · obtain ⟨p, ns, t, rfl, pen, hn, t0, t1, k⟩ := h
    have nd := sc_law_ranks.nd
    refine ⟨_, PSs.nox (pss_cons (ps_set (i := 1) nd rfl (Or.inl rfl) (pe_ix ix_list (pe_lst (pa_cons pe_int (pa_cons pe_int (pa_cons pe_int (pa_cons (pe_op op_pow pe_int pe_int) (pa_cons (pe_op op_add pe_int (pe_call D.ok hr (by rfl) D.m D.k D.b .nil pass0 (pa_cons (pv 0) (pa_cons (pe_op op_sub (pe_op op_pow pe_int pe_int) pe_int) pa_nil)))) pa_nil))))))
        (pe_call D.ok hr (by rfl) D.m D.k D.b .nil pass0 (pa_cons (pv 0) (pa_cons pe_int pa_nil))) (fun _ _ => rfl)))
      (pss_one (ps_ret (pe_lst (pa_cons (pe_call D.ok hr (by rfl) D.m D.k D.b .nil pass0 (pa_cons (pv 0) (pa_cons pe_int pa_nil))) (pa_cons (pe_call D.ok hr (by rfl) D.m D.k D.b .nil pass0 (pa_cons (pv 0) (pa_cons pe_int pa_nil))) (pa_cons (pe_call D.ok hr (by rfl) D.m D.k D.b .nil pass0 (pa_cons (pv 0) (pa_cons pe_int pa_nil))) (pa_cons (pv 1) pa_nil)))))))), ?_⟩
    refine ⟨_, _, rfl, rfl, ⟨by decide, by decide, by decide⟩, _, rfl, _, _, rfl, rfl, ⟨by decide, by decide, by decide⟩, _, _, rfl, rfl, p, 999999, ns, t, rfl, pen, hn, t0, by omega, by decide, by decide, fun d u H1 d0 d1 u0 u1 pen1 but1 => ?_⟩
    refine ⟨_, _, rfl, rfl, (by show 5 ≤ sizeLine; decide), fun q1 n1 => ?_⟩
    have np1 := pen_fresh pen1 n1
    refine ⟨_, rfl, p, 5, ns, u, rfl, pen_mono (Ex.new n1) pen1, hn, by omega, by omega, by decide, by decide, fun e u2 H2 e0 e1 v0 v1 pen2 but2 => ?_⟩
    obtain ⟨r, hr7, ar⟩ : ∃ r, (r = 0 ∨ inRest r = true) ∧ atI [V.int 0, V.int 2, V.int 3, V.int (10 ^ Int.toNat 6), V.int (2 + d)] e = some (.int r) := by
      rcases (show e = 0 ∨ e = 1 ∨ e = 2 ∨ e = 3 ∨ e = 4 by omega) with rfl | rfl | rfl | rfl | rfl
      · exact ⟨0, .inl rfl, atI_nat (j := 0) rfl⟩
      · exact ⟨2, .inr (by decide), atI_nat (j := 1) rfl⟩
      · exact ⟨3, .inr (by decide), atI_nat (j := 2) rfl⟩
      · exact ⟨10 ^ Int.toNat 6, .inr (by decide +kernel), atI_nat (j := 3) rfl⟩
      · refine ⟨2 + d, .inr ?_, atI_nat (j := 4) rfl⟩
        unfold inRest
        rw [decide_eq_true (show 2 ≤ 2 + d by omega), decide_eq_true (show 2 + d ≤ 1000000 by omega)]
        rfl
    refine ⟨q1, _, e, .int r, rfl, rfl, SqL.of (but2 q1 _ np1 upd_same), ar, ?_⟩
    have b2 : But p H H2 := (but1.trans (but_ex (Ex.new n1))).trans but2
    refine ⟨_, rfl, p, 3, ns, u2, rfl, pen2, hn, by omega, by omega, by decide, by decide, fun a u3 H3 a0 a1 w0 w1 pen3 but3 => ?_⟩
    refine ⟨_, rfl, p, 3, ns, u3, rfl, pen3, hn, by omega, by omega, by decide, by decide, fun b u4 H4 b0 b1 x0 x1 pen4 but4 => ?_⟩
    refine ⟨_, rfl, p, 2, ns, u4, rfl, pen4, hn, by omega, by omega, by decide, by decide, fun c u5 H5 c0 c1 y0 y1 pen5 but5 => ?_⟩
    refine ⟨_, rfl, (by show 4 ≤ sizeLine; decide), fun q2 n2 => ?_⟩
    have b5 : But p H H5 := ((b2.trans but3).trans but4).trans but5
    refine k (kdI a b c r) q2 u5 _ (kdI_ok hr7) (by omega) (by omega) (pen_mono (Ex.new n2) pen5) (b5.trans (but_ex (Ex.new n2))) (new_but pen5 b5 n2) ?_
    rw [kdI_row a0 a1 b0 b1 c0 c1]
    exact upd_same
end
end L2.M1
set_option maxRecDepth 100000
set_option maxHeartbeats 4000000
namespace L2.M1
open PySem PySem.Spec PyProof.Rows L2 Mx L2.Mb Evl Mv TL
/-- how a kind is made by other keywords -/
structure KX (K : W.Frag) (dK : FuncData) : Prop where
  t : ∃ g gV, KBn K dK ["self", "lends", "lets", "turns", "rests"] 3 ["turns"] g gV ∧ ∀ a b c d : V, gV [a, b, c] [d] = [a, b, c, d, .non]
  r : ∃ g gV, KBn K dK ["self", "lends", "lets", "turns", "rests"] 3 ["rests"] g gV ∧ ∀ a b c d : V, gV [a, b, c] [d] = [a, b, c, .bl false, d]
  x : ∃ g gV, KBn K dK ["self", "lends", "lets", "turns", "rests"] 1 ["rests", "lets", "turns", "lends"] g gV ∧ ∀ a r t u l : V, gV [a] [r, t, u, l] = [a, l, t, u, r]
  n : ∃ ds, Vals [.bl false, .non] ds ∧ Binds K dK ["self", "lends", "lets", "turns", "rests"] ds
abbrev partsV (k : Kd) : List V := [.str k.le, .str k.lt, .bl k.tu, optV k.re]
def spLK (C : Addr) : Sp := fun vs H Q _ => ∃ (p : Addr) (kd : Kd), vs = [.ref p] ∧ kd.ok = true ∧ H p = some (.lst ((lrow kd).map V.int)) ∧ ∀ b H', Ex H H' → KAt C H' b kd → Q (.ref b) H'
def spParts (C : Addr) : Sp := fun vs H Q _ => ∃ (a : Addr) (kd : Kd), vs = [.ref a] ∧ KAt C H a kd ∧ ∀ p H', H p = none → Ex H H' → H' p = some (.lst (partsV kd)) → Q (.ref p) H'
section
variable {P : Program} {w : World} {K : W.Frag} {mg : Str → Option Value} {base : Heap} {f fK C CE aL aT : Addr} {fd dK : FuncData} {mc : Value}
theorem e_makeT {σ : L2.St} {H : Hp} {ta tk : TA} {gV : List V → List V → List V} {E : XK} {kd : Kd} (hg : ∀ a b c d : V, gV [a, b, c] [d] = [a, b, c, d, .non]) (h1 : EvA ta σ H [.str kd.le, .str kd.lt]) (h2 : EvA tk σ H [.bl kd.tu]) (hr : kd.re = none) (ok : kd.ok = true) :
    ∀ H1, Ex H H1 → ∀ Q : VK, (∀ a H2, Ex H1 H2 → KAt C H2 a kd → Q (.ref a) H2) → tMakeK C 2 1 (spInit C CE) gV E ta tk σ H1 Q := fun H1 e Q q => h1 H1 e _ fun H2 e2 => h2 H2 (e.trans e2) _ fun H3 e3 => ⟨rfl, rfl, fun x dx hx hd ne => by
    rw [hg]
    have z := sp_made (C := C) (CE := CE) (E := E) (Q := Q) (dx := dx) ok hx hd fun H4 e4 ha => q x H4 ((e2.trans e3).trans e4) ha
    rw [hr] at z
    exact z⟩
theorem e_makeR {σ : L2.St} {H : Hp} {ta tk : TA} {gV : List V → List V → List V} {E : XK} {kd : Kd} (hg : ∀ a b c d : V, gV [a, b, c] [d] = [a, b, c, .bl false, d]) (h1 : EvA ta σ H [.str kd.le, .str kd.lt]) (h2 : EvA tk σ H [optV kd.re]) (hr : kd.tu = false) (ok : kd.ok = true) :
    ∀ H1, Ex H H1 → ∀ Q : VK, (∀ a H2, Ex H1 H2 → KAt C H2 a kd → Q (.ref a) H2) → tMakeK C 2 1 (spInit C CE) gV E ta tk σ H1 Q := fun H1 e Q q => h1 H1 e _ fun H2 e2 => h2 H2 (e.trans e2) _ fun H3 e3 => ⟨rfl, rfl, fun x dx hx hd ne => by
    rw [hg]
    have z := sp_made (C := C) (CE := CE) (E := E) (Q := Q) (dx := dx) ok hx hd fun H4 e4 ha => q x H4 ((e2.trans e3).trans e4) ha
    rw [hr] at z
    exact z⟩
theorem ok_lkind {g : List Value → List Value → List Value} {gV : List V → List V → List V} (T : KF K mg C mc aL aT) (M : KM P w K mg base C CE fK dK g gV) (X : KX K dK) (F : FnP K "_law_kind" s_law_kind f fd) : FnOk P w K mg base CX0 5 f fd p_law_kind (spLK C) := by
  refine F.ok sc_law_kind (fun vs H Q E h => ?_) (fun cdv A outer s H vs Q E hr h => ?_)
  · obtain ⟨p, kd, rfl, _⟩ := h
    rfl
  · obtain ⟨p, kd, rfl, hok, hp, k⟩ := h
    have nd := sc_law_kind.nd
    obtain ⟨g1, gV1, kb1, gv1⟩ := X.t
    refine ⟨_, PSs.nox (pss_cons (ps_set (i := 1) nd rfl (Or.inl rfl) (pe_ix ix_list (pe_lst (pa_cons pe_str (pa_cons pe_str (pa_cons pe_str pa_nil)))) (pe_ix ix_list (pv 0) pe_int (fun _ _ => rfl)) (fun _ _ => rfl)))
      (pss_cons (ps_set (i := 2) nd rfl (Or.inl rfl) (pe_ix ix_list (pe_lst (pa_cons pe_str (pa_cons pe_str (pa_cons pe_str pa_nil)))) (pe_ix ix_list (pv 0) pe_int (fun _ _ => rfl)) (fun _ _ => rfl)))
      (pss_cons (ps_if (pt_cmpR op_eq (pe_ix ix_list (pv 0) pe_int (fun _ _ => rfl)) pe_int (nomark _)) (pss_one (ps_ret (pe_makeK (E := fun _ _ _ => False) M.made M.ok hr (by rfl) T.m kb1 passF (pa_cons (pv 1) (pa_cons (pv 2) pa_nil)) (pk_cons (pe_cmpR op_eq (pe_ix ix_list (pv 0) pe_int (fun _ _ => rfl)) pe_int (nomark _)) pk_nil)))) pss_nil)
      (pss_one (ps_ret (pe_makeK (E := fun _ _ _ => False) M.made M.ok hr (by rfl) T.m M.kb passF (pa_cons (pv 1) (pa_cons (pv 2) pa_nil)) (pk_cons (pe_cmpR op_eq (pe_ix ix_list (pv 0) pe_int (fun _ _ => rfl)) pe_int (nomark _)) (pk_cons (pe_ix ix_list (pv 0) pe_int (fun _ _ => rfl)) pk_nil)))))))), ?_⟩
    have o3 := (ok_parts hok).2.2
    have row : ∀ {σ : L2.St} {H1 : Hp} (j : Nat) (v : Int), σ[0]? = some (some (.ref p)) → Ex H H1 → ((lrow kd).map V.int)[j]? = some (.int v) → Ev (tOp (rIxL K) (tVar 0) (tC (.int (j : Int)))) σ H1 (.int v) := fun j v hs e hv => ev_op (ev_var hs) ev_c (rv_ixL (sq_of (e _ _ hp)) (atI_nat hv))
    refine q_asg (v := .str kd.le) (ev_opL1 (xs := lendL.map V.str) (y := .int (looseV kd.le)) (el_lst (ea_cons ev_c (ea_cons ev_c (ea_cons ev_c ea_nil))) (by show 3 ≤ 100000; decide)) (fun H1 e => row 0 _ rfl e rfl) (fun q H1 hq e => rv_ixL (sq_of hq) (le_at hok))) fun H1 e1 => ?_
    refine q_asg (v := .str kd.lt) (ev_opL1 (xs := letL.map V.str) (y := .int (looseV kd.lt)) (el_lst (ea_cons ev_c (ea_cons ev_c (ea_cons ev_c ea_nil))) (by show 3 ≤ 100000; decide)) (fun H2 e => row 1 _ rfl (e1.trans e) rfl) (fun q H2 hq e => rv_ixL (sq_of hq) (lt_at hok))) fun H2 e2 => ?_
    have e12 := e1.trans e2
    have tuE : ∀ {σ : L2.St} {H3 : Hp}, σ[0]? = some (some (.ref p)) → Ex H H3 → Ev (tOp rEq (tOp (rIxL K) (tVar 0) (tC (.int 2))) (tC (.int 1))) σ H3 (.bl kd.tu) := fun hs e => ev_is (ev_op (row 2 (if kd.tu = true then 1 else 0) hs e rfl) ev_c (rv_eq rfl)) (by cases kd.tu <;> rfl)
    refine q_when (b := kd.re.isNone) (et_test (ev_is (ev_op (row 3 (match kd.re with | some n => n | none => 0) rfl e12 rfl) ev_c (rv_eq rfl)) (congrArg V.bl (by
      cases hre : kd.re with
      | none => rfl
      | some n =>
        rw [hre] at o3
        have o4 : inRest n = true := o3
        unfold inRest at o4
        simp only [Bool.and_eq_true, decide_eq_true_eq] at o4
        refine decide_eq_false fun z => ?_
        have z2 : n = 0 := V.int.inj z
        omega)))) (fun h H3 e3 => ?_) (fun h H3 e3 => ?_)
    · refine e_makeT (CE := CE) gv1 (ea_cons (ev_var rfl) (ea_cons (ev_var rfl) ea_nil)) (ea_cons (tuE rfl (e12.trans e3)) ea_nil) (by cases hre : kd.re with | none => rfl | some n => rw [hre] at h; cases h) hok H3 (Ex.refl H3) _ fun a H4 e4 ha => k a H4 ((e12.trans e3).trans e4) ha
    · refine e_make (CE := CE) M.gv (ea_cons (ev_var rfl) (ea_cons (ev_var rfl) ea_nil)) (ea_cons (tuE rfl (e12.trans e3)) (ea_cons (ev_is (row 3 (match kd.re with | some n => n | none => 0) rfl (e12.trans e3) rfl) (by cases hre : kd.re with | some n => rfl | none => rw [hre] at h; cases h)) ea_nil)) hok H3 (Ex.refl H3) _ fun a H4 e4 ha => k a H4 ((e12.trans e3).trans e4) ha
theorem ok_parts' (T : KF K mg C mc aL aT) (pL : KP P w K mg base C "lends" fun k => .str k.le) (pT : KP P w K mg base C "lets" fun k => .str k.lt) (pU : KP P w K mg base C "turns" fun k => .bl k.tu) (pR : KP P w K mg base C "rests" fun k => optV k.re)
    (F : FnP K "_law_parts" s_law_parts f fd) : FnOk P w K mg base CX0 3 f fd p_law_parts (spParts C) := by
  refine F.ok sc_law_parts (fun vs H Q E h => ?_) (fun cdv A outer s H vs Q E hr h => ?_)
  · obtain ⟨a, kd, rfl, _⟩ := h
    rfl
  · obtain ⟨a, kd, rfl, ha, k⟩ := h
    refine ⟨_, PSs.nox (pss_one (ps_ret (pe_lst (pa_cons (pe_pr T pL hr (pv 0)) (pa_cons (pe_pr T pT hr (pv 0)) (pa_cons (pe_pr T pU hr (pv 0)) (pa_cons (pe_pr T pR hr (pv 0)) pa_nil))))))), ?_⟩
    exact s_retL (xs := partsV kd) (el_lst (ea_cons (ev_pr (v := fun k => .str k.le) (ev_var rfl) ha) (ea_cons (ev_pr (v := fun k => .str k.lt) (ev_var rfl) ha) (ea_cons (ev_pr (v := fun k => .bl k.tu) (ev_var rfl) ha) (ea_cons (ev_pr (v := fun k => optV k.re) (ev_var rfl) ha) ea_nil)))) (by show 4 ≤ 100000; decide)) fun p H1 np e1 hp => k p H1 np e1 hp
end
end L2.M1
set_option maxRecDepth 100000
set_option maxHeartbeats 4000000
namespace L2.M1
open PySem PySem.Spec PyProof.Rows L2 Mx L2.Mb Evl Mv TL
section
variable {K : W.Frag} {σ : L2.St} {H : Hp} {ta tb : TE}
theorem el_catLL {xs ys : List V} (h1 : EvL ta σ H xs) (h2 : EvL tb σ H ys) (hz : xs.length + ys.length ≤ 100000) : EvL (tOp rCat ta tb) σ H (xs ++ ys) := fun H1 e Q q => h1 H1 e _ fun p H2 np e2 hp => h2 H2 (e.trans e2) _ fun r H3 nr e3 hr =>
  ⟨p, r, xs, ys, rfl, rfl, e3 _ _ hp, hr, sz_of hz, fun s hs => q s _ (fresh_back (e2.trans e3) hs) ((e2.trans e3).trans (Ex.new hs)) upd_same⟩
end
theorem rowAt {x : Kd} {p : Addr} {H : Hp} {K : W.Frag} (hp : H p = some (.lst ((lrow x).map V.int))) {σ : L2.St} {H1 : Hp} {i : Nat} {te : TE} {j : Nat} (hs : σ[i]? = some (some (.ref p))) (e : Ex H H1) (hi : Ev te σ H1 (.int (j : Int))) (hj : j < 4) :
    Ev (tOp (rIxL K) (tVar i) te) σ H1 (.int ((lrow x).getD j 0)) := by
  refine ev_op (ev_var hs) hi (rv_ixL (sq_of (e _ _ hp)) (atI_nat ?_))
  have hl : (lrow x).length = 4 := rfl
  rw [List.getElem?_map, List.getElem?_eq_getElem (by omega), List.getD_eq_getElem?_getD, List.getElem?_eq_getElem (by omega)]
  rfl
def reI : Option Int → Int
  | some n => n
  | none => 0
theorem jo_row {x y : Kd} : (List.range 3).map (fun i => mx ((lrow x).getD i 0) ((lrow y).getD i 0)) ++ [reI (jo x y).re] = lrow (jo x y) := by
  obtain ⟨l1, t1, u1, r1⟩ := x
  obtain ⟨l2, t2, u2, r2⟩ := y
  have e1 : ∀ (c : Prop) [Decidable c] (a b : Str), looseV (if c then a else b) = if c then looseV a else looseV b := fun c _ a b => by split <;> rfl
  refine cons2 (e1 _ _ _).symm (cons2 (e1 _ _ _).symm (cons2 ?_ (cons2 ?_ rfl)))
  · cases u1 <;> cases u2 <;> rfl
  · cases r1 <;> cases r2 <;> rfl
theorem me_row {x y : Kd} : (List.range 3).map (fun i => mn ((lrow x).getD i 0) ((lrow y).getD i 0)) ++ [reI (me x y).re] = lrow (me x y) := by
  obtain ⟨l1, t1, u1, r1⟩ := x
  obtain ⟨l2, t2, u2, r2⟩ := y
  have e1 : ∀ (c : Prop) [Decidable c] (a b : Str), looseV (if c then a else b) = if c then looseV a else looseV b := fun c _ a b => by split <;> rfl
  refine cons2 (e1 _ _ _).symm (cons2 (e1 _ _ _).symm (cons2 ?_ (cons2 ?_ rfl)))
  · cases u1 <;> cases u2 <;> rfl
  · cases r1 <;> cases r2 <;> rfl
def spJ (j : Kd → Kd → Kd) : Sp := fun vs H Q _ => ∃ (p q : Addr) (x y : Kd), vs = [.ref p, .ref q] ∧ x.ok = true ∧ y.ok = true ∧ H p = some (.lst ((lrow x).map V.int)) ∧ H q = some (.lst ((lrow y).map V.int)) ∧
  ∀ l H', H l = none → Ex H H' → H' l = some (.lst ((lrow (j x y)).map V.int)) → Q (.ref l) H'
def spIsW : Sp := fun vs H Q _ => ∃ (p q : Addr) (x y : Kd), vs = [.ref p, .ref q] ∧ x.ok = true ∧ y.ok = true ∧ H p = some (.lst ((lrow x).map V.int)) ∧ H q = some (.lst ((lrow y).map V.int)) ∧ ∀ H', Ex H H' → Q (.bl (wi x y)) H'
theorem re_pos {k : Kd} (h : k.ok = true) {n : Int} (e : k.re = some n) : 2 ≤ n ∧ n ≤ 1000000 := by
  obtain ⟨_, _, h3⟩ := ok_parts h
  rw [e] at h3
  have h4 : inRest n = true := h3
  unfold inRest at h4
  simp only [Bool.and_eq_true, decide_eq_true_eq] at h4
  exact h4
section
variable {P : Program} {w : World} {K : W.Frag} {mg : Str → Option Value} {base : Heap} {f : Addr} {fd : FuncData}
theorem ok_looser (B : Bt mg) (F : FnP K "_law_looser" s_law_looser f fd) : FnOk P w K mg base CX0 1 f fd p_law_looser (spJ jo) := by
  refine F.ok sc_law_looser (fun vs H Q E h => ?_) (fun cdv A outer s H vs Q E hr h => ?_)
  · obtain ⟨p, q, x, y, rfl, _⟩ := h
    rfl
  · obtain ⟨p, q, x, y, rfl, hx, hy, hp, hq, k⟩ := h
    have nd := sc_law_looser.nd
    refine ⟨_, PSs.nox (pss_cons (ps_set (i := 2) nd rfl (Or.inl rfl) pe_int)
      (Evl.pss_cut (ps_if (pw_and (pt_cmpR op_ne (pe_ix ix_list (pv 0) pe_int (fun _ _ => rfl)) pe_int (nomark _)) (pw_and1 (pt_cmpR op_ne (pe_ix ix_list (pv 1) pe_int (fun _ _ => rfl)) pe_int (nomark _)))).pt (pss_one (ps_set (i := 2) nd rfl (Or.inl rfl) (pe_callB (call_max2 rfl) (by rfl) B.max (by decide +kernel) (pa_cons (pe_ix ix_list (pv 0) pe_int (fun _ _ => rfl)) (pa_cons (pe_ix ix_list (pv 1) pe_int (fun _ _ => rfl)) pa_nil))))) pss_nil)
      (pss_one (ps_ret (pe_op op_cat (pe_lc (own := [("_law_k", 3)]) (g := gName 3) (tt := tYes) rfl nd (pi_range1 (by rfl) B.range (pa_cons pe_int pa_nil)) (blkOk_by (N := n_law_looser) (sc := defScope s_law_looser) (by decide +kernel)) (fun _ _ _ _ _ => pg_name (i := 3) nd rfl (Or.inl rfl)) (fun _ _ _ _ _ => pts_nil)
        (fun _ _ _ _ _ => pe_callB (call_max2 rfl) (by rfl) B.max (by decide +kernel) (pa_cons (pe_ix (by exact ix_list : IxR _ (rIxL K)) (pv 0) (pv 3) (fun _ _ => rfl)) (pa_cons (pe_ix (by exact ix_list : IxR _ (rIxL K)) (pv 1) (pv 3) (fun _ _ => rfl)) pa_nil)))) (pe_lst (pa_cons (pv 2) pa_nil))))))), ?_⟩
    refine q_asg ev_c fun H1 e1 => ?_
    refine q_cut (M := fun σ' H' => σ' = [some (.ref p), some (.ref q), some (.int (reI (jo x y).re)), none] ∧ Ex H H') ?_ ?_
    · have n3 : ∀ {z : Kd}, z.ok = true → (!decide (V.int ((lrow z).getD 3 0) = V.int 0)) = z.re.isSome := fun {z} hz => by
        have e : (lrow z).getD 3 0 = reI z.re := by
          obtain ⟨a, b, c, r⟩ := z
          cases r <;> rfl
        rw [e]
        cases hre : z.re with
        | none => rfl
        | some n =>
          have := re_pos hz hre
          show (!decide (V.int n = V.int 0)) = true
          rw [decide_eq_false (fun z => by
            have z2 : n = 0 := V.int.inj z
            omega)]
          rfl
      have r3 : ∀ {z : Kd}, (lrow z).getD 3 0 = reI z.re := fun {z} => by
        obtain ⟨a, b, c, r⟩ := z
        cases r <;> rfl
      refine s_if (b := x.re.isSome && y.re.isSome) (et_and (et_test (ev_is (ev_op (rowAt (j := 3) hp rfl e1 ev_c (by decide)) ev_c (rv_ne rfl)) (by rw [n3 hx]))) (fun _ => et_test (ev_is (ev_op (rowAt (j := 3) hq rfl e1 ev_c (by decide)) ev_c (rv_ne rfl)) (by rw [n3 hy])))) (fun h H2 e2 => ?_) (fun h H2 e2 => ⟨?_, e1.trans e2⟩)
      · refine s_asg (v := .int (reI (jo x y).re)) (ev_is (ev_cb (ea_cons (rowAt (j := 3) hp rfl (e1.trans e2) ev_c (by decide)) (ea_cons (rowAt (j := 3) hq rfl (e1.trans e2) ev_c (by decide)) ea_nil)) (fun H3 _ Q q => ⟨_, _, rfl, q H3 (Ex.refl H3)⟩)) ?_) fun H3 e3 => ⟨rfl, (e1.trans e2).trans e3⟩
        rw [r3, r3]
        obtain ⟨a, b, c, r⟩ := x
        obtain ⟨a', b', c', r'⟩ := y
        cases r <;> cases r' <;> first | rfl | cases h
      · obtain ⟨a, b, c, r⟩ := x
        obtain ⟨a', b', c', r'⟩ := y
        cases r <;> cases r' <;> first | rfl | cases h
    rintro σ' H2 ⟨rfl, e2⟩
    have w := el_catLL (el_lcR1 (σ := [some (.ref p), some (.ref q), some (.int (reI (jo x y).re)), none]) (H := H2) (ta := tCons (tC (.int 3)) tNil) (t := tYes) (te := tCB (fun xs H Q => ∃ i j, xs = [V.int i, V.int j] ∧ Q (.int (if j > i then j else i)) H) (tCons (tOp (rIxL K) (tVar 0) (tVar 3)) (tCons (tOp (rIxL K) (tVar 1) (tVar 3)) tNil))) (j := 3) (vs := [3]) (fun _ => true) (fun i => .int (mx ((lrow x).getD i 0) ((lrow y).getD i 0))) (ea_cons ev_c ea_nil) (by decide) (fun _ => rfl) (fun i H3 _ _ H4 _ Q q => q H4 (Ex.refl H4))
      (fun i H3 e3 hi _ => ev_cb (ea_cons (rowAt (j := i) hp rfl (e2.trans e3) (ev_var rfl) (by omega)) (ea_cons (rowAt (j := i) hq rfl (e2.trans e3) (ev_var rfl) (by omega)) ea_nil)) (fun H4 _ Q q => ⟨_, _, rfl, q H4 (Ex.refl H4)⟩)))
      (el_lst (ta := tCons (tVar 2) tNil) (vs := [.int (reI (jo x y).re)]) (ea_cons (ev_var rfl) ea_nil) (by show 1 ≤ 100000; decide)) (by rw [given_map fun _ => rfl]; show 3 + 1 ≤ 100000; decide)
    rw [given_map fun _ => rfl] at w
    refine s_retL (xs := (lrow (jo x y)).map V.int) ?_ fun l H3 nl e3 hl => k l H3 (fresh_back e2 nl) (e2.trans e3) hl
    rw [← jo_row, List.map_append, List.map_map]
    exact w
end
end L2.M1
set_option maxRecDepth 100000
set_option maxHeartbeats 4000000
namespace L2.M1
open PySem PySem.Spec PyProof.Rows L2 Mx L2.Mb Evl Mv TL
theorem rv_neI2 {K : W.Frag} {H : Hp} {r q : Addr} {l m : List Int} (hr : SqL K H r (l.map V.int)) (hq : SqL K H q (m.map V.int)) : RV (rNeD K) (.ref r) (.ref q) H (.bl (!decide (l = m))) := fun H1 e Q k => by
  refine ⟨_, _, .lst (ex_l e hr) (dp_is l), .lst (ex_l e hq) (dp_is m), is_shaped l, is_shaped m, ?_⟩
  have z : PyData.eqv (.list (l.map PyData.int)) (.list (m.map PyData.int)) = decide (l = m) := by simp only [PyData.eqv, eqv_ints]
  rw [z]
  exact k H1 (Ex.refl H1)
theorem row3 (z : Kd) : (lrow z).getD 3 0 = reI z.re := by
  obtain ⟨a, b, c, r⟩ := z
  cases r <;> rfl
theorem row3_nz {z : Kd} (hz : z.ok = true) : (!decide (V.int (reI z.re) = V.int 0)) = z.re.isSome := by
  cases hre : z.re with
  | none => rfl
  | some n =>
    have := re_pos hz hre
    show (!decide (V.int n = V.int 0)) = true
    rw [decide_eq_false (fun z => by
      have z2 : n = 0 := V.int.inj z
      omega)]
    rfl
def nzL (x y : Kd) : List Int := match x.re, y.re with
  | none, none => []
  | some a, none => [a]
  | none, some b => [b]
  | some a, some b => [a, b]
def leastR (x y : Kd) : Int := match x.re, y.re with
  | none, none => 10000000
  | some a, none => a
  | none, some b => b
  | some a, some b => mn a b
theorem least_is {x y : Kd} (hx : x.ok = true) (hy : y.ok = true) {m : Int} (h1 : m ∈ nzL x y ++ [10000000]) (h2 : ∀ z ∈ nzL x y ++ [10000000], m ≤ z) : m = leastR x y := by
  unfold nzL at h1 h2
  unfold leastR
  cases e1 : x.re with
  | none =>
    cases e2 : y.re with
    | none =>
      rw [e1, e2] at h1
      simpa using h1
    | some b =>
      have p2 := re_pos hy e2
      rw [e1, e2] at h1 h2
      simp at h1 h2
      show m = b
      omega
  | some a =>
    have p1 := re_pos hx e1
    cases e2 : y.re with
    | none =>
      rw [e1, e2] at h1 h2
      simp at h1 h2
      show m = a
      omega
    | some b =>
      have p2 := re_pos hy e2
      rw [e1, e2] at h1 h2
      simp at h1 h2
      show m = (if b < a then b else a)
      split <;> omega
theorem least_mul {x y : Kd} : leastR x y * (if (!decide (nzL x y = [])) = true then 1 else 0) = reI (me x y).re := by
  obtain ⟨l1, t1, u1, r1⟩ := x
  obtain ⟨l2, t2, u2, r2⟩ := y
  cases r1 <;> cases r2 <;> simp [leastR, nzL, me, reI, mn]
theorem rank_lt {x : Kd} {i : Nat} (h : i < 3) : x.ranks.getD i 0 = (lrow x).getD i 0 := by
  rcases (show i = 0 ∨ i = 1 ∨ i = 2 by omega) with rfl | rfl | rfl <;> rfl
theorem wi_eq {x y : Kd} (hx : x.ok = true) (hy : y.ok = true) : wi x y = (decide (((List.range 3).filter fun i => decide ((lrow x).getD i 0 > (lrow y).getD i 0)) = []) && (decide (V.int (reI y.re) = V.int 0) || (decide (0 < reI x.re) && decide (reI x.re ≤ reI y.re)))) := by
  have e1 : (decide (((List.range 3).filter fun i => decide ((lrow x).getD i 0 > (lrow y).getD i 0)) = [])) = (List.range 3).all fun i => decide (x.ranks.getD i 0 ≤ y.ranks.getD i 0) := by
    rw [Bool.eq_iff_iff, decide_eq_true_iff, List.filter_eq_nil_iff, List.all_eq_true]
    refine forall_congr' fun i => forall_congr' fun hi => ?_
    have hi3 : i < 3 := List.mem_range.mp hi
    rw [rank_lt hi3, rank_lt hi3]
    simp
  have e2 : (decide (V.int (reI y.re) = V.int 0) || (decide (0 < reI x.re) && decide (reI x.re ≤ reI y.re))) = decide (x.ranks.getD 3 0 ≤ y.ranks.getD 3 0) := by
    obtain ⟨l1, t1, u1, r1⟩ := x
    obtain ⟨l2, t2, u2, r2⟩ := y
    cases r2 with
    | none =>
      cases r1 with
      | none => rfl
      | some n =>
        have p := re_pos hx rfl
        show true = decide (n ≤ 1000001)
        exact (decide_eq_true (by omega)).symm
    | some m =>
      have q := re_pos hy rfl
      have nm : decide (V.int m = V.int 0) = false := decide_eq_false fun z => by
        have z2 : m = 0 := V.int.inj z
        omega
      cases r1 with
      | none =>
        show (decide (V.int m = V.int 0) || (decide ((0 : Int) < 0) && decide ((0 : Int) ≤ m))) = decide (1000001 ≤ m)
        rw [nm, decide_eq_false (show ¬ 1000001 ≤ m by omega)]
        rfl
      | some n =>
        have p := re_pos hx rfl
        show (decide (V.int m = V.int 0) || (decide (0 < n) && decide (n ≤ m))) = decide (n ≤ m)
        rw [nm, decide_eq_true (show 0 < n by omega)]
        rfl
  rw [e1, e2]
  unfold wi
  show ((List.range 4).all _) = _
  rw [show List.range 4 = List.range 3 ++ [3] from rfl, List.all_append]
  simp
section
variable {P : Program} {w : World} {K : W.Frag} {mg : Str → Option Value} {base : Heap} {f : Addr} {fd : FuncData}
theorem ok_stricter (B : Bt mg) (F : FnP K "_law_stricter" s_law_stricter f fd) : FnOk P w K mg base CX0 1 f fd p_law_stricter (spJ me) := by
  refine F.ok sc_law_stricter (fun vs H Q E h => ?_) (fun cdv A outer s H vs Q E hr h => ?_)
  · obtain ⟨p, q, x, y, rfl, _⟩ := h
    rfl
  · obtain ⟨p, q, x, y, rfl, hx, hy, hp, hq, k⟩ := h
    have nd := sc_law_stricter.nd
    have hu := hr.units
    refine ⟨_, PSs.nox (pss_cons (ps_setLc (i := 2) (own := [("_law_rest", 3)]) (g := gName 3) (by rfl) nd rfl rfl (sw_true rfl rfl rfl (by decide +kernel)) (pi_tup (pe_tup (pa_cons (pe_ix ix_list (pv 0) pe_int (fun _ _ => rfl)) (pa_cons (pe_ix ix_list (pv 1) pe_int (fun _ _ => rfl)) pa_nil)))) (blkOk_by (N := n_law_stricter) (sc := defScope s_law_stricter) (by decide +kernel)) (fun _ _ _ _ _ => pg_name (i := 3) nd rfl (Or.inl rfl)) (fun _ _ _ _ _ => pts_one (pt_cmpR op_ne (pv 3) pe_int (nomark _))) (fun _ _ _ _ _ => pv 3))
      (pss_one (ps_ret (pe_op op_cat (pe_lc (own := [("_law_k", 4)]) (g := gName 4) (tt := tYes) rfl nd (pi_range1 (by rfl) B.range (pa_cons pe_int pa_nil)) (blkOk_by (N := n_law_stricter) (sc := defScope s_law_stricter) (by decide +kernel)) (fun _ _ _ _ _ => pg_name (i := 4) nd rfl (Or.inl rfl)) (fun _ _ _ _ _ => pts_nil)
        (fun _ _ _ _ _ => pe_callB (call_min2 rfl) (by rfl) B.min (by decide +kernel) (pa_cons (pe_ix (by exact ix_list : IxR _ (rIxL K)) (pv 0) (pv 4) (fun _ _ => rfl)) (pa_cons (pe_ix (by exact ix_list : IxR _ (rIxL K)) (pv 1) (pv 4) (fun _ _ => rfl)) pa_nil)))) (pe_lst (pa_cons (pe_op op_mul (pe_callB (cr_min rfl) (by rfl) B.min (by decide +kernel) (pa_cons (pe_op op_cat (pv 2) (pe_lst (pa_cons (pe_op op_pow pe_int pe_int) pa_nil))) pa_nil))
          (pe_callTy call_int1 (by rfl) B.int (by decide +kernel) (pa_cons (pe_cmpR (op_neD hu) (pv 2) (pe_lst pa_nil) (nomark _)) pa_nil))) pa_nil)))))), ?_⟩
    have hg : given 2 (fun i => if i = 0 then x.re.isSome else y.re.isSome) (fun i => V.int (if i = 0 then reI x.re else reI y.re)) = (nzL x y).map V.int := by
      unfold nzL
      cases x.re <;> cases y.re <;> rfl
    have w := el_lcNT (K := K) (σ := [some (.ref p), some (.ref q), none, none, none]) (H := H) (t := tTest (tOp rNe (tVar 3) (tC (.int 0)))) (te := tVar 3) (tl := tTup (tCons (tOp (rIxL K) (tVar 0) (tC (.int 3))) (tCons (tOp (rIxL K) (tVar 1) (tC (.int 3))) tNil))) (j := 3) (vs := [3]) (xs := [.int (reI x.re), .int (reI y.re)])
      (fun i => if i = 0 then x.re.isSome else y.re.isSome) (fun i => V.int (if i = 0 then reI x.re else reI y.re)) (eu_tup (ea_cons (ev_is (rowAt (j := 3) hp rfl (Ex.refl H) ev_c (by decide)) (by rw [row3])) (ea_cons (ev_is (rowAt (j := 3) hq rfl (Ex.refl H) ev_c (by decide)) (by rw [row3])) ea_nil)) (by show 2 ≤ 100000; decide))
      (by show 2 ≤ 40000; decide) (fun _ => rfl) (fun i v H1 e1 hv => by
        rcases i with _ | _ | i
        · cases hv
          exact et_test (ev_is (ev_op (ev_var rfl) ev_c (rv_ne rfl)) (by rw [row3_nz hx]; rfl))
        · cases hv
          exact et_test (ev_is (ev_op (ev_var rfl) ev_c (rv_ne rfl)) (by rw [row3_nz hy]; rfl))
        · cases hv) (fun i v H1 e1 hv _ => by
        rcases i with _ | _ | i
        · cases hv
          exact ev_var rfl
        · cases hv
          exact ev_var rfl
        · cases hv)
    rw [show [V.int (reI x.re), V.int (reI y.re)].length = 2 from rfl, hg] at w
    refine q_asgL w fun l H1 nl e1 hl => ?_
    have wl := el_lcR1 (σ := [some (.ref p), some (.ref q), some (.ref l), none, none]) (H := H1) (ta := tCons (tC (.int 3)) tNil) (t := tYes) (te := tCB (fun xs H Q => ∃ i j, xs = [V.int i, V.int j] ∧ Q (.int (if j < i then j else i)) H) (tCons (tOp (rIxL K) (tVar 0) (tVar 4)) (tCons (tOp (rIxL K) (tVar 1) (tVar 4)) tNil))) (j := 4) (vs := [4]) (fun _ => true) (fun i => .int (mn ((lrow x).getD i 0) ((lrow y).getD i 0))) (ea_cons ev_c ea_nil) (by decide) (fun _ => rfl) (fun i H3 _ _ H4 _ Q q => q H4 (Ex.refl H4))
      (fun i H3 e3 hi _ => ev_cb (ea_cons (rowAt (j := i) hp rfl (e1.trans e3) (ev_var rfl) (by omega)) (ea_cons (rowAt (j := i) hq rfl (e1.trans e3) (ev_var rfl) (by omega)) ea_nil)) (fun H4 _ Q q => ⟨_, _, rfl, q H4 (Ex.refl H4)⟩))
    rw [given_map fun _ => rfl] at wl
    have lm : Ev (tCB (rMin K) (tCons (tOp rCat (tVar 2) (tLst (tCons (tOp (rI CPow fun i j => .int (i ^ j.toNat)) (tC (.int 10)) (tC (.int 7))) tNil))) tNil)) [some (.ref p), some (.ref q), some (.ref l), none, none] H1 (.int (leastR x y)) := fun H2 e2 Q q => by
      refine ⟨_, rfl, 10, 7, rfl, rfl, ⟨by decide, by decide, by decide⟩, (by show 1 ≤ sizeLine; decide), fun r nr => ?_⟩
      refine ⟨l, r, _, _, rfl, rfl, by rw [upd_ne (ne_of_none (e2 _ _ hl) nr)]; exact e2 _ _ hl, upd_same, sz_of (by rw [List.length_map]; unfold nzL; cases x.re <;> cases y.re <;> first | (show 0 + 1 ≤ 100000; decide) | (show 1 + 1 ≤ 100000; decide) | (show 2 + 1 ≤ 100000; decide)), fun r2 nr2 => ?_⟩
      refine ⟨r2, nzL x y ++ [10000000], rfl, SqL.of (upd_same.trans (by rw [List.map_append]; rfl)), by simp, fun m h1 h2 => ?_⟩
      rw [least_is hx hy h1 h2]
      exact q _ ((Ex.new nr).trans (Ex.new nr2))
    have lb : Ev (tCB (fun xs H Q => (∃ i, xs = [V.int i] ∧ Q (V.int i) H) ∨ ∃ k, xs = [V.bl k] ∧ Q (V.int (if k = true then 1 else 0)) H) (tCons (tOp (rNeD K) (tVar 2) (tLst tNil)) tNil)) [some (.ref p), some (.ref q), some (.ref l), none, none] H1 (.int (if (!decide (nzL x y = [])) = true then 1 else 0)) :=
      ev_cb (ea_cons (ev_opL (xs := []) (ev_var rfl) (el_lst ea_nil (by show 0 ≤ 100000; decide)) (fun r H2 hr e2 => rv_neI2 (m := []) (sq_of (e2 _ _ hl)) (sq_of hr))) ea_nil) (fun H2 _ Q q => .inr ⟨_, rfl, q H2 (Ex.refl H2)⟩)
    refine s_retL (xs := (lrow (me x y)).map V.int) ?_ fun r H3 nr e3 hr => k r H3 (fresh_back e1 nr) (e1.trans e3) hr
    rw [← me_row, List.map_append, List.map_map]
    exact el_catLL wl (el_lst (vs := [.int (reI (me x y).re)]) (ea_cons (ev_is (ev_op lm lb (rv_I (by right; split <;> decide))) (by rw [least_mul])) ea_nil) (by show 1 ≤ 100000; decide)) (by show 3 + 1 ≤ 100000; decide)
theorem ok_isw (B : Bt mg) (F : FnP K "_law_is_within" s_law_is_within f fd) : FnOk P w K mg base CX0 1 f fd p_law_is_within spIsW := by
  refine F.ok sc_law_is_within (fun vs H Q E h => ?_) (fun cdv A outer s H vs Q E hr h => ?_)
  · obtain ⟨p, q, x, y, rfl, _⟩ := h
    rfl
  · obtain ⟨p, q, x, y, rfl, hx, hy, hp, hq, k⟩ := h
    have nd := sc_law_is_within.nd
    have hu := hr.units
    refine ⟨_, PSs.nox (pss_cons (ps_if (pt_cmpR (op_neD hu) (pe_lc (own := [("_law_k", 2)]) (g := gName 2) rfl nd (pi_range1 (by rfl) B.range (pa_cons pe_int pa_nil)) (blkOk_by (N := n_law_is_within) (sc := defScope s_law_is_within) (by decide +kernel)) (fun _ _ _ _ _ => pg_name (i := 2) nd rfl (Or.inl rfl))
        (fun _ _ _ _ _ => pts_one (pt_cmpR op_gt (pe_ix (by exact ix_list : IxR _ (rIxL K)) (pv 0) (pv 2) (fun _ _ => rfl)) (pe_ix (by exact ix_list : IxR _ (rIxL K)) (pv 1) (pv 2) (fun _ _ => rfl)) (nomark _))) (fun _ _ _ _ _ => pv 2)) (pe_lst pa_nil) (nomark _)) (pss_one (ps_ret pe_bl)) pss_nil)
      (pss_one (ps_ret (pe_or (pe_cmpR op_eq (pe_ix ix_list (pv 1) pe_int (fun _ _ => rfl)) pe_int (nomark _)) (pe_one (pe_chain op_lt op_le pe_int (pe_ix ix_list (pv 0) pe_int (fun _ _ => rfl)) (pe_ix ix_list (pv 1) pe_int (fun _ _ => rfl)))))))), ?_⟩
    have wl := el_lcR1 (σ := [some (.ref p), some (.ref q), none]) (H := H) (ta := tCons (tC (.int 3)) tNil) (t := tTest (tOp (rI0 fun i j => .bl (decide (i > j))) (tOp (rIxL K) (tVar 0) (tVar 2)) (tOp (rIxL K) (tVar 1) (tVar 2)))) (te := tVar 2) (j := 2) (vs := [2]) (fun i => decide ((lrow x).getD i 0 > (lrow y).getD i 0)) (fun i => .int (i : Int)) (ea_cons ev_c ea_nil) (by decide) (fun _ => rfl)
      (fun i H3 e3 hi => et_test (ev_op (rowAt (j := i) hp rfl e3 (ev_var rfl) (by omega)) (rowAt (j := i) hq rfl e3 (ev_var rfl) (by omega)) rv_int)) (fun i H3 e3 hi _ => ev_var rfl)
    rw [show given (Int.toNat 3) (fun i => decide ((lrow x).getD i 0 > (lrow y).getD i 0)) (fun i => V.int (i : Int)) = (((List.range 3).filter fun i => decide ((lrow x).getD i 0 > (lrow y).getD i 0)).map fun i : Nat => (i : Int)).map V.int from by
      rw [List.map_map]
      rfl] at wl
    have hd : decide ((((List.range 3).filter fun i => decide ((lrow x).getD i 0 > (lrow y).getD i 0)).map fun i : Nat => (i : Int)) = []) = decide (((List.range 3).filter fun i => decide ((lrow x).getD i 0 > (lrow y).getD i 0)) = []) := by
      simp only [List.map_eq_nil_iff]
    have we := wi_eq hx hy
    refine q_when (b := !decide (((List.range 3).filter fun i => decide ((lrow x).getD i 0 > (lrow y).getD i 0)) = [])) (et_test (ev_is (ev_opLL wl (el_lst (vs := []) ea_nil (by show 0 ≤ 100000; decide)) (fun r q H1 hr hq e => rv_neI2 (m := []) (sq_of hr) (sq_of hq))) (by rw [hd]))) (fun h H1 e1 => ?_) (fun h H1 e1 => ?_)
    · refine s_ret ev_c fun H2 e2 => ?_
      have z : wi x y = false := by
        rw [we, show decide _ = false from by simpa using h]
        rfl
      have q := k H2 (e1.trans e2)
      rw [z] at q
      exact q
    · refine s_ret (v := .bl (wi x y)) (ev_is (ev_orV (a := decide (V.int (reI y.re) = V.int 0)) (b := decide (0 < reI x.re) && decide (reI x.re ≤ reI y.re)) (ev_is (ev_op (rowAt (j := 3) hq rfl e1 ev_c (by decide)) ev_c (rv_eq rfl)) (by rw [row3]))
        (fun _ => ev_is (ev_chain ev_c (rowAt (j := 3) hp rfl e1 ev_c (by decide)) rv_int (fun _ => rowAt (j := 3) hq rfl e1 ev_c (by decide)) (fun _ => rv_int)) (by rw [row3, row3]))) ?_) fun H2 e2 => k H2 (e1.trans e2)
      rw [Bool.not_eq_false'] at h
      rw [we, h, Bool.true_and]
end
end L2.M1
set_option maxRecDepth 100000
set_option maxHeartbeats 4000000
namespace L2.M1
open PySem PySem.Spec PyProof.Rows L2 Mx L2.Mb Evl Mv TL
/-! ### a kind's parts as data -/
def optD : Option Int → PyData
  | some n => .int n
  | none => .none
def partsD (k : Kd) : PyData := .list [.str k.le, .str k.lt, .bool k.tu, optD k.re]
section
variable {K : W.Frag} {H : Hp} {p q : Addr} {k : Kd}
theorem parts_dp (h : H p = some (.lst (partsV k))) : Dp K H (.ref p) (partsD k) := by
  refine .lst (sq_of h) (.cons (.str _) (.cons (.str _) (.cons (.bl _) (.cons ?_ .nil))))
  cases k.re with
  | none => exact .non
  | some n => exact .int n
theorem parts_dq (h : H p = some (.lst (partsV k))) : Dq K H (.ref p) (partsD k) := by
  refine .lst (sq_of h) (.cons (.str _) (.cons (.str _) (.cons (.bl _) (.cons ?_ .nil))))
  cases k.re with
  | none => exact .non
  | some n => exact .int n
theorem word_ok (h : k.ok = true) : PyData.strOk k.le = true ∧ PyData.strOk k.lt = true ∧ k.le.length ≤ 4 ∧ k.lt.length ≤ 4 := by
  obtain ⟨h1, h2, _⟩ := ok_parts h
  have m1 := List.contains_iff_mem.mp h1
  have m2 := List.contains_iff_mem.mp h2
  simp only [List.mem_cons, List.not_mem_nil, or_false] at m1 m2
  refine ⟨?_, ?_, ?_, ?_⟩
  · rcases m1 with e | e | e <;> rw [e] <;> decide +kernel
  · rcases m2 with e | e | e <;> rw [e] <;> decide +kernel
  · rcases m1 with e | e | e <;> rw [e] <;> decide +kernel
  · rcases m2 with e | e | e <;> rw [e] <;> decide +kernel
theorem parts_shaped (h : k.ok = true) : SeqAt.shaped (partsD k) = true := by
  obtain ⟨h1, h2, _⟩ := word_ok h
  unfold partsD SeqAt.shaped
  cases k.re <;> simp [PyData.canLay0, PyData.canLayAll0, PyData.depth, PyData.depthAll, h1, h2, optD]
theorem parts_eqv : PyData.eqv (partsD k) (partsD k) = true := by
  unfold partsD
  cases k.re <;> simp [PyData.eqv, PyData.eqvAll, optD]
theorem rv_neP (ok : k.ok = true) (h1 : H p = some (.lst (partsV k))) (h2 : H q = some (.lst (partsV k))) : RV (rNeD K) (.ref p) (.ref q) H (.bl false) := fun H1 e Q kk => by
  refine ⟨_, _, parts_dp (e _ _ h1), parts_dp (e _ _ h2), parts_shaped ok, parts_shaped ok, ?_⟩
  rw [parts_eqv]
  exact kk H1 (Ex.refl H1)
theorem leaf_str {x : Str} (h : PyData.strOk x = true) : PyData.leavesShort 13 (.str x) = true := by
  simp only [PyData.leavesShort]
  refine List.all_eq_true.mpr fun c hc => decide_eq_true ?_
  unfold PyData.strOk at h
  rw [← Array.all_toList, List.all_eq_true] at h
  exact Nat.lt_trans (of_decide_eq_true (h c hc)) (by decide)
theorem leaf_opt (h : k.ok = true) : PyData.leavesShort 13 (optD k.re) = true ∧ (optD k.re).showable = true ∧ (optD k.re).depth = 0 ∧ (optD k.re).weight ≤ 64 := by
  cases hre : k.re with
  | none => exact ⟨by simp [optD, PyData.leavesShort], by simp [optD, PyData.showable], by simp [optD, PyData.depth], by simp [optD, PyData.weight]⟩
  | some n =>
    have p := re_pos h hre
    have l20 : n.natAbs.log2 < 20 := by
      have hz : n.natAbs ≠ 0 := by omega
      exact (Nat.log2_lt hz).mpr (by omega)
    refine ⟨?_, ?_, by simp [optD, PyData.depth], ?_⟩
    · simp only [optD, PyData.leavesShort]
      exact decide_eq_true (PyData.shown_int_le (by omega))
    · simp only [optD, PyData.showable]
      exact decide_eq_true (Nat.lt_trans l20 (by decide))
    · simp only [optD, PyData.weight]
      split <;> omega
theorem two_okD {x y : Kd} (hx : x.ok = true) (hy : y.ok = true) : okD (.list [partsD x, partsD y]) = true := by
  obtain ⟨a1, a2, a3, a4⟩ := word_ok hx
  obtain ⟨b1, b2, b3, b4⟩ := word_ok hy
  obtain ⟨c1, c2, c3, c4⟩ := leaf_opt hx
  obtain ⟨d1, d2, d3, d4⟩ := leaf_opt hy
  have q1 : x.le.cps.size ≤ 4 := a3
  have q2 : x.lt.cps.size ≤ 4 := a4
  have q3 : y.le.cps.size ≤ 4 := b3
  have q4 : y.lt.cps.size ≤ 4 := b4
  have lx : PyData.leavesShort 13 (partsD x) = true := by
    unfold partsD
    simp only [PyData.leavesShort, PyData.leavesShortAll, Bool.and_eq_true]
    exact ⟨by simpa only [PyData.leavesShort] using leaf_str a1, by simpa only [PyData.leavesShort] using leaf_str a2, trivial, c1, trivial⟩
  have ly : PyData.leavesShort 13 (partsD y) = true := by
    unfold partsD
    simp only [PyData.leavesShort, PyData.leavesShortAll, Bool.and_eq_true]
    exact ⟨by simpa only [PyData.leavesShort] using leaf_str b1, by simpa only [PyData.leavesShort] using leaf_str b2, trivial, d1, trivial⟩
  have s := PyData.shown_fits (B := 13) (by decide) (by decide) (d := .list [partsD x, partsD y]) (by
    simp only [PyData.leavesShort, PyData.leavesShortAll, lx, ly, Bool.and_self]) (by
    simp only [partsD, PyData.weight, PyData.weightAll]
    omega)
  unfold okD
  rw [decide_eq_true s]
  simp [partsD, PyData.showable, PyData.showableAll, c2, d2, PyData.depth, PyData.depthAll, c3, d3]
end
end L2.M1
set_option maxRecDepth 100000
set_option maxHeartbeats 4000000
namespace L2.M1
open PySem PySem.Spec PyProof.Rows L2 Mx L2.Mb Evl Mv TL
/-! ### kinds as rows of ranks -/
section
variable {x y z : Kd}
theorem kd_ext (hx : x.ok = true) (hy : y.ok = true) (h : ∀ i, i < 4 → x.ranks.getD i 0 = y.ranks.getD i 0) : x = y := by
  have e : x.ranks = y.ranks := cons2 (h 0 (by decide)) (cons2 (h 1 (by decide)) (cons2 (h 2 (by decide)) (cons2 (h 3 (by decide)) rfl)))
  have z := ranks_inj hx hy
  rw [decide_eq_true e] at z
  exact of_decide_eq_true z.symm
theorem jo_at (hx : x.ok = true) (hy : y.ok = true) {i : Nat} (hi : i < 4) : (jo x y).ranks.getD i 0 = mx (x.ranks.getD i 0) (y.ranks.getD i 0) := by
  rw [← jo_ranks hx hy]
  rcases (show i = 0 ∨ i = 1 ∨ i = 2 ∨ i = 3 by omega) with rfl | rfl | rfl | rfl <;> rfl
theorem me_at (hx : x.ok = true) (hy : y.ok = true) {i : Nat} (hi : i < 4) : (me x y).ranks.getD i 0 = mn (x.ranks.getD i 0) (y.ranks.getD i 0) := by
  rw [← me_ranks hx hy]
  rcases (show i = 0 ∨ i = 1 ∨ i = 2 ∨ i = 3 by omega) with rfl | rfl | rfl | rfl <;> rfl
theorem jo_comm (hx : x.ok = true) (hy : y.ok = true) : jo x y = jo y x := kd_ext (jo_ok hx hy) (jo_ok hy hx) fun i hi => by
  rw [jo_at hx hy hi, jo_at hy hx hi]
  unfold mx
  split <;> split <;> omega
theorem me_comm (hx : x.ok = true) (hy : y.ok = true) : me x y = me y x := kd_ext (me_ok hx hy) (me_ok hy hx) fun i hi => by
  rw [me_at hx hy hi, me_at hy hx hi]
  unfold mn
  split <;> split <;> omega
theorem jo_assoc (hx : x.ok = true) (hy : y.ok = true) (hz : z.ok = true) : jo (jo x y) z = jo x (jo y z) := kd_ext (jo_ok (jo_ok hx hy) hz) (jo_ok hx (jo_ok hy hz)) fun i hi => by
  rw [jo_at (jo_ok hx hy) hz hi, jo_at hx hy hi, jo_at hx (jo_ok hy hz) hi, jo_at hy hz hi]
  unfold mx
  repeat' split
  all_goals omega
theorem me_assoc (hx : x.ok = true) (hy : y.ok = true) (hz : z.ok = true) : me (me x y) z = me x (me y z) := kd_ext (me_ok (me_ok hx hy) hz) (me_ok hx (me_ok hy hz)) fun i hi => by
  rw [me_at (me_ok hx hy) hz hi, me_at hx hy hi, me_at hx (me_ok hy hz) hi, me_at hy hz hi]
  unfold mn
  repeat' split
  all_goals omega
theorem jo_me (hx : x.ok = true) (hy : y.ok = true) : jo x (me x y) = x := kd_ext (jo_ok hx (me_ok hx hy)) hx fun i hi => by
  rw [jo_at hx (me_ok hx hy) hi, me_at hx hy hi]
  unfold mx mn
  repeat' split
  all_goals omega
theorem me_jo (hx : x.ok = true) (hy : y.ok = true) : me x (jo x y) = x := kd_ext (me_ok hx (jo_ok hx hy)) hx fun i hi => by
  rw [me_at hx (jo_ok hx hy) hi, jo_at hx hy hi]
  unfold mx mn
  repeat' split
  all_goals omega
theorem me_dist (hx : x.ok = true) (hy : y.ok = true) (hz : z.ok = true) : me x (jo y z) = jo (me x y) (me x z) := kd_ext (me_ok hx (jo_ok hy hz)) (jo_ok (me_ok hx hy) (me_ok hx hz)) fun i hi => by
  rw [me_at hx (jo_ok hy hz) hi, jo_at hy hz hi, jo_at (me_ok hx hy) (me_ok hx hz) hi, me_at hx hy hi, me_at hx hz hi]
  unfold mx mn
  repeat' split
  all_goals omega
theorem wi_jo (hx : x.ok = true) (hy : y.ok = true) : wi x (jo x y) = true := by
  unfold wi
  rw [List.all_eq_true]
  intro i hi
  rw [jo_at hx hy (List.mem_range.mp hi)]
  refine decide_eq_true ?_
  unfold mx
  split <;> omega
theorem wi_me (hx : x.ok = true) (hy : y.ok = true) : wi (me x y) y = true := by
  unfold wi
  rw [List.all_eq_true]
  intro i hi
  rw [me_at hx hy (List.mem_range.mp hi)]
  refine decide_eq_true ?_
  unfold mn
  split <;> omega
theorem wi_two (hx : x.ok = true) (hy : y.ok = true) : wi (jo x y) z = (wi x z && wi y z) := by
  rw [Bool.eq_iff_iff, Bool.and_eq_true]
  unfold wi
  rw [List.all_eq_true, List.all_eq_true, List.all_eq_true]
  refine ⟨fun h => ⟨fun i hi => ?_, fun i hi => ?_⟩, fun h i hi => ?_⟩
  · have h1 := of_decide_eq_true (h i hi)
    rw [jo_at hx hy (List.mem_range.mp hi)] at h1
    refine decide_eq_true ?_
    unfold mx at h1
    split at h1 <;> omega
  · have h1 := of_decide_eq_true (h i hi)
    rw [jo_at hx hy (List.mem_range.mp hi)] at h1
    refine decide_eq_true ?_
    unfold mx at h1
    split at h1 <;> omega
  · have h1 := of_decide_eq_true (h.1 i hi)
    have h2 := of_decide_eq_true (h.2 i hi)
    rw [jo_at hx hy (List.mem_range.mp hi)]
    refine decide_eq_true ?_
    unfold mx
    split <;> omega
end
/-! ### what an expression gives: a kind, data -/
def EvK (C : Addr) (te : TE) (σ : L2.St) (H : Hp) (k : Kd) : Prop := ∀ H1, Ex H H1 → ∀ Q : VK, (∀ a H2, Ex H1 H2 → KAt C H2 a k → Q (.ref a) H2) → te σ H1 Q
def EvD (K : W.Frag) (te : TE) (σ : L2.St) (H : Hp) (d : PyData) : Prop := ∀ H1, Ex H H1 → ∀ Q : VK, (∀ p H2, Ex H1 H2 → Dq K H2 (.ref p) d → Q (.ref p) H2) → te σ H1 Q
section
variable {K : W.Frag} {C : Addr} {σ : L2.St} {H H' : Hp} {ta tb te : TE} {x y k : Kd} {E : XK} {d : PyData} {D : Ends} {tz : TS}
theorem EvK.mono (e : Ex H H') (h : EvK C te σ H k) : EvK C te σ H' k := fun H1 a Q q => h H1 (e.trans a) Q q
theorem EvD.mono (e : Ex H H') (h : EvD K te σ H d) : EvD K te σ H' d := fun H1 a Q q => h H1 (e.trans a) Q q
theorem evk_var {i : Nat} {a : Addr} (hs : σ[i]? = some (some (.ref a))) (ha : KAt C H a k) : EvK C (tVar i) σ H k := fun H1 e Q q => ⟨_, hs, q a H1 (Ex.refl H1) (ha.mono e)⟩
theorem evk_two {j : Kd → Kd → Kd} (ha : EvK C ta σ H x) (hb : EvK C tb σ H y) (hx : x.ok = true) (hy : y.ok = true) : EvK C (tOp (rOwn2 C (spTwo C j)) ta tb) σ H (j x y) := fun H1 e Q q => ha H1 e _ fun a H2 e2 ka => hb H2 (e.trans e2) _ fun b H3 e3 kb => by
  obtain ⟨dx, ea⟩ := ka.mono e3
  obtain ⟨dy, eb⟩ := kb
  exact ⟨a, b, dx, dy, _, _, rfl, rfl, ea, eb, a, b, x, y, rfl, hx, hy, ⟨dx, ea⟩, ⟨dy, eb⟩, fun c H4 e4 hc => ⟨⟨c, rfl⟩, q c H4 ((e2.trans e3).trans e4) hc⟩⟩
theorem el_partsK (h : EvK C te σ H k) : EvL (tCall (spParts C) [] E (tCons te tNil)) σ H (partsV k) := fun H1 e Q q => h H1 e _ fun a H2 e2 ha => ⟨a, k, rfl, ha, fun p H3 np e3 hp => q p H3 (fresh_back e2 np) (e2.trans e3) hp⟩
theorem evk_lk (h : EvL te σ H ((lrow k).map V.int)) (ok : k.ok = true) : EvK C (tCall (spLK C) [] E (tCons te tNil)) σ H k := fun H1 e Q q => h H1 e _ fun p H2 np e2 hp => ⟨p, k, rfl, ok, hp, fun b H3 e3 hb => q b H3 (e2.trans e3) hb⟩
theorem el_j {j : Kd → Kd → Kd} {a b : Nat} {p q : Addr} (ha : σ[a]? = some (some (.ref p))) (hb : σ[b]? = some (some (.ref q))) (hx : x.ok = true) (hy : y.ok = true) (hp : H p = some (.lst ((lrow x).map V.int))) (hq : H q = some (.lst ((lrow y).map V.int))) :
    EvL (tCall (spJ j) [] E (tCons (tVar a) (tCons (tVar b) tNil))) σ H ((lrow (j x y)).map V.int) := fun H1 e Q z => ⟨_, ha, _, hb, p, q, x, y, rfl, hx, hy, e _ _ hp, e _ _ hq, fun l H2 nl e2 hl => z l H2 nl e2 hl⟩
theorem ev_isw {a b : Nat} {p q : Addr} (ha : σ[a]? = some (some (.ref p))) (hb : σ[b]? = some (some (.ref q))) (hx : x.ok = true) (hy : y.ok = true) (hp : H p = some (.lst ((lrow x).map V.int))) (hq : H q = some (.lst ((lrow y).map V.int))) :
    Ev (tCall spIsW [] E (tCons (tVar a) (tCons (tVar b) tNil))) σ H (.bl (wi x y)) := fun H1 e Q z => ⟨_, ha, _, hb, p, q, x, y, rfl, hx, hy, e _ _ hp, e _ _ hq, fun H2 e2 => z H2 e2⟩
theorem ev_wi (h1 : EvK C ta σ H x) (h2 : EvK C tb σ H y) (hx : x.ok = true) (hy : y.ok = true) : Ev (tMeth C "within" (spWi C) [] E ta (tCons tb tNil)) σ H (.bl (wi x y)) := fun H1 e Q q => h1 H1 e _ fun a H2 e2 ka => by
  obtain ⟨dx, ea⟩ := ka
  exact ⟨a, dx, _, rfl, ea, rfl, h2 H2 (e.trans e2) _ fun b H3 e3 kb => ⟨a, b, x, y, rfl, hx, hy, KAt.mono ⟨dx, ea⟩ e3, kb, fun H4 e4 => q H4 ((e2.trans e3).trans e4)⟩⟩
theorem ev_wiK (h1 : EvK C ta σ H x) (h2 : EvK C tb σ H y) (hx : x.ok = true) (hy : y.ok = true) : Ev (tMethK C "within" (spWi C) 1 id E ta (tCons tb tNil)) σ H (.bl (wi x y)) := fun H1 e Q q => h1 H1 e _ fun a H2 e2 ka => by
  obtain ⟨dx, ea⟩ := ka
  exact ⟨a, dx, _, rfl, ea, rfl, h2 H2 (e.trans e2) _ fun b H3 e3 kb => ⟨rfl, a, b, x, y, rfl, hx, hy, KAt.mono ⟨dx, ea⟩ e3, kb, fun H4 e4 => q H4 ((e2.trans e3).trans e4)⟩⟩
theorem ev_eqK (h1 : EvK C ta σ H x) (h2 : EvK C tb σ H y) (hx : x.ok = true) (hy : y.ok = true) : Ev (tOp (rCmpO C (spEqA C) false) ta tb) σ H (.bl (decide (x = y))) := fun H1 e Q q => h1 H1 e _ fun a H2 e2 ka => h2 H2 (e.trans e2) _ fun b H3 e3 kb => by
  obtain ⟨dx, ea⟩ := ka.mono e3
  obtain ⟨dy, eb⟩ := kb
  exact ⟨a, dx, _, rfl, ea, .inl ⟨b, dy, _, rfl, eb⟩, a, .ref b, x, rfl, hx, ⟨dx, ea⟩, .inl ⟨b, y, rfl, hy, ⟨dy, eb⟩, fun H4 e4 => ⟨_, rfl, q H4 ((e2.trans e3).trans e4)⟩⟩⟩
theorem evd_two (h1 : EvL ta σ H (partsV x)) (h2 : EvL tb σ H (partsV y)) : EvD K (tLst (tCons ta (tCons tb tNil))) σ H (.list [partsD x, partsD y]) := fun H1 e Q q => h1 H1 e _ fun a H2 _ e2 ha => h2 H2 (e.trans e2) _ fun b H3 _ e3 hb =>
  ⟨(by show 2 ≤ sizeLine; decide), fun p np => q p _ ((e2.trans e3).trans (Ex.new np)) (.lst (sq_of upd_same) (.cons (parts_dq (Ex.new np _ _ (e3 _ _ ha))) (.cons (parts_dq (Ex.new np _ _ hb)) .nil)))⟩
theorem evd_bls {a b : Bool} (h1 : Ev ta σ H (.bl a)) (h2 : Ev tb σ H (.bl b)) : EvD K (tLst (tCons ta (tCons tb tNil))) σ H (.list [.bool a, .bool b]) := fun H1 e Q q => h1 H1 e _ fun H2 e2 => h2 H2 (e.trans e2) _ fun H3 e3 =>
  ⟨(by show 2 ≤ sizeLine; decide), fun p np => q p _ ((e2.trans e3).trans (Ex.new np)) (.lst (sq_of upd_same) (.cons (.bl a) (.cons (.bl b) .nil)))⟩
theorem ev_rp (h : EvD K te σ H d) (ok : okD d = true) : Ev (tCB (rRepr K) (tCons te tNil)) σ H (.str d.shown) := fun H1 e Q q => h H1 e _ fun p H2 e2 hd => ⟨p, d, rfl, hd, ok, q H2 e2⟩
theorem q_asgK {i : Nat} (h : EvK C te σ H k) (kk : ∀ a H1, Ex H H1 → KAt C H1 a k → tz D (σ.set i (some (.ref a))) H1) : tSeq (tAsg te (gName i)) tz D σ H := h H (Ex.refl H) _ fun a H1 e ha => kk a H1 e ha
theorem q_par {i j : Nat} (h1 : EvK C ta σ H x) (h2 : EvK C tb σ H y) (kk : ∀ a b H1, Ex H H1 → KAt C H1 a x → KAt C H1 b y → tz D ((σ.set i (some (.ref a))).set j (some (.ref b))) H1) : tSeq (tPar i j (tCons ta (tCons tb tNil))) tz D σ H :=
  h1 H (Ex.refl H) _ fun a H1 e1 ka => h2 H1 e1 _ fun b H2 e2 kb => ⟨_, _, rfl, kk a b H2 (e1.trans e2) (ka.mono e2) kb⟩
theorem el_var {i : Nat} {p : Addr} {xs : List V} (hs : σ[i]? = some (some (.ref p))) (hp : H p = some (.lst xs)) : ∀ H1, Ex H H1 → ∀ Q : VK, (∀ p H2, Ex H1 H2 → H2 p = some (.lst xs) → Q (.ref p) H2) → tVar i σ H1 Q := fun H1 e Q q => ⟨_, hs, q p H1 (Ex.refl H1) (e _ _ hp)⟩
theorem ev_neP {i : Nat} {p : Addr} (h1 : EvL ta σ H (partsV k)) (ok : k.ok = true) (hs : σ[i]? = some (some (.ref p))) (hp : H p = some (.lst (partsV k))) : Ev (tOp (rNeD K) ta (tVar i)) σ H (.bl false) := ev_opL1 h1 (fun H1 _ => ev_var hs) fun q H1 hq e => rv_neP ok hq (e _ _ hp)
end
end L2.M1
set_option maxRecDepth 100000
set_option maxHeartbeats 4000000
namespace L2.M1
open PySem PySem.Spec PyProof.Rows L2 Mx L2.Mb Evl Mv TL
/-- a method of Kind -/
structure OW (P : Program) (w : World) (K : W.Frag) (mg : Str → Option Value) (base : Heap) (C : Addr) (m : Str) (k : Nat) (f : Addr) (fd : FuncData) (sp : Sp) : Prop where
  ok : FnOk P w K mg base CX0 k f fd ["self", "other"] sp
  b : Binds K fd ["self", "other"] []
  s : W.findIn K (.ref C) m = some (some (.ref f))
  fn : W.isFn K (.ref f) = true
  kp : W.keepIn K (.ref f) = true
structure FgD (P : Program) (w : World) (K : W.Frag) (mg : Str → Option Value) (base : Heap) (x : Str) (k : Nat) (f : Addr) (fd : FuncData) (ps : List Str) (sp : Sp) : Prop where
  ok : FnG P w K mg base CX0 k f fd ps sp
  m : mg x = some (.ref f)
  k : W.keepIn K (.ref f) = true
  b : Binds K fd ps []
def spPair : Sp := fun vs H Q _ => ∃ (p q : Addr) (x y : Kd), vs = [.ref p, .ref q] ∧ x.ok = true ∧ y.ok = true ∧ H p = some (.lst ((lrow x).map V.int)) ∧ H q = some (.lst ((lrow y).map V.int)) ∧ ∀ H', Ex H H' → Q (.bl true) H'
theorem evk_lkv {C : Addr} {σ : L2.St} {H : Hp} {E : XK} {i : Nat} {p : Addr} {k : Kd} (hs : σ[i]? = some (some (.ref p))) (ok : k.ok = true) (hp : H p = some (.lst ((lrow k).map V.int))) : EvK C (tCall (spLK C) [] E (tCons (tVar i) tNil)) σ H k := fun H1 e Q q => ⟨_, hs, p, k, rfl, ok, e _ _ hp, fun b H3 e3 hb => q b H3 e3 hb⟩
theorem evk_is {C : Addr} {te : TE} {σ : L2.St} {H : Hp} {k l : Kd} (h : EvK C te σ H k) (e : k = l) : EvK C te σ H l := e ▸ h
theorem two_bls (a b : Bool) : okD (.list [.bool a, .bool b]) = true := by cases a <;> cases b <;> decide +kernel
section
variable {P : Program} {w : World} {K : W.Frag} {mg : Str → Option Value} {base : Heap} {f C fO fA fW fE fK fP fL fS fI aL aT : Addr} {fd dO dA dW dE dK dP dL dS dI : FuncData} {mc : Value}
theorem ok_pair {oc dV kV doc pm ct cdv : Value} {an od : Option Addr} {osl : Array (Option Value)}
    (B : Bt mg) (T : KF K mg C mc aL aT) (M1 : Mro1 K C) (sys : SysD K) (O : OW P w K mg base C "__or__" 6 fO dO (spTwo C jo)) (A : OW P w K mg base C "__and__" 6 fA dA (spTwo C me)) (Wi : OW P w K mg base C "within" 4 fW dW (spWi C)) (WK : KwB K dW ["self", "other"] ["other"] id id)
    (DK : Fn0 P w K mg base "_law_kind" 5 fK dK p_law_kind (spLK C)) (DP : Fn0 P w K mg base "_law_parts" 3 fP dP p_law_parts (spParts C)) (DL : Fn0 P w K mg base "_law_looser" 1 fL dL p_law_looser (spJ jo)) (DS : Fn0 P w K mg base "_law_stricter" 1 fS dS p_law_stricter (spJ me)) (DI : Fn0 P w K mg base "_law_is_within" 1 fI dI p_law_is_within spIsW)
    (lk : K.lookup f = some ⟨oc, od, .func (W.fnOf "_law_pair_right" "_law_pair_right" (defArgs s_law_pair_right) (defBody s_law_pair_right) (defScope s_law_pair_right) dV kV doc pm an cdv ct), osl⟩) (hcd : W.codeIn K cdv "_law_pair_right" = true) :
    FnG P w K mg base CX0 7 f (W.fnOf "_law_pair_right" "_law_pair_right" (defArgs s_law_pair_right) (defBody s_law_pair_right) (defScope s_law_pair_right) dV kV doc pm an cdv ct) p_law_pair_right spPair := by
  refine fng_of lk hcd sc_law_pair_right (fun vs H Q E h => ?_) (fun A0 outer s H vs Q E gd hr h => ?_)
  · obtain ⟨p, q, x, y, rfl, _⟩ := h
    rfl
  · obtain ⟨p, q, x, y, rfl, hx, hy, hp, hq, k⟩ := h
    have nd := sc_law_pair_right.nd
    have hun := hr.units
    have mW : Meth K C "within" fW := ⟨Wi.s, Wi.fn, Wi.kp⟩
    refine ⟨_, PSs.nox (pss_cons (ps_par (i := 2) (j := 3) rfl nd rfl rfl (by decide) rfl rfl (pa_cons (pe_call DK.ok (hr.mono (by decide)) (by rfl) DK.m DK.k DK.b .nil pass0 (pa_cons (pv 0) pa_nil)) (pa_cons (pe_call DK.ok (hr.mono (by decide)) (by rfl) DK.m DK.k DK.b .nil pass0 (pa_cons (pv 1) pa_nil)) pa_nil)) (by rfl))
      (pss_cons (ps_set (i := 4) nd rfl (Or.inl rfl) (pe_callB (call_repr gd sys hun) (by rfl) B.repr (by decide +kernel) (pa_cons (pe_lst (pa_cons (pe_call DP.ok (hr.mono (by decide)) (by rfl) DP.m DP.k DP.b .nil pass0 (pa_cons (pv 2) pa_nil)) (pa_cons (pe_call DP.ok (hr.mono (by decide)) (by rfl) DP.m DP.k DP.b .nil pass0 (pa_cons (pv 3) pa_nil)) pa_nil))) pa_nil)))
      (pss_cons (ps_set (i := 5) nd rfl (Or.inl rfl) (pe_call DP.ok (hr.mono (by decide)) (by rfl) DP.m DP.k DP.b .nil pass0 (pa_cons (pe_call DK.ok (hr.mono (by decide)) (by rfl) DK.m DK.k DK.b .nil pass0 (pa_cons (pe_call DL.ok (hr.mono (by decide)) (by rfl) DL.m DL.k DL.b .nil pass0 (pa_cons (pv 0) (pa_cons (pv 1) pa_nil))) pa_nil)) pa_nil)))
      (pss_cons (ps_set (i := 6) nd rfl (Or.inl rfl) (pe_call DP.ok (hr.mono (by decide)) (by rfl) DP.m DP.k DP.b .nil pass0 (pa_cons (pe_call DK.ok (hr.mono (by decide)) (by rfl) DK.m DK.k DK.b .nil pass0 (pa_cons (pe_call DS.ok (hr.mono (by decide)) (by rfl) DS.m DS.k DS.b .nil pass0 (pa_cons (pv 0) (pa_cons (pv 1) pa_nil))) pa_nil)) pa_nil)))
      (pss_cons (ps_if (pw_or (pt_cmpR (op_neD hun) (pe_call DP.ok (hr.mono (by decide)) (by rfl) DP.m DP.k DP.b .nil pass0 (pa_cons (pe_op (op_borO O.ok hr O.b pass0 M1 O.s O.fn) (pv 2) (pv 3)) pa_nil)) (pv 5) (nomark _))
          (pw_or1 (pt_cmpR (op_neD hun) (pe_call DP.ok (hr.mono (by decide)) (by rfl) DP.m DP.k DP.b .nil pass0 (pa_cons (pe_op (op_borO O.ok hr O.b pass0 M1 O.s O.fn) (pv 3) (pv 2)) pa_nil)) (pv 5) (nomark _)))).pt (pss_one (ps_ret pe_bl)) pss_nil)
      (pss_cons (ps_if (pw_or (pt_cmpR (op_neD hun) (pe_call DP.ok (hr.mono (by decide)) (by rfl) DP.m DP.k DP.b .nil pass0 (pa_cons (pe_op (op_bandO A.ok hr A.b pass0 M1 A.s A.fn) (pv 2) (pv 3)) pa_nil)) (pv 6) (nomark _))
          (pw_or1 (pt_cmpR (op_neD hun) (pe_call DP.ok (hr.mono (by decide)) (by rfl) DP.m DP.k DP.b .nil pass0 (pa_cons (pe_op (op_bandO A.ok hr A.b pass0 M1 A.s A.fn) (pv 3) (pv 2)) pa_nil)) (pv 6) (nomark _)))).pt (pss_one (ps_ret pe_bl)) pss_nil)
      (pss_cons (ps_set (i := 7) nd rfl (Or.inl rfl) (pe_call DI.ok (hr.mono (by decide)) (by rfl) DI.m DI.k DI.b .nil pass0 (pa_cons (pv 0) (pa_cons (pv 1) pa_nil))))
      (pss_cons (ps_if (pt_cmpR op_ne (pe_callB (call_repr gd sys hun) (by rfl) B.repr (by decide +kernel) (pa_cons (pe_lst (pa_cons (pe_meth (pv 2) T.cl mW Wi.ok (hr.mono (by decide)) Wi.b .nil pass0 (pa_cons (pv 3) pa_nil)) (pa_cons (pe_methK (pv 2) T.cl mW Wi.ok WK (hr.mono (by decide)) pass0 (pk_cons (pv 3) pk_nil)) pa_nil))) pa_nil))
          (pe_callB (call_repr gd sys hun) (by rfl) B.repr (by decide +kernel) (pa_cons (pe_lst (pa_cons (pv 7) (pa_cons (pv 7) pa_nil))) pa_nil)) (nomark _)) (pss_one (ps_ret pe_bl)) pss_nil)
      (pss_cons (ps_if (pw_or (pt_not (pt_val (pe_meth (pv 2) T.cl mW Wi.ok (hr.mono (by decide)) Wi.b .nil pass0 (pa_cons (pe_op (op_borO O.ok hr O.b pass0 M1 O.s O.fn) (pv 2) (pv 3)) pa_nil))))
          (pw_or1 (pt_not (pt_val (pe_meth (pe_op (op_bandO A.ok hr A.b pass0 M1 A.s A.fn) (pv 2) (pv 3)) T.cl mW Wi.ok (hr.mono (by decide)) Wi.b .nil pass0 (pa_cons (pv 3) pa_nil)))))).pt (pss_one (ps_ret pe_bl)) pss_nil)
      (pss_one (ps_ret (pe_cmpR op_eq (pe_callB (call_repr gd sys hun) (by rfl) B.repr (by decide +kernel) (pa_cons (pe_lst (pa_cons (pe_call DP.ok (hr.mono (by decide)) (by rfl) DP.m DP.k DP.b .nil pass0 (pa_cons (pv 2) pa_nil)) (pa_cons (pe_call DP.ok (hr.mono (by decide)) (by rfl) DP.m DP.k DP.b .nil pass0 (pa_cons (pv 3) pa_nil)) pa_nil))) pa_nil)) (pv 4) (nomark _))))))))))))), ?_⟩
    refine q_par (evk_lkv rfl hx hp) (evk_lkv rfl hy hq) fun a b H1 e1 ka kb => ?_
    refine q_asg (ev_rp (evd_two (el_partsK (evk_var rfl ka)) (el_partsK (evk_var rfl kb))) (two_okD hx hy)) fun H2 e2 => ?_
    have e12 := e1.trans e2
    refine q_asgL (el_partsK (evk_lk (el_j (j := jo) rfl rfl hx hy (e12 _ _ hp) (e12 _ _ hq)) (jo_ok hx hy))) fun l H3 nl e3 hl => ?_
    have e13 := e12.trans e3
    refine q_asgL (el_partsK (evk_lk (el_j (j := me) rfl rfl hx hy (e13 _ _ hp) (e13 _ _ hq)) (me_ok hx hy))) fun m H4 nm e4 hm => ?_
    have e14 := e13.trans e4
    have hl4 := e4 _ _ hl
    have ka4 := ka.mono ((e2.trans e3).trans e4)
    have kb4 := kb.mono ((e2.trans e3).trans e4)
    refine q_when (b := false || false) (et_or (et_test (ev_neP (el_partsK (evk_two (j := jo) (evk_var rfl ka4) (evk_var rfl kb4) hx hy)) (jo_ok hx hy) rfl hl4)) (fun _ => et_test (ev_neP (el_partsK (evk_is (evk_two (j := jo) (evk_var rfl kb4) (evk_var rfl ka4) hy hx) (jo_comm hy hx))) (jo_ok hx hy) rfl hl4))) (fun z => by cases z) (fun _ H5 e5 => ?_)
    have hm5 := e5 _ _ hm
    have ka5 := ka4.mono e5
    have kb5 := kb4.mono e5
    refine q_when (b := false || false) (et_or (et_test (ev_neP (el_partsK (evk_two (j := me) (evk_var rfl ka5) (evk_var rfl kb5) hx hy)) (me_ok hx hy) rfl hm5)) (fun _ => et_test (ev_neP (el_partsK (evk_is (evk_two (j := me) (evk_var rfl kb5) (evk_var rfl ka5) hy hx) (me_comm hy hx))) (me_ok hx hy) rfl hm5))) (fun z => by cases z) (fun _ H6 e6 => ?_)
    have e16 := (e14.trans e5).trans e6
    have ka6 := ka5.mono e6
    have kb6 := kb5.mono e6
    refine q_asg (ev_isw rfl rfl hx hy (e16 _ _ hp) (e16 _ _ hq)) fun H7 e7 => ?_
    have ka7 := ka6.mono e7
    have kb7 := kb6.mono e7
    generalize hsh : (PyData.list [partsD x, partsD y]).shown = sh
    refine q_when (b := false) (et_test (ev_is (ev_op (ev_rp (evd_bls (ev_wi (evk_var rfl ka7) (evk_var rfl kb7) hx hy) (ev_wiK (evk_var rfl ka7) (evk_var rfl kb7) hx hy)) (two_bls _ _)) (ev_rp (evd_bls (ev_var rfl) (ev_var rfl)) (two_bls _ _)) (rv_ne rfl)) (by rw [decide_eq_true rfl]; rfl))) (fun z => by cases z) (fun _ H8 e8 => ?_)
    have ka8 := ka7.mono e8
    have kb8 := kb7.mono e8
    refine q_when (b := false || false) (et_or (et_is (et_not (et_B (ev_wi (evk_var rfl ka8) (evk_two (j := jo) (evk_var rfl ka8) (evk_var rfl kb8) hx hy) hx (jo_ok hx hy)))) (by rw [wi_jo hx hy]; rfl)) (fun _ => et_is (et_not (et_B (ev_wi (evk_two (j := me) (evk_var rfl ka8) (evk_var rfl kb8) hx hy) (evk_var rfl kb8) (me_ok hx hy) hy))) (by rw [wi_me hx hy]; rfl))) (fun z => by cases z) (fun _ H9 e9 => ?_)
    have ka9 := ka8.mono e9
    have kb9 := kb8.mono e9
    refine s_ret (v := .bl true) (ev_is (ev_op (ev_is (ev_rp (evd_two (el_partsK (evk_var rfl ka9)) (el_partsK (evk_var rfl kb9))) (two_okD hx hy)) (by rw [hsh])) (ev_var rfl) (rv_eq rfl)) (by rw [decide_eq_true rfl])) fun H10 e10 => k H10 ((((e16.trans e7).trans e8).trans e9).trans e10)
end
end L2.M1
set_option maxRecDepth 100000
set_option maxHeartbeats 4000000
namespace L2.M1
open PySem PySem.Spec PyProof.Rows L2 Mx L2.Mb Evl Mv TL
def spThree : Sp := fun vs H Q _ => ∃ (p q r : Addr) (x y z : Kd), vs = [.ref p, .ref q, .ref r] ∧ x.ok = true ∧ y.ok = true ∧ z.ok = true ∧ H p = some (.lst ((lrow x).map V.int)) ∧ H q = some (.lst ((lrow y).map V.int)) ∧ H r = some (.lst ((lrow z).map V.int)) ∧ ∀ H', Ex H H' → Q (.bl true) H'
section
variable {P : Program} {w : World} {K : W.Frag} {mg : Str → Option Value} {base : Heap} {f C fO fA fW fE fK fQ aL aT : Addr} {fd dO dA dW dE dK dQ : FuncData} {mc : Value}
theorem q_par3 {σ : L2.St} {H : Hp} {ta tb tc : TE} {D : Ends} {tz : TS} {x y z : Kd} {i j l : Nat} (h1 : EvK C ta σ H x) (h2 : EvK C tb σ H y) (h3 : EvK C tc σ H z) (kk : ∀ a b c H1, Ex H H1 → KAt C H1 a x → KAt C H1 b y → KAt C H1 c z → tz D (((σ.set i (some (.ref a))).set j (some (.ref b))).set l (some (.ref c))) H1) :
    tSeq (tPar3 i j l (tCons ta (tCons tb (tCons tc tNil)))) tz D σ H :=
  h1 H (Ex.refl H) _ fun a H1 e1 ka => h2 H1 e1 _ fun b H2 e2 kb => h3 H2 (e1.trans e2) _ fun c H3 e3 kc => ⟨_, _, _, rfl, kk a b c H3 ((e1.trans e2).trans e3) ((ka.mono e2).mono e3) (kb.mono e3) kc⟩
theorem et_eqK {σ : L2.St} {H : Hp} {ta tb : TE} {x y : Kd} (h1 : EvK C ta σ H x) (h2 : EvK C tb σ H y) (hx : x.ok = true) (hy : y.ok = true) (e : x = y) : EvT (tNot (tTest (tOp (rCmpO C (spEqA C) false) ta tb))) σ H false :=
  et_is (et_not (et_test (ev_eqK h1 h2 hx hy))) (by rw [decide_eq_true e]; rfl)
theorem ok_three (T : KF K mg C mc aL aT) (M1 : Mro1 K C) (O : OW P w K mg base C "__or__" 6 fO dO (spTwo C jo)) (A : OW P w K mg base C "__and__" 6 fA dA (spTwo C me)) (Wi : OW P w K mg base C "within" 4 fW dW (spWi C)) (Q : OW P w K mg base C "__eq__" 4 fQ dQ (spEqA C))
    (DK : Fn0 P w K mg base "_law_kind" 5 fK dK p_law_kind (spLK C)) (F : FnP K "_law_three_right" s_law_three_right f fd) : FnOk P w K mg base CX0 7 f fd p_law_three_right spThree := by
  refine F.ok sc_law_three_right (fun vs H Q E h => ?_) (fun cdv A0 outer s H vs Qv E hr h => ?_)
  · obtain ⟨p, q, r, x, y, z, rfl, _⟩ := h
    rfl
  · obtain ⟨p, q, r, x, y, z, rfl, hx, hy, hz, hp, hq, hR, k⟩ := h
    have nd := sc_law_three_right.nd
    have mW : Meth K C "within" fW := ⟨Wi.s, Wi.fn, Wi.kp⟩
    refine ⟨_, PSs.nox (pss_cons (ps_par3 (i := 3) (j := 4) (l := 5) rfl nd rfl rfl rfl (by decide) (by decide) (by decide) rfl rfl rfl (pa_cons (pe_call DK.ok (hr.mono (by decide)) (by rfl) DK.m DK.k DK.b .nil pass0 (pa_cons (pv 0) pa_nil)) (pa_cons (pe_call DK.ok (hr.mono (by decide)) (by rfl) DK.m DK.k DK.b .nil pass0 (pa_cons (pv 1) pa_nil)) (pa_cons (pe_call DK.ok (hr.mono (by decide)) (by rfl) DK.m DK.k DK.b .nil pass0 (pa_cons (pv 2) pa_nil)) pa_nil))) (by rfl))
      (pss_cons (ps_if (pt_not (pt_cmpR (op_eqO Q.ok (hr.mono (by decide)) Q.b pass0 Q.s Q.fn) (pe_op (op_borO O.ok hr O.b pass0 M1 O.s O.fn) (pe_op (op_borO O.ok hr O.b pass0 M1 O.s O.fn) (pv 3) (pv 4)) (pv 5)) (pe_op (op_borO O.ok hr O.b pass0 M1 O.s O.fn) (pv 3) (pe_op (op_borO O.ok hr O.b pass0 M1 O.s O.fn) (pv 4) (pv 5))) (nomark _))) (pss_one (ps_ret pe_bl)) pss_nil)
      (pss_cons (ps_if (pt_not (pt_cmpR (op_eqO Q.ok (hr.mono (by decide)) Q.b pass0 Q.s Q.fn) (pe_op (op_bandO A.ok hr A.b pass0 M1 A.s A.fn) (pe_op (op_bandO A.ok hr A.b pass0 M1 A.s A.fn) (pv 3) (pv 4)) (pv 5)) (pe_op (op_bandO A.ok hr A.b pass0 M1 A.s A.fn) (pv 3) (pe_op (op_bandO A.ok hr A.b pass0 M1 A.s A.fn) (pv 4) (pv 5))) (nomark _))) (pss_one (ps_ret pe_bl)) pss_nil)
      (pss_cons (ps_if (pw_or (pt_not (pt_cmpR (op_eqO Q.ok (hr.mono (by decide)) Q.b pass0 Q.s Q.fn) (pe_op (op_borO O.ok hr O.b pass0 M1 O.s O.fn) (pv 3) (pe_op (op_bandO A.ok hr A.b pass0 M1 A.s A.fn) (pv 3) (pv 4))) (pv 3) (nomark _)))
          (pw_or1 (pt_not (pt_cmpR (op_eqO Q.ok (hr.mono (by decide)) Q.b pass0 Q.s Q.fn) (pe_op (op_bandO A.ok hr A.b pass0 M1 A.s A.fn) (pv 3) (pe_op (op_borO O.ok hr O.b pass0 M1 O.s O.fn) (pv 3) (pv 4))) (pv 3) (nomark _))))).pt (pss_one (ps_ret pe_bl)) pss_nil)
      (pss_cons (ps_if (pt_not (pt_cmpR (op_eqO Q.ok (hr.mono (by decide)) Q.b pass0 Q.s Q.fn) (pe_op (op_bandO A.ok hr A.b pass0 M1 A.s A.fn) (pv 3) (pe_op (op_borO O.ok hr O.b pass0 M1 O.s O.fn) (pv 4) (pv 5))) (pe_op (op_borO O.ok hr O.b pass0 M1 O.s O.fn) (pe_op (op_bandO A.ok hr A.b pass0 M1 A.s A.fn) (pv 3) (pv 4)) (pe_op (op_bandO A.ok hr A.b pass0 M1 A.s A.fn) (pv 3) (pv 5))) (nomark _))) (pss_one (ps_ret pe_bl)) pss_nil)
      (pss_one (ps_ret (pe_cmpR op_eq (pe_meth (pe_op (op_borO O.ok hr O.b pass0 M1 O.s O.fn) (pv 3) (pv 4)) T.cl mW Wi.ok (hr.mono (by decide)) Wi.b .nil pass0 (pa_cons (pv 5) pa_nil))
        (pe_and (pe_meth (pv 3) T.cl mW Wi.ok (hr.mono (by decide)) Wi.b .nil pass0 (pa_cons (pv 5) pa_nil)) (pe_one (pe_meth (pv 4) T.cl mW Wi.ok (hr.mono (by decide)) Wi.b .nil pass0 (pa_cons (pv 5) pa_nil)))) (nomark _))))))))), ?_⟩
    refine q_par3 (evk_lkv rfl hx hp) (evk_lkv rfl hy hq) (evk_lkv rfl hz hR) fun a b c H1 e1 ka kb kc => ?_
    have xy := jo_ok hx hy
    have yz := jo_ok hy hz
    have mxy := me_ok hx hy
    have myz := me_ok hy hz
    have mxz := me_ok hx hz
    refine q_when (b := false) (et_eqK (evk_two (j := jo) (evk_two (j := jo) (evk_var rfl ka) (evk_var rfl kb) hx hy) (evk_var rfl kc) xy hz) (evk_two (j := jo) (evk_var rfl ka) (evk_two (j := jo) (evk_var rfl kb) (evk_var rfl kc) hy hz) hx yz) (jo_ok xy hz) (jo_ok hx yz) (jo_assoc hx hy hz)) (fun z => by cases z) (fun _ H2 e2 => ?_)
    have ka2 := ka.mono e2
    have kb2 := kb.mono e2
    have kc2 := kc.mono e2
    refine q_when (b := false) (et_eqK (evk_two (j := me) (evk_two (j := me) (evk_var rfl ka2) (evk_var rfl kb2) hx hy) (evk_var rfl kc2) mxy hz) (evk_two (j := me) (evk_var rfl ka2) (evk_two (j := me) (evk_var rfl kb2) (evk_var rfl kc2) hy hz) hx myz) (me_ok mxy hz) (me_ok hx myz) (me_assoc hx hy hz)) (fun z => by cases z) (fun _ H3 e3 => ?_)
    have ka3 := ka2.mono e3
    have kb3 := kb2.mono e3
    have kc3 := kc2.mono e3
    refine q_when (b := false || false) (et_or (et_eqK (evk_two (j := jo) (evk_var rfl ka3) (evk_two (j := me) (evk_var rfl ka3) (evk_var rfl kb3) hx hy) hx mxy) (evk_var rfl ka3) (jo_ok hx mxy) hx (jo_me hx hy)) (fun _ => et_eqK (evk_two (j := me) (evk_var rfl ka3) (evk_two (j := jo) (evk_var rfl ka3) (evk_var rfl kb3) hx hy) hx xy) (evk_var rfl ka3) (me_ok hx xy) hx (me_jo hx hy))) (fun z => by cases z) (fun _ H4 e4 => ?_)
    have ka4 := ka3.mono e4
    have kb4 := kb3.mono e4
    have kc4 := kc3.mono e4
    refine q_when (b := false) (et_eqK (evk_two (j := me) (evk_var rfl ka4) (evk_two (j := jo) (evk_var rfl kb4) (evk_var rfl kc4) hy hz) hx yz) (evk_two (j := jo) (evk_two (j := me) (evk_var rfl ka4) (evk_var rfl kb4) hx hy) (evk_two (j := me) (evk_var rfl ka4) (evk_var rfl kc4) hx hz) mxy mxz) (me_ok hx yz) (jo_ok mxy mxz) (me_dist hx hy hz)) (fun z => by cases z) (fun _ H5 e5 => ?_)
    have ka5 := ka4.mono e5
    have kb5 := kb4.mono e5
    have kc5 := kc4.mono e5
    refine s_ret (v := .bl true) (ev_is (ev_op (ev_wi (evk_two (j := jo) (evk_var rfl ka5) (evk_var rfl kb5) hx hy) (evk_var rfl kc5) xy hz) (ev_andV (ev_wi (evk_var rfl ka5) (evk_var rfl kc5) hx hz) (fun _ => ev_wi (evk_var rfl kb5) (evk_var rfl kc5) hy hz)) (rv_eq rfl)) (by rw [wi_two hx hy, decide_eq_true rfl])) fun H6 e6 => k H6 (((((e1.trans e2).trans e3).trans e4).trans e5).trans e6)
end
end L2.M1
set_option maxRecDepth 100000
set_option maxHeartbeats 4000000
namespace L2.M1
open PySem PySem.Spec PyProof.Rows L2 Mx L2.Mb Evl Mv TL
/-- four arguments that are right -/
def spRight : Sp := fun vs H Q _ => ∃ (p : Addr) (ns : Cells) (t : Int), vs = [.ref p] ∧ PenAt H p ns t ∧ ns.length ≤ 63 ∧ 0 ≤ t ∧ t ≤ 900000 ∧
  ∀ (kd : Kd) (l : Addr) (t' : Int) (H' : Hp), kd.ok = true → t ≤ t' → t' ≤ t + 5 → PenAt H' p ns t' → But p H H' → H l = none → H' l = some (.lst (partsV kd)) → Q (.ref l) H'
section
variable {P : Program} {w : World} {K : W.Frag} {mg : Str → Option Value} {base : Heap} {f fT C CE aL aT : Addr} {fd dT : FuncData} {mc : Value}
theorem ok_right (B : Bt mg) (D : Fn0 P w K mg base "_law_take" 1 fT dT p_law_take spTake) (F : FnP K "_law_right" s_law_right f fd) : FnOk P w K mg base CX0 2 f fd p_law_right spRight := by
  refine F.ok sc_law_right (fun vs H Q E h => ?_) (fun cdv A outer s H vs Q E hr h => ?_)
  · obtain ⟨p, ns, t, rfl, _⟩ := h
    rfl
  · obtain ⟨p, ns, t, rfl, pen, hn, t0, t1, k⟩ := h
    have nd := sc_law_right.nd
    refine ⟨_, PSs.nox (pss_cons (ps_set (i := 1) nd rfl (Or.inl rfl) (pe_ix ix_list (pe_lst (pa_cons pe_str (pa_cons pe_str (pa_cons pe_str pa_nil)))) (pe_call D.ok hr (by rfl) D.m D.k D.b .nil pass0 (pa_cons (pv 0) (pa_cons pe_int pa_nil))) (fun _ _ => rfl)))
      (pss_cons (ps_set (i := 2) nd rfl (Or.inl rfl) (pe_ix ix_list (pe_lst (pa_cons pe_str (pa_cons pe_str (pa_cons pe_str pa_nil)))) (pe_call D.ok hr (by rfl) D.m D.k D.b .nil pass0 (pa_cons (pv 0) (pa_cons pe_int pa_nil))) (fun _ _ => rfl)))
      (pss_cons (ps_set (i := 3) nd rfl (Or.inl rfl) (pe_ix ix_list (pe_lst (pa_cons pe_non (pa_cons pe_int (pa_cons (pe_op op_pow pe_int pe_int) (pa_cons (pe_op op_add pe_int (pe_call D.ok hr (by rfl) D.m D.k D.b .nil pass0 (pa_cons (pv 0) (pa_cons (pe_op op_sub (pe_op op_pow pe_int pe_int) pe_int) pa_nil)))) pa_nil)))))
        (pe_call D.ok hr (by rfl) D.m D.k D.b .nil pass0 (pa_cons (pv 0) (pa_cons pe_int pa_nil))) (fun _ _ => rfl)))
      (pss_one (ps_ret (pe_lst (pa_cons (pv 1) (pa_cons (pv 2) (pa_cons (pe_cmpR op_eq (pe_call D.ok hr (by rfl) D.m D.k D.b .nil pass0 (pa_cons (pv 0) (pa_cons pe_int pa_nil))) pe_int (nomark _)) (pa_cons (pv 3) pa_nil)))))))))), ?_⟩
    refine ⟨(by show 3 ≤ sizeLine; decide), fun q1 n1 => ?_⟩
    have np1 := pen_fresh pen n1
    refine ⟨_, rfl, p, 3, ns, t, rfl, pen_mono (Ex.new n1) pen, hn, t0, by omega, by decide, by decide, fun a u1 H1 a0 a1 w0 w1 pen1 but1 => ?_⟩
    obtain ⟨le, ml, al⟩ : ∃ le : Str, lendL.contains le = true ∧ atI [V.str "one", V.str "far", V.str "both"] a = some (.str le) := by
      rcases (show a = 0 ∨ a = 1 ∨ a = 2 by omega) with rfl | rfl | rfl
      · exact ⟨"one", by decide +kernel, atI_nat (j := 0) rfl⟩
      · exact ⟨"far", by decide +kernel, atI_nat (j := 1) rfl⟩
      · exact ⟨"both", by decide +kernel, atI_nat (j := 2) rfl⟩
    refine ⟨q1, _, a, .str le, rfl, rfl, SqL.of (but1 q1 _ np1 upd_same), al, ?_⟩
    have b1 : But p H H1 := (but_ex (Ex.new n1)).trans but1
    refine ⟨(by show 3 ≤ sizeLine; decide), fun q2 n2 => ?_⟩
    have np2 := pen_fresh pen1 n2
    refine ⟨_, rfl, p, 3, ns, u1, rfl, pen_mono (Ex.new n2) pen1, hn, by omega, by omega, by decide, by decide, fun b u2 H2 b0 b1' x0 x1 pen2 but2 => ?_⟩
    obtain ⟨lt, mt, at'⟩ : ∃ lt : Str, letL.contains lt = true ∧ atI [V.str "any", V.str "far", V.str "both"] b = some (.str lt) := by
      rcases (show b = 0 ∨ b = 1 ∨ b = 2 by omega) with rfl | rfl | rfl
      · exact ⟨"any", by decide +kernel, atI_nat (j := 0) rfl⟩
      · exact ⟨"far", by decide +kernel, atI_nat (j := 1) rfl⟩
      · exact ⟨"both", by decide +kernel, atI_nat (j := 2) rfl⟩
    refine ⟨q2, _, b, .str lt, rfl, rfl, SqL.of (but2 q2 _ np2 upd_same), at', ?_⟩
    have b2 : But p H H2 := (b1.trans (but_ex (Ex.new n2))).trans but2
    refine ⟨_, _, rfl, rfl, ⟨by decide, by decide, by decide⟩, _, rfl, _, _, rfl, rfl, ⟨by decide, by decide, by decide⟩, _, _, rfl, rfl, p, 999999, ns, u2, rfl, pen2, hn, by omega, by omega, by decide, by decide, fun d u3 H3 d0 d1 y0 y1 pen3 but3 => ?_⟩
    refine ⟨_, _, rfl, rfl, (by show 4 ≤ sizeLine; decide), fun q3 n3 => ?_⟩
    have np3 := pen_fresh pen3 n3
    refine ⟨_, rfl, p, 4, ns, u3, rfl, pen_mono (Ex.new n3) pen3, hn, by omega, by omega, by decide, by decide, fun e u4 H4 e0 e1 z0 z1 pen4 but4 => ?_⟩
    obtain ⟨r, hr7, ar⟩ : ∃ r : Option Int, r.all inRest = true ∧ atI [V.non, V.int 2, V.int (10 ^ Int.toNat 6), V.int (2 + d)] e = some (optV r) := by
      rcases (show e = 0 ∨ e = 1 ∨ e = 2 ∨ e = 3 by omega) with rfl | rfl | rfl | rfl
      · exact ⟨none, rfl, atI_nat (j := 0) rfl⟩
      · exact ⟨some 2, by decide, atI_nat (j := 1) rfl⟩
      · exact ⟨some (10 ^ Int.toNat 6), by decide +kernel, atI_nat (j := 2) rfl⟩
      · refine ⟨some (2 + d), ?_, atI_nat (j := 3) rfl⟩
        show inRest (2 + d) = true
        unfold inRest
        rw [decide_eq_true (show 2 ≤ 2 + d by omega), decide_eq_true (show 2 + d ≤ 1000000 by omega)]
        rfl
    refine ⟨q3, _, e, optV r, rfl, rfl, SqL.of (but4 q3 _ np3 upd_same), ar, ?_⟩
    have b4 : But p H H4 := ((b2.trans but3).trans (but_ex (Ex.new n3))).trans but4
    refine ⟨_, rfl, _, rfl, _, rfl, p, 2, ns, u4, rfl, pen4, hn, by omega, by omega, by decide, by decide, fun c u5 H5 c0 c1 v0 v1 pen5 but5 => ?_⟩
    refine ⟨rfl, _, rfl, (by show 4 ≤ sizeLine; decide), fun q4 n4 => ?_⟩
    have b5 : But p H H5 := b4.trans but5
    refine k ⟨le, lt, decide (V.int c = V.int 1), r⟩ q4 u5 _ (ok_of ml mt hr7) (by omega) (by omega) (pen_mono (Ex.new n4) pen5) (b5.trans (but_ex (Ex.new n4))) (new_but pen5 b5 n4) ?_
    exact upd_same
end
end L2.M1
set_option maxRecDepth 100000
set_option maxHeartbeats 4000000
namespace L2.M1
open PySem PySem.Spec PyProof.Rows L2 Mx L2.Mb Evl Mv TL
/-- x with a part of y -/
def mixR (i : Nat) (x y : Kd) : Kd := match i with
  | 0 => ⟨y.le, x.lt, x.tu, x.re⟩
  | 1 => ⟨x.le, y.lt, x.tu, x.re⟩
  | 2 => ⟨x.le, x.lt, y.tu, x.re⟩
  | _ => ⟨x.le, x.lt, x.tu, y.re⟩
theorem mix_ok {i : Nat} {x y : Kd} (hx : x.ok = true) (hy : y.ok = true) : (mixR i x y).ok = true := by
  obtain ⟨a1, a2, a3⟩ := ok_parts hx
  obtain ⟨b1, b2, b3⟩ := ok_parts hy
  unfold mixR
  split
  · exact ok_of b1 a2 a3
  · exact ok_of a1 b2 a3
  · exact ok_of a1 a2 a3
  · exact ok_of a1 a2 b3
theorem mix_row {i : Nat} {x y : Kd} (hi : i < 4) : ((lrow x).map V.int).set i (.int ((lrow y).getD i 0)) = (lrow (mixR i x y)).map V.int := by
  rcases (show i = 0 ∨ i = 1 ∨ i = 2 ∨ i = 3 by omega) with rfl | rfl | rfl | rfl <;> rfl
/-- three rows stand, behind what was drawn -/
structure S3 (H H' : Hp) (p r a b c : Addr) (ns : Cells) (t : Int) : Prop where
  pen : PenAt H' p ns t
  bt : But p H H'
  rw : H' r = some (.lst [.ref a, .ref b, .ref c])
  ks : ∃ x y z : Kd, x.ok = true ∧ y.ok = true ∧ z.ok = true ∧ H' a = some (.lst ((lrow x).map V.int)) ∧ H' b = some (.lst ((lrow y).map V.int)) ∧ H' c = some (.lst ((lrow z).map V.int))
/-- where they stand -/
structure N3 (H : Hp) (p r a b c : Addr) (ns : Cells) : Prop where
  pl : p ≠ ns.l
  f : ∀ q, q = r ∨ q = a ∨ q = b ∨ q = c → H q = none ∧ q ≠ p ∧ q ≠ ns.l
  rb : r ≠ b
  rc : r ≠ c
  ab : a ≠ b
  ac : a ≠ c
  bc : b ≠ c
section
variable {H H' H'' : Hp} {p r a b c : Addr} {ns : Cells} {t t' : Int}
theorem S3.but (N : N3 H p r a b c ns) (S : S3 H H' p r a b c ns t) (b2 : But p H' H'') (pn : PenAt H'' p ns t') : S3 H H'' p r a b c ns t' := by
  obtain ⟨x, y, z, hx, hy, hz, ha, hb, hc⟩ := S.ks
  exact ⟨pn, S.bt.trans b2, b2 r _ (N.f r (.inl rfl)).2.1 S.rw, x, y, z, hx, hy, hz, b2 a _ (N.f a (.inr (.inl rfl))).2.1 ha, b2 b _ (N.f b (.inr (.inr (.inl rfl)))).2.1 hb, b2 c _ (N.f c (.inr (.inr (.inr rfl)))).2.1 hc⟩
theorem S3.ex (N : N3 H p r a b c ns) (S : S3 H H' p r a b c ns t) (e : Ex H' H'') : S3 H H'' p r a b c ns t := S.but N (but_ex e) (pen_mono e S.pen)
theorem S3.set (N : N3 H p r a b c ns) (S : S3 H H' p r a b c ns t) {q : Addr} (hq : q = b ∨ q = c) {x y : Kd} (hx : x.ok = true) (hy : y.ok = true) {i : Nat} (hi : i < 4) : S3 H (upd H' q (.lst (((lrow x).map V.int).set i (.int ((lrow y).getD i 0))))) p r a b c ns t := by
  obtain ⟨k1, k2, k3, h1, h2, h3, ha, hb, hc⟩ := S.ks
  obtain ⟨g, hp, hl⟩ := S.pen
  have hqf := N.f q (hq.elim (fun h => .inr (.inr (.inl h))) fun h => .inr (.inr (.inr h)))
  rw [mix_row hi]
  have hk := mix_ok (i := i) hx hy
  have hr : r ≠ q := hq.elim (fun h => h ▸ N.rb) fun h => h ▸ N.rc
  have hA : a ≠ q := hq.elim (fun h => h ▸ N.ab) fun h => h ▸ N.ac
  refine ⟨⟨g, by rw [upd_ne hqf.2.1.symm]; exact hp, by rw [upd_ne hqf.2.2.symm]; exact hl⟩, fun d o hd e => ?_, by rw [upd_ne hr]; exact S.rw, ?_⟩
  · rw [upd_ne (ne_of_none e hqf.1)]
    exact S.bt d o hd e
  · rcases hq with e | e
    · subst e
      exact ⟨k1, mixR i x y, k3, h1, hk, h3, by rw [upd_ne hA]; exact ha, upd_same, by rw [upd_ne N.bc.symm]; exact hc⟩
    · subst e
      exact ⟨k1, k2, mixR i x y, h1, h2, hk, by rw [upd_ne hA]; exact ha, by rw [upd_ne N.bc]; exact hb, upd_same⟩
end
theorem pen_ne {H : Hp} {p : Addr} {ns : Cells} {t : Int} (h : PenAt H p ns t) : p ≠ ns.l := fun e => by
  obtain ⟨g, hp, hl⟩ := h
  rw [← e, hp] at hl
  have z := Option.some.inj hl
  have z2 := HO.lst.inj z
  cases hx : ns.xs with
  | nil => rw [hx] at z2; cases z2
  | cons m l => rw [hx] at z2; cases z2
theorem pen_freshL {H : Hp} {p q : Addr} {ns : Cells} {t : Int} (pen : PenAt H p ns t) (n : H q = none) : q ≠ ns.l := fun z => by
  obtain ⟨_, _, hl⟩ := pen
  rw [z, hl] at n
  cases n
def spTK : Sp := fun vs H Q _ => ∃ (p : Addr) (ns : Cells) (t : Int), vs = [.ref p] ∧ PenAt H p ns t ∧ ns.length ≤ 63 ∧ 0 ≤ t ∧ t ≤ 800000 ∧ ∀ (t' : Int) (H' : Hp), t ≤ t' → t' ≤ t + 23 → PenAt H' p ns t' → But p H H' → Q (.bl true) H'
section
variable {P : Program} {w : World} {K : W.Frag} {mg : Str → Option Value} {base : Heap} {f fT fR fP f3 C aL aT : Addr} {fd dT dR dP d3 : FuncData} {mc : Value}
theorem ev_row {σ : L2.St} {H : Hp} {r q : Addr} {xs : List V} {j : Nat} (hs : σ[1]? = some (some (.ref r))) (hr : H r = some (.lst xs)) (hj : xs[j]? = some (.ref q)) : Ev (tOp (rIxL K) (tVar 1) (tC (.int (j : Int)))) σ H (.ref q) :=
  ev_op (ev_var hs) ev_c (rv_ixL (sq_of hr) (atI_nat hj))
theorem ev_cell {σ : L2.St} {H : Hp} {q : Addr} {te ti : TE} {x : Kd} {i : Nat} (h : Ev te σ H (.ref q)) (hq : H q = some (.lst ((lrow x).map V.int))) (hi : Ev ti σ H (.int (i : Int))) (h4 : i < 4) : Ev (tOp (rIxL K) te ti) σ H (.int ((lrow x).getD i 0)) := by
  refine ev_op h hi (rv_ixL (sq_of hq) (atI_nat ?_))
  have hl : (lrow x).length = 4 := rfl
  rw [List.getElem?_map, List.getElem?_eq_getElem (by omega), List.getD_eq_getElem?_getD, List.getElem?_eq_getElem (by omega)]
  rfl
theorem s_mix {σ : L2.St} {H H4 : Hp} {p r a b c : Addr} {ns : Cells} {t4 : Int} {i dst src : Nat} {E3 : XK} {D : Ends} (h0 : σ[0]? = some (some (.ref p))) (h1 : σ[1]? = some (some (.ref r))) (h2 : σ[2]? = some (some (.int (i : Int)))) (hi : i < 4) (N : N3 H p r a b c ns) (S : S3 H H4 p r a b c ns t4) (hn : ns.length ≤ 63)
    (t0 : 0 ≤ t4) (t1 : t4 ≤ 1000000) (hd : (dst = 1 ∧ src = 0) ∨ (dst = 2 ∧ src = 1)) (k : ∀ (t' : Int) (H' : Hp), t4 ≤ t' → t' ≤ t4 + 1 → S3 H H' p r a b c ns t' → D.nx σ H') :
    tIfS (tTest (tOp rEq (tCall spTake [] E3 (tCons (tVar 0) (tCons (tC (.int 3)) tNil))) (tC (.int 0)))) (tAsg (tOp (rIxL K) (tOp (rIxL K) (tVar 1) (tC (.int (src : Int)))) (tVar 2)) (gSub (tOp (rIxL K) (tVar 1) (tC (.int (dst : Int)))) (tVar 2) rSetL)) tNext D σ H4 := by
  refine ⟨_, h0, p, 3, ns, t4, rfl, S.pen, hn, t0, t1, by decide, by decide, fun d u H5 d0 d1 v0 v1 pen5 but5 => ?_⟩
  have S5 := S.but N but5 pen5
  refine ⟨rfl, _, rfl, ?_⟩
  refine ifB (fun _ => ?_) (fun _ => k u H5 v0 v1 S5)
  obtain ⟨x, y, z, hx, hy, hz, ha, hb, hc⟩ := S5.ks
  rcases hd with ⟨rfl, rfl⟩ | ⟨rfl, rfl⟩
  · exact s_setL (l := b) hb (ev_cell (ev_row (j := 0) h1 S5.rw rfl) ha (ev_var h2) hi) (ev_row (j := 1) h1 S5.rw rfl) (ev_var h2) (show i < 4 from hi) fun H6 e6 => k u _ v0 v1 ((S5.ex N e6).set N (.inl rfl) hy hx hi)
  · exact s_setL (l := c) hc (ev_cell (ev_row (j := 1) h1 S5.rw rfl) hb (ev_var h2) hi) (ev_row (j := 2) h1 S5.rw rfl) (ev_var h2) (show i < 4 from hi) fun H6 e6 => k u _ v0 v1 ((S5.ex N e6).set N (.inr rfl) hz hy hi)
theorem ok_tk {oc dV kV doc pm ct cdv : Value} {an od : Option Addr} {osl : Array (Option Value)}
    (B : Bt mg) (D : Fn0 P w K mg base "_law_take" 1 fT dT p_law_take spTake) (DR : Fn0 P w K mg base "_law_ranks" 2 fR dR p_law_ranks spRk) (DP : FgD P w K mg base "_law_pair_right" 7 fP dP p_law_pair_right spPair) (D3 : Fn0 P w K mg base "_law_three_right" 7 f3 d3 p_law_three_right spThree)
    (lk : K.lookup f = some ⟨oc, od, .func (W.fnOf "_law_three_kinds_right" "_law_three_kinds_right" (defArgs s_law_three_kinds_right) (defBody s_law_three_kinds_right) (defScope s_law_three_kinds_right) dV kV doc pm an cdv ct), osl⟩) (hcd : W.codeIn K cdv "_law_three_kinds_right" = true) :
    FnG P w K mg base CX0 8 f (W.fnOf "_law_three_kinds_right" "_law_three_kinds_right" (defArgs s_law_three_kinds_right) (defBody s_law_three_kinds_right) (defScope s_law_three_kinds_right) dV kV doc pm an cdv ct) p_law_three_kinds_right spTK := by
  refine fng_of lk hcd sc_law_three_kinds_right (fun vs H Q E h => ?_) (fun A0 outer s H vs Q E gd hr h => ?_)
  · obtain ⟨p, ns, t, rfl, _⟩ := h
    rfl
  · obtain ⟨p, ns, t, rfl, pen, hn, t0, t1, k⟩ := h
    have nd := sc_law_three_kinds_right.nd
    refine ⟨_, PSs.nox (pss_cons (ps_set (i := 1) nd rfl (Or.inl rfl) (pe_lst (pa_cons (pe_call DR.ok (hr.mono (by decide)) (by rfl) DR.m DR.k DR.b .nil pass0 (pa_cons (pv 0) pa_nil)) (pa_cons (pe_call DR.ok (hr.mono (by decide)) (by rfl) DR.m DR.k DR.b .nil pass0 (pa_cons (pv 0) pa_nil)) (pa_cons (pe_call DR.ok (hr.mono (by decide)) (by rfl) DR.m DR.k DR.b .nil pass0 (pa_cons (pv 0) pa_nil)) pa_nil)))))
      (pss_cons (ps_for PassesOwn.never rfl (pi_range1 (by rfl) B.range (pa_cons pe_int pa_nil)) (pg_name (i := 2) nd rfl (Or.inl rfl))
        (Evl.pss_cut (ps_if (pt_cmpR op_eq (pe_call D.ok (hr.mono (by decide)) (by rfl) D.m D.k D.b .nil pass0 (pa_cons (pv 0) (pa_cons pe_int pa_nil))) pe_int (nomark _)) (pss_one (ps_asg (pe_ix ix_list (pe_ix ix_list (pv 1) pe_int (fun _ _ => rfl)) (pv 2) (fun _ _ => rfl)) (pg_sub (pe_ix ix_list (pv 1) pe_int (fun _ _ => rfl)) (pv 2) set_list))) pss_nil)
        (pss_one (ps_if (pt_cmpR op_eq (pe_call D.ok (hr.mono (by decide)) (by rfl) D.m D.k D.b .nil pass0 (pa_cons (pv 0) (pa_cons pe_int pa_nil))) pe_int (nomark _)) (pss_one (ps_asg (pe_ix ix_list (pe_ix ix_list (pv 1) pe_int (fun _ _ => rfl)) (pv 2) (fun _ _ => rfl)) (pg_sub (pe_ix ix_list (pv 1) pe_int (fun _ _ => rfl)) (pv 2) set_list))) pss_nil))))
      (pss_cons (ps_for PassesOwn.never rfl (pi_list (pv 1)) (pg_name (i := 3) nd rfl (Or.inl rfl)) (pss_one (ps_for PassesOwn.never rfl (pi_list (pv 1)) (pg_name (i := 4) nd rfl (Or.inl rfl))
        (pss_one (ps_if (pt_not (pt_val (pe_callG gd DP.ok hr (by rfl) DP.m DP.k DP.b .nil pass0 (pa_cons (pv 3) (pa_cons (pv 4) pa_nil))))) (pss_one (ps_ret pe_bl)) pss_nil)))))
      (pss_one (ps_ret (pe_call D3.ok hr (by rfl) D3.m D3.k D3.b .nil pass0 (pa_cons (pe_ix ix_list (pv 1) pe_int (fun _ _ => rfl)) (pa_cons (pe_ix ix_list (pv 1) pe_int (fun _ _ => rfl)) (pa_cons (pe_ix ix_list (pv 1) pe_int (fun _ _ => rfl)) pa_nil))))))))), ?_⟩
    refine ⟨_, rfl, p, ns, t, rfl, pen, hn, t0, by omega, fun x a u1 H1 hx v0 v1 pen1 but1 na ha => ?_⟩
    refine ⟨_, rfl, p, ns, u1, rfl, pen1, hn, by omega, by omega, fun y b u2 H2 hy v2 v3 pen2 but2 nb hb => ?_⟩
    refine ⟨_, rfl, p, ns, u2, rfl, pen2, hn, by omega, by omega, fun z c u3 H3 hz v4 v5 pen3 but3 nc hc => ?_⟩
    refine ⟨(by show 3 ≤ sizeLine; decide), fun r nr => ?_⟩
    have b02 : But p H H2 := but1.trans but2
    have b03 : But p H H3 := b02.trans but3
    have nb0 := new_but pen1 but1 nb
    have nc0 := new_but pen2 b02 nc
    have nr0 := new_but pen3 b03 nr
    have pa := pen_fresh pen na
    have pb := pen_fresh pen1 nb
    have pc := pen_fresh pen2 nc
    have ha2 := but2 a _ pa ha
    have ha3 := but3 a _ pa ha2
    have hb3 := but3 b _ pb hb
    have N : N3 H p r a b c ns := ⟨pen_ne pen, fun q hq => by
      rcases hq with e | e | e | e
      · subst e
        exact ⟨nr0, pen_fresh pen3 nr, pen_freshL pen3 nr⟩
      · subst e
        exact ⟨na, pa, pen_freshL pen na⟩
      · subst e
        exact ⟨nb0, pb, pen_freshL pen1 nb⟩
      · subst e
        exact ⟨nc0, pc, pen_freshL pen2 nc⟩, (ne_of_none hb3 nr).symm, (ne_of_none hc nr).symm, ne_of_none ha nb, ne_of_none ha2 nc, ne_of_none hb nc⟩
    have e3 := Ex.new (o := HO.lst [.ref a, .ref b, .ref c]) nr
    have S0 : S3 H (upd H3 r (.lst [.ref a, .ref b, .ref c])) p r a b c ns u3 := ⟨pen_mono e3 pen3, b03.trans (but_ex e3), upd_same, x, y, z, hx, hy, hz, e3 _ _ ha3, e3 _ _ hb3, e3 _ _ hc⟩
    refine ⟨4, rfl, by decide, by decide, for_range (lo := 0) (n := 4) (fun i σ' H' => ∃ (t' : Int) (x2 : Option V), σ' = [some (.ref p), some (.ref r), x2, none, none] ∧ u3 ≤ t' ∧ t' ≤ u3 + 2 * (i : Int) ∧ S3 H H' p r a b c ns t') ⟨u3, none, rfl, Int.le_refl _, by omega, S0⟩ ?_ ?_⟩
    · rintro i σ' H4 hi ⟨t4, x2, rfl, w0, w1, S4⟩
      have e0 : (0 : Int) + (i : Int) = (i : Int) := Int.zero_add _
      rw [e0]
      refine ⟨fun σ2 H' => ∃ t' : Int, σ2 = [some (.ref p), some (.ref r), some (.int (i : Int)), none, none] ∧ u3 ≤ t' ∧ t' ≤ u3 + 2 * (i : Int) + 1 ∧ S3 H H' p r a b c ns t', ?_, ?_⟩
      · exact s_mix (dst := 1) (src := 0) rfl rfl rfl (by omega) N S4 hn (by omega) (by omega) (.inl ⟨rfl, rfl⟩) fun t' H' a0 a1 S' => ⟨t', rfl, by omega, by omega, S'⟩
      · rintro σ2 H5 ⟨t5, rfl, w2, w3, S5⟩
        exact s_mix (dst := 2) (src := 1) rfl rfl rfl (by omega) N S5 hn (by omega) (by omega) (.inr ⟨rfl, rfl⟩) fun t' H' a0 a1 S' => ⟨t', _, rfl, by omega, by push_cast; omega, S'⟩
    · rintro σ' H4 ⟨t4, x2, rfl, w0, w1, S4⟩
      obtain ⟨x', y', z', hx', hy', hz', ha', hb', hc'⟩ := S4.ks
      have ok3 : ∀ (i : Nat) (v : V), ([.ref a, .ref b, .ref c] : List V)[i]? = some v → ∃ (q : Addr) (kd : Kd), v = .ref q ∧ kd.ok = true ∧ H4 q = some (.lst ((lrow kd).map V.int)) := fun i v hv => by
        rcases i with _ | _ | _ | i
        · cases hv
          exact ⟨a, x', rfl, hx', ha'⟩
        · cases hv
          exact ⟨b, y', rfl, hy', hb'⟩
        · cases hv
          exact ⟨c, z', rfl, hz', hc'⟩
        · cases hv
      refine s_forL (a := r) (xs := [.ref a, .ref b, .ref c]) (ev_var rfl) (sq_of S4.rw) (fun _ σ1 H' => ∃ x3 x4 : Option V, σ1 = [some (.ref p), some (.ref r), x2, x3, x4] ∧ Ex H4 H') (fun H5 e5 => ⟨_, _, rfl, e5⟩) (fun i σ1 H' _ ⟨_, _, _, e⟩ => ex_l e (sq_of S4.rw)) (fun i v σ1 H5 hv h5 => ?_) (fun σ1 H5 h5 => ?_)
      · obtain ⟨x3, x4, rfl, e5⟩ := h5
        obtain ⟨q1, k1, rfl, o1, h1⟩ := ok3 i v hv
        refine s_forL (a := r) (xs := [.ref a, .ref b, .ref c]) (ev_var rfl) (sq_of (e5 _ _ S4.rw)) (fun _ σ1 H' => ∃ x4 : Option V, σ1 = [some (.ref p), some (.ref r), x2, some (.ref q1), x4] ∧ Ex H4 H') (fun H6 e6 => ⟨_, rfl, e5.trans e6⟩) (fun i σ1 H' _ ⟨_, _, e⟩ => ex_l e (sq_of S4.rw)) (fun i2 v2 σ1 H6 hv2 h6 => ?_) (fun σ1 H6 h6 => ?_)
        · obtain ⟨x4, rfl, e6⟩ := h6
          obtain ⟨q2, k2, rfl, o2, h2⟩ := ok3 i2 v2 hv2
          refine ⟨_, rfl, _, rfl, q1, q2, k1, k2, rfl, o1, o2, e6 _ _ h1, e6 _ _ h2, fun H7 e7 => ⟨true, rfl, ?_⟩⟩
          exact ⟨_, rfl, e6.trans e7⟩
        · obtain ⟨x4, rfl, e6⟩ := h6
          exact ⟨_, _, rfl, e6⟩
      · obtain ⟨x3, x4, rfl, e5⟩ := h5
        refine (ev_row (K := K) (j := 0) rfl (e5 _ _ S4.rw) rfl) H5 (Ex.refl H5) _ fun H6 e6 => ?_
        refine (ev_row (K := K) (j := 1) rfl (e6 _ _ (e5 _ _ S4.rw)) rfl) H6 (Ex.refl H6) _ fun H7 e7 => ?_
        refine (ev_row (K := K) (j := 2) rfl (e7 _ _ (e6 _ _ (e5 _ _ S4.rw))) rfl) H7 (Ex.refl H7) _ fun H8 e8 => ?_
        have e48 := ((e5.trans e6).trans e7).trans e8
        refine ⟨a, b, c, x', y', z', rfl, hx', hy', hz', e48 _ _ ha', e48 _ _ hb', e48 _ _ hc', fun H9 e9 => ?_⟩
        have S9 := S4.ex N (e48.trans e9)
        exact k t4 H9 (by omega) (by push_cast at w1; omega) S9.pen S9.bt
end
end L2.M1
set_option maxRecDepth 100000
set_option maxHeartbeats 4000000
namespace L2.M1
open PySem PySem.Spec PyProof.Rows L2 Mx L2.Mb Evl Mv TL LamX
/-! ### told: what a call gives, its value or its error -/
abbrev n_told : List Str := ["_law_ask", "_law_caught", "_law_made", "error"]
theorem sc_told : FnScope n_told ["_law_ask"] (defScope s_law_told) := ⟨rfl, rfl, rfl, by decide +kernel, rfl, by decide +kernel, by decide +kernel⟩
/-- the error classes as told looks at them -/
structure TF (K : W.Frag) (mg : Str → Option Value) (CE cM cS cO cC cX cP : Addr) : Prop where
  m1 : mg "MeetError" = some (.ref cM)
  m2 : mg "NoStation" = some (.ref cS)
  m3 : mg "TooMany" = some (.ref cO)
  m4 : mg "Clash" = some (.ref cC)
  m5 : mg "InvalidText" = some (.ref cX)
  m6 : mg "InvalidPart" = some (.ref cP)
  ex : W.exmAny K (.ref CE) [.ref cM, .ref cS, .ref cO] = some true
  k1 : W.kitOne K (.ref CE) (.ref CE) = some true
  k2 : W.kitOne K (.ref CE) (.ref cM) = some true
  kV : W.kitOne K (.ref CE) (.type "ValueError") = some true
  k3 : W.kitAny K (.ref CE) [.ref cC, .ref cP, .ref cX, .ref cS, .ref cO] = some false
def TT3 (C CE : Addr) : (XK → Hp → VK → Prop) → Hp → VK → Prop := fun tl H Q => ∀ (E' : XK) (Q' : VK),
  (∀ dd n H1, H1 dd = some (.xd [("place", .int n)]) → (∀ p H2, Ex H1 H2 → H2 p = some (.tup [.str "wrong", .int n]) → Q (.ref p) H2) → E' (.ref CE) (some dd) H1) →
  (∀ a kd H1, KAt C H1 a kd → (∀ p l H2, Ex H1 H2 → H2 l = some (.lst [.str kd.le, .str kd.lt, .bl kd.tu, optV kd.re]) → H2 p = some (.tup [.str "kind", .ref l]) → Q (.ref p) H2) → Q' (.ref a) H1) → tl E' H Q'
section
variable {P : Program} {w : World} {K : W.Frag} {mg : Str → Option Value} {base : Heap}
theorem hat_mono {H H' : Hp} {a C : Addr} {fs : List (Str × V)} (h : HAt H a C fs) (e : Ex H H') : HAt H' a C fs := h.elim fun d z => ⟨d, e _ _ z.1, e _ _ z.2⟩
theorem ev_getH {σ : L2.St} {H : Hp} {te : TE} {a C fI : Addr} {b : EB} {fs : List (Str × V)} {x : Str} {v : V} (h : Ev te σ H (.ref a)) (hx : HAt H a C fs) (T : EC K C fI b) (no : W.findIn K (.ref C) x = some none) (lk : fs.lookup x = some v) : Ev (tGetH K x te) σ H v := fun H1 e Q q =>
  h H1 e _ fun H2 e2 => ⟨a, C, fI, b, fs, v, rfl, hat_mono hx (e.trans e2), T, no, lk, q H2 e2⟩
theorem told_ps {g C CE fE cM cS cO cC cX cP aL aT : Addr} {mc cdg : Value} {dE : FuncData} {q : Str} {A : Around} {outer : List Env} (B : Bt mg) (T : KF K mg C mc aL aT) (XE : XT P w K mg base CE fE dE) (Z : TF K mg CE cM cS cO cC cX cP)
    (pL : KP P w K mg base C "lends" fun k => .str k.le) (pT : KP P w K mg base C "lets" fun k => .str k.lt) (pU : KP P w K mg base C "turns" fun k => .bl k.tu) (pR : KP P w K mg base C "rests" fun k => optV k.re)
    {f c' : Addr} {s : Shared} {H : Hp} {Q : VK} {tl : XK → Hp → VK → Prop} (hr2 : Room 2 (A.deeper (envOfC "_law_told" (defScope s_law_told) s.heap.objs.size g cdg)))
    (act : ∀ (W : WX) (pn : List (Addr × Obj)) (xe : Value → Shared → Prop) (E : XK) (p1 p2 : Pos), Takes ((cxOf C8.CX0 P w K mg base n_told "_law_told" (defScope s_law_told) g cdg A outer s H C8.E0).tr pn xe) W → (∀ cls d σ' H', E cls d H' → W cls d σ' H') →
      PE ((cxOf C8.CX0 P w K mg base n_told "_law_told" (defScope s_law_told) g cdg A outer s H C8.E0).tr pn xe) (.Call (.Name "_law_ask" p1) [] [] p2) (fun σZ HZ Q => σZ[0]? = some (some (.ref f)) ∧ HZ c' = some (CodeO c' q) ∧ tl E HZ Q))
    (hc : H c' = some (CodeO c' q)) (h : TT3 C CE tl H Q) :
    ∃ t, PSs (cxOf C8.CX0 P w K mg base n_told "_law_told" (defScope s_law_told) g cdg A outer s H C8.E0).nox (defBody s_law_told) t ∧ t { nx := fun _ H' => Q .non H', rt := Q } (L2.start n_told [.ref f]) H := by
  have nd := sc_told.nd
  have ecT := XE.ec
  refine ⟨_, pss_cons (ps_set (i := 1) nd rfl (Or.inl rfl) pe_non)
    (pss_cons (ps_try_hold (X := (cxOf C8.CX0 P w K mg base n_told "_law_told" (defScope s_law_told) g cdg A outer s H C8.E0).nox) (c1 := .ref cM) (c2 := .ref cS) (c3 := .ref cO) (i := 3)
        (tb := fun W D σ H => ∃ Ech : XK, (∀ cls d σ' H', Ech cls d H' → W cls d σ' H') ∧ σ = [some (.ref f), some .non, none, none] ∧ H c' = some (CodeO c' q) ∧ ∀ Q' : VK, (∀ a kd H1, KAt C H1 a kd → (∀ p l H2, Ex H1 H2 → H2 l = some (.lst [.str kd.le, .str kd.lt, .bl kd.tu, optV kd.re]) → H2 p = some (.tup [.str "kind", .ref l]) → D.rt (.ref p) H2) → Q' (.ref a) H1) → tl Ech H Q')
        (ts := fun a cls d => tAsg (tVar 3) (gName 1))
        rfl rfl rfl nd rfl rfl (by rfl) Z.m1 (by rfl) Z.m2 (by rfl) Z.m3 (by decide) (by decide) (by decide) (fun W pn xe tk _ => ?_) (fun a oe cls d pn _ _ => pss_one (ps_set (i := 1) nd rfl (Or.inl rfl) (pv 3))))
    (pss_cons (ps_if (pw_or (pt_not (pt_val (pe_callB call_isH (by rfl) B.isinstance (by decide +kernel) (pa_cons (pv 1) (pa_cons (pe_glob (v := .ref CE) (by rfl) XE.m rfl) pa_nil)))))
        (pw_or (pt_not (pt_val (pe_callB call_isH (by rfl) B.isinstance (by decide +kernel) (pa_cons (pv 1) (pa_cons (pe_glob (v := .ref cM) (by rfl) Z.m1 rfl) pa_nil))))) (pw_or1 (pt_not (pt_val (pe_callB call_isH (by rfl) B.isinstance (by decide +kernel) (pa_cons (pv 1) (pa_cons (pe_bltn (v := .ty "ValueError") (by rfl) B.ValueError (by decide +kernel) rfl) pa_nil)))))))).pt
      (pss_one (ps_ret (pe_tup (pa_cons pe_str (pa_cons pe_non pa_nil))))) pss_nil)
    (pss_cons (ps_if (pt_val (pe_callB call_isH (by rfl) B.isinstance (by decide +kernel) (pa_cons (pv 1) (pa_cons (pe_tup (pa_cons (pe_glob (v := .ref cC) (by rfl) Z.m4 rfl) (pa_cons (pe_glob (v := .ref cP) (by rfl) Z.m6 rfl) (pa_cons (pe_glob (v := .ref cX) (by rfl) Z.m5 rfl) (pa_cons (pe_glob (v := .ref cS) (by rfl) Z.m2 rfl) (pa_cons (pe_glob (v := .ref cO) (by rfl) Z.m3 rfl) pa_nil)))))) pa_nil))))
      (pss_one (ps_ret (pe_tup (pa_cons pe_str (pa_cons pe_non pa_nil))))) pss_nil)
    (pss_one (ps_ret (pe_tup (pa_cons pe_str (pa_cons (pe_getH (pv 1)) pa_nil)))))))), ?_⟩
  · refine ⟨fun pins s' σ H' D I h' => ?_⟩
    obtain ⟨Ech, hW, rfl, h2, h3⟩ := h'
    refine (pss_cons (ps_set (i := 2) nd rfl (Or.inl rfl) (act W pn xe Ech _ _ tk hW)) (pss_one (ps_ret (pe_tup (pa_cons pe_str (pa_cons (pe_lst (pa_cons (pe_pr T pL hr2 (pv 2)) (pa_cons (pe_pr T pT hr2 (pv 2)) (pa_cons (pe_pr T pU hr2 (pv 2)) (pa_cons (pe_pr T pR hr2 (pv 2)) pa_nil))))) pa_nil)))))).run pins s' _ H' D I ?_
    refine ⟨rfl, h2, h3 _ fun a kd H1 ha kk => ?_⟩
    have hl : EvL (tLst (tCons (tPr C (fun k => .str k.le) (tVar 2)) (tCons (tPr C (fun k => .str k.lt) (tVar 2)) (tCons (tPr C (fun k => .bl k.tu) (tVar 2)) (tCons (tPr C (fun k => optV k.re) (tVar 2)) tNil))))) [some (.ref f), some .non, some (.ref a), none] H1 [.str kd.le, .str kd.lt, .bl kd.tu, optV kd.re] :=
      el_lst (ea_cons (ev_pr (v := fun k => .str k.le) (ev_var rfl) ha) (ea_cons (ev_pr (v := fun k => .str k.lt) (ev_var rfl) ha) (ea_cons (ev_pr (v := fun k => .bl k.tu) (ev_var rfl) ha) (ea_cons (ev_pr (v := fun k => optV k.re) (ev_var rfl) ha) ea_nil)))) (by show 4 ≤ 100000; decide)
    dsimp only [gName, tRet, tTup, tCons, tC, tNil, List.set]
    exact hl H1 (Ex.refl H1) _ fun l H2 nl e2 hl2 => ⟨(by show 2 ≤ sizeLine; decide), fun p hp => kk p l _ (e2.trans (Ex.new hp)) (Ex.new hp _ _ hl2) upd_same⟩
  · refine ⟨fun cls d H' => ∃ (dd : Addr) (n : Int), cls = .ref CE ∧ d = some dd ∧ H' dd = some (.xd [("place", .int n)]) ∧ ∀ p H2, Ex H' H2 → H2 p = some (.tup [.str "wrong", .int n]) → Q (.ref p) H2, ?_, rfl, hc, ?_⟩
    · rintro cls d σ' H' ⟨dd, n, rfl, rfl, hd, kk⟩
      refine ⟨CE, dd, rfl, rfl, Z.ex, fun a hl na => ?_⟩
      obtain ⟨s0, s1, s2, s3, rfl⟩ : ∃ s0 s1 s2 s3, σ' = [s0, s1, s2, s3] := by
        match σ', hl with
        | [s0, s1, s2, s3], _ => exact ⟨s0, s1, s2, s3, rfl⟩
      refine s_asg (v := .ref a) (ev_var rfl) fun H2 e2 na2 => ?_
      have ha : HAt (upd H2 a (exh a CE dd)) a CE [("place", .int n)] := ⟨dd, upd_same, by
        rw [upd_ne (fun z => by rw [z] at hd; rw [na] at hd; cases hd)]
        exact e2 _ _ hd⟩
      have e3 : Ex H' (upd H2 a (exh a CE dd)) := e2.trans (Ex.new na2)
      have rc1 : ∀ {c : Addr} {r : Bool}, W.kitOne K (.ref CE) (.ref c) = some r → RC (rIsH K) [.ref a, .ref c] (upd H2 a (exh a CE dd)) (.bl r) := fun {c r} hk H9 e9 Q q => ⟨a, CE, fE, .val, _, _, r, rfl, hat_mono ha e9, ecT, q H9 (Ex.refl H9), .inl ⟨_, .own _, hk⟩⟩
      refine q_when (b := false) (et_is (et_or (a := false) (b := false) (et_not (a := true) (et_B (ev_cb (ea_cons (ev_var rfl) (ea_cons ev_c ea_nil)) (rc1 Z.k1)))) (fun _ => et_or (a := false) (b := false) (et_not (a := true) (et_B (ev_cb (ea_cons (ev_var rfl) (ea_cons ev_c ea_nil)) (rc1 Z.k2))))
        (fun _ => et_not (a := true) (et_B (ev_cb (ea_cons (ev_var rfl) (ea_cons ev_c ea_nil)) (fun H9 e9 Q q => ⟨a, CE, fE, .val, _, _, true, rfl, hat_mono ha e9, ecT, q H9 (Ex.refl H9), .inl ⟨_, .ty _, Z.kV⟩⟩)))))) rfl) (fun z => by cases z) (fun _ H4 e4 => ?_)
      refine q_when (b := false) (et_B (fun H9 e9 Q9 q9 => ⟨.ref a, rfl, (eu_tup (σ := [s0, some (.ref a), s2, none]) (H := H9) (ea_cons ev_c (ea_cons ev_c (ea_cons ev_c (ea_cons ev_c (ea_cons ev_c ea_nil))))) (by show 5 ≤ 100000; decide)) H9 (Ex.refl H9) _ fun p H10 _ e10 hp => ⟨a, CE, fE, .val, _, .ref p, false, rfl, hat_mono ha ((e4.trans e9).trans e10), ecT, q9 H10 e10,
        .inr ⟨p, _, _, rfl, hp, .cons (.own _) (.cons (.own _) (.cons (.own _) (.cons (.own _) (.cons (.own _) .nil)))), Z.k3⟩⟩⟩)) (fun z => by cases z) (fun _ H5 e5 => ?_)
      exact s_retU (eu_tup (ea_cons ev_c (ea_cons (ev_getH (v := .int n) (ev_var rfl) (hat_mono ha (e4.trans e5)) ecT XE.no rfl) ea_nil)) (by show 2 ≤ 100000; decide)) fun p H6 np e6 hp => kk p H6 ((e3.trans (e4.trans e5)).trans e6) hp
    · intro Q' hQ
      exact h _ Q' (fun dd n H1 hd kk => ⟨dd, n, rfl, rfl, hd, kk⟩) hQ
theorem told_gives {X : Cx} {g C CE fE cM cS cO cC cX cP aL aT : Addr} {mc cdg : Value} {dE : FuncData} {q : Str} (B : Bt X.mg) (T : KF X.K X.mg C mc aL aT) (XE : XT X.prog X.w X.K X.mg X.base CE fE dE) (Z : TF X.K X.mg CE cM cS cO cC cX cP) (hr : Room 3 X.A)
    (pL : KP X.prog X.w X.K X.mg X.base C "lends" fun k => .str k.le) (pT : KP X.prog X.w X.K X.mg X.base C "lets" fun k => .str k.lt) (pU : KP X.prog X.w X.K X.mg X.base C "turns" fun k => .bl k.tu) (pR : KP X.prog X.w X.K X.mg X.base C "rests" fun k => optV k.re) :
    GivesTo X n_told "_law_told" (defScope s_law_told) g cdg (defBody s_law_told) "_law_ask" q (TT3 C CE) := fun f c' s H Q tl act hc h => told_ps B T XE Z pL pT pU pR (hr.deeper _) act hc h
end
end L2.M1
set_option maxRecDepth 100000
set_option maxHeartbeats 4000000
namespace L2.M1
open PySem PySem.Spec PyProof.Rows L2 Mx L2.Mb Evl Mv TL
/-! ### values of their own cells, as data -/
/-- short when shown -/
def smD (d : PyData) : Bool := decide (d.shown.length ≤ 100) && (d.showable && decide (d.depth ≤ 4))
/-- v says d, on cells laid since H0 alone -/
def Own (K : W.Frag) (H0 H : Hp) (v : V) (d : PyData) : Prop := ∀ H2 : Hp, (∀ c o, H0 c = none → H c = some o → (∀ ps, o ≠ .tbl ps) → H2 c = some o) → Dq K H2 v d ∧ AnyV H2 v
theorem nt_l (xs : List V) : ∀ ps, HO.lst xs ≠ .tbl ps := fun ps z => by cases z
theorem nt_t (xs : List V) : ∀ ps, HO.tup xs ≠ .tbl ps := fun ps z => by cases z
theorem nt_d (xs : List (Key × V)) : ∀ ps, HO.dK xs ≠ .tbl ps := fun ps z => by cases z
section
variable {K : W.Frag} {H0 H1 H H' : Hp} {v : V} {d : PyData}
theorem Own.keep (h : Own K H0 H v d) (k : ∀ c o, H0 c = none → H c = some o → H' c = some o) : Own K H0 H' v d := fun H2 z => h H2 fun c o n hc t => z c o n (k c o n hc) t
theorem Own.mono (h : Own K H0 H v d) (e : Ex H H') : Own K H0 H' v d := h.keep fun c o _ hc => e c o hc
theorem Own.base (h : Own K H1 H v d) (e : Ex H0 H1) : Own K H0 H v d := fun H2 z => h H2 fun c o n hc t => z c o (fresh_back e n) hc t
theorem Own.atom (h : ∀ H2 : Hp, Dq K H2 v d ∧ AnyV H2 v) : Own K H0 H v d := fun H2 _ => h H2
/-- a new list of such values at q -/
structure LG (K : W.Frag) (H0 H : Hp) (q : Addr) (n : Nat) (G : V → PyData → Prop) : Prop where
  nw : H0 q = none
  at' : ∃ xs, H q = some (.lst xs) ∧ xs.length = n ∧ ∀ x ∈ xs, ∃ d, Own K H0 H x d ∧ G x d
variable {q : Addr} {n m : Nat} {G G' : V → PyData → Prop}
theorem LG.keep (h : LG K H0 H q n G) (k : ∀ c o, H0 c = none → H c = some o → H' c = some o) : LG K H0 H' q n G := by
  obtain ⟨xs, h1, h2, h3⟩ := h.at'
  exact ⟨h.nw, xs, k _ _ h.nw h1, h2, fun x hx => (h3 x hx).elim fun d z => ⟨d, z.1.keep k, z.2⟩⟩
theorem LG.mono (h : LG K H0 H q n G) (e : Ex H H') : LG K H0 H' q n G := h.keep fun c o _ hc => e c o hc
theorem LG.base (h : LG K H1 H q n G) (e : Ex H0 H1) : LG K H0 H q n G := by
  obtain ⟨xs, h1, h2, h3⟩ := h.at'
  exact ⟨fresh_back e h.nw, xs, h1, h2, fun x hx => (h3 x hx).elim fun d z => ⟨d, z.1.base e, z.2⟩⟩
theorem LG.imp (h : LG K H0 H q n G) (i : ∀ v d, G v d → G' v d) : LG K H0 H q n G' := by
  obtain ⟨xs, h1, h2, h3⟩ := h.at'
  exact ⟨h.nw, xs, h1, h2, fun x hx => (h3 x hx).elim fun d z => ⟨d, z.1, i _ _ z.2⟩⟩
/-! ### what gives them -/
def EvW (K : W.Frag) (te : TE) (σ : L2.St) (G : V → PyData → Prop) : Prop := ∀ (H : Hp) (Q : VK), (∀ v d H2, Ex H H2 → Own K H H2 v d → G v d → Q v H2) → te σ H Q
def EvWA (K : W.Frag) (ta : TA) (σ : L2.St) (n : Nat) (G : V → PyData → Prop) : Prop := ∀ (H : Hp) (Q : List V → Hp → Prop), (∀ vs H2, Ex H H2 → vs.length = n → (∀ x ∈ vs, ∃ d, Own K H H2 x d ∧ G x d) → Q vs H2) → ta σ H Q
def EvWL (K : W.Frag) (te : TE) (σ : L2.St) (n : Nat) (G : V → PyData → Prop) : Prop := ∀ (H : Hp) (Q : VK), (∀ q H2, Ex H H2 → LG K H H2 q n G → Q (.ref q) H2) → te σ H Q
variable {σ : L2.St} {te tb : TE} {ta : TA}
theorem ew_ev (h : ∀ H, Ev te σ H v) (a : ∀ H2 : Hp, Dq K H2 v d ∧ AnyV H2 v) (g : G v d) : EvW K te σ G := fun H Q q => h H H (Ex.refl H) _ fun H2 e2 => q v d H2 e2 (.atom a) g
theorem ew_non (g : G .non .none) : EvW K (tC .non) σ G := ew_ev (fun _ => ev_c) (fun _ => ⟨.non, .non⟩) g
theorem ew_bl {b : Bool} (g : G (.bl b) (.bool b)) : EvW K (tC (.bl b)) σ G := ew_ev (fun _ => ev_c) (fun _ => ⟨.bl b, .bl b⟩) g
theorem ew_int {i : Int} (g : G (.int i) (.int i)) : EvW K (tC (.int i)) σ G := ew_ev (fun _ => ev_c) (fun _ => ⟨.int i, .int i⟩) g
theorem ew_str {z : Str} (g : G (.str z) (.str z)) : EvW K (tC (.str z)) σ G := ew_ev (fun _ => ev_c) (fun _ => ⟨.str z, .str z⟩) g
theorem ew_i {i : Int} (h : ∀ H, Ev te σ H (.int i)) (g : G (.int i) (.int i)) : EvW K te σ G := ew_ev h (fun _ => ⟨.int i, .int i⟩) g
theorem ew_l0 (g : ∀ p, G (.ref p) (.list [])) : EvW K (tLst tNil) σ G := fun H Q q => ⟨(by show 0 ≤ sizeLine; decide), fun p np => q _ _ _ (Ex.new np) (fun H2 z => ⟨.lst (sq_of (z p _ np upd_same (nt_l _))) .nil, .lst (z p _ np upd_same (nt_l _))⟩) (g p)⟩
theorem ew_d0 (g : ∀ p, G (.ref p) (.dict [])) : EvW K tDNewK σ G := fun H Q q => fun p np => q _ _ _ (Ex.new np) (fun H2 z => ⟨.dct (ks := []) (xs := []) (z p _ np upd_same (nt_d _)) rfl .nil, .dct (z p _ np upd_same (nt_d _))⟩) (g p)
theorem ew_l1 (a : ∀ H2 : Hp, Dq K H2 v d) (g : ∀ p, G (.ref p) (.list [d])) : EvW K (tLst (tCons (tC v) tNil)) σ G := fun H Q q => ⟨(by show 1 ≤ sizeLine; decide), fun p np => q _ _ _ (Ex.new np) (fun H2 z => ⟨.lst (sq_of (z p _ np upd_same (nt_l _))) (.cons (a H2) .nil), .lst (z p _ np upd_same (nt_l _))⟩) (g p)⟩
theorem ew_t1 (a : ∀ H2 : Hp, Dq K H2 v d) (g : ∀ p, G (.ref p) (.tuple [d])) : EvW K (tTup (tCons (tC v) tNil)) σ G := fun H Q q => ⟨(by show 1 ≤ sizeLine; decide), fun p np => q _ _ _ (Ex.new np) (fun H2 z => ⟨.tup (st_of (z p _ np upd_same (nt_t _))) (.cons (a H2) .nil), .tup (z p _ np upd_same (nt_t _))⟩) (g p)⟩
theorem ewa_nil : EvWA K tNil σ 0 G := fun H Q q => q [] H (Ex.refl H) rfl fun x hx => by cases hx
theorem ewa_cons (h : EvW K te σ G) (t : EvWA K ta σ n G) : EvWA K (tCons te ta) σ (n + 1) G := fun H Q q => h H _ fun v d H2 e2 o g => t H2 _ fun vs H3 e3 hl hg => q (v :: vs) H3 (e2.trans e3) (congrArg Nat.succ hl) fun x hx => by
  rcases List.mem_cons.mp hx with rfl | hx
  · exact ⟨d, o.mono e3, g⟩
  · exact (hg x hx).elim fun d z => ⟨d, z.1.base e2, z.2⟩
theorem ewl_lst (h : EvWA K ta σ n G) (hn : n ≤ 100000) : EvWL K (tLst ta) σ n G := fun H Q q => h H _ fun vs H2 e2 hl hg => ⟨sz_of (hl ▸ hn), fun p np => q p _ (e2.trans (Ex.new np)) ⟨fresh_back e2 np, vs, upd_same, hl, fun x hx => (hg x hx).elim fun d z => ⟨d, z.1.mono (Ex.new np), z.2⟩⟩⟩
theorem ewl_cat {i : Nat} {w : Addr} (hs : σ[i]? = some (some (.ref w))) (hw : LG K H0 H w n G) (hb : EvWL K tb σ m G) (e : Ex H0 H) (hn : n + m ≤ 100000) : ∀ Q : VK, (∀ q H2, Ex H H2 → LG K H0 H2 q (n + m) G → Q (.ref q) H2) → tOp rCat (tVar i) tb σ H Q := fun Q q => by
  refine ⟨_, hs, hb H _ fun b H2 e2 hb2 => ?_⟩
  obtain ⟨xs, h1, h2, h3⟩ := (hw.mono e2).at'
  obtain ⟨ys, k1, k2, k3⟩ := hb2.at'
  refine ⟨w, b, xs, ys, rfl, rfl, h1, k1, sz_of (by omega), fun p np => q p _ (e2.trans (Ex.new np)) ⟨fresh_back (e.trans e2) np, xs ++ ys, upd_same, by rw [List.length_append, h2, k2], fun x hx => ?_⟩⟩
  rcases List.mem_append.mp hx with hx | hx
  · exact (h3 x hx).elim fun d z => ⟨d, z.1.mono (Ex.new np), z.2⟩
  · exact (k3 x hx).elim fun d z => ⟨d, (z.1.base e).mono (Ex.new np), z.2⟩
theorem q_asgW {i : Nat} {D : Ends} {tz : TS} (h : EvWL K te σ n G) (kk : ∀ q H1, Ex H H1 → LG K H H1 q n G → tz D (σ.set i (some (.ref q))) H1) : tSeq (tAsg te (gName i)) tz D σ H := h H _ fun q H1 e hg => kk q H1 e hg
end
/-! ### a wrong argument, drawn -/
/-- the value may stand at the place -/
def okAt : Nat → V → Bool
  | 0, v => okL v
  | 1, v => okT v
  | 2, v => isBlB v
  | _, v => okR v
def GS (j : Nat) (v : V) (d : PyData) : Prop := smD d = true ∧ okAt j v = false
def GW (v : V) (d : PyData) : Prop := smD d = true ∧ okL v = false ∧ okT v = false
theorem ev_pow {σ : L2.St} (a b : Int) (h1 : 0 ≤ b) (h2 : b ≤ 1000000) (h3 : a.natAbs < 2 ^ 64) (H : Hp) : Ev (tOp (rI CPow fun i j => .int (i ^ j.toNat)) (tC (.int a)) (tC (.int b))) σ H (.int (a ^ b.toNat)) := fun H1 e Q q => ⟨_, _, rfl, rfl, ⟨h1, h2, h3⟩, q H1 (Ex.refl H1)⟩
theorem w3 {K : W.Frag} {σ : L2.St} : EvWL K (tLst (tCons (tC (.int 0)) (tCons (tC (.int 1)) (tCons (tC (.bl true)) (tCons (tC (.bl false)) (tCons (tC (.str "2")) (tCons (tC (.str "")) (tCons (tUn (rU fun i => .int (-i)) (tC (.int 2))) (tCons (tOp (rI0 fun i j => .int (i + j)) (tOp (rI CPow fun i j => .int (i ^ j.toNat)) (tC (.int 10)) (tC (.int 6))) (tC (.int 1))) (tCons (tOp (rI CPow fun i j => .int (i ^ j.toNat)) (tC (.int 10)) (tC (.int 59))) (tCons (tUn (rU fun i => .int (-i)) (tOp (rI CPow fun i j => .int (i ^ j.toNat)) (tC (.int 10)) (tC (.int 59)))) (tCons (tLst (tCons (tC (.int 2)) tNil)) (tCons (tTup (tCons (tC (.int 2)) tNil)) (tCons tDNewK (tCons (tLst (tCons (tC .non) tNil)) tNil))))))))))))))) σ 14 (GS 3) := ewl_lst (ewa_cons (ew_int ⟨by decide +kernel, rfl⟩) (ewa_cons (ew_int ⟨by decide +kernel, rfl⟩) (ewa_cons (ew_bl ⟨by decide +kernel, rfl⟩) (ewa_cons (ew_bl ⟨by decide +kernel, rfl⟩) (ewa_cons (ew_str ⟨by decide +kernel, rfl⟩) (ewa_cons (ew_str ⟨by decide +kernel, rfl⟩) (ewa_cons (ew_i (i := -2) (fun H H1 e Q q => ⟨_, rfl, q H1 (Ex.refl H1)⟩) ⟨by decide +kernel, by decide +kernel⟩) (ewa_cons (ew_i (i := 1000001) (fun H => ev_op (ev_pow 10 6 (by decide) (by decide) (by decide) H) ev_c rv_int) ⟨by decide +kernel, by decide +kernel⟩) (ewa_cons (ew_i (i := 10 ^ Int.toNat 59) (ev_pow 10 59 (by decide) (by decide) (by decide)) ⟨by decide +kernel, by decide +kernel⟩) (ewa_cons (ew_i (i := -(10 ^ Int.toNat 59)) (fun H H1 e Q q => ev_pow 10 59 (by decide) (by decide) (by decide) H H1 e _ fun H2 e2 => ⟨_, rfl, q H2 e2⟩) ⟨by decide +kernel, by decide +kernel⟩) (ewa_cons (ew_l1 (fun _ => .int _) fun p => ⟨by decide +kernel, rfl⟩) (ewa_cons (ew_t1 (fun _ => .int _) fun p => ⟨by decide +kernel, rfl⟩) (ewa_cons (ew_d0 fun p => ⟨by decide +kernel, rfl⟩) (ewa_cons (ew_l1 (fun _ => .non) fun p => ⟨by decide +kernel, rfl⟩) ewa_nil)))))))))))))) (by decide)
def spOddA (K : W.Frag) : Sp := fun vs H Q _ => ∃ (p : Addr) (ns : Cells) (t : Int) (j : Nat), vs = [.ref p, .int (j : Int)] ∧ j < 4 ∧ PenAt H p ns t ∧ ns.length ≤ 63 ∧ 0 ≤ t ∧ t ≤ 1000000 ∧
  ∀ (v : V) (d : PyData) (t' : Int) (H' : Hp), GS j v d → Own K H H' v d → t ≤ t' → t' ≤ t + 1 → PenAt H' p ns t' → But p H H' → Q v H'
section
variable {P : Program} {w : World} {K : W.Frag} {mg : Str → Option Value} {base : Heap} {f fT : Addr} {fd dT : FuncData}
theorem ok_oddA (B : Bt mg) (D : Fn0 P w K mg base "_law_take" 1 fT dT p_law_take spTake) (F : FnP K "_law_odd" s_law_odd f fd) : FnOk P w K mg base CX0 2 f fd p_law_odd (spOddA K) := by
  refine F.ok sc_law_odd (fun vs H Q E h => ?_) (fun cdv A outer s H vs Q E hr h => ?_)
  · obtain ⟨p, ns, t, j, rfl, _⟩ := h
    rfl
  · obtain ⟨p, ns, t, j, rfl, hj, pen, hn, t0, t1, k⟩ := h
    have nd := sc_law_odd.nd
    refine ⟨_, PSs.nox (pss_cons (ps_set (i := 2) nd rfl (Or.inl rfl) (pe_lst (pa_cons pe_str (pa_cons pe_str (pa_cons pe_str (pa_cons pe_str (pa_cons pe_str (pa_cons pe_non (pa_cons pe_bl (pa_cons pe_int (pa_cons pe_int (pa_cons (pe_lst (pa_cons pe_str pa_nil)) (pa_cons (pe_tup (pa_cons pe_str pa_nil)) (pa_cons pe_dnewK (pa_cons (pe_op op_pow pe_int pe_int) pa_nil)))))))))))))))
      (pss_cons (ps_set (i := 3) nd rfl (Or.inl rfl) (pe_lst (pa_cons (pe_op op_cat (pv 2) (pe_lst (pa_cons pe_str (pa_cons (pe_lst (pa_cons pe_str pa_nil)) pa_nil)))) (pa_cons (pe_op op_cat (pv 2) (pe_lst (pa_cons pe_str (pa_cons (pe_tup (pa_cons pe_str pa_nil)) pa_nil))))
        (pa_cons (pe_lst (pa_cons pe_non (pa_cons pe_int (pa_cons pe_int (pa_cons pe_str (pa_cons pe_str (pa_cons (pe_lst pa_nil) (pa_cons (pe_tup (pa_cons pe_bl pa_nil)) (pa_cons pe_str pa_nil))))))))) pa_nil)))))
      (pss_cons (ps_expr (pe_bm PySem.F.plainAttrs_list PySem.F.slot_list_append PySem.F.type_list_append mt_append (pv 3) (pa_cons (pe_lst (pa_cons pe_int (pa_cons pe_int (pa_cons pe_bl (pa_cons pe_bl (pa_cons pe_str (pa_cons pe_str (pa_cons (pe_un un_neg pe_int) (pa_cons (pe_op op_add (pe_op op_pow pe_int pe_int) pe_int)
        (pa_cons (pe_op op_pow pe_int pe_int) (pa_cons (pe_un un_neg (pe_op op_pow pe_int pe_int)) (pa_cons (pe_lst (pa_cons pe_int pa_nil)) (pa_cons (pe_tup (pa_cons pe_int pa_nil)) (pa_cons pe_dnewK (pa_cons (pe_lst (pa_cons pe_non pa_nil)) pa_nil))))))))))))))) pa_nil)))
      (pss_one (ps_ret (pe_ix ix_list (pe_ix ix_list (pv 3) (pv 1) (fun _ _ => rfl)) (pe_call D.ok hr (by rfl) D.m D.k D.b .nil pass0 (pa_cons (pv 0) (pa_cons (pe_callB call_len_seq (by rfl) B.len (by decide +kernel) (pa_cons (pe_ix ix_list (pv 3) (pv 1) (fun _ _ => rfl)) pa_nil)) pa_nil))) (fun _ _ => rfl))))))), ?_⟩
    refine q_asgW (K := K) (n := 13) (G := GW) (ewl_lst (ewa_cons (ew_str ⟨by decide +kernel, by decide +kernel, by decide +kernel⟩) (ewa_cons (ew_str ⟨by decide +kernel, by decide +kernel, by decide +kernel⟩) (ewa_cons (ew_str ⟨by decide +kernel, by decide +kernel, by decide +kernel⟩) (ewa_cons (ew_str ⟨by decide +kernel, by decide +kernel, by decide +kernel⟩) (ewa_cons (ew_str ⟨by decide +kernel, by decide +kernel, by decide +kernel⟩)
      (ewa_cons (ew_non ⟨by decide +kernel, rfl, rfl⟩) (ewa_cons (ew_bl ⟨by decide +kernel, rfl, rfl⟩) (ewa_cons (ew_int ⟨by decide +kernel, rfl, rfl⟩) (ewa_cons (ew_int ⟨by decide +kernel, rfl, rfl⟩) (ewa_cons (ew_l1 (fun _ => .str _) fun p => ⟨by decide +kernel, rfl, rfl⟩) (ewa_cons (ew_t1 (fun _ => .str _) fun p => ⟨by decide +kernel, rfl, rfl⟩) (ewa_cons (ew_d0 fun p => ⟨by decide +kernel, rfl, rfl⟩)
      (ewa_cons (ew_i (ev_pow 10 59 (by decide) (by decide) (by decide)) ⟨by decide +kernel, rfl, rfl⟩) ewa_nil))))))))))))) (by decide)) fun wq H1 e1 hw => ?_
    -- the three lists
    refine ewl_cat (K := K) (m := 2) (G := GS 0) rfl (hw.imp fun v d h => ⟨h.1, h.2.1⟩) (ewl_lst (ewa_cons (ew_str ⟨by decide +kernel, by decide +kernel⟩) (ewa_cons (ew_l1 (fun _ => .str _) fun p => ⟨by decide +kernel, rfl⟩) ewa_nil)) (by decide)) e1 (by decide) _ fun a H2 e2 ha => ?_
    have e02 := e1.trans e2
    refine ewl_cat (K := K) (m := 2) (G := GS 1) rfl ((hw.imp fun v d h => ⟨h.1, h.2.2⟩).mono e2) (ewl_lst (ewa_cons (ew_str ⟨by decide +kernel, by decide +kernel⟩) (ewa_cons (ew_t1 (fun _ => .str _) fun p => ⟨by decide +kernel, rfl⟩) ewa_nil)) (by decide)) e02 (by decide) _ fun b H3 e3 hb => ?_
    have e03 := e02.trans e3
    refine (ewl_lst (K := K) (n := 8) (G := GS 2) (ewa_cons (ew_non ⟨by decide +kernel, rfl⟩) (ewa_cons (ew_int ⟨by decide +kernel, rfl⟩) (ewa_cons (ew_int ⟨by decide +kernel, rfl⟩) (ewa_cons (ew_str ⟨by decide +kernel, rfl⟩) (ewa_cons (ew_str ⟨by decide +kernel, rfl⟩) (ewa_cons (ew_l0 fun p => ⟨by decide +kernel, rfl⟩) (ewa_cons (ew_t1 (fun _ => .bl _) fun p => ⟨by decide +kernel, rfl⟩) (ewa_cons (ew_str ⟨by decide +kernel, rfl⟩) ewa_nil)))))))) (by decide)) H3 _ fun c H4 e4 hc => ?_
    have e04 := e03.trans e4
    refine ⟨(by show 3 ≤ sizeLine; decide), fun s ns' => ?_⟩
    have e45 := Ex.new (o := HO.lst [.ref a, .ref b, .ref c]) ns'
    refine ⟨_, rfl, .inl ⟨rfl, _, sq_of upd_same⟩, ?_⟩
    refine w3 (K := K) _ _ fun d4 H6 e6 hd => ?_
    have hs6 := e6 s _ upd_same
    refine ⟨s, _, .ref d4, rfl, rfl, hs6, (by show 3 < sizeLine; decide), ?_⟩
    have e05 := e04.trans e45
    have e47 : Ex H4 (upd H6 s (.lst ([.ref a, .ref b, .ref c] ++ [.ref d4]))) := fun x o h => by
      rw [upd_ne (ne_of_none h ns')]
      exact (e45.trans e6) x o h
    have hs7 : (upd H6 s (.lst ([.ref a, .ref b, .ref c] ++ [.ref d4]))) s = some (.lst [.ref a, .ref b, .ref c, .ref d4]) := upd_same
    have ha7 := ha.mono ((e3.trans e4).trans e47)
    have hb7 := hb.mono (e4.trans e47)
    have hc7 := (hc.base e03).mono e47
    have hd7 : LG K H (upd H6 s (.lst ([.ref a, .ref b, .ref c] ++ [.ref d4]))) d4 14 (GS 3) := (hd.keep fun x o n h => by
      rw [upd_ne (fun z => by rw [z, upd_same] at n; cases n)]
      exact h).base e05
    have e07 := e04.trans e47
    have pen7 := pen_mono e07 pen
    generalize upd H6 s (.lst ([.ref a, .ref b, .ref c] ++ [.ref d4])) = H7 at *
    obtain ⟨x, m, hx, m0, m1, hg⟩ : ∃ (x : Addr) (m : Nat), [V.ref a, V.ref b, V.ref c, V.ref d4][j]? = some (.ref x) ∧ 1 ≤ m ∧ m ≤ 100 ∧ LG K H H7 x m (GS j) := by
      rcases (show j = 0 ∨ j = 1 ∨ j = 2 ∨ j = 3 by omega) with rfl | rfl | rfl | rfl
      · exact ⟨a, _, rfl, by decide, by decide, ha7⟩
      · exact ⟨b, _, rfl, by decide, by decide, hb7⟩
      · exact ⟨c, _, rfl, by decide, by decide, hc7⟩
      · exact ⟨d4, _, rfl, by decide, by decide, hd7⟩
    obtain ⟨xs, x1, x2, x3⟩ := hg.at'
    refine ⟨_, rfl, _, rfl, s, _, _, _, rfl, rfl, sq_of hs7, atI_nat hx, ?_⟩
    refine ⟨_, rfl, _, rfl, _, rfl, s, _, _, _, rfl, rfl, sq_of hs7, atI_nat hx, x, xs, rfl, .inl (sq_of x1), ?_⟩
    refine ⟨p, _, ns, t, rfl, pen7, hn, t0, t1, by omega, by omega, fun d u H8 d0 d1 v0 v1 pen8 but8 => ?_⟩
    obtain ⟨i, rfl⟩ := Int.eq_ofNat_of_zero_le d0
    have hi : i < xs.length := by omega
    obtain ⟨v, hv⟩ : ∃ v, xs[i]? = some v := ⟨xs[i], List.getElem?_eq_getElem hi⟩
    obtain ⟨dd, o7, g7⟩ := x3 v (List.mem_of_getElem? hv)
    have nwp : ∀ y, H y = none → y ≠ p := fun y hy => pen_fresh pen hy
    refine ⟨x, xs, _, v, rfl, rfl, sq_of (but8 x _ (nwp x hg.nw) x1), atI_nat hv, k v dd u H8 g7 (o7.keep fun y o n h => but8 y o (nwp y n) h) v0 v1 pen8 fun y o hy h => but8 y o hy (e07 y o h)⟩
end
end L2.M1
set_option maxRecDepth 100000
set_option maxHeartbeats 4000000
namespace L2.M1
open PySem PySem.Spec PyProof.Rows L2 Mx L2.Mb Evl Mv TL
/-! ### arguments, some of them wrong -/
/-- v says d while all but the cells p and q stands -/
def Sta (K : W.Frag) (p q : Addr) (H : Hp) (v : V) (d : PyData) : Prop := ∀ H2 : Hp, (∀ c o, c ≠ p → c ≠ q → H c = some o → (∀ ps, o ≠ .tbl ps) → H2 c = some o) → Dq K H2 v d ∧ AnyV H2 v
theorem Sta.keep {K : W.Frag} {p q : Addr} {H H' : Hp} {v : V} {d : PyData} (h : Sta K p q H v d) (k : ∀ c o, c ≠ p → c ≠ q → H c = some o → H' c = some o) : Sta K p q H' v d := fun H2 z => h H2 fun c o a b hc t => z c o a b (k c o a b hc) t
/-- the first place at which a wrong one stands -/
def FstI (i : Nat) (xs : List V) : Option Nat → Prop
  | none => ∀ j, j < 4 → okAt j (xs.getD j .non) = true
  | some n => n < i ∧ okAt n (xs.getD n .non) = false ∧ ∀ j, j < n → okAt j (xs.getD j .non) = true
theorem fst_bad {l t u r : V} {fs : Option Nat} (h : FstI 4 [l, t, u, r] fs) : badAt l t u r = fs.map fun n : Nat => (n : Int) := by
  unfold badAt
  cases fs with
  | none =>
    rw [if_pos (show okL l = true from h 0 (by decide)), if_pos (show okT t = true from h 1 (by decide)), if_pos (show isBlB u = true from h 2 (by decide)), if_pos (show okR r = true from h 3 (by decide))]
    rfl
  | some n =>
    obtain ⟨h1, h2, h3⟩ := h
    rcases (show n = 0 ∨ n = 1 ∨ n = 2 ∨ n = 3 by omega) with rfl | rfl | rfl | rfl
    · have z : okL l = false := h2
      rw [if_neg (by rw [z]; decide)]
      rfl
    · have z : okT t = false := h2
      rw [if_pos (show okL l = true from h3 0 (by decide)), if_neg (by rw [z]; decide)]
      rfl
    · have z : isBlB u = false := h2
      rw [if_pos (show okL l = true from h3 0 (by decide)), if_pos (show okT t = true from h3 1 (by decide)), if_neg (by rw [z]; decide)]
      rfl
    · have z : okR r = false := h2
      rw [if_pos (show okL l = true from h3 0 (by decide)), if_pos (show okT t = true from h3 1 (by decide)), if_pos (show isBlB u = true from h3 2 (by decide)), if_neg (by rw [z]; decide)]
      rfl
theorem getD_set_eq {xs : List V} {j : Nat} {v d : V} (h : j < xs.length) : (xs.set j v).getD j d = v := by
  rw [List.getD_eq_getElem?_getD, List.getElem?_set_self h]
  rfl
theorem getD_set_ne {α : Type} {xs : List α} {i j : Nat} {v d : α} (h : i ≠ j) : (xs.set i v).getD j d = xs.getD j d := by
  rw [List.getD_eq_getElem?_getD, List.getD_eq_getElem?_getD, List.getElem?_set_ne h]
theorem fst_step {i : Nat} {xs : List V} {fs : Option Nat} {v : V} (hl : xs.length = 4) (hi : i < 4) (h : FstI i xs fs) (hv : okAt i v = false) : FstI (i + 1) (xs.set i v) (if fs = none then some i else fs) := by
  cases fs with
  | none => exact ⟨Nat.lt_succ_self i, by rw [getD_set_eq (by omega)]; exact hv, fun j hj => by rw [getD_set_ne (by omega)]; exact h j (by omega)⟩
  | some n =>
    obtain ⟨h1, h2, h3⟩ := h
    exact ⟨by omega, by rw [getD_set_ne (by omega)]; exact h2, fun j hj => by rw [getD_set_ne (by omega)]; exact h3 j hj⟩
theorem fst_up {i : Nat} {xs : List V} {fs : Option Nat} (h : FstI i xs fs) : FstI (i + 1) xs fs := by
  cases fs with
  | none => exact h
  | some n => exact ⟨Nat.lt_succ_of_lt h.1, h.2⟩
/-- how it stands with the arguments at q -/
structure AI (K : W.Frag) (H H' : Hp) (p q : Addr) (ns : Cells) (t' : Int) (i : Nat) (fs : Option Nat) : Prop where
  pen : PenAt H' p ns t'
  bt : But p H H'
  xs : ∃ (xs : List V) (ds : List PyData), H' q = some (.lst xs) ∧ xs.length = 4 ∧ ds.length = 4 ∧ FstI i xs fs ∧ ∀ j, j < 4 → smD (ds.getD j .none) = true ∧ Sta K p q H' (xs.getD j .non) (ds.getD j .none)
theorem AI.but {K : W.Frag} {H H' H2 : Hp} {p q : Addr} {ns : Cells} {t' t2 : Int} {i : Nat} {fs : Option Nat} (h : AI K H H' p q ns t' i fs) (ne : q ≠ p) (b : But p H' H2) (pn : PenAt H2 p ns t2) : AI K H H2 p q ns t2 i fs := by
  obtain ⟨xs, ds, h1, h2, h3, h4, h5⟩ := h.xs
  exact ⟨pn, h.bt.trans b, xs, ds, b q _ ne h1, h2, h3, h4, fun j hj => ⟨(h5 j hj).1, (h5 j hj).2.keep fun c o a _ hc => b c o a hc⟩⟩
theorem AI.up {K : W.Frag} {H H' : Hp} {p q : Addr} {ns : Cells} {t' : Int} {i : Nat} {fs : Option Nat} (h : AI K H H' p q ns t' i fs) : AI K H H' p q ns t' (i + 1) fs := by
  obtain ⟨xs, ds, h1, h2, h3, h4, h5⟩ := h.xs
  exact ⟨h.pen, h.bt, xs, ds, h1, h2, h3, fst_up h4, h5⟩
/-- the four values say this, whatever is laid behind -/
def Z4 (K : W.Frag) (H : Hp) (l m u r : V) (ds : List PyData) : Prop := ∀ H2, LamX.ExtN H H2 → DqAll K H2 [l, m, u, r] ds ∧ AnyV H2 l ∧ AnyV H2 m ∧ AnyV H2 u ∧ AnyV H2 r
abbrev fsV (fs : Option Nat) : V := optV (fs.map fun n : Nat => (n : Int))
def spArgs (K : W.Frag) : Sp := fun vs H Q _ => ∃ (p : Addr) (ns : Cells) (t : Int), vs = [.ref p] ∧ PenAt H p ns t ∧ ns.length ≤ 63 ∧ 0 ≤ t ∧ t ≤ 900000 ∧
  ∀ (a q : Addr) (l m u r : V) (d0 d1 d2 d3 : PyData) (fs : Option Nat) (t' : Int) (H' : Hp), H' a = some (.tup [.ref q, fsV fs]) → H' q = some (.lst [l, m, u, r]) → smD d0 = true → smD d1 = true → smD d2 = true → smD d3 = true → Z4 K H' l m u r [d0, d1, d2, d3] →
    FstI 4 [l, m, u, r] fs → t ≤ t' → t' ≤ t + 15 → PenAt H' p ns t' → But p H H' → Q (.ref a) H'
theorem fs_non (fs : Option Nat) : decide (fsV fs = .non) = decide (fs = none) := by
  cases fs with
  | none => rfl
  | some n => rfl
theorem ok_row {kd : Kd} (h : kd.ok = true) : ∀ j, j < 4 → okAt j ((partsV kd).getD j .non) = true := fun j hj => by
  obtain ⟨a1, a2, a3⟩ := ok_parts h
  rcases (show j = 0 ∨ j = 1 ∨ j = 2 ∨ j = 3 by omega) with rfl | rfl | rfl | rfl
  · exact a1
  · exact a2
  · rfl
  · show okR (optV kd.re) = true
    cases hr : kd.re with
    | none => rfl
    | some n =>
      rw [hr] at a3
      exact a3
abbrev partsL (k : Kd) : List PyData := [.str k.le, .str k.lt, .bool k.tu, optD k.re]
theorem sm_mk {d : PyData} (h1 : d.shown.length ≤ 100) (h2 : d.showable = true) (h3 : d.depth ≤ 4) : smD d = true := by
  unfold smD
  rw [decide_eq_true h1, h2, decide_eq_true h3]
  rfl
theorem sm_re {kd : Kd} (h : kd.ok = true) : smD (optD kd.re) = true := by
  obtain ⟨c1, c2, c3, c4⟩ := leaf_opt h
  refine sm_mk ?_ c2 (by rw [c3]; decide)
  cases hr : kd.re with
  | none => decide +kernel
  | some n =>
    rw [hr] at c1
    simp only [optD, PyData.leavesShort] at c1
    have z := of_decide_eq_true c1
    simp only [optD]
    omega
theorem sm_wd {x : Str} (h : x = "one" ∨ x = "far" ∨ x = "both" ∨ x = "any") : smD (.str x) = true := by
  rcases h with rfl | rfl | rfl | rfl <;> decide +kernel
theorem wd_le {kd : Kd} (h : kd.ok = true) : (kd.le = "one" ∨ kd.le = "far" ∨ kd.le = "both" ∨ kd.le = "any") ∧ (kd.lt = "one" ∨ kd.lt = "far" ∨ kd.lt = "both" ∨ kd.lt = "any") := by
  obtain ⟨a1, a2, _⟩ := ok_parts h
  simp only [lendL, letL, List.contains_iff_mem, List.mem_cons, List.not_mem_nil, or_false] at a1 a2
  refine ⟨?_, ?_⟩
  · rcases a1 with z | z | z <;> simp [z]
  · rcases a2 with z | z | z <;> simp [z]
theorem sm_row {kd : Kd} (h : kd.ok = true) : ∀ j, j < 4 → smD ((partsL kd).getD j .none) = true := fun j hj => by
  rcases (show j = 0 ∨ j = 1 ∨ j = 2 ∨ j = 3 by omega) with rfl | rfl | rfl | rfl
  · exact sm_wd (wd_le h).1
  · exact sm_wd (wd_le h).2
  · show smD (.bool kd.tu) = true
    cases kd.tu <;> decide +kernel
  · exact sm_re h
theorem sta_row {K : W.Frag} {p q : Addr} {H : Hp} {kd : Kd} : ∀ j, j < 4 → Sta K p q H ((partsV kd).getD j .non) ((partsL kd).getD j .none) := fun j hj H2 _ => by
  rcases (show j = 0 ∨ j = 1 ∨ j = 2 ∨ j = 3 by omega) with rfl | rfl | rfl | rfl
  · exact ⟨.str _, .str _⟩
  · exact ⟨.str _, .str _⟩
  · exact ⟨.bl _, .bl _⟩
  · show Dq K H2 (optV kd.re) (optD kd.re) ∧ AnyV H2 (optV kd.re)
    cases kd.re with
    | none => exact ⟨.non, .non⟩
    | some n => exact ⟨.int n, .int n⟩
section
variable {P : Program} {w : World} {K : W.Frag} {mg : Str → Option Value} {base : Heap} {f fT fR fO : Addr} {fd dT dR dO : FuncData}
theorem ok_args (B : Bt mg) (D : Fn0 P w K mg base "_law_take" 1 fT dT p_law_take spTake) (DR : Fn0 P w K mg base "_law_right" 2 fR dR p_law_right spRight) (DO : Fn0 P w K mg base "_law_odd" 2 fO dO p_law_odd (spOddA K)) (F : FnP K "_law_arguments" s_law_arguments f fd) : FnOk P w K mg base CX0 3 f fd p_law_arguments (spArgs K) := by
  refine F.ok sc_law_arguments (fun vs H Q E h => ?_) (fun cdv A outer s H vs Q E hr h => ?_)
  · obtain ⟨p, ns, t, rfl, _⟩ := h
    rfl
  · obtain ⟨p, ns, t, rfl, pen, hn, t0, t1, k⟩ := h
    have nd := sc_law_arguments.nd
    refine ⟨_, PSs.nox (pss_cons (ps_set (i := 1) nd rfl (Or.inl rfl) (pe_call DR.ok hr (by rfl) DR.m DR.k DR.b .nil pass0 (pa_cons (pv 0) pa_nil)))
      (pss_cons (ps_set (i := 2) nd rfl (Or.inl rfl) pe_non)
      (Evl.pss_cut (ps_if (pt_cmpR op_gt (pe_call D.ok (hr.mono (by decide)) (by rfl) D.m D.k D.b .nil pass0 (pa_cons (pv 0) (pa_cons pe_int pa_nil))) pe_int (nomark _))
        (pss_one (ps_for PassesOwn.never rfl (pi_range1 (by rfl) B.range (pa_cons pe_int pa_nil)) (pg_name (i := 3) nd rfl (Or.inl rfl))
          (pss_one (ps_if (pt_cmpR op_eq (pe_call D.ok (hr.mono (by decide)) (by rfl) D.m D.k D.b .nil pass0 (pa_cons (pv 0) (pa_cons pe_int pa_nil))) pe_int (nomark _))
            (pss_cons (ps_asg (pe_call DO.ok hr (by rfl) DO.m DO.k DO.b .nil pass0 (pa_cons (pv 0) (pa_cons (pv 3) pa_nil))) (pg_sub (pv 1) (pv 3) set_list))
              (pss_one (ps_if (pt_cmpR op_isN (pv 2) pe_non (nomark _)) (pss_one (ps_set (i := 2) nd rfl (Or.inl rfl) (pv 3))) pss_nil))) pss_nil)))) pss_nil)
      (pss_one (ps_ret (pe_tup (pa_cons (pv 1) (pa_cons (pv 2) pa_nil)))))))), ?_⟩
    refine ⟨_, rfl, p, ns, t, rfl, pen, hn, t0, t1, fun kd q t2 H2 hk v0 v1 pen2 but2 nq hq => ?_⟩
    have qp : q ≠ p := pen_fresh pen nq
    have A0 : ∀ i, AI K H H2 p q ns t2 i none := fun i => ⟨pen2, but2, partsV kd, partsL kd, hq, rfl, rfl, ok_row hk, fun j hj => ⟨sm_row hk j hj, sta_row j hj⟩⟩
    refine ⟨fun σ' H' => ∃ (t' : Int) (fs : Option Nat) (x3 : Option V), σ' = [some (.ref p), some (.ref q), some (fsV fs), x3] ∧ t ≤ t' ∧ t' ≤ t + 15 ∧ AI K H H' p q ns t' 4 fs, ?_, ?_⟩
    · refine ⟨_, rfl, p, 3, ns, t2, rfl, pen2, hn, by omega, by omega, by decide, by decide, fun d t3 H3 d0 d1 w0 w1 pen3 but3 => ?_⟩
      have A3 := fun i => (A0 i).but qp but3 pen3
      refine ⟨_, _, rfl, rfl, _, rfl, ?_⟩
      refine ifB (fun _ => ?_) (fun _ => ⟨t3, none, none, rfl, by omega, by omega, A3 4⟩)
      refine ⟨4, rfl, by decide, by decide, for_range (lo := 0) (n := 4) (fun i σ' H' => ∃ (t' : Int) (fs : Option Nat) (x3 : Option V), σ' = [some (.ref p), some (.ref q), some (fsV fs), x3] ∧ t ≤ t' ∧ t' ≤ t + 6 + 2 * (i : Int) ∧ AI K H H' p q ns t' i fs) ⟨t3, none, none, rfl, by omega, by omega, A3 0⟩ ?_ ?_⟩
      · rintro i σ' H4 hi ⟨t4, fs, x3, rfl, u0, u1, A4⟩
        have e0 : (0 : Int) + (i : Int) = (i : Int) := Int.zero_add _
        rw [e0]
        refine ⟨_, rfl, p, 3, ns, t4, rfl, A4.pen, hn, by omega, by omega, by decide, by decide, fun c t5 H5 c0 c1 y0 y1 pen5 but5 => ?_⟩
        have A5 := A4.but qp but5 pen5
        refine ⟨rfl, _, rfl, ?_⟩
        refine ifB (fun _ => ?_) (fun _ => ⟨t5, fs, _, rfl, by omega, by push_cast; omega, A5.up⟩)
        refine ⟨_, rfl, _, rfl, p, ns, t5, i, rfl, hi, pen5, hn, by omega, by omega, fun v d t6 H6 hg ho z0 z1 pen6 but6 => ?_⟩
        have A6 := A5.but qp but6 pen6
        obtain ⟨xs, ds, x1, x2, x3', x4, x5⟩ := A6.xs
        obtain ⟨_, _, q5, _⟩ := A5.xs
        refine ⟨_, rfl, _, rfl, q, xs, _, i, rfl, rfl, x1, ixN_nat (by omega), ?_⟩
        have pq : ∀ o, H5 p = some o ∨ True := fun _ => .inr trivial
        have pen7 : PenAt (upd H6 q (.lst (xs.set i v))) p ns t6 := by
          obtain ⟨g, g1, g2⟩ := pen6
          obtain ⟨g', g3, g4⟩ := pen
          have ql : q ≠ ns.l := pen_freshL ⟨g', g3, g4⟩ nq
          exact ⟨g, by rw [upd_ne qp.symm]; exact g1, by rw [upd_ne ql.symm]; exact g2⟩
        have bt7 : But p H (upd H6 q (.lst (xs.set i v))) := fun c o hc h => by
          rw [upd_ne (ne_of_none h nq)]
          exact A6.bt c o hc h
        have A7 : AI K H (upd H6 q (.lst (xs.set i v))) p q ns t6 (i + 1) (if fs = none then some i else fs) := by
          refine ⟨pen7, bt7, xs.set i v, ds.set i d, upd_same, by rw [List.length_set, x2], by rw [List.length_set, x3'], fst_step x2 hi x4 hg.2, fun j hj => ?_⟩
          by_cases hji : i = j
          · subst hji
            rw [getD_set_eq (by omega), show (ds.set i d).getD i .none = d from by rw [List.getD_eq_getElem?_getD, List.getElem?_set_self (by omega)]; rfl]
            refine ⟨hg.1, fun H9 h9 => ho H9 fun c o n hc nt => ?_⟩
            have cp : c ≠ p := pen_fresh A5.pen n
            have cq : c ≠ q := fun z => by
              rw [z, q5] at n
              cases n
            exact h9 c o cp cq (by rw [upd_ne cq]; exact hc) nt
          · rw [getD_set_ne hji, getD_set_ne hji]
            exact ⟨(x5 j hj).1, (x5 j hj).2.keep fun c o _ cq hc => by rw [upd_ne cq]; exact hc⟩
        refine ⟨_, rfl, rfl, _, rfl, ?_⟩
        rw [fs_non]
        cases fs with
        | none => exact ⟨_, rfl, t6, some i, _, rfl, by omega, by push_cast; omega, A7⟩
        | some n => exact ⟨t6, some n, _, rfl, by omega, by push_cast; omega, A7⟩
      · rintro σ' H4 ⟨t4, fs, x3, rfl, u0, u1, A4⟩
        exact ⟨t4, fs, x3, rfl, u0, by push_cast at u1; omega, A4⟩
    · rintro σ' H4 ⟨t4, fs, x3, rfl, u0, u1, A4⟩
      refine ⟨_, rfl, _, rfl, (by show 2 ≤ sizeLine; decide), fun a na => ?_⟩
      obtain ⟨xs, ds, x1, x2, x3', x4, x5⟩ := A4.xs
      obtain ⟨l, m, u, r, rfl⟩ : ∃ l m u r, xs = [l, m, u, r] := by
        match xs, x2 with
        | [l, m, u, r], _ => exact ⟨l, m, u, r, rfl⟩
      obtain ⟨d0, d1, d2, d3, rfl⟩ : ∃ l m u r, ds = [l, m, u, r] := by
        match ds, x3' with
        | [l, m, u, r], _ => exact ⟨l, m, u, r, rfl⟩
      have e := Ex.new (o := HO.tup [.ref q, fsV fs]) na
      obtain ⟨s0, y0⟩ := x5 0 (by decide)
      obtain ⟨s1, y1⟩ := x5 1 (by decide)
      obtain ⟨s2, y2⟩ := x5 2 (by decide)
      obtain ⟨s3, y3⟩ := x5 3 (by decide)
      exact k a q l m u r d0 d1 d2 d3 fs t4 _ upd_same (e _ _ x1) s0 s1 s2 s3 (fun H9 n9 => by
        have z0 := y0 H9 fun c o _ _ hc t => n9 c o (e c o hc) t
        have z1 := y1 H9 fun c o _ _ hc t => n9 c o (e c o hc) t
        have z2 := y2 H9 fun c o _ _ hc t => n9 c o (e c o hc) t
        have z3 := y3 H9 fun c o _ _ hc t => n9 c o (e c o hc) t
        exact ⟨.cons z0.1 (.cons z1.1 (.cons z2.1 (.cons z3.1 .nil))), z0.2, z1.2, z2.2, z3.2⟩) x4 u0 u1 (pen_mono e A4.pen) (A4.bt.trans (but_ex e))
end
end L2.M1
set_option maxRecDepth 100000
set_option maxHeartbeats 4000000
namespace L2.M1
open PySem PySem.Spec PyProof.Rows L2 Mx L2.Mb Evl Mv TL LamX
/-! ### what is told of a call, as data -/
theorem ex_extn {H H' : Hp} (e : Ex H H') : ExtN H H' := fun b o h _ => e b o h
theorem lst_extn {H H' : Hp} {l : Addr} {xs : List V} (e : ExtN H H') (h : H l = some (.lst xs)) : H' l = some (.lst xs) := e l _ h fun ps z => by cases z
theorem pen_extn {H H' : Hp} {p : Addr} {ns : Cells} {t : Int} (e : ExtN H H') (h : PenAt H p ns t) : PenAt H' p ns t := by
  obtain ⟨g, h1, h2⟩ := h
  exact ⟨g, lst_extn e h1, lst_extn e h2⟩
theorem tabs_but {H H' : Hp} {p : Addr} {ns : Cells} {t : Int} {Tt : List (Addr × Str)} (pen : PenAt H p ns t) (b : But p H H') (T : Tabs Tt H) : Tabs Tt H' := fun q hq => by
  obtain ⟨g, hp, _⟩ := pen
  obtain ⟨ps, h1, h2, h3⟩ := T q hq
  refine ⟨ps, b _ _ (fun z => ?_) h1, h2, fun pos cv hc => ?_⟩
  · rw [z, hp] at h1
    cases h1
  · obtain ⟨c, e1, e2⟩ := h3 pos cv hc
    refine ⟨c, e1, b _ _ (fun z => ?_) e2⟩
    rw [z, hp] at e2
    cases e2
theorem ok_mk {d : PyData} (h1 : d.shown.length ≤ 100000) (h2 : d.showable = true) (h3 : d.depth ≤ 60) : okD d = true := by
  unfold okD
  rw [h2, decide_eq_true h3, decide_eq_true (Nat.le_trans h1 (show 100000 ≤ sizeLine by decide))]
  rfl
theorem sm_un {d : PyData} (h : smD d = true) : d.shown.length ≤ 100 ∧ d.showable = true ∧ d.depth ≤ 4 := by
  unfold smD at h
  simp only [Bool.and_eq_true, decide_eq_true_eq] at h
  exact h
section
variable {d0 d1 d2 d3 : PyData}
theorem list4 (s0 : smD d0 = true) (s1 : smD d1 = true) (s2 : smD d2 = true) (s3 : smD d3 = true) : (PyData.list [d0, d1, d2, d3]).shown.length ≤ 420 ∧ (PyData.list [d0, d1, d2, d3]).showable = true ∧ (PyData.list [d0, d1, d2, d3]).depth ≤ 5 := by
  obtain ⟨a1, a2, a3⟩ := sm_un s0
  obtain ⟨b1, b2, b3⟩ := sm_un s1
  obtain ⟨c1, c2, c3⟩ := sm_un s2
  obtain ⟨e1, e2, e3⟩ := sm_un s3
  refine ⟨?_, ?_, ?_⟩
  · have z := listText_len_le (PyData.shownAll [d0, d1, d2, d3])
    simp only [PyData.shown]
    simp only [PyData.shownAll, List.map_cons, List.map_nil, List.sum_cons, List.sum_nil, List.length_cons, List.length_nil] at z ⊢
    omega
  · simp only [PyData.showable, PyData.showableAll, a2, b2, c2, e2, Bool.and_self]
  · simp only [PyData.depth, PyData.depthAll]
    omega
theorem ok4 (s0 : smD d0 = true) (s1 : smD d1 = true) (s2 : smD d2 = true) (s3 : smD d3 = true) : okD (.list [d0, d1, d2, d3]) = true := by
  obtain ⟨a, b, c⟩ := list4 s0 s1 s2 s3
  exact ok_mk (by omega) b (by omega)
theorem ok_kind (s0 : smD d0 = true) (s1 : smD d1 = true) (s2 : smD d2 = true) (s3 : smD d3 = true) : okD (.tuple [.str "kind", .list [d0, d1, d2, d3]]) = true := by
  obtain ⟨a, b, c⟩ := list4 s0 s1 s2 s3
  obtain ⟨k1, k2, k3⟩ := sm_un (show smD (.str "kind") = true by decide +kernel)
  refine ok_mk ?_ ?_ ?_
  · have z := tupleText_len_le (PyData.shownAll [.str "kind", .list [d0, d1, d2, d3]])
    rw [show (PyData.tuple [.str "kind", .list [d0, d1, d2, d3]]).shown = tupleText (PyData.shownAll [.str "kind", .list [d0, d1, d2, d3]]) by simp only [PyData.shown]]
    rw [show PyData.shownAll [.str "kind", .list [d0, d1, d2, d3]] = [(PyData.str "kind").shown, (PyData.list [d0, d1, d2, d3]).shown] by simp only [PyData.shownAll]] at z ⊢
    simp only [List.map_cons, List.map_nil, List.sum_cons, List.sum_nil, List.length_cons, List.length_nil] at z
    omega
  · rw [show (PyData.tuple [.str "kind", .list [d0, d1, d2, d3]]).showable = ((PyData.str "kind").showable && ((PyData.list [d0, d1, d2, d3]).showable && true)) by simp only [PyData.showable, PyData.showableAll]]
    rw [k2, b]
    rfl
  · rw [show (PyData.tuple [.str "kind", .list [d0, d1, d2, d3]]).depth = PyData.depthAll [.str "kind", .list [d0, d1, d2, d3]] + 1 by simp only [PyData.depth]]
    rw [show PyData.depthAll [.str "kind", .list [d0, d1, d2, d3]] = max (PyData.str "kind").depth (max (PyData.list [d0, d1, d2, d3]).depth 0) by simp only [PyData.depthAll]]
    omega
end
/-- what is told of the arguments -/
def dueD (fs : Option Nat) (ds : List PyData) : PyData := match fs with
  | none => .tuple [.str "kind", .list ds]
  | some n => .tuple [.str "wrong", .int (n : Int)]
theorem ok_due {l m u r : V} {e0 e1 e2 e3 : PyData} {fs : Option Nat} (s0 : smD e0 = true) (s1 : smD e1 = true) (s2 : smD e2 = true) (s3 : smD e3 = true) (hf : FstI 4 [l, m, u, r] fs) : okD (dueD fs [e0, e1, e2, e3]) = true := by
  cases fs with
  | none => exact ok_kind s0 s1 s2 s3
  | some n =>
    have h := hf.1
    show okD (.tuple [.str "wrong", .int (n : Int)]) = true
    rcases (show n = 0 ∨ n = 1 ∨ n = 2 ∨ n = 3 by omega) with rfl | rfl | rfl | rfl <;> decide +kernel
section
variable {K : W.Frag} {H : Hp} {C CE : Addr}
theorem dq_parts {kd : Kd} {ds : List PyData} (h : DqAll K H (partsV kd) ds) : ds = partsL kd := by
  obtain ⟨le, lt, tu, re⟩ := kd
  cases re with
  | none =>
    cases h with | cons h0 h => cases h with | cons h1 h => cases h with | cons h2 h => cases h with | cons h3 h =>
      cases h; cases h0; cases h1; cases h2; cases h3
      rfl
  | some n =>
    cases h with | cons h0 h => cases h with | cons h1 h => cases h with | cons h2 h => cases h with | cons h3 h =>
      cases h; cases h0; cases h1; cases h2; cases h3
      rfl
theorem tt3_init {l m u r : V} {ds : List PyData} {fs : Option Nat} {Q : VK} (z : Z4 K H l m u r ds) (hf : FstI 4 [l, m, u, r] fs) (q : ∀ p H1, Ex H H1 → Dq K H1 (.ref p) (dueD fs ds) → Q (.ref p) H1) :
    TT3 C CE (fun E H' Q' => ∀ x dx, H' x = none → H' dx = none → dx ≠ x → spInit C CE [.ref x, l, m, u, r] (upd (upd H' dx (.own x)) x (.ins C dx [])) (fun v H3 => v = .non ∧ Q' (.ref x) H3) E) H Q := fun E' Q' hE hQ x dx hx hd ne => by
  have e0 : Ex H (upd (upd H dx (.own x)) x (.ins C dx [])) := fun c o hc => by
    rw [upd_ne (ne_of_none hc hx), upd_ne (ne_of_none hc hd)]
    exact hc
  obtain ⟨zd, z1, z2, z3, z4⟩ := z _ (ex_extn e0)
  have hb := fst_bad hf
  refine ⟨x, dx, l, m, u, r, rfl, upd_same, z1, z2, z3, z4, fun kd ok e1 e2 e3 e4 H' hk ha => ⟨rfl, ?_⟩, fun n hn d H' e hd' => ?_⟩
  · subst e1; subst e2; subst e3; subst e4
    have eH : Ex H H' := fun c o hc => hk c o (ne_of_none hc hx) (e0 c o hc)
    have hds := dq_parts zd
    rw [bad_kd ok] at hb
    have hfs : fs = none := by
      cases fs with
      | none => rfl
      | some n => cases hb
    subst hfs
    subst hds
    exact hQ x kd H' ⟨dx, ha⟩ fun p l' H2 e5 h1 h2 => q p H2 (eH.trans e5) (.tup (st_of h2) (.cons (.str _) (.cons (parts_dq h1) .nil)))
  · rw [hn] at hb
    cases fs with
    | none => cases hb
    | some k =>
      have hk : n = (k : Int) := Option.some.inj hb
      subst hk
      exact hE d _ H' hd' fun p H2 e5 hp => q p H2 ((e0.trans e).trans e5) (.tup (st_of hp) (.cons (.str _) (.cons (.int _) .nil)))
theorem tt3_imp {tl tm : XK → Hp → VK → Prop} {Q : VK} (h : TT3 C CE tl H Q) (i : ∀ E Q', tl E H Q' → tm E H Q') : TT3 C CE tm H Q := fun E' Q' a b => i _ _ (h E' Q' a b)
end
/-- .. and of the def that calls what it got -/
structure TD (K : W.Frag) (mg : Str → Option Value) (fT : Addr) (dT : FuncData) : Prop where
  fn : FnP K "_law_told" s_law_told fT dT
  m : mg "_law_told" = some (.ref fT)
  b : Binds K dT ["_law_ask"] []
/-- told(lambda: body) -/
theorem pe_told {X : Cx} {C CE fE cM cS cO cC cX cP aL aT fT c Pt : Addr} {mc : Value} {dE dT : FuncData} {Tt : List (Addr × Str)} {scope : Scope} {params : Arguments} {body : Expr} {t : XK → TE} {p5 p6 p7 : Pos}
    (B : Bt X.mg) (T : KF X.K X.mg C mc aL aT) (XE : XT X.prog X.w X.K X.mg X.base CE fE dE) (Z : TF X.K X.mg CE cM cS cO cC cX cP) (D : TD X.K X.mg fT dT)
    (pL : KP X.prog X.w X.K X.mg X.base C "lends" fun k => .str k.le) (pT : KP X.prog X.w X.K X.mg X.base C "lets" fun k => .str k.lt) (pU : KP X.prog X.w X.K X.mg X.base C "turns" fun k => .bl k.tu) (pQ : KP X.prog X.w X.K X.mg X.base C "rests" fun k => optV k.re)
    (TB : TabB X.base X.mg c Pt) (hcode : X.env.code = .ref c) (hmT : (Pt, X.env.qual ++ "<lambda>") ∈ Tt) (hu : ∀ p ∈ Tt, p.1 = Pt → p.2 = X.env.qual ++ "<lambda>") (hr : Room 7 X.A) (L : LamS X.env.scope scope) (hdef : defaultsOf params X.env = ([], []))
    (hbind : ∀ (q : Str) (cl : List (Str × Addr)) (pm cv ctv : Value), bindArgs (W.kla_fn "<lambda>" q params body scope cl pm cv ctv) ⟨[], []⟩ = pure []) (hg : Gl X "_law_told")
    (hbody : ∀ (A : Around) (outer : List Env) (s : Shared) (H : Hp) (E : XK) (f c' : Addr), Room 5 (A.deeper (lamEnv X scope s.heap.objs.size f c')) → PE (lamCx X A outer s H E scope f c') body (t E)) :
    PE X (.Call (.Name "_law_told" p5) [.Lambda params body scope p6] [] p7) (tLam Tt (TT3 C CE) t) := by
  obtain ⟨oc, od, dV, kV, doc, pm, an, cdv, ct, osl, rfl, lk, hcg, _, _⟩ := D.fn.ex
  exact pe_lamcall (k := 5) (c := c) (P := Pt) (Ng := n_told) (a := "_law_ask") hg D.m D.fn.kp lk hcg D.b sc_told rfl (.inl rfl) (told_gives B T XE Z (hr.mono (by decide)) pL pT pU pQ) TB hcode hmT hu hr L hdef hbind hbody
end L2.M1
set_option maxRecDepth 100000
set_option maxHeartbeats 4000000
namespace L2.M1
open PySem PySem.Spec PyProof.Rows L2 Mx L2.Mb Evl Mv TL LamX
/-! ### kinds made of drawn arguments -/
def spMade (Tt : List (Addr × Str)) : Sp := fun vs H Q _ => ∃ (p : Addr) (ns : Cells) (t : Int), vs = [.ref p] ∧ PenAt H p ns t ∧ ns.length ≤ 63 ∧ 0 ≤ t ∧ t ≤ 900000 ∧ Tabs Tt H ∧ ∀ (t' : Int) (H' : Hp), t ≤ t' → t' ≤ t + 15 → PenAt H' p ns t' → Tabs Tt H' → Q (.bl true) H'
theorem fst_tail {kd : Kd} (h : kd.ok = true) (u r : V) (hu : isBlB u = true) (hr : okR r = true) : FstI 4 [.str kd.le, .str kd.lt, u, r] none := fun j hj => by
  obtain ⟨a1, a2, a3⟩ := ok_parts h
  rcases (show j = 0 ∨ j = 1 ∨ j = 2 ∨ j = 3 by omega) with rfl | rfl | rfl | rfl
  · exact a1
  · exact a2
  · exact hu
  · exact hr
theorem Z4.ext {K : W.Frag} {H H' : Hp} {l m u r : V} {ds : List PyData} (z : Z4 K H l m u r ds) (e : ExtN H H') : Z4 K H' l m u r ds := fun H2 n => z H2 (e.trans n)
section
variable {P : Program} {w : World} {K : W.Frag} {mg : Str → Option Value} {base : Heap}
theorem ok_made {C CE fE fK cM cS cO cC cX cP aL aT fT c Pt f fA : Addr} {mc : Value} {dE dK dT dA : FuncData} {Tt : List (Addr × Str)} {oc dV kV doc pm ct : Value} {an od : Option Addr} {osl : Array (Option Value)} {g : List Value → List Value → List Value} {gV : List V → List V → List V}
    (B : Bt mg) (T : KF K mg C mc aL aT) (XE : XT P w K mg base CE fE dE) (Z : TF K mg CE cM cS cO cC cX cP) (D : TD K mg fT dT) (M : KM P w K mg base C CE fK dK g gV) (X : KX K dK)
    (pL : KP P w K mg base C "lends" fun k => .str k.le) (pT : KP P w K mg base C "lets" fun k => .str k.lt) (pU : KP P w K mg base C "turns" fun k => .bl k.tu) (pQ : KP P w K mg base C "rests" fun k => optV k.re)
    (sys : SysD K) (DA : Fn0 P w K mg base "_law_arguments" 3 fA dA p_law_arguments (spArgs K))
    (TB : TabB base mg c Pt) (hmT : (Pt, ("_law_made_right.<locals>.<lambda>" : Str)) ∈ Tt) (hu : ∀ p ∈ Tt, p.1 = Pt → p.2 = ("_law_made_right.<locals>.<lambda>" : Str))
    (lk : K.lookup f = some ⟨oc, od, .func (W.fnOf "_law_made_right" "_law_made_right" (defArgs s_law_made_right) (defBody s_law_made_right) (defScope s_law_made_right) dV kV doc pm an (.ref c) ct), osl⟩) (hcd : W.codeIn K (.ref c) "_law_made_right" = true) :
    FnG P w K mg base CX0 8 f (W.fnOf "_law_made_right" "_law_made_right" (defArgs s_law_made_right) (defBody s_law_made_right) (defScope s_law_made_right) dV kV doc pm an (.ref c) ct) p_law_made_right (spMade Tt) := by
  refine fng_of lk hcd sc_law_made_right (fun vs H Q E h => ?_) (fun A outer s H vs Q E gd hr h => ?_)
  · obtain ⟨p, ns, t, rfl, _⟩ := h
    rfl
  · obtain ⟨p, ns, t, rfl, pen, hn, t0, t1, hT, k⟩ := h
    have nd := sc_law_made_right.nd
    have hun := hr.units
    obtain ⟨gr, gVr, kbr, gvr⟩ := X.r
    obtain ⟨gx, gVx, kbx, gvx⟩ := X.x
    obtain ⟨dsn, vn, bn⟩ := X.n
    refine ⟨_, PSs.nox (pss_cons (ps_asg (pe_call DA.ok (hr.mono (by decide)) (by rfl) DA.m DA.k DA.b .nil pass0 (pa_cons (pv 0) pa_nil)) (pg_tup rfl (pgs_cons (pg_name (i := 1) nd rfl (Or.inl rfl)) (pgs_cons (pg_name (i := 2) nd rfl (Or.inl rfl)) pgs_nil))))
      (pss_cons (ps_asg (pv 1) (pg_lst rfl (pgs_cons (pg_name (i := 3) nd rfl (Or.inr rfl)) (pgs_cons (pg_name (i := 4) nd rfl (Or.inr rfl)) (pgs_cons (pg_name (i := 5) nd rfl (Or.inr rfl)) (pgs_cons (pg_name (i := 6) nd rfl (Or.inr rfl)) pgs_nil))))))
      (pss_cons (ps_set (i := 7) nd rfl (Or.inl rfl) (pe_callB (call_repr gd sys hun) (by rfl) B.repr (by decide +kernel) (pa_cons (pv 1) pa_nil)))
      (pss_cons (ps_set (i := 8) nd rfl (Or.inl rfl) (pe_callB (call_repr gd sys hun) (by rfl) B.repr (by decide +kernel) (pa_cons (pe_tup (pa_cons pe_str (pa_cons (pv 1) pa_nil))) pa_nil)))
      (Evl.pss_cut (ps_if (pt_cmpR op_notN (pv 2) pe_non (nomark _)) (pss_one (ps_set (i := 8) nd rfl (Or.inl rfl) (pe_callB (call_repr gd sys hun) (by rfl) B.repr (by decide +kernel) (pa_cons (pe_tup (pa_cons pe_str (pa_cons (pv 2) pa_nil))) pa_nil)))) pss_nil)
      (pss_cons (ps_if (pt_cmpR op_ne (pe_callB (call_repr gd sys hun) (by rfl) B.repr (by decide +kernel) (pa_cons (pe_told B T XE Z D pL pT pU pQ TB rfl hmT hu hr (lamS_by (sc := defScope s_law_made_right) (by decide +kernel)) (by rfl) (fun _ _ _ _ _ => by rfl) (by rfl)
          (fun A outer s H E f c' hr2 => pe_makeK (E := E) M.made M.ok (hr2.mono (by decide)) (by rfl) T.m M.kb (passes_call (takes_of rfl rfl rfl rfl) (fun _ _ _ _ h => h)) (pa_cons (pe_var (i := 3) rfl (.inr (.inr rfl))) (pa_cons (pe_var (i := 4) rfl (.inr (.inr rfl))) pa_nil)) (pk_cons (pe_var (i := 5) rfl (.inr (.inr rfl))) (pk_cons (pe_var (i := 6) rfl (.inr (.inr rfl))) pk_nil)))) pa_nil)) (pv 8) (nomark _)) (pss_one (ps_ret pe_bl)) pss_nil)
      (pss_cons (ps_if (pt_cmpR op_ne (pe_callB (call_repr gd sys hun) (by rfl) B.repr (by decide +kernel) (pa_cons (pe_told B T XE Z D pL pT pU pQ TB rfl hmT hu hr (lamS_by (sc := defScope s_law_made_right) (by decide +kernel)) (by rfl) (fun _ _ _ _ _ => by rfl) (by rfl)
          (fun A outer s H E f c' hr2 => pe_makeK0 (E := E) M.made M.ok (hr2.mono (by decide)) (by rfl) T.m kbx (passes_call (takes_of rfl rfl rfl rfl) (fun _ _ _ _ h => h)) (pk_cons (pe_var (i := 6) rfl (.inr (.inr rfl))) (pk_cons (pe_var (i := 4) rfl (.inr (.inr rfl))) (pk_cons (pe_var (i := 5) rfl (.inr (.inr rfl))) (pk_cons (pe_var (i := 3) rfl (.inr (.inr rfl))) pk_nil)))))) pa_nil)) (pv 8) (nomark _)) (pss_one (ps_ret pe_bl)) pss_nil)
      (Evl.pss_cut (ps_if (pt_cmpR op_isN (pv 2) pe_non (nomark _))
        (pss_cons (ps_if (pt_cmpR op_ne (pe_callB (call_repr gd sys hun) (by rfl) B.repr (by decide +kernel) (pa_cons (pe_told B T XE Z D pL pT pU pQ TB rfl hmT hu hr (lamS_by (sc := defScope s_law_made_right) (by decide +kernel)) (by rfl) (fun _ _ _ _ _ => by rfl) (by rfl)
            (fun A outer s H E f c' hr2 => pe_make (E := E) M.made M.ok (hr2.mono (by decide)) (by rfl) T.m bn vn (passes_call (takes_of rfl rfl rfl rfl) (fun _ _ _ _ h => h)) (pa_cons (pe_var (i := 3) rfl (.inr (.inr rfl))) (pa_cons (pe_var (i := 4) rfl (.inr (.inr rfl))) pa_nil)))) pa_nil))
            (pe_callB (call_repr gd sys hun) (by rfl) B.repr (by decide +kernel) (pa_cons (pe_tup (pa_cons pe_str (pa_cons (pe_lst (pa_cons (pe_var (i := 3) rfl (.inr (.inl rfl))) (pa_cons (pe_var (i := 4) rfl (.inr (.inl rfl))) (pa_cons pe_bl (pa_cons pe_non pa_nil))))) pa_nil))) pa_nil)) (nomark _)) (pss_one (ps_ret pe_bl)) pss_nil)
        (pss_one (ps_if (pt_cmpR op_ne (pe_callB (call_repr gd sys hun) (by rfl) B.repr (by decide +kernel) (pa_cons (pe_told B T XE Z D pL pT pU pQ TB rfl hmT hu hr (lamS_by (sc := defScope s_law_made_right) (by decide +kernel)) (by rfl) (fun _ _ _ _ _ => by rfl) (by rfl)
            (fun A outer s H E f c' hr2 => pe_makeK (E := E) M.made M.ok (hr2.mono (by decide)) (by rfl) T.m kbr (passes_call (takes_of rfl rfl rfl rfl) (fun _ _ _ _ h => h)) (pa_cons (pe_var (i := 3) rfl (.inr (.inr rfl))) (pa_cons (pe_var (i := 4) rfl (.inr (.inr rfl))) pa_nil)) (pk_cons (pe_var (i := 6) rfl (.inr (.inr rfl))) pk_nil))) pa_nil))
            (pe_callB (call_repr gd sys hun) (by rfl) B.repr (by decide +kernel) (pa_cons (pe_tup (pa_cons pe_str (pa_cons (pe_lst (pa_cons (pe_var (i := 3) rfl (.inr (.inl rfl))) (pa_cons (pe_var (i := 4) rfl (.inr (.inl rfl))) (pa_cons pe_bl (pa_cons (pe_var (i := 6) rfl (.inr (.inl rfl))) pa_nil))))) pa_nil))) pa_nil)) (nomark _)) (pss_one (ps_ret pe_bl)) pss_nil))) pss_nil)
      (pss_one (ps_ret (pe_cmpR op_eq (pe_callB (call_repr gd sys hun) (by rfl) B.repr (by decide +kernel) (pa_cons (pv 1) pa_nil)) (pv 7) (nomark _)))))))))))), ?_⟩
    refine ⟨_, rfl, p, ns, t, rfl, pen, hn, t0, t1, fun a q l m u r d0 d1 d2 d3 fs t' H1 ha hq s0 s1 s2 s3 z4 hf v0 v1 pen1 but1 => ?_⟩
    refine ⟨a, _, rfl, st_of ha, rfl, .ref q, _, rfl, fsV fs, _, rfl, rfl, ?_⟩
    refine ⟨_, rfl, q, _, rfl, sq_of hq, rfl, l, _, rfl, m, _, rfl, u, _, rfl, r, _, rfl, rfl, ?_⟩
    have T1 := tabs_but pen but1 hT
    have dqq : ∀ H2, ExtN H1 H2 → Dq K H2 (.ref q) (.list [d0, d1, d2, d3]) := fun H2 n => .lst (sq_of (lst_extn n hq)) (z4 H2 n).1
    have okk := ok4 s0 s1 s2 s3
    have okdue := ok_due s0 s1 s2 s3 hf
    refine ⟨_, rfl, q, .list [d0, d1, d2, d3], rfl, dqq H1 (ExtN.refl _), okk, ?_⟩
    generalize hkept : (PyData.list [d0, d1, d2, d3]).shown = kept
    refine ⟨_, rfl, (by show 2 ≤ sizeLine; decide), fun k1 n1 => ⟨k1, .tuple [.str "kind", .list [d0, d1, d2, d3]], rfl, .tup (st_of upd_same) (.cons (.str _) (.cons (dqq _ (ex_extn (Ex.new n1))) .nil)), ok_kind s0 s1 s2 s3, ?_⟩⟩
    generalize hdue : (dueD fs [d0, d1, d2, d3]).shown = due
    refine ⟨fun σ' H' => σ' = [some (.ref p), some (.ref q), some (fsV fs), some l, some m, some u, some r, some (.str kept), some (.str due)] ∧ Ex H1 H', ?_, ?_⟩
    · refine ⟨_, rfl, rfl, _, rfl, ?_⟩
      rw [fs_non]
      cases fs with
      | none => exact ⟨by rw [← hdue]; rfl, Ex.new n1⟩
      | some n =>
        refine ⟨_, rfl, (by show 2 ≤ sizeLine; decide), fun k2 n2 => ⟨k2, .tuple [.str "wrong", .int (n : Int)], rfl, .tup (st_of upd_same) (.cons (.str _) (.cons (.int _) .nil)), okdue, ?_⟩⟩
        exact ⟨by rw [← hdue]; rfl, (Ex.new n1).trans (Ex.new n2)⟩
    · rintro σ' H5 ⟨rfl, e5⟩
      have T5 := T1.ext e5
      have x5 := ex_extn e5
      refine ⟨T5, fun H6 n6 T6 => ?_⟩
      have x6 := x5.trans n6
      refine tt3_imp (tt3_init (Z4.ext z4 x6) hf fun p2 H7 e7 hp2 => ?_) (fun E Q' z => ⟨_, rfl, _, rfl, _, rfl, _, rfl, rfl, rfl, fun x dx hx hd ne => by
        have y := z x dx hx hd ne
        rw [← M.gv (.ref x) l m u r] at y
        exact y⟩)
      refine ⟨p2, _, rfl, hp2, okdue, ?_⟩
      rw [hdue]
      refine ⟨_, rfl, rfl, false, by rw [decide_eq_true rfl]; rfl, ?_⟩
      have T7 := T6.ext e7
      refine ⟨T7, fun H8 n8 T8 => ?_⟩
      have x8 := (x6.trans (ex_extn e7)).trans n8
      refine tt3_imp (tt3_init (Z4.ext z4 x8) hf fun p3 H9 e9 hp3 => ?_) (fun E Q' z => ⟨_, rfl, _, rfl, _, rfl, _, rfl, rfl, rfl, fun x dx hx hd ne => by
        have y := z x dx hx hd ne
        rw [← gvx (.ref x) r m u l] at y
        exact y⟩)
      refine ⟨p3, _, rfl, hp3, okdue, ?_⟩
      rw [hdue]
      refine ⟨_, rfl, rfl, false, by rw [decide_eq_true rfl]; rfl, ?_⟩
      have T9 := T8.ext e9
      have x9 := x8.trans (ex_extn e9)
      refine ⟨fun σ' H' => σ' = [some (.ref p), some (.ref q), some (fsV fs), some l, some m, some u, some r, some (.str kept), some (.str due)] ∧ ExtN H1 H' ∧ Tabs Tt H', ?_, ?_⟩
      · refine ⟨_, rfl, rfl, _, rfl, ?_⟩
        rw [fs_non]
        cases fs with
        | some n => exact ⟨rfl, x9, T9⟩
        | none =>
          obtain ⟨kd, hk, rfl, rfl, rfl, rfl⟩ := kd_of (fst_bad hf)
          have sle := sm_row hk 0 (by decide)
          have slt := sm_row hk 1 (by decide)
          have sre := sm_row hk 3 (by decide)
          have sf : smD (.bool false) = true := by decide +kernel
          have sn : smD .none = true := by decide +kernel
          have dre : ∀ H2 : Hp, Dq K H2 (optV kd.re) (optD kd.re) ∧ AnyV H2 (optV kd.re) := fun H2 => sta_row (K := K) (p := 0) (q := 0) (H := H2) (kd := kd) 3 (by decide) H2 fun c o _ _ hc _ => hc
          have okr := ok_row hk 3 (by decide)
          have okA : okD (dueD none [.str kd.le, .str kd.lt, .bool false, .none]) = true := ok_kind sle slt sf sn
          have okB : okD (dueD none [.str kd.le, .str kd.lt, .bool false, optD kd.re]) = true := ok_kind sle slt sf sre
          refine ⟨T9, fun Ha na Ta => ?_⟩
          refine tt3_imp (tt3_init (K := K) (l := .str kd.le) (m := .str kd.lt) (u := .bl false) (r := .non) (ds := [.str kd.le, .str kd.lt, .bool false, .none]) (fun H2 _ => ⟨.cons (.str _) (.cons (.str _) (.cons (.bl _) (.cons .non .nil))), .str _, .str _, .bl _, .non⟩) (fst_tail hk (.bl false) .non rfl rfl) fun p4 Hb eb hp4 => ?_) (fun E Q' z => ⟨_, rfl, _, rfl, fun x dx hx hd ne => z x dx hx hd ne⟩)
          refine ⟨p4, _, rfl, hp4, okA, ?_⟩
          refine ⟨_, rfl, _, rfl, (by show 4 ≤ sizeLine; decide), fun k4 n4 => ⟨(by show 2 ≤ sizeLine; decide), fun k5 n5 => ⟨k5, dueD none [.str kd.le, .str kd.lt, .bool false, .none], rfl, .tup (st_of upd_same) (.cons (.str _) (.cons (.lst (sq_of (Ex.new n5 _ _ upd_same)) (.cons (.str _) (.cons (.str _) (.cons (.bl _) (.cons .non .nil))))) .nil)), okA, ?_⟩⟩⟩
          refine ⟨rfl, false, by rw [decide_eq_true rfl]; rfl, ?_⟩
          have Tb := ((Ta.ext eb).ext (Ex.new (o := HO.lst [.str kd.le, .str kd.lt, .bl false, .non]) n4)).ext (Ex.new (o := HO.tup [.str "kind", .ref k4]) n5)
          refine ⟨Tb, fun Hc nc Tc => ?_⟩
          refine tt3_imp (tt3_init (K := K) (l := .str kd.le) (m := .str kd.lt) (u := .bl false) (r := optV kd.re) (ds := [.str kd.le, .str kd.lt, .bool false, optD kd.re]) (fun H2 _ => ⟨.cons (.str _) (.cons (.str _) (.cons (.bl _) (.cons (dre H2).1 .nil))), .str _, .str _, .bl _, (dre H2).2⟩) (fst_tail hk (.bl false) (optV kd.re) rfl okr) fun p6 Hd ed hp6 => ?_) (fun E Q' z => ⟨_, rfl, _, rfl, _, rfl, rfl, rfl, fun x dx hx hd ne => by
            have y := z x dx hx hd ne
            rw [← gvr (.ref x) (.str kd.le) (.str kd.lt) (optV kd.re)] at y
            exact y⟩)
          refine ⟨p6, _, rfl, hp6, okB, ?_⟩
          refine ⟨_, rfl, _, rfl, _, rfl, (by show 4 ≤ sizeLine; decide), fun k6 n7 => ⟨(by show 2 ≤ sizeLine; decide), fun k7 n8 => ⟨k7, dueD none [.str kd.le, .str kd.lt, .bool false, optD kd.re], rfl, .tup (st_of upd_same) (.cons (.str _) (.cons (.lst (sq_of (Ex.new n8 _ _ upd_same)) (.cons (.str _) (.cons (.str _) (.cons (.bl _) (.cons (dre _).1 .nil))))) .nil)), okB, ?_⟩⟩⟩
          refine ⟨rfl, false, by rw [decide_eq_true rfl]; rfl, ?_⟩
          refine ⟨rfl, ?_, ((Tc.ext ed).ext (Ex.new n7)).ext (Ex.new n8)⟩
          exact ((((((x9.trans na).trans (ex_extn eb)).trans (ex_extn (Ex.new n4))).trans (ex_extn (Ex.new n5))).trans nc).trans (ex_extn ed)).trans ((ex_extn (Ex.new n7)).trans (ex_extn (Ex.new n8)))
      · rintro σ' Hz ⟨rfl, xz, Tz⟩
        refine ⟨_, rfl, q, .list [d0, d1, d2, d3], rfl, dqq _ xz, okk, _, rfl, rfl, ?_⟩
        rw [hkept, decide_eq_true rfl]
        exact k t' Hz v0 v1 (pen_extn xz pen1) Tz
end
end L2.M1
set_option maxRecDepth 100000
set_option maxHeartbeats 4000000
namespace L2.M1
open PySem PySem.Spec PyProof.Rows L2 Mx L2.Mb Evl Mv TL
/-! ### texts of parts tell the parts -/
theorem pf_free {W : List (List Nat)} (h : ∀ x ∈ W, ∀ y ∈ W, x <+: y → x = y) {x y s t : List Nat} (hx : x ∈ W) (hy : y ∈ W) (e : x ++ s = y ++ t) : x = y ∧ s = t := by
  have z : x = y := by
    rcases List.prefix_or_prefix_of_prefix (List.prefix_append x s) (e ▸ List.prefix_append y t) with z | z
    · exact h x hx y hy z
    · exact (h y hy x hx z).symm
  subst z
  exact ⟨rfl, List.append_cancel_left e⟩
theorem tl_row (a b c d : Str) : tl (listText [a, b, c, d]) = 91 :: (tl a ++ (44 :: 32 :: (tl b ++ (44 :: 32 :: (tl c ++ (44 :: 32 :: (tl d ++ [93]))))))) := by
  have s0 : tl ("[" : Str) = [91] := by decide +kernel
  have s1 : tl (", " : Str) = [44, 32] := by decide +kernel
  have s2 : tl ("]" : Str) = [93] := by decide +kernel
  have s3 : tl ("" : Str) = [] := by decide +kernel
  show tl ("[" ++ (if 0 > 0 then ", " else "" : String) ++ a ++ (if 0 + 1 > 0 then ", " else "" : String) ++ b ++ (if 0 + 1 + 1 > 0 then ", " else "" : String) ++ c ++ (if 0 + 1 + 1 + 1 > 0 then ", " else "" : String) ++ d ++ "]") = _
  simp only [tl_append, s0, s1, s2, s3, if_neg (show ¬ 0 > 0 by decide), if_pos (show 0 + 1 > 0 by decide), if_pos (show 0 + 1 + 1 > 0 by decide), if_pos (show 0 + 1 + 1 + 1 > 0 by decide), List.append_assoc, List.nil_append, List.cons_append]
def wdW : List (List Nat) := [tl (PyData.str "both").shown, tl (PyData.str "far").shown, tl (PyData.str "one").shown, tl (PyData.str "any").shown]
theorem wd_free : ∀ x ∈ wdW, ∀ y ∈ wdW, x <+: y → x = y := by decide +kernel
def blW : List (List Nat) := [tl (PyData.bool true).shown, tl (PyData.bool false).shown]
theorem bl_free : ∀ x ∈ blW, ∀ y ∈ blW, x <+: y → x = y := by decide +kernel
theorem wd_mem {x : Str} (h : x = "one" ∨ x = "far" ∨ x = "both" ∨ x = "any") : tl (PyData.str x).shown ∈ wdW := by
  unfold wdW
  rcases h with rfl | rfl | rfl | rfl <;> simp
theorem wd_inj {x y : Str} (hx : x = "one" ∨ x = "far" ∨ x = "both" ∨ x = "any") (hy : y = "one" ∨ y = "far" ∨ y = "both" ∨ y = "any") (e : tl (PyData.str x).shown = tl (PyData.str y).shown) : x = y := by
  rcases hx with rfl | rfl | rfl | rfl <;> rcases hy with rfl | rfl | rfl | rfl <;> first | rfl | (exact absurd e (by decide +kernel))
theorem bl_mem (b : Bool) : tl (PyData.bool b).shown ∈ blW := by
  unfold blW
  cases b <;> simp
theorem bl_inj {a b : Bool} (e : tl (PyData.bool a).shown = tl (PyData.bool b).shown) : a = b := by
  cases a <;> cases b <;> first | rfl | (exact absurd e (by decide +kernel))
theorem non_tl : tl PyData.none.shown = [78, 111, 110, 101] := by decide +kernel
theorem int_tl (n : Nat) : tl (PyData.int (n : Int)).shown = numL n := by
  simp only [PyData.shown]
  exact tl_num n
theorem re_inj {x y : Kd} (hx : x.ok = true) (hy : y.ok = true) (e : tl (optD x.re).shown = tl (optD y.re).shown) : x.re = y.re := by
  have num : ∀ {k : Kd} {n : Int}, k.ok = true → k.re = some n → ∃ m : Nat, n = (m : Int) := fun {k n} hk h => Int.eq_ofNat_of_zero_le (show 0 ≤ n by have := (re_pos hk h).1; omega)
  have bad : ∀ m : Nat, [78, 111, 110, 101] ≠ numL m := fun m z => numL_free (n := m) (s := 78) (by decide) (by rw [← z]; simp)
  cases h1 : x.re with
  | none =>
    cases h2 : y.re with
    | none => rfl
    | some b =>
      obtain ⟨m, rfl⟩ := num hy h2
      rw [h1, h2] at e
      simp only [optD] at e
      rw [non_tl, int_tl] at e
      exact absurd e (bad m)
  | some a =>
    obtain ⟨m, rfl⟩ := num hx h1
    cases h2 : y.re with
    | none =>
      rw [h1, h2] at e
      simp only [optD] at e
      rw [non_tl, int_tl] at e
      exact absurd e.symm (bad m)
    | some b =>
      obtain ⟨m2, rfl⟩ := num hy h2
      rw [h1, h2] at e
      simp only [optD] at e
      rw [int_tl, int_tl] at e
      rw [numL_inj e]
theorem parts_sh (k : Kd) : (partsD k).shown = listText [(PyData.str k.le).shown, (PyData.str k.lt).shown, (PyData.bool k.tu).shown, (optD k.re).shown] := by
  unfold partsD
  rw [show ∀ ds, (PyData.list ds).shown = listText (PyData.shownAll ds) from fun ds => by simp only [PyData.shown]]
  rfl
theorem parts_inj {x y : Kd} (hx : x.ok = true) (hy : y.ok = true) (e : (partsD x).shown = (partsD y).shown) : x = y := by
  have e1 := congrArg tl e
  rw [parts_sh, parts_sh, tl_row, tl_row] at e1
  obtain ⟨ax, bx⟩ := wd_le hx
  obtain ⟨ay, by'⟩ := wd_le hy
  have e2 := List.tail_eq_of_cons_eq e1
  obtain ⟨a1, e3⟩ := pf_free wd_free (wd_mem ax) (wd_mem ay) e2
  have e4 := List.tail_eq_of_cons_eq (List.tail_eq_of_cons_eq e3)
  obtain ⟨a2, e5⟩ := pf_free wd_free (wd_mem bx) (wd_mem by') e4
  have e6 := List.tail_eq_of_cons_eq (List.tail_eq_of_cons_eq e5)
  obtain ⟨a3, e7⟩ := pf_free bl_free (bl_mem x.tu) (bl_mem y.tu) e6
  have e8 := List.append_cancel_right (List.tail_eq_of_cons_eq (List.tail_eq_of_cons_eq e7))
  have z1 := wd_inj ax ay a1
  have z2 := wd_inj bx by' a2
  have z3 := bl_inj a3
  have z4 := re_inj hx hy e8
  obtain ⟨l1, m1, u1, r1⟩ := x
  obtain ⟨l2, m2, u2, r2⟩ := y
  simp only at z1 z2 z3 z4
  rw [z1, z2, z3, z4]
theorem parts_dec {x y : Kd} (hx : x.ok = true) (hy : y.ok = true) : decide ((partsD x).shown = (partsD y).shown) = decide (x = y) := by
  by_cases h : x = y
  · rw [decide_eq_true h, decide_eq_true (congrArg _ (congrArg _ h))]
  · rw [decide_eq_false h, decide_eq_false fun z => h (parts_inj hx hy z)]
end L2.M1
set_option maxRecDepth 100000
set_option maxHeartbeats 4000000
namespace L2.M1
open PySem PySem.Spec PyProof.Rows L2 Mx L2.Mb Evl Mv TL
/-! ### two kinds side by side, and other values beside them -/
section
variable {K : W.Frag} {C : Addr} {σ : L2.St} {H H' : Hp} {ta tb tc te : TE} {x y k : Kd}
theorem ev_eqM {neg : Bool} {i j : Nat} {a : Addr} {v : V} (ha : σ[i]? = some (some (.ref a))) (hj : σ[j]? = some (some v)) (ka : KAt C H a k) (hk : k.ok = true) (hv : AnyV H v) : Ev (tOp (rCmpO C (spEqA C) neg) (tVar i) (tVar j)) σ H (.bl neg) := fun H1 e Q q => by
  obtain ⟨dx, ea⟩ := ka.mono e
  refine ⟨_, ha, _, hj, a, dx, _, rfl, ea, .inr (any_ex hv e), a, v, k, rfl, hk, ⟨dx, ea⟩, .inr ⟨any_ex hv e, fun H4 e4 => ⟨_, rfl, ?_⟩⟩⟩
  cases neg
  · exact q H4 e4
  · exact q H4 e4
theorem ev_neK (h1 : EvK C ta σ H x) (h2 : EvK C tb σ H y) (hx : x.ok = true) (hy : y.ok = true) : Ev (tOp (rCmpO C (spEqA C) true) ta tb) σ H (.bl (!decide (x = y))) := fun H1 e Q q => h1 H1 e _ fun a H2 e2 ka => h2 H2 (e.trans e2) _ fun b H3 e3 kb => by
  obtain ⟨dx, ea⟩ := ka.mono e3
  obtain ⟨dy, eb⟩ := kb
  exact ⟨a, dx, _, rfl, ea, .inl ⟨b, dy, _, rfl, eb⟩, a, .ref b, x, rfl, hx, ⟨dx, ea⟩, .inl ⟨b, y, rfl, hy, ⟨dy, eb⟩, fun H4 e4 => ⟨_, rfl, q H4 ((e2.trans e3).trans e4)⟩⟩⟩
theorem evd_bl3 {a b c : Bool} (h1 : Ev ta σ H (.bl a)) (h2 : Ev tb σ H (.bl b)) (h3 : Ev tc σ H (.bl c)) : EvD K (tLst (tCons ta (tCons tb (tCons tc tNil)))) σ H (.list [.bool a, .bool b, .bool c]) := fun H1 e Q q => h1 H1 e _ fun H2 e2 => h2 H2 (e.trans e2) _ fun H3 e3 => h3 H3 ((e.trans e2).trans e3) _ fun H4 e4 =>
  ⟨(by show 3 ≤ sizeLine; decide), fun p np => q p _ (((e2.trans e3).trans e4).trans (Ex.new np)) (.lst (sq_of upd_same) (.cons (.bl a) (.cons (.bl b) (.cons (.bl c) .nil))))⟩
theorem evd_parts {i : Nat} {p : Addr} (hs : σ[i]? = some (some (.ref p))) (hp : H p = some (.lst (partsV k))) : EvD K (tVar i) σ H (partsD k) := fun H1 e Q q => ⟨_, hs, q p H1 (Ex.refl H1) (parts_dq (e _ _ hp))⟩
theorem parts_okD (h : k.ok = true) : okD (partsD k) = true := ok4 (sm_row h 0 (by decide)) (sm_row h 1 (by decide)) (sm_row h 2 (by decide)) (sm_row h 3 (by decide))
theorem bl3_okD (a b c : Bool) : okD (.list [.bool a, .bool b, .bool c]) = true := by cases a <;> cases b <;> cases c <;> decide +kernel
theorem str_dec (a b : Str) : decide (V.str a = V.str b) = decide (a = b) := by
  by_cases h : a = b
  · rw [decide_eq_true h, decide_eq_true (congrArg _ h)]
  · rw [decide_eq_false h, decide_eq_false fun z => h (V.str.inj z)]
theorem mix_parts {i : Nat} (hi : i < 4) : (partsV x).set i ((partsV y).getD i .non) = partsV (mixR i x y) := by
  rcases (show i = 0 ∨ i = 1 ∨ i = 2 ∨ i = 3 by omega) with rfl | rfl | rfl | rfl <;> rfl
theorem ev_part {i j : Nat} {p : Addr} {ti : TE} (hs : σ[i]? = some (some (.ref p))) (hp : H p = some (.lst (partsV k))) (ht : Ev ti σ H (.int (j : Int))) (hj : j < 4) : Ev (tOp (rIxL K) (tVar i) ti) σ H ((partsV k).getD j .non) := by
  refine ev_op (ev_var hs) ht (rv_ixL (sq_of hp) (atI_nat ?_))
  have hl : (partsV k).length = 4 := rfl
  rw [List.getD_eq_getElem?_getD, List.getElem?_eq_getElem (by omega)]
  rfl
end
/-- str of a kind -/
structure SW (P : Program) (w : World) (K : W.Frag) (mg : Str → Option Value) (base : Heap) (C fS : Addr) (dS : FuncData) : Prop where
  ok : FnOk P w K mg base CX0 1 fS dS ["self"] (spText C Kd.text)
  s : W.findIn K (.ref C) "__str__" = some (some (.ref fS))
  fn : W.isFn K (.ref fS) = true
  b : Binds K dS ["self"] []
def spSame : Sp := fun vs H Q _ => ∃ (p : Addr) (ns : Cells) (t : Int), vs = [.ref p] ∧ PenAt H p ns t ∧ ns.length ≤ 63 ∧ 0 ≤ t ∧ t ≤ 900000 - 15 ∧ ∀ (t' : Int) (H' : Hp), t ≤ t' → t' ≤ t + 15 → PenAt H' p ns t' → But p H H' → Q (.bl true) H'
section
variable {P : Program} {w : World} {K : W.Frag} {mg : Str → Option Value} {base : Heap} {f C CE fK fT fR fQ fS aL aT : Addr} {fd dK dT dR dQ dS : FuncData} {mc : Value}
theorem ok_same {oc dV kV doc pm ct cdv : Value} {an od : Option Addr} {osl : Array (Option Value)} {g : List Value → List Value → List Value} {gV : List V → List V → List V}
    (B : Bt mg) (T : KF K mg C mc aL aT) (sys : SysD K) (M : KM P w K mg base C CE fK dK g gV) (Q' : OW P w K mg base C "__eq__" 4 fQ dQ (spEqA C)) (hne : W.findIn K (.ref C) "__ne__" = some (some (.builtin "object.__ne__"))) (ho : W.mroIn K C (.type "object") = some true) (S : SW P w K mg base C fS dS)
    (D : Fn0 P w K mg base "_law_take" 1 fT dT p_law_take spTake) (DR : Fn0 P w K mg base "_law_right" 2 fR dR p_law_right spRight)
    (lk : K.lookup f = some ⟨oc, od, .func (W.fnOf "_law_same_right" "_law_same_right" (defArgs s_law_same_right) (defBody s_law_same_right) (defScope s_law_same_right) dV kV doc pm an cdv ct), osl⟩) (hcd : W.codeIn K cdv "_law_same_right" = true) :
    FnG P w K mg base CX0 8 f (W.fnOf "_law_same_right" "_law_same_right" (defArgs s_law_same_right) (defBody s_law_same_right) (defScope s_law_same_right) dV kV doc pm an cdv ct) p_law_same_right spSame := by
  refine fng_of lk hcd sc_law_same_right (fun vs H Q E h => ?_) (fun A0 outer s H vs Q E gd hr h => ?_)
  · obtain ⟨p, ns, t, rfl, _⟩ := h
    rfl
  · obtain ⟨p, ns, t, rfl, pen, hn, t0, t1, k⟩ := h
    have nd := sc_law_same_right.nd
    have hun := hr.units
    refine ⟨_, PSs.nox (pss_cons (ps_set (i := 1) nd rfl (Or.inl rfl) (pe_call DR.ok (hr.mono (by decide)) (by rfl) DR.m DR.k DR.b .nil pass0 (pa_cons (pv 0) pa_nil)))
      (pss_cons (ps_set (i := 2) nd rfl (Or.inl rfl) (pe_call DR.ok (hr.mono (by decide)) (by rfl) DR.m DR.k DR.b .nil pass0 (pa_cons (pv 0) pa_nil)))
      (pss_cons (ps_for PassesOwn.never rfl (pi_range1 (by rfl) B.range (pa_cons pe_int pa_nil)) (pg_name (i := 3) nd rfl (Or.inl rfl))
        (pss_one (ps_if (pt_cmpR op_gt (pe_call D.ok (hr.mono (by decide)) (by rfl) D.m D.k D.b .nil pass0 (pa_cons (pv 0) (pa_cons pe_int pa_nil))) pe_int (nomark _))
          (pss_one (ps_asg (pe_ix (by exact ix_list : IxR _ (rIxL K)) (pv 1) (pv 3) (fun _ _ => rfl)) (pg_sub (pv 2) (pv 3) set_list))) pss_nil)))
      (pss_cons (ps_set (i := 4) nd rfl (Or.inl rfl) (pe_makeK (E := fun _ _ _ => False) M.made M.ok (hr.mono (by decide)) (by rfl) T.m M.kb passF (pa_cons (pe_ix (by exact ix_list : IxR _ (rIxL K)) (pv 1) pe_int (fun _ _ => rfl)) (pa_cons (pe_ix (by exact ix_list : IxR _ (rIxL K)) (pv 1) pe_int (fun _ _ => rfl)) pa_nil))
        (pk_cons (pe_ix (by exact ix_list : IxR _ (rIxL K)) (pv 1) pe_int (fun _ _ => rfl)) (pk_cons (pe_ix (by exact ix_list : IxR _ (rIxL K)) (pv 1) pe_int (fun _ _ => rfl)) pk_nil))))
      (pss_cons (ps_set (i := 5) nd rfl (Or.inl rfl) (pe_makeK (E := fun _ _ _ => False) M.made M.ok (hr.mono (by decide)) (by rfl) T.m M.kb passF (pa_cons (pe_ix (by exact ix_list : IxR _ (rIxL K)) (pv 2) pe_int (fun _ _ => rfl)) (pa_cons (pe_ix (by exact ix_list : IxR _ (rIxL K)) (pv 2) pe_int (fun _ _ => rfl)) pa_nil))
        (pk_cons (pe_ix (by exact ix_list : IxR _ (rIxL K)) (pv 2) pe_int (fun _ _ => rfl)) (pk_cons (pe_ix (by exact ix_list : IxR _ (rIxL K)) (pv 2) pe_int (fun _ _ => rfl)) pk_nil))))
      (pss_cons (ps_set (i := 6) nd rfl (Or.inl rfl) (pe_cmpR op_eq (pe_callB (call_repr gd sys hun) (by rfl) B.repr (by decide +kernel) (pa_cons (pv 1) pa_nil)) (pe_callB (call_repr gd sys hun) (by rfl) B.repr (by decide +kernel) (pa_cons (pv 2) pa_nil)) (nomark _)))
      (pss_cons (ps_if (pt_cmpR op_ne (pe_callB (call_repr gd sys hun) (by rfl) B.repr (by decide +kernel) (pa_cons (pe_lst (pa_cons (pe_cmpR (op_eqO Q'.ok (hr.mono (by decide)) Q'.b pass0 Q'.s Q'.fn) (pv 4) (pv 5) (nomark _)) (pa_cons (pe_cmpR (op_eqO Q'.ok (hr.mono (by decide)) Q'.b pass0 Q'.s Q'.fn) (pv 5) (pv 4) (nomark _))
          (pa_cons (pe_cmpR (op_neO Q'.ok (hr.mono (by decide)) Q'.b pass0 Q'.s Q'.fn hne ho) (pv 4) (pv 5) (nomark _)) pa_nil)))) pa_nil))
          (pe_callB (call_repr gd sys hun) (by rfl) B.repr (by decide +kernel) (pa_cons (pe_lst (pa_cons (pv 6) (pa_cons (pv 6) (pa_cons (pe_not (pv 6)) pa_nil)))) pa_nil)) (nomark _)) (pss_one (ps_ret pe_bl)) pss_nil)
      (pss_cons (ps_for PassesOwn.never rfl (pi_list (pe_lst (pa_cons pe_non (pa_cons pe_bl (pa_cons pe_int (pa_cons (pe_callTy (call_strO S.ok S.s S.fn S.b pass0 (hr.mono (by decide))) (by rfl) B.str (by decide +kernel) (pa_cons (pv 4) pa_nil))
          (pa_cons (pe_tup (pa_cons (pe_ix (by exact ix_list : IxR _ (rIxL K)) (pv 1) pe_int (fun _ _ => rfl)) (pa_cons (pe_ix (by exact ix_list : IxR _ (rIxL K)) (pv 1) pe_int (fun _ _ => rfl)) (pa_cons (pe_ix (by exact ix_list : IxR _ (rIxL K)) (pv 1) pe_int (fun _ _ => rfl)) (pa_cons (pe_ix (by exact ix_list : IxR _ (rIxL K)) (pv 1) pe_int (fun _ _ => rfl)) pa_nil)))))
          (pa_cons (pv 1) (pa_cons (pe_lst (pa_cons (pv 4) pa_nil)) (pa_cons pe_dnewK (pa_cons pe_str pa_nil))))))))))) (pg_name (i := 7) nd rfl (Or.inl rfl))
        (pss_one (ps_if (pw_or (pt_cmpR (op_eqO Q'.ok (hr.mono (by decide)) Q'.b pass0 Q'.s Q'.fn) (pv 4) (pv 7) (nomark _)) (pw_or1 (pt_not (pt_cmpR (op_neO Q'.ok (hr.mono (by decide)) Q'.b pass0 Q'.s Q'.fn hne ho) (pv 4) (pv 7) (nomark _))))).pt (pss_one (ps_ret pe_bl)) pss_nil)))
      (pss_one (ps_ret (pe_cmpR (op_eqO Q'.ok (hr.mono (by decide)) Q'.b pass0 Q'.s Q'.fn) (pv 4) (pe_makeK (E := fun _ _ _ => False) M.made M.ok (hr.mono (by decide)) (by rfl) T.m M.kb passF (pa_cons (pe_ix (by exact ix_list : IxR _ (rIxL K)) (pv 1) pe_int (fun _ _ => rfl)) (pa_cons (pe_ix (by exact ix_list : IxR _ (rIxL K)) (pv 1) pe_int (fun _ _ => rfl)) pa_nil))
        (pk_cons (pe_ix (by exact ix_list : IxR _ (rIxL K)) (pv 1) pe_int (fun _ _ => rfl)) (pk_cons (pe_ix (by exact ix_list : IxR _ (rIxL K)) (pv 1) pe_int (fun _ _ => rfl)) pk_nil))) (nomark _)))))))))))), ?_⟩
    refine ⟨_, rfl, p, ns, t, rfl, pen, hn, t0, by omega, fun x q1 u1 H1 hx v0 v1 pen1 but1 n1 h1 => ?_⟩
    refine ⟨_, rfl, p, ns, u1, rfl, pen1, hn, by omega, by omega, fun y q2 u2 H2 hy v2 v3 pen2 but2 n2 h2 => ?_⟩
    have p1 := pen_fresh pen n1
    have p2 := pen_fresh pen1 n2
    have b02 : But p H H2 := but1.trans but2
    have n20 := new_but pen1 but1 n2
    have h12 := but2 q1 _ p1 h1
    have q12 : q1 ≠ q2 := ne_of_none h1 n2
    refine ⟨4, rfl, by decide, by decide, for_range (lo := 0) (n := 4) (fun i σ' H' => ∃ (t' : Int) (z : Kd) (x3 : Option V), σ' = [some (.ref p), some (.ref q1), some (.ref q2), x3, none, none, none, none] ∧ u2 ≤ t' ∧ t' ≤ u2 + (i : Int) ∧ PenAt H' p ns t' ∧ But p H H' ∧ z.ok = true ∧ H' q1 = some (.lst (partsV x)) ∧ H' q2 = some (.lst (partsV z))) ⟨u2, y, none, rfl, Int.le_refl _, by omega, pen2, b02, hy, h12, h2⟩ ?_ ?_⟩
    · rintro i σ' H4 hi ⟨t4, z, x3, rfl, w0, w1, pen4, b4, hz, h14, h24⟩
      have e0 : (0 : Int) + (i : Int) = (i : Int) := Int.zero_add _
      rw [e0]
      refine ⟨_, rfl, p, 3, ns, t4, rfl, pen4, hn, by omega, by omega, by decide, by decide, fun d t5 H5 d0 d1 y0 y1 pen5 but5 => ?_⟩
      have b5 := b4.trans but5
      have h15 := but5 q1 _ p1 h14
      have h25 := but5 q2 _ p2 h24
      refine ⟨_, _, rfl, rfl, _, rfl, ?_⟩
      refine ifB (fun _ => ?_) (fun _ => ⟨t5, z, _, rfl, by omega, by push_cast; omega, pen5, b5, hz, h15, h25⟩)
      refine s_setL (l := q2) (xs := partsV z) h25 (ev_part rfl h15 (ev_var rfl) hi) (ev_var rfl) (ev_var rfl) (show i < 4 from hi) fun H6 e6 => ?_
      rw [mix_parts hi]
      have hl : q2 ≠ ns.l := pen_freshL pen1 n2
      obtain ⟨gg, g1, g2⟩ := pen_mono e6 pen5
      refine ⟨t5, mixR i z x, _, rfl, by omega, by push_cast; omega, ⟨gg, by rw [upd_ne p2.symm]; exact g1, by rw [upd_ne hl.symm]; exact g2⟩, fun c o hc hh => ?_, mix_ok hz hx, by rw [upd_ne q12]; exact e6 _ _ h15, upd_same⟩
      rw [upd_ne (ne_of_none hh n20)]
      exact e6 _ _ (b5 c o hc hh)
    · rintro σ' H4 ⟨t4, z, x3, rfl, w0, w1, pen4, b4, hz, h14, h24⟩
      have mk : ∀ {σ : L2.St} {H' : Hp} {i : Nat} {q : Addr} {kd : Kd} (hs : σ[i]? = some (some (.ref q))) (hq : H' q = some (.lst (partsV kd))) (ok : kd.ok = true), EvK C (tMakeK C 2 2 (spInit C CE) gV (fun _ _ _ => False) (tCons (tOp (rIxL K) (tVar i) (tC (.int ((0 : Nat) : Int)))) (tCons (tOp (rIxL K) (tVar i) (tC (.int ((1 : Nat) : Int)))) tNil)) (tCons (tOp (rIxL K) (tVar i) (tC (.int ((2 : Nat) : Int)))) (tCons (tOp (rIxL K) (tVar i) (tC (.int ((3 : Nat) : Int)))) tNil))) σ H' kd :=
        fun hs hq ok => e_make (CE := CE) M.gv (ea_cons (ev_part hs hq ev_c (by decide)) (ea_cons (ev_part hs hq ev_c (by decide)) ea_nil)) (ea_cons (ev_part hs hq ev_c (by decide)) (ea_cons (ev_part hs hq ev_c (by decide)) ea_nil)) ok
      refine q_asgK (mk rfl h14 hx) fun a H5 e5 ka => ?_
      refine q_asgK (mk rfl (e5 _ _ h24) hz) fun b H6 e6 kb => ?_
      have ka6 := ka.mono e6
      have h16 := e6 _ _ (e5 _ _ h14)
      have h26 := e6 _ _ (e5 _ _ h24)
      refine q_asg (v := .bl (decide (x = z))) (ev_is (ev_op (ev_rp (evd_parts rfl h16) (parts_okD hx)) (ev_rp (evd_parts rfl h26) (parts_okD hz)) (rv_eq rfl)) (by rw [str_dec, parts_dec hx hz])) fun H7 e7 => ?_
      have ka7 := ka6.mono e7
      have kb7 := kb.mono e7
      have sym : decide (z = x) = decide (x = z) := by
        by_cases h : x = z
        · rw [decide_eq_true h, decide_eq_true h.symm]
        · rw [decide_eq_false h, decide_eq_false fun y => h y.symm]
      refine q_when (b := false) (et_test (ev_is (ev_op (ev_rp (evd_bl3 (ev_eqK (evk_var rfl ka7) (evk_var rfl kb7) hx hz) (ev_eqK (evk_var rfl kb7) (evk_var rfl ka7) hz hx) (ev_neK (evk_var rfl ka7) (evk_var rfl kb7) hx hz)) (bl3_okD _ _ _)) (ev_rp (evd_bl3 (ev_var rfl) (ev_var rfl) (ev_notV (ev_var rfl))) (bl3_okD _ _ _)) (rv_ne rfl)) (by rw [sym, decide_eq_true rfl]; rfl))) (fun h => by cases h) (fun _ H8 e8 => ?_)
      have ka8 := ka7.mono e8
      have h18 := e8 _ _ (e7 _ _ h16)
      obtain ⟨dx, ea⟩ := ka8
      -- the mates
      have e48 : Ex H4 H8 := ((e5.trans e6).trans e7).trans e8
      refine ⟨_, rfl, a, dx, _, rfl, ea, a, x, rfl, hx, ⟨dx, ea⟩, fun H9 e9 => ⟨⟨_, rfl⟩, ?_⟩⟩
      have h19 := e9 _ _ h18
      refine (ev_part (K := K) (j := 0) rfl h19 ev_c (by decide)) H9 (Ex.refl H9) _ fun Ha ea1 => ?_
      refine (ev_part (K := K) (j := 1) rfl (ea1 _ _ h19) ev_c (by decide)) Ha (Ex.refl Ha) _ fun Hb eb1 => ?_
      refine (ev_part (K := K) (j := 2) rfl (eb1 _ _ (ea1 _ _ h19)) ev_c (by decide)) Hb (Ex.refl Hb) _ fun Hc ec1 => ?_
      refine (ev_part (K := K) (j := 3) rfl (ec1 _ _ (eb1 _ _ (ea1 _ _ h19))) ev_c (by decide)) Hc (Ex.refl Hc) _ fun Hd ed1 => ?_
      have e9d : Ex H8 Hd := (((e9.trans ea1).trans eb1).trans ec1).trans ed1
      refine ⟨(by show 4 ≤ sizeLine; decide), fun m1 nm1 => ⟨_, rfl, _, rfl, (by show 1 ≤ sizeLine; decide), fun m2 nm2 => fun m3 nm3 => ⟨(by show 9 ≤ sizeLine; decide), fun m4 nm4 => ?_⟩⟩⟩
      have E1 := Ex.new (o := HO.tup [(partsV x).getD 0 .non, (partsV x).getD 1 .non, (partsV x).getD 2 .non, (partsV x).getD 3 .non]) nm1
      have E2 := Ex.new (o := HO.lst [.ref a]) nm2
      have E3 := Ex.new (o := HO.dK []) nm3
      have E4 := Ex.new (o := HO.lst [.non, .bl true, .int 0, .str x.text, .ref m1, .ref q1, .ref m2, .ref m3, .str ""]) nm4
      have E14 := ((E1.trans E2).trans E3).trans E4
      have eT := e9d.trans E14
      have l4 : (upd (upd (upd (upd Hd m1 (.tup [(partsV x).getD 0 .non, (partsV x).getD 1 .non, (partsV x).getD 2 .non, (partsV x).getD 3 .non])) m2 (.lst [.ref a])) m3 (.dK [])) m4 (.lst [.non, .bl true, .int 0, .str x.text, .ref m1, .ref q1, .ref m2, .ref m3, .str ""])) m4 = some (.lst [.non, .bl true, .int 0, .str x.text, .ref m1, .ref q1, .ref m2, .ref m3, .str ""]) := upd_same
      have g1 : (upd (upd (upd (upd Hd m1 (.tup [(partsV x).getD 0 .non, (partsV x).getD 1 .non, (partsV x).getD 2 .non, (partsV x).getD 3 .non])) m2 (.lst [.ref a])) m3 (.dK [])) m4 (.lst [.non, .bl true, .int 0, .str x.text, .ref m1, .ref q1, .ref m2, .ref m3, .str ""])) m1 = _ := ((E2.trans E3).trans E4) m1 _ upd_same
      have g2 : (upd (upd (upd (upd Hd m1 (.tup [(partsV x).getD 0 .non, (partsV x).getD 1 .non, (partsV x).getD 2 .non, (partsV x).getD 3 .non])) m2 (.lst [.ref a])) m3 (.dK [])) m4 (.lst [.non, .bl true, .int 0, .str x.text, .ref m1, .ref q1, .ref m2, .ref m3, .str ""])) m2 = _ := (E3.trans E4) m2 _ upd_same
      have g3 : (upd (upd (upd (upd Hd m1 (.tup [(partsV x).getD 0 .non, (partsV x).getD 1 .non, (partsV x).getD 2 .non, (partsV x).getD 3 .non])) m2 (.lst [.ref a])) m3 (.dK [])) m4 (.lst [.non, .bl true, .int 0, .str x.text, .ref m1, .ref q1, .ref m2, .ref m3, .str ""])) m3 = _ := E4 m3 _ upd_same
      have gq : (upd (upd (upd (upd Hd m1 (.tup [(partsV x).getD 0 .non, (partsV x).getD 1 .non, (partsV x).getD 2 .non, (partsV x).getD 3 .non])) m2 (.lst [.ref a])) m3 (.dK [])) m4 (.lst [.non, .bl true, .int 0, .str x.text, .ref m1, .ref q1, .ref m2, .ref m3, .str ""])) q1 = _ := eT _ _ h18
      have gk : KAt C (upd (upd (upd (upd Hd m1 (.tup [(partsV x).getD 0 .non, (partsV x).getD 1 .non, (partsV x).getD 2 .non, (partsV x).getD 3 .non])) m2 (.lst [.ref a])) m3 (.dK [])) m4 (.lst [.non, .bl true, .int 0, .str x.text, .ref m1, .ref q1, .ref m2, .ref m3, .str ""])) a x := KAt.mono ⟨dx, ea⟩ eT
      have eF : Ex H4 (upd (upd (upd (upd Hd m1 (.tup [(partsV x).getD 0 .non, (partsV x).getD 1 .non, (partsV x).getD 2 .non, (partsV x).getD 3 .non])) m2 (.lst [.ref a])) m3 (.dK [])) m4 (.lst [.non, .bl true, .int 0, .str x.text, .ref m1, .ref q1, .ref m2, .ref m3, .str ""])) := e48.trans eT
      generalize (upd (upd (upd (upd Hd m1 (.tup [(partsV x).getD 0 .non, (partsV x).getD 1 .non, (partsV x).getD 2 .non, (partsV x).getD 3 .non])) m2 (.lst [.ref a])) m3 (.dK [])) m4 (.lst [.non, .bl true, .int 0, .str x.text, .ref m1, .ref q1, .ref m2, .ref m3, .str ""])) = Hm at *
      refine ⟨m4, rfl, ⟨_, sq_of l4⟩, for_list (fun i σ' H' => ∃ x7 : Option V, σ' = [some (.ref p), some (.ref q1), some (.ref q2), x3, some (.ref a), some (.ref b), some (.bl (decide (x = z))), x7] ∧ Ex Hm H') ⟨none, rfl, Ex.refl _⟩ (fun i σ' H' _ ⟨_, _, e⟩ => ex_l e (sq_of l4)) (fun i v σ' H' hv h => ?_) (fun σ' H' h => ?_)⟩
      · obtain ⟨x7, rfl, eh⟩ := h
        have av : AnyV Hm v := by
          rcases i with _ | _ | _ | _ | _ | _ | _ | _ | _ | i
          · cases hv; exact .non
          · cases hv; exact .bl _
          · cases hv; exact .int _
          · cases hv; exact .str _
          · cases hv; exact .tup g1
          · cases hv; exact .lst gq
          · cases hv; exact .lst g2
          · cases hv; exact .dct g3
          · cases hv; exact .str _
          · cases hv
        refine s_when (b := false) (et_or (a := false) (b := false) (et_test (ev_eqM (neg := false) rfl rfl (gk.mono eh) hx (any_ex av eh))) (fun _ => et_not (a := true) (et_test (ev_eqM (neg := true) rfl rfl (gk.mono eh) hx (any_ex av eh))))) (fun h => by cases h) (fun _ H9' e9' => ?_)
        exact ⟨_, rfl, eh.trans e9'⟩
      · obtain ⟨x7, rfl, eh⟩ := h
        refine s_ret (v := .bl true) (ev_is (ev_eqK (evk_var rfl (gk.mono eh)) (mk rfl (eh _ _ gq) hx) hx hx) (by rw [decide_eq_true rfl])) fun Hz ez => ?_
        have ez' := (eF.trans eh).trans ez
        exact k t4 Hz (by omega) (by push_cast at w1; omega) (pen_mono ez' pen4) (b4.trans (but_ex ez'))
end
end L2.M1
set_option maxRecDepth 100000
set_option maxHeartbeats 4000000
namespace L2.M1
open PySem PySem.Spec PyProof.Rows L2 Mx L2.Mb Evl Mv TL LamX
/-! ### the law -/
def spLaw (K : W.Frag) (Tt : List (Addr × Str)) : Sp := fun vs H Q _ => ∃ (a : Addr) (ns : List Int), vs = [.ref a] ∧ SqL K H a (ns.map V.int) ∧ ns.length ≤ 63 ∧ Tabs Tt H ∧ ∀ H', Q (.bl true) H'
def wordsD : PyData := .list [.tuple [.str "both", .str "far", .str "one"], .tuple [.str "both", .str "far", .str "any"]]
theorem wordsD_ok : okD wordsD = true := by decide +kernel
theorem evd_vals {K : W.Frag} {σ : L2.St} {H : Hp} {ta tb : TE} {a b : Addr} (h1 : Ev ta σ H (.ref a)) (h2 : Ev tb σ H (.ref b)) (t1 : ∀ H, SqT K H a (lendL.map V.str)) (t2 : ∀ H, SqT K H b (letL.map V.str)) : EvD K (tLst (tCons ta (tCons tb tNil))) σ H wordsD := fun H1 e Q q => h1 H1 e _ fun H2 e2 => h2 H2 (e.trans e2) _ fun H3 e3 =>
  ⟨(by show 2 ≤ sizeLine; decide), fun p np => q p _ ((e2.trans e3).trans (Ex.new np)) (.lst (sq_of upd_same) (.cons (.tup (t1 _) (.cons (.str _) (.cons (.str _) (.cons (.str _) .nil)))) (.cons (.tup (t2 _) (.cons (.str _) (.cons (.str _) (.cons (.str _) .nil)))) .nil)))⟩
theorem evd_words {K : W.Frag} {σ : L2.St} {H : Hp} : EvD K (tLst (tCons (tTup (tCons (tC (.str "both")) (tCons (tC (.str "far")) (tCons (tC (.str "one")) tNil)))) (tCons (tTup (tCons (tC (.str "both")) (tCons (tC (.str "far")) (tCons (tC (.str "any")) tNil)))) tNil))) σ H wordsD := fun H1 e Q q =>
  ⟨(by show 3 ≤ sizeLine; decide), fun a na => ⟨(by show 3 ≤ sizeLine; decide), fun b nb => ⟨(by show 2 ≤ sizeLine; decide), fun p np => q p _ (((Ex.new na).trans (Ex.new nb)).trans (Ex.new np)) (.lst (sq_of upd_same) (.cons (.tup (st_of (((Ex.new nb).trans (Ex.new np)) _ _ upd_same)) (.cons (.str _) (.cons (.str _) (.cons (.str _) .nil)))) (.cons (.tup (st_of ((Ex.new np) _ _ upd_same)) (.cons (.str _) (.cons (.str _) (.cons (.str _) .nil)))) .nil)))⟩⟩⟩
section
variable {P : Program} {w : World} {K : W.Frag} {mg : Str → Option Value} {base : Heap}
theorem ok_law {C CE fK aL aT f fB fM fS fT fW : Addr} {mc : Value} {dK dB dM dS dT dW : FuncData} {Tt : List (Addr × Str)} {oc dV kV doc pm ct cdv : Value} {an od : Option Addr} {osl : Array (Option Value)} {g : List Value → List Value → List Value} {gV : List V → List V → List V}
    (B : Bt mg) (T : KF K mg C mc aL aT) (M : KM P w K mg base C CE fK dK g gV) (X : KX K dK) (sys : SysD K) (Wi : OW P w K mg base C "within" 4 fW dW (spWi C))
    (DB : Fn0 P w K mg base "_law_begin" 1 fB dB p_law_begin (spBegin K)) (DM : FgD P w K mg base "_law_made_right" 8 fM dM p_law_made_right (spMade Tt)) (DS : FgD P w K mg base "_law_same_right" 8 fS dS p_law_same_right spSame) (DT : FgD P w K mg base "_law_three_kinds_right" 8 fT dT p_law_three_kinds_right spTK)
    (lk : K.lookup f = some ⟨oc, od, .func (W.fnOf "law" "law" (defArgs s_law) (defBody s_law) (defScope s_law) dV kV doc pm an cdv ct), osl⟩) (hcd : W.codeIn K cdv "law" = true) :
    FnG P w K mg base CX0 9 f (W.fnOf "law" "law" (defArgs s_law) (defBody s_law) (defScope s_law) dV kV doc pm an cdv ct) p_law (spLaw K Tt) := by
  refine fng_of lk hcd sc_law (fun vs H Q E h => ?_) (fun A outer s H vs Q E gd hr h => ?_)
  · obtain ⟨a, ns, rfl, _⟩ := h
    rfl
  · obtain ⟨a, ns, rfl, hS, hn, hT, k⟩ := h
    have nd := sc_law.nd
    have hun := hr.units
    have mW : Meth K C "within" fW := ⟨Wi.s, Wi.fn, Wi.kp⟩
    obtain ⟨gr, gVr, kbr, gvr⟩ := X.r
    obtain ⟨gt, gVt, kbt, gvt⟩ := X.t
    refine ⟨_, PSs.nox (pss_cons (ps_set (i := 1) nd rfl (Or.inl rfl) (pe_call DB.ok (hr.mono (by decide)) (by rfl) DB.m DB.k DB.b .nil pass0 (pa_cons (pv 0) pa_nil)))
      (pss_cons (ps_for PassesOwn.never rfl (pi_range1 (by rfl) B.range (pa_cons pe_int pa_nil)) (pg_name (i := 2) nd rfl (Or.inl rfl))
        (pss_one (ps_if (pw_or (pt_not (pt_val (pe_callG gd DM.ok hr (by rfl) DM.m DM.k DM.b .nil pass0 (pa_cons (pv 1) pa_nil)))) (pw_or (pt_not (pt_val (pe_callG gd DS.ok hr (by rfl) DS.m DS.k DS.b .nil pass0 (pa_cons (pv 1) pa_nil)))) (pw_or1 (pt_not (pt_val (pe_callG gd DT.ok hr (by rfl) DT.m DT.k DT.b .nil pass0 (pa_cons (pv 1) pa_nil))))))).pt (pss_one (ps_ret pe_bl)) pss_nil)))
      (pss_cons (ps_if (pt_not (pt_val (pe_meth (pe_makeK (E := fun _ _ _ => False) M.made M.ok (hr.mono (by decide)) (by rfl) T.m kbr passF (pa_cons pe_str (pa_cons pe_str pa_nil)) (pk_cons pe_int pk_nil)) T.cl mW Wi.ok (hr.mono (by decide)) Wi.b .nil pass0
        (pa_cons (pe_makeK (E := fun _ _ _ => False) M.made M.ok (hr.mono (by decide)) (by rfl) T.m kbt passF (pa_cons pe_str (pa_cons pe_str pa_nil)) (pk_cons pe_bl pk_nil)) pa_nil)))) (pss_one (ps_ret pe_bl)) pss_nil)
      (pss_one (ps_ret (pe_cmpR op_eq (pe_callB (call_repr gd sys hun) (by rfl) B.repr (by decide +kernel) (pa_cons (pe_lst (pa_cons (ClX.pe_cval (pe_glob (v := .ref C) (by rfl) T.m rfl)) (pa_cons (ClX.pe_cval (pe_glob (v := .ref C) (by rfl) T.m rfl)) pa_nil))) pa_nil))
        (pe_callB (call_repr gd sys hun) (by rfl) B.repr (by decide +kernel) (pa_cons (pe_lst (pa_cons (pe_tup (pa_cons pe_str (pa_cons pe_str (pa_cons pe_str pa_nil)))) (pa_cons (pe_tup (pa_cons pe_str (pa_cons pe_str (pa_cons pe_str pa_nil)))) pa_nil))) pa_nil)) (nomark _))))))), ?_⟩
    refine ⟨_, rfl, a, ns, rfl, hS, hn, fun p n2 H1 hn2 pen1 e1 => ?_⟩
    have T1 := hT.ext e1
    refine ⟨6, rfl, by decide, by decide, for_range (lo := 0) (n := 6) (fun i σ' H' => ∃ (t : Int) (x2 : Option V), σ' = [some (.ref a), some (.ref p), x2] ∧ PenAt H' p n2 t ∧ 0 ≤ t ∧ t ≤ 60 * (i : Int) ∧ Tabs Tt H') ⟨0, none, rfl, pen1, by decide, by decide, T1⟩ ?_ ?_⟩
    · rintro i σ' H2 hi ⟨t, x2, rfl, pen2, t0, t1, T2⟩
      refine ⟨_, rfl, p, n2, t, rfl, pen2, hn2, t0, by omega, T2, fun t3 H3 u0 u1 pen3 T3 => ⟨true, rfl, ?_⟩⟩
      refine ⟨_, rfl, p, n2, t3, rfl, pen3, hn2, by omega, by omega, fun t4 H4 u2 u3 pen4 but4 => ⟨true, rfl, ?_⟩⟩
      have T4 := tabs_but pen3 but4 T3
      refine ⟨_, rfl, p, n2, t4, rfl, pen4, hn2, by omega, by omega, fun t5 H5 u4 u5 pen5 but5 => ⟨true, rfl, ?_⟩⟩
      have T5 := tabs_but pen4 but5 T4
      exact ⟨t5, _, rfl, pen5, by omega, by push_cast; omega, T5⟩
    · rintro σ' H2 ⟨t, x2, rfl, pen2, t0, t1, T2⟩
      have o1 : (⟨"both", "both", false, some 2⟩ : Kd).ok = true := by decide +kernel
      have o2 : (⟨"one", "any", true, none⟩ : Kd).ok = true := by decide +kernel
      have w12 : wi (⟨"both", "both", false, some 2⟩ : Kd) (⟨"one", "any", true, none⟩ : Kd) = true := by decide +kernel
      refine q_when (b := false) (et_not (a := true) (et_B (ev_is (ev_wi (x := ⟨"both", "both", false, some 2⟩) (y := ⟨"one", "any", true, none⟩) (e_makeR (CE := CE) gvr (ea_cons ev_c (ea_cons ev_c ea_nil)) (ea_cons ev_c ea_nil) rfl o1) (e_makeT (CE := CE) gvt (ea_cons ev_c (ea_cons ev_c ea_nil)) (ea_cons ev_c ea_nil) rfl o2) o1 o2) (by rw [w12])))) (fun z => by cases z) (fun _ H3 e3 => ?_)
      exact s_ret (v := .bl true) (ev_is (ev_op (ev_rp (evd_vals (ev_cval ev_c T.rd T.vL) (ev_cval ev_c T.rd T.vT) T.tL T.tT) wordsD_ok) (ev_rp evd_words wordsD_ok) (rv_eq rfl)) (by rw [decide_eq_true rfl])) fun H4 e4 => k H4
end
end L2.M1
set_option maxRecDepth 100000
set_option maxHeartbeats 4000000
namespace L2.M1
open PySem PySem.Spec PyProof.Rows L2 Mx L2.Mb Evl Mv TL LamX
/-! ### how Kind binds what it is called with -/
def gX {α : Type} (us _ms ws : List α) : List α := match ws with
  | [r, t, u, l] => us ++ [l, t, u, r]
  | _ => us
theorem gX_rel {vs mz zs : List V} {us mv ws : List Value} (h1 : Vals vs us) (h2 : Vals mz mv) (h3 : Vals zs ws) : Vals (gX vs mz zs) (gX us mv ws) := by
  cases h3 with
  | nil => exact h1
  | cons a h3 =>
    cases h3 with
    | nil => exact h1
    | cons b h3 =>
      cases h3 with
      | nil => exact h1
      | cons c h3 =>
        cases h3 with
        | nil => exact h1
        | cons d h3 =>
          cases h3 with
          | nil => exact h1.append (.cons d (.cons b (.cons c (.cons a .nil))))
          | cons _ _ => exact h1
section
variable {K : W.Frag} {f : Addr} {fd : FuncData}
theorem kx_of (F : FnC K "__init__" "Kind.__init__" s_Kind_init [("turns", .bl false), ("rests", .non)] f fd) : KX K fd := by
  refine ⟨?_, ?_, ?_, ?_⟩
  · obtain ⟨mv, kb⟩ := FunD.kbinds0 (ps := ["self", "lends", "lets", "turns", "rests"]) F 3 ["turns"] [("rests", .non)] (fun {_} us ms ws => us ++ (ws ++ ms)) (by intro z; cases z) (fun q hq => by simp at hq; simp [hq]) (fun r1 r2 r3 => r1.append (r3.append r2)) (fun D doc pm an cdv ct us mv ws l1 l2 l3 => by
      match us, l1, mv, l2, ws, l3 with
      | [_, _, _], _, [_], _, [_], _ => exact ⟨_, _, _, _, _, _, rfl, rfl, rfl⟩)
    exact ⟨_, _, kb, fun a b c d => rfl⟩
  · obtain ⟨mv, kb⟩ := FunD.kbinds0 (ps := ["self", "lends", "lets", "turns", "rests"]) F 3 ["rests"] [("turns", .bl false)] (fun {_} us ms ws => us ++ (ms ++ ws)) (by intro z; cases z) (fun q hq => by simp at hq; simp [hq]) (fun r1 r2 r3 => r1.append (r2.append r3)) (fun D doc pm an cdv ct us mv ws l1 l2 l3 => by
      match us, l1, mv, l2, ws, l3 with
      | [_, _, _], _, [_], _, [_], _ => exact ⟨_, _, _, _, _, _, rfl, rfl, rfl⟩)
    exact ⟨_, _, kb, fun a b c d => rfl⟩
  · obtain ⟨mv, kb⟩ := FunD.kbinds0 (ps := ["self", "lends", "lets", "turns", "rests"]) F 1 ["rests", "lets", "turns", "lends"] [] gX (by intro z; cases z) (fun q hq => by cases hq) (fun r1 r2 r3 => gX_rel r1 r2 r3) (fun D doc pm an cdv ct us mv ws l1 l2 l3 => by
      match us, l1, mv, l2, ws, l3 with
      | [_], _, [], _, [_, _, _, _], _ => exact rfl)
    exact ⟨_, _, kb, fun a r t u l => rfl⟩
  · obtain ⟨ds, v, b⟩ := FunD.binds0 (ps := ["self", "lends", "lets", "turns", "rests"]) F 3 (by intro z; cases z) rfl (fun D doc pm an cdv ct us ks l1 l2 => by
      match us, l1, ks, l2 with
      | [_, _, _], _, [_, _], _ => exact ⟨_, _, _, _, _, _, rfl, rfl, ⟨_, _, _, _, _, _, rfl, rfl, rfl⟩⟩)
    exact ⟨ds, v, b⟩
end
end L2.M1
set_option maxRecDepth 100000
set_option maxHeartbeats 4000000
namespace L2.M1
open PySem PySem.Spec PyProof.Rows L2 Mx L2.Mb Evl Mv TL LamX
/-! ### what is looked at behind the top -/
abbrev KA (K : W.Frag) : Addr := He.ga K "Kind"
abbrev kA (K : W.Frag) (m : Str) : Addr := He.ma K (He.ga K "Kind") m
abbrev XA (K : W.Frag) : Addr := He.ga K "InvalidKind"
abbrev XI (K : W.Frag) : Addr := He.ma K (He.ga K "InvalidKind") "__init__"
def isB (a b : Option Bool) : Bool := decide (a = b)
/-- what a property, a classmethod holds -/
def rcA (K : W.Frag) (p : Addr) (t : String) : Addr := match W.recIn K p t with
  | some (.ref g :: _) => g
  | _ => 0
def rcB (K : W.Frag) (p : Addr) (t : String) : Bool := match W.recIn K p t with
  | some (.ref _ :: _) => true
  | _ => false
theorem rcB_ok {K : W.Frag} {p : Addr} {t : String} (h : rcB K p t = true) : ∃ rest, W.recIn K p t = some (.ref (rcA K p t) :: rest) := by
  unfold rcB at h
  split at h
  · rename_i g rest e
    refine ⟨rest, ?_⟩
    unfold rcA
    rw [e]
  · cases h
abbrev pgA (K : W.Frag) (m : Str) : Addr := rcA K (kA K m) "property"
def prB (K : W.Frag) (m : Str) : Bool := He.eqO (W.findIn K (.ref (KA K)) m) (some (some (.ref (kA K m)))) && (He.eqO (W.specialIn K (.ref (kA K m)) "__get__") (some (some (.builtin "property.__get__"))) && (isB (W.takesIn K (.ref (kA K m))) (some true) && rcB K (kA K m) "property"))
theorem prB_ok {K : W.Frag} {m : Str} (h : prB K m = true) : PropOf K (KA K) m (kA K m) (pgA K m) := by
  obtain ⟨h1, h⟩ := He.ba h
  obtain ⟨h2, h⟩ := He.ba h
  obtain ⟨h3, h4⟩ := He.ba h
  exact ⟨He.eqO_ok h1, He.eqO_ok h2, of_decide_eq_true h3, rcB_ok h4⟩
def tpB (K : W.Frag) (a : Addr) (vs : List V) : Bool := match K.lookup a with
  | some ⟨.type c, _, .seq its _, _⟩ => decide (c = "tuple") && (decide (its.size ≤ sizeLine) && He.relAll vs its.toList)
  | _ => false
theorem tpB_ok {K : W.Frag} {a : Addr} {vs : List V} (h : tpB K a vs = true) (H : Hp) : SqT K H a vs := by
  unfold tpB at h
  split at h
  · rename_i c d its n sl e
    obtain ⟨h1, h⟩ := He.ba h
    obtain ⟨h2, h3⟩ := He.ba h
    exact .inr ⟨_, its, n, e, congrArg Value.type (of_decide_eq_true h1), rfl, of_decide_eq_true h2, He.relAll_ok h3⟩
  · cases h
def cvB (K : W.Frag) (f : Str) : Bool := match W.findCls K (.ref (KA K)) (.type "type") f with
  | some (.val (.ref b)) => decide (b = kA K f)
  | _ => false
theorem cvB_ok {K : W.Frag} {f : Str} (h : cvB K f = true) : ClX.CVal K (KA K) (.type "type") f (.ref (kA K f)) (.ref (kA K f)) := by
  unfold cvB at h
  split at h
  · rename_i b e
    rw [of_decide_eq_true h] at e
    exact ⟨e, rfl⟩
  · cases h
def crB (K : W.Frag) : Bool := W.readsIn K (KA K) (.type "type") && He.eqO (W.specialIn K (.ref (KA K)) "__getattribute__") (some (some (.builtin "type.__getattribute__")))
theorem crB_ok {K : W.Frag} (h : crB K = true) : ClX.CRead K (KA K) (.type "type") := by
  obtain ⟨h1, h2⟩ := He.ba h
  exact ⟨h1, He.eqO_ok h2⟩
def inB (K : W.Frag) : Bool := He.eqO (W.findIn K (.ref (KA K)) "__class__") (some (some (.builtin "object.__class__"))) && (isB (W.mroIn K (KA K) (.type "object")) (some true) && isB (W.kitOne K (.ref (KA K)) (.ref (KA K))) (some true))
def otB (K : W.Frag) : Bool := (["int", "bool", "str", "NoneType", "list", "tuple", "dict"] : List String).all fun t => isB (W.kitOne K (.type t) (.ref (KA K))) (some false)
def moB (K : W.Frag) : Bool := match W.clsIn K (KA K) with
  | some cd => (match cd.mro with
    | .ref c :: _ => decide (c = KA K)
    | _ => false)
  | none => false
theorem moB_ok {K : W.Frag} (h : moB K = true) : Mro1 K (KA K) := by
  unfold moB at h
  split at h
  · rename_i cd e
    split at h
    · rename_i c r em
      rw [of_decide_eq_true h] at em
      exact ⟨cd, r, e, em⟩
    · cases h
  · cases h
def tfB (K : W.Frag) : Bool := isB (W.exmAny K (.ref (XA K)) [.ref (He.ga K "MeetError"), .ref (He.ga K "NoStation"), .ref (He.ga K "TooMany")]) (some true) && (isB (W.kitOne K (.ref (XA K)) (.ref (XA K))) (some true) &&
  (isB (W.kitOne K (.ref (XA K)) (.ref (He.ga K "MeetError"))) (some true) && (isB (W.kitOne K (.ref (XA K)) (.type "ValueError")) (some true) && isB (W.kitAny K (.ref (XA K)) [.ref (He.ga K "Clash"), .ref (He.ga K "InvalidPart"), .ref (He.ga K "InvalidText"), .ref (He.ga K "NoStation"), .ref (He.ga K "TooMany")]) (some false))))
/-- the error class -/
def excB (K : W.Frag) (C : Addr) (b : EB) : Bool := match K.lookup C with
  | some ⟨.type t, _, .cls cd, sl⟩ => (match cd.mro, sl.toList with
    | .ref c :: r, [_, _, _, _, some (.builtin n), _] => decide (t = "type") && (decide (c = C) && (decide (n = b.new) && (!cd.hasDel && (cd.hasDict && own b r))))
    | _, _ => false)
  | _ => false
theorem excB_ok {K : W.Frag} {C : Addr} {b : EB} (z : excB K C b = true) :
    ∃ nm q N bs bm sn sub ab col dd k0 k1 k2 k3 k5, K.lookup C = some (excClassObj nm q C N bs bm true sn sub ab col dd k0 k1 k2 k3 k5 b.new) ∧ own b bm = true := by
  unfold excB at z
  split at z
  · rename_i t dd cd sl lk
    split at z
    · rename_i c r x0 x1 x2 x3 n x5 em es
      simp only [Bool.and_eq_true, decide_eq_true_eq, Bool.not_eq_true'] at z
      obtain ⟨rfl, rfl, rfl, hd, hh, ho⟩ := z
      obtain ⟨a1, a2, a3, a4, a5, a6, a7, a8, a9, a10, a11⟩ := cd
      simp only at em hd hh
      subst em hd hh
      obtain ⟨l⟩ := sl
      simp only at es
      subst es
      exact ⟨a1, a5, a4, a2, r, a7, a8, a9, a10, dd, x0, x1, x2, x3, x5, lk, ho⟩
    · cases z
  · cases z
def ecB (K : W.Frag) : Bool := excB K (XA K) .val && (He.eqO (W.findIn K (.ref (XA K)) "__setattr__") (some (some (.builtin "object.__setattr__"))) && (He.eqO (W.findIn K (.ref (XA K)) "__getattribute__") (some (some (.builtin "BaseException.__getattribute__"))) &&
    (He.eqO (W.findIn K (.ref (XA K)) "__getattr__") (some none) && (He.eqO (W.findIn K (.ref (XA K)) "__class__") (some (some (.builtin "object.__class__"))) && (isB (W.instIn K (.ref (XA K)) (.type "type")) (some true) &&
      (W.keepIn K (.ref (XA K)) && (He.eqO (W.findIn K (.ref (XA K)) "__init__") (some (some (.ref (XI K)))) && (decide (W.typeIn K (.ref (XI K)) = some (.type "function")) &&
        (He.eqO (W.specialIn K (.builtin "object.__class__") "__get__") (some (some (.builtin "getset_descriptor.__get__"))) && (isB (W.takesIn K (.builtin "object.__class__")) (some true) &&
          (decide (W.typeIn K (.ref (XA K)) = some (.type "type")) && He.eqO (W.findIn K (.ref (XA K)) "place") (some none))))))))))))
theorem ecB_ok {K : W.Frag} (z : ecB K = true) : EC K (XA K) (XI K) .val ∧ W.typeIn K (.ref (XA K)) = some (.type "type") ∧ W.findIn K (.ref (XA K)) "place" = some none := by
  obtain ⟨z1, z⟩ := He.ba z
  obtain ⟨z2, z⟩ := He.ba z
  obtain ⟨z3, z⟩ := He.ba z
  obtain ⟨z4, z⟩ := He.ba z
  obtain ⟨z5, z⟩ := He.ba z
  obtain ⟨z6, z⟩ := He.ba z
  obtain ⟨z7, z⟩ := He.ba z
  obtain ⟨z8, z⟩ := He.ba z
  obtain ⟨z9, z⟩ := He.ba z
  obtain ⟨za, z⟩ := He.ba z
  obtain ⟨zb, z⟩ := He.ba z
  obtain ⟨zc, zd⟩ := He.ba z
  exact ⟨⟨excB_ok z1, He.eqO_ok z2, He.eqO_ok z3, He.eqO_ok z4, He.eqO_ok z5, of_decide_eq_true z6, z7, He.eqO_ok z8, of_decide_eq_true z9, He.eqO_ok za, of_decide_eq_true zb⟩, of_decide_eq_true zc, He.eqO_ok zd⟩
def sysB (K : W.Frag) : Bool := match K.lookup sysModules with
  | some o => decide (o.cls = .type "dict")
  | none => false
theorem sysB_ok {K : W.Frag} (z : sysB K = true) : SysD K := by
  unfold sysB at z
  split at z
  · rename_i o e
    exact ⟨o, e, of_decide_eq_true z⟩
  · cases z
abbrev looseD : List (Str × He.Dv) := [("both", .int 0), ("far", .int 1), ("one", .int 2), ("any", .int 2)]
/-! ### functions by their address -/
structure DefA where
  name : Str
  qual : Str
  st : Stmt
  at_ : W.Frag → Addr
abbrev FnY : Type := Option (Str × Str × Arguments × FuncBody × Scope × Addr × List (Str × Addr) × Addr)
def fnA (K : W.Frag) (a : Addr) : FnY := (K.lookup a).bind fun o => match o.data with
  | .func u => some (u.name, u.qualname, u.params, u.body, u.scope, u.globals, u.closure, u.builtins)
  | _ => none
def DefA.want (d : DefA) : FnY := some (d.name, d.qual, defArgs d.st, .stmts (defBody d.st), defScope d.st, mainGlobals, [], builtinsNs)
def okA (K : W.Frag) (a : Addr) (q : Str) : Bool := W.keepIn K (.ref a) && (K.lookup a).any fun o => match o.data with
  | .func u => W.codeIn K u.code q && (He.dflB K u.defaults [] && He.kwdB K u.kwdefaults [])
  | _ => false
theorem fnA_ok {K : W.Frag} {d : DefA} (e : fnA K (d.at_ K) = d.want) (c : okA K (d.at_ K) d.qual = true) : ∃ fd, FunD K d.name d.qual (defArgs d.st) (defBody d.st) (defScope d.st) [] [] (d.at_ K) fd := by
  obtain ⟨kp, c⟩ := He.ba c
  unfold fnA at e
  cases hl : K.lookup (d.at_ K) with
  | none =>
    rw [hl] at c
    cases c
  | some o =>
    obtain ⟨oc, od, dt, sl⟩ := o
    rw [hl] at c e
    cases dt with
    | func u =>
      have c2 : (W.codeIn K u.code d.qual && (He.dflB K u.defaults [] && He.kwdB K u.kwdefaults [])) = true := c
      obtain ⟨u1, u2, u3, u4, u5, u6, u7, u8, u9, u10, u11, u12, u13, u14, u15⟩ := u
      have e2 : (u1, u2, u3, u4, u5, u6, u7, u15) = (d.name, d.qual, defArgs d.st, FuncBody.stmts (defBody d.st), defScope d.st, mainGlobals, ([] : List (Str × Addr)), builtinsNs) := Option.some.inj e
      simp only [Prod.mk.injEq] at e2
      obtain ⟨r1, r2, r3, r4, r5, r6, r7, r8⟩ := e2
      subst r1 r2 r3 r4 r5 r6 r7 r8
      obtain ⟨k1, k2⟩ := He.ba c2
      obtain ⟨k3, k4⟩ := He.ba k2
      exact ⟨_, ⟨oc, od, u8, u9, u10, u11, u12, u13, u14, sl, rfl, hl, k1, He.dflB_ok k3, He.kwdB_ok k4⟩, kp⟩
    | _ => cases c
abbrev fnY : List DefA := [⟨"lends", "Kind.lends", s_Kind_lends, fun K => pgA K "lends"⟩, ⟨"lets", "Kind.lets", s_Kind_lets, fun K => pgA K "lets"⟩, ⟨"turns", "Kind.turns", s_Kind_turns, fun K => pgA K "turns"⟩,
  ⟨"rests", "Kind.rests", s_Kind_rests, fun K => pgA K "rests"⟩]
/-! ### the facts by names -/
def tD (x : Str) (i : Nat) : He.DefD := { at_ := (x, none), name := x, qual := x, params := defArgs (top i), body := defBody (top i), scope := defScope (top i) }
def mD (x m : Str) (st : Stmt) (kw : List (Str × He.Dv)) : He.DefD := { at_ := (x, some m), name := m, qual := x ++ "." ++ m, params := defArgs st, body := defBody st, scope := defScope st, kwd := kw }
abbrev fnZ : List He.DefD := [tD "is_integer" 1, tD "_ranks" 18, tD "_kind_of_ranks" 19, tD "_law_begin" 22, tD "_law_take" 23, tD "_law_right" 24, tD "_law_odd" 25, tD "_law_arguments" 26, tD "_law_told" 27, tD "_law_made_right" 28, tD "_law_same_right" 29, tD "_law_ranks" 30, tD "_law_kind" 31, tD "_law_parts" 32, tD "_law_looser" 33, tD "_law_stricter" 34, tD "_law_is_within" 35, tD "_law_pair_right" 36, tD "_law_three_right" 37, tD "_law_three_kinds_right" 38, tD "law" 39, mD "Kind" "__init__" s_Kind_init [("turns", .bl false), ("rests", .non)], mD "Kind" "__str__" s_Kind_str [], mD "Kind" "__eq__" s_Kind_eq [], mD "Kind" "__or__" s_Kind_or [], mD "Kind" "__and__" s_Kind_and [], mD "Kind" "within" s_Kind_within [], mD "InvalidKind" "__init__" s_InvalidKind_init []]
abbrev faZ : List He.Fa := [.glo "Kind", .glo "MeetError", .glo "InvalidKind", .glo "InvalidPart", .glo "Clash", .glo "InvalidText", .glo "NoStation", .glo "TooMany", .glo "LOOSE", .glo "is_integer", .glo "_ranks", .glo "_kind_of_ranks", .glo "_law_begin", .glo "_law_take", .glo "_law_right", .glo "_law_odd", .glo "_law_arguments", .glo "_law_told", .glo "_law_made_right", .glo "_law_same_right", .glo "_law_ranks", .glo "_law_kind", .glo "_law_parts", .glo "_law_looser", .glo "_law_stricter", .glo "_law_is_within", .glo "_law_pair_right", .glo "_law_three_right", .glo "_law_three_kinds_right", .glo "law", .free "KeyError", .free "NotImplemented", .free "OverflowError", .free "ValueError", .free "abs", .free "all", .free "bool", .free "classmethod", .free "int", .free "isinstance", .free "len", .free "list", .free "max", .free "min", .free "property", .free "range", .free "repr", .free "str", .free "zip", .int "LEAST_REST" 2, .int "MOST_REST" 1000000, .cls "Kind", .noat "Kind" "_lends", .noat "Kind" "_lets", .noat "Kind" "_turns", .noat "Kind" "_rests", .mkr "Kind", .keep "Kind", .meth "Kind" "__str__", .meth "Kind" "__eq__", .meth "Kind" "__or__", .meth "Kind" "__and__", .meth "Kind" "within"]
abbrev tsZ : List He.Tab := [((fun K => He.ga K "LOOSE"), ["both", "far", "one", "any"])]
abbrev mdD : He.Defn := ("_law_made_right", none)
abbrev tfZ : List He.Defn := [mdD]
def bitsB (K : W.Frag) : List Bool := [sysB K, prB K "lends", prB K "lets", prB K "turns", prB K "rests", cvB K "LENDS", cvB K "LETS", tpB K (kA K "LENDS") (lendL.map V.str), tpB K (kA K "LETS") (letL.map V.str), crB K, inB K, tfB K, ecB K,
  He.valsB K (He.ga K "LOOSE") looseD, otB K, moB K, He.eqO (W.findIn K (.ref (KA K)) "__ne__") (some (some (.builtin "object.__ne__"))), fnY.all fun d => okA K (d.at_ K) d.qual]
def allB (K : W.Frag) : Bool := (bitsB K).all id
theorem bit {K : W.Frag} (h : allB K = true) (i : Nat) {b : Bool} (e : (bitsB K)[i]? = some b) : b = true := List.all_eq_true.mp h b (List.mem_of_getElem? e)
/-! ### the hook -/
def frY (n : Nat) (g : Addr → Option Obj) : W.Frag := He.frT g (sysModules :: cStatics :: He.asD g n)
abbrev AlY : Type := He.AlT × Bool × List FnY
def obY (n : Nat) (g : Addr → Option Obj) : AlY := (He.obsT faZ fnZ tsZ (frY n g), allB (frY n g) && He.tabsB g tfZ (frY n g), fnY.map fun d => fnA (frY n g) (d.at_ (frY n g)))
structure SaysY (w : World) (h : Heap) (K : W.Frag) : Prop where
  t : He.SaysT faZ fnZ tsZ w K
  more : allB K = true
  fs : (fnY.map fun d => fnA K (d.at_ K)) = fnY.map DefA.want
  hd : ∀ p ∈ tfZ, W.codeHdIn K (He.cT K p).1 (He.cT K p).2 = true
  out : ∀ p ∈ tfZ, K.lookup (He.cT K p).2 = none
  bare : ∀ p ∈ tfZ, Bare h (He.cT K p).2
theorem SaysY.d {w : World} {h : Heap} {K : W.Frag} (c : SaysY w h K) : He.SaysD faZ fnZ K := c.t.d
theorem saysY_of {n : Nat} {w : World} {h : Heap} (e : obY n h.get? = (He.valT fnZ tsZ w, true, fnY.map DefA.want)) : SaysY w h (frY n h.get?) := by
  obtain ⟨m1, m2⟩ := He.ba (show (allB (frY n h.get?) && He.tabsB h.get? tfZ (frY n h.get?)) = true from congrArg (fun z : AlY => z.2.1) e)
  have tab : ∀ p ∈ tfZ, ∃ o, h.get? (He.cT (frY n h.get?) p).2 = some o ∧ He.emptyTab o = true := fun p hp => by
    obtain ⟨_, y⟩ := He.ba (List.all_eq_true.mp m2 p hp)
    split at y
    · rename_i o q
      exact ⟨o, q, y⟩
    · cases y
  refine { t := congrArg (fun z : AlY => z.1) e, more := m1, fs := congrArg (fun z : AlY => z.2.2) e, hd := fun p hp => (He.ba (List.all_eq_true.mp m2 p hp)).1, out := fun p hp => ?_, bare := fun p hp => ?_ }
  · obtain ⟨o, q, y⟩ := tab p hp
    exact He.frT_none q y
  · obtain ⟨o, q, y⟩ := tab p hp
    unfold Bare
    rw [q, He.emptyTab_eq y]
def hookY (n : Nat) : W.Hook where
  α := AlY
  obs := fun s => obY n s.heap.get?
  val := fun w => (He.valT fnZ tsZ w, true, fnY.map DefA.want)
  says := fun w h => ∃ K : W.Frag, K.In h ∧ SaysY w h K
  of := fun _ _ e => ⟨_, He.frT_in, saysY_of e⟩
  keeps := fun _ _ _ z k => z.elim fun K y => ⟨K, W.Frag.In.keeps y.1 k, { t := y.2.t, more := y.2.more, fs := y.2.fs, hd := y.2.hd, out := y.2.out, bare := fun p hp => k _ _ (y.2.bare p hp) }⟩
abbrev lvl : Nat := 6
abbrev hkY : W.Hook := hookY lvl
def eyeY (s : W.SharedT) : AlY := obY lvl (HandSHeadRun.getT s)
theorem eyeY_eq (s : W.SharedT) : eyeY s = hkY.obs s.abs := by
  have e : HandSHeadRun.getT s = s.abs.heap.get? := funext fun a => HandSHeadRun.getT_eq s a
  show obY lvl (HandSHeadRun.getT s) = obY lvl s.abs.heap.get?
  rw [e]
/-! ### all together -/
abbrev TtOf (K : W.Frag) : List (Addr × Str) := [((He.cT K mdD).2, "_law_made_right.<locals>.<lambda>")]
section
variable {P : Program} {w : World} {K : W.Frag} {h : Heap} {mg : Str → Option Value} {f : Addr}
theorem bt_of (X : K.In h) (G : h.Ns mainGlobals mg) (c : SaysY w h K) : Bt mg where
  KeyError := He.free_ok X G (c.d.fact 30 rfl)
  NotImplemented := He.free_ok X G (c.d.fact 31 rfl)
  OverflowError := He.free_ok X G (c.d.fact 32 rfl)
  ValueError := He.free_ok X G (c.d.fact 33 rfl)
  abs := He.free_ok X G (c.d.fact 34 rfl)
  all := He.free_ok X G (c.d.fact 35 rfl)
  bool := He.free_ok X G (c.d.fact 36 rfl)
  classmethod := He.free_ok X G (c.d.fact 37 rfl)
  int := He.free_ok X G (c.d.fact 38 rfl)
  isinstance := He.free_ok X G (c.d.fact 39 rfl)
  len := He.free_ok X G (c.d.fact 40 rfl)
  list := He.free_ok X G (c.d.fact 41 rfl)
  max := He.free_ok X G (c.d.fact 42 rfl)
  min := He.free_ok X G (c.d.fact 43 rfl)
  property := He.free_ok X G (c.d.fact 44 rfl)
  range := He.free_ok X G (c.d.fact 45 rfl)
  repr := He.free_ok X G (c.d.fact 46 rfl)
  str := He.free_ok X G (c.d.fact 47 rfl)
  zip := He.free_ok X G (c.d.fact 48 rfl)
theorem glo_at (X : K.In h) (G : h.Ns mainGlobals mg) (c : He.SaysD faZ fnZ K) (i : Nat) {x : Str} (e : faZ[i]? = some (.glo x)) : mg x = some (.ref (He.ga K x)) := He.glo_ok X G (c.fact i e)
theorem facts (X : K.In h) (G : h.Ns mainGlobals mg) (hfa : mg "law" = some (.ref f)) (c : SaysY w h K) :
    ∃ fd : FuncData, (∀ (s : Shared) (v : Value), BindsTo s fd ⟨[v], []⟩ [("_law_script", v)]) ∧ ∀ base : Heap, K.In base → base.Ns mainGlobals mg → (∀ p ∈ tfZ.map (He.cT K), TabB base mg p.1 p.2) → FnG P w K mg base CX0 9 f fd ["_law_script"] (spLaw K (TtOf K)) := by
  obtain ⟨dis_integer, Fis_integer⟩ := c.t.d.def_ 0 (d := tD "is_integer" 1) rfl
  have bis_integer : Binds K dis_integer p_is_integer [] := Fis_integer.bindsN fun _ _ _ _ _ _ us hl => match us, hl with | [_, _, _], _ => rfl
  have mis_integer : mg "is_integer" = some (.ref (He.ga K "is_integer")) := glo_at X G c.t.d 9 rfl
  obtain ⟨dranks, Franks⟩ := c.t.d.def_ 1 (d := tD "_ranks" 18) rfl
  have branks : Binds K dranks p_ranks [] := Franks.bindsN fun _ _ _ _ _ _ us hl => match us, hl with | [_], _ => rfl
  have mranks : mg "_ranks" = some (.ref (He.ga K "_ranks")) := glo_at X G c.t.d 10 rfl
  obtain ⟨dkind_of_ranks, Fkind_of_ranks⟩ := c.t.d.def_ 2 (d := tD "_kind_of_ranks" 19) rfl
  have bkind_of_ranks : Binds K dkind_of_ranks p_kind_of_ranks [] := Fkind_of_ranks.bindsN fun _ _ _ _ _ _ us hl => match us, hl with | [_], _ => rfl
  have mkind_of_ranks : mg "_kind_of_ranks" = some (.ref (He.ga K "_kind_of_ranks")) := glo_at X G c.t.d 11 rfl
  obtain ⟨dl_begin, Fl_begin⟩ := c.t.d.def_ 3 (d := tD "_law_begin" 22) rfl
  have bl_begin : Binds K dl_begin p_law_begin [] := Fl_begin.bindsN fun _ _ _ _ _ _ us hl => match us, hl with | [_], _ => rfl
  have ml_begin : mg "_law_begin" = some (.ref (He.ga K "_law_begin")) := glo_at X G c.t.d 12 rfl
  obtain ⟨dl_take, Fl_take⟩ := c.t.d.def_ 4 (d := tD "_law_take" 23) rfl
  have bl_take : Binds K dl_take p_law_take [] := Fl_take.bindsN fun _ _ _ _ _ _ us hl => match us, hl with | [_, _], _ => rfl
  have ml_take : mg "_law_take" = some (.ref (He.ga K "_law_take")) := glo_at X G c.t.d 13 rfl
  obtain ⟨dl_right, Fl_right⟩ := c.t.d.def_ 5 (d := tD "_law_right" 24) rfl
  have bl_right : Binds K dl_right p_law_right [] := Fl_right.bindsN fun _ _ _ _ _ _ us hl => match us, hl with | [_], _ => rfl
  have ml_right : mg "_law_right" = some (.ref (He.ga K "_law_right")) := glo_at X G c.t.d 14 rfl
  obtain ⟨dl_odd, Fl_odd⟩ := c.t.d.def_ 6 (d := tD "_law_odd" 25) rfl
  have bl_odd : Binds K dl_odd p_law_odd [] := Fl_odd.bindsN fun _ _ _ _ _ _ us hl => match us, hl with | [_, _], _ => rfl
  have ml_odd : mg "_law_odd" = some (.ref (He.ga K "_law_odd")) := glo_at X G c.t.d 15 rfl
  obtain ⟨dl_arguments, Fl_arguments⟩ := c.t.d.def_ 7 (d := tD "_law_arguments" 26) rfl
  have bl_arguments : Binds K dl_arguments p_law_arguments [] := Fl_arguments.bindsN fun _ _ _ _ _ _ us hl => match us, hl with | [_], _ => rfl
  have ml_arguments : mg "_law_arguments" = some (.ref (He.ga K "_law_arguments")) := glo_at X G c.t.d 16 rfl
  obtain ⟨dl_told, Fl_told⟩ := c.t.d.def_ 8 (d := tD "_law_told" 27) rfl
  have bl_told : Binds K dl_told p_law_told [] := Fl_told.bindsN fun _ _ _ _ _ _ us hl => match us, hl with | [_], _ => rfl
  have ml_told : mg "_law_told" = some (.ref (He.ga K "_law_told")) := glo_at X G c.t.d 17 rfl
  obtain ⟨dl_made_right, Fl_made_right⟩ := c.t.d.def_ 9 (d := tD "_law_made_right" 28) rfl
  have bl_made_right : Binds K dl_made_right p_law_made_right [] := Fl_made_right.bindsN fun _ _ _ _ _ _ us hl => match us, hl with | [_], _ => rfl
  have ml_made_right : mg "_law_made_right" = some (.ref (He.ga K "_law_made_right")) := glo_at X G c.t.d 18 rfl
  obtain ⟨dl_same_right, Fl_same_right⟩ := c.t.d.def_ 10 (d := tD "_law_same_right" 29) rfl
  have bl_same_right : Binds K dl_same_right p_law_same_right [] := Fl_same_right.bindsN fun _ _ _ _ _ _ us hl => match us, hl with | [_], _ => rfl
  have ml_same_right : mg "_law_same_right" = some (.ref (He.ga K "_law_same_right")) := glo_at X G c.t.d 19 rfl
  obtain ⟨dl_ranks, Fl_ranks⟩ := c.t.d.def_ 11 (d := tD "_law_ranks" 30) rfl
  have bl_ranks : Binds K dl_ranks p_law_ranks [] := Fl_ranks.bindsN fun _ _ _ _ _ _ us hl => match us, hl with | [_], _ => rfl
  have ml_ranks : mg "_law_ranks" = some (.ref (He.ga K "_law_ranks")) := glo_at X G c.t.d 20 rfl
  obtain ⟨dl_kind, Fl_kind⟩ := c.t.d.def_ 12 (d := tD "_law_kind" 31) rfl
  have bl_kind : Binds K dl_kind p_law_kind [] := Fl_kind.bindsN fun _ _ _ _ _ _ us hl => match us, hl with | [_], _ => rfl
  have ml_kind : mg "_law_kind" = some (.ref (He.ga K "_law_kind")) := glo_at X G c.t.d 21 rfl
  obtain ⟨dl_parts, Fl_parts⟩ := c.t.d.def_ 13 (d := tD "_law_parts" 32) rfl
  have bl_parts : Binds K dl_parts p_law_parts [] := Fl_parts.bindsN fun _ _ _ _ _ _ us hl => match us, hl with | [_], _ => rfl
  have ml_parts : mg "_law_parts" = some (.ref (He.ga K "_law_parts")) := glo_at X G c.t.d 22 rfl
  obtain ⟨dl_looser, Fl_looser⟩ := c.t.d.def_ 14 (d := tD "_law_looser" 33) rfl
  have bl_looser : Binds K dl_looser p_law_looser [] := Fl_looser.bindsN fun _ _ _ _ _ _ us hl => match us, hl with | [_, _], _ => rfl
  have ml_looser : mg "_law_looser" = some (.ref (He.ga K "_law_looser")) := glo_at X G c.t.d 23 rfl
  obtain ⟨dl_stricter, Fl_stricter⟩ := c.t.d.def_ 15 (d := tD "_law_stricter" 34) rfl
  have bl_stricter : Binds K dl_stricter p_law_stricter [] := Fl_stricter.bindsN fun _ _ _ _ _ _ us hl => match us, hl with | [_, _], _ => rfl
  have ml_stricter : mg "_law_stricter" = some (.ref (He.ga K "_law_stricter")) := glo_at X G c.t.d 24 rfl
  obtain ⟨dl_is_within, Fl_is_within⟩ := c.t.d.def_ 16 (d := tD "_law_is_within" 35) rfl
  have bl_is_within : Binds K dl_is_within p_law_is_within [] := Fl_is_within.bindsN fun _ _ _ _ _ _ us hl => match us, hl with | [_, _], _ => rfl
  have ml_is_within : mg "_law_is_within" = some (.ref (He.ga K "_law_is_within")) := glo_at X G c.t.d 25 rfl
  obtain ⟨dl_pair_right, Fl_pair_right⟩ := c.t.d.def_ 17 (d := tD "_law_pair_right" 36) rfl
  have bl_pair_right : Binds K dl_pair_right p_law_pair_right [] := Fl_pair_right.bindsN fun _ _ _ _ _ _ us hl => match us, hl with | [_, _], _ => rfl
  have ml_pair_right : mg "_law_pair_right" = some (.ref (He.ga K "_law_pair_right")) := glo_at X G c.t.d 26 rfl
  obtain ⟨dl_three_right, Fl_three_right⟩ := c.t.d.def_ 18 (d := tD "_law_three_right" 37) rfl
  have bl_three_right : Binds K dl_three_right p_law_three_right [] := Fl_three_right.bindsN fun _ _ _ _ _ _ us hl => match us, hl with | [_, _, _], _ => rfl
  have ml_three_right : mg "_law_three_right" = some (.ref (He.ga K "_law_three_right")) := glo_at X G c.t.d 27 rfl
  obtain ⟨dl_three_kinds_right, Fl_three_kinds_right⟩ := c.t.d.def_ 19 (d := tD "_law_three_kinds_right" 38) rfl
  have bl_three_kinds_right : Binds K dl_three_kinds_right p_law_three_kinds_right [] := Fl_three_kinds_right.bindsN fun _ _ _ _ _ _ us hl => match us, hl with | [_], _ => rfl
  have ml_three_kinds_right : mg "_law_three_kinds_right" = some (.ref (He.ga K "_law_three_kinds_right")) := glo_at X G c.t.d 28 rfl
  obtain ⟨dlaw, Flaw⟩ := c.t.d.def_ 20 (d := tD "law" 39) rfl
  have blaw : Binds K dlaw p_law [] := Flaw.bindsN fun _ _ _ _ _ _ us hl => match us, hl with | [_], _ => rfl
  have mlaw : mg "law" = some (.ref (He.ga K "law")) := glo_at X G c.t.d 29 rfl
  obtain ⟨dinit, Finit⟩ := c.t.d.def_ 21 (d := mD "Kind" "__init__" s_Kind_init [("turns", .bl false), ("rests", .non)]) rfl
  obtain ⟨dstr, Fstr⟩ := c.t.d.def_ 22 (d := mD "Kind" "__str__" s_Kind_str []) rfl
  have bstr : Binds K dstr ["self"] [] := Fstr.bindsN fun _ _ _ _ _ _ us hl => match us, hl with | [_], _ => rfl
  obtain ⟨deq, Feq⟩ := c.t.d.def_ 23 (d := mD "Kind" "__eq__" s_Kind_eq []) rfl
  have beq : Binds K deq ["self", "other"] [] := Feq.bindsN fun _ _ _ _ _ _ us hl => match us, hl with | [_, _], _ => rfl
  obtain ⟨dor, For⟩ := c.t.d.def_ 24 (d := mD "Kind" "__or__" s_Kind_or []) rfl
  have bor : Binds K dor ["self", "other"] [] := For.bindsN fun _ _ _ _ _ _ us hl => match us, hl with | [_, _], _ => rfl
  obtain ⟨dand, Fand⟩ := c.t.d.def_ 25 (d := mD "Kind" "__and__" s_Kind_and []) rfl
  have band : Binds K dand ["self", "other"] [] := Fand.bindsN fun _ _ _ _ _ _ us hl => match us, hl with | [_, _], _ => rfl
  obtain ⟨dwithin, Fwithin⟩ := c.t.d.def_ 26 (d := mD "Kind" "within" s_Kind_within []) rfl
  have bwithin : Binds K dwithin ["self", "other"] [] := Fwithin.bindsN fun _ _ _ _ _ _ us hl => match us, hl with | [_, _], _ => rfl
  obtain ⟨dxi, Fxi⟩ := c.t.d.def_ 27 (d := mD "InvalidKind" "__init__" s_InvalidKind_init []) rfl
  have bxi : Binds K dxi ["self", "place"] [] := Fxi.bindsN fun _ _ _ _ _ _ us hl => match us, hl with | [_, _], _ => rfl
  cases hfa.symm.trans mlaw
  have bl := FunD.bindsA (ps := ["_law_script"]) Flaw fun _ _ _ _ _ _ us hl => match us, hl with | [_], _ => rfl
  refine ⟨dlaw, fun s v => bl s [v] rfl, fun base KB NB hTB => ?_⟩
  have B := bt_of X G c
  have q := c.more
  have sys : SysD K := sysB_ok (bit q 0 rfl)
  obtain ⟨t1, c1⟩ := He.int_ok X G (c.d.fact 49 rfl)
  obtain ⟨t2, c2⟩ := He.int_ok X G (c.d.fact 50 rfl)
  have T : KF K mg (KA K) (.type "type") (kA K "LENDS") (kA K "LETS") := ⟨glo_at X G c.d 0 rfl, He.cls_ok (c.d.fact 51 rfl), He.noat_ok (c.d.fact 52 rfl), He.noat_ok (c.d.fact 53 rfl), He.noat_ok (c.d.fact 54 rfl),
    He.noat_ok (c.d.fact 55 rfl), crB_ok (bit q 9 rfl), cvB_ok (bit q 5 rfl), cvB_ok (bit q 6 rfl), fun H => tpB_ok (bit q 7 rfl) H, fun H => tpB_ok (bit q 8 rfl) H, He.keep_ok (c.d.fact 57 rfl)⟩
  -- the package's functions
  have Di : Fn0 P w K mg base "is_integer" 1 _ dis_integer p_is_integer spIntA := ⟨ok_is_integer B Fis_integer, mis_integer, Fis_integer.kp, bis_integer⟩
  obtain ⟨ec, ety, eno⟩ := ecB_ok (bit q 12 rfl)
  have XE : XT P w K mg base (XA K) (XI K) dxi := ⟨ec, ety, glo_at X G c.d 2 rfl, ok_xk Fxi ec eno, bxi, eno⟩
  have okI : FnOk P w K mg base (L2.CX P w) 3 (kA K "__init__") dinit ["self", "lends", "lets", "turns", "rests"] (spInit (KA K) (XA K)) := ok_init B T XE c1 c2 Di Finit
  obtain ⟨mv, kb⟩ := FunD.kbinds0 (ps := ["self", "lends", "lets", "turns", "rests"]) Finit 3 ["turns", "rests"] [] (fun {_} us _ ws => us ++ ws) (by intro z; cases z) (fun _ hq => by cases hq) (fun r1 _ r2 => r1.append r2) (fun D doc pm an cdv ct us mv ws l1 l2 l3 => by
    match us, l1, mv, l2, ws, l3 with
    | [_, _, _], _, [], _, [_, _], _ => exact rfl)
  have M : KM P w K mg base (KA K) (XA K) (kA K "__init__") dinit _ _ := ⟨He.mkr_ok (c.d.fact 56 rfl), okI, kb, fun _ _ _ _ _ => rfl⟩
  have KXX : KX K dinit := kx_of Finit
  have getD : ∀ (i : Nat) {d : DefA}, fnY[i]? = some d → ∃ fd, FunD K d.name d.qual (defArgs d.st) (defBody d.st) (defScope d.st) [] [] (d.at_ K) fd := fun i {d} e => by
    have z : (fnY.map fun d => fnA K (d.at_ K))[i]? = (fnY.map DefA.want)[i]? := by rw [c.fs]
    rw [List.getElem?_map, List.getElem?_map, e] at z
    exact fnA_ok (Option.some.inj z) (List.all_eq_true.mp (bit q 17 rfl) d (List.mem_of_getElem? e))
  obtain ⟨dg0, Fg0⟩ := getD 0 rfl
  obtain ⟨dg1, Fg1⟩ := getD 1 rfl
  obtain ⟨dg2, Fg2⟩ := getD 2 rfl
  obtain ⟨dg3, Fg3⟩ := getD 3 rfl
  have pL : KP P w K mg base (KA K) "lends" fun k => .str k.le := ⟨_, _, dg0, prB_ok (bit q 1 rfl), ok_lends T Fg0, Fg0.bindsN fun _ _ _ _ _ _ us hl => match us, hl with | [_], _ => rfl⟩
  have pT : KP P w K mg base (KA K) "lets" fun k => .str k.lt := ⟨_, _, dg1, prB_ok (bit q 2 rfl), ok_lets T Fg1, Fg1.bindsN fun _ _ _ _ _ _ us hl => match us, hl with | [_], _ => rfl⟩
  have pU : KP P w K mg base (KA K) "turns" fun k => .bl k.tu := ⟨_, _, dg2, prB_ok (bit q 3 rfl), ok_turns T Fg2, Fg2.bindsN fun _ _ _ _ _ _ us hl => match us, hl with | [_], _ => rfl⟩
  have pQ : KP P w K mg base (KA K) "rests" fun k => optV k.re := ⟨_, _, dg3, prB_ok (bit q 4 rfl), ok_rests T Fg3, Fg3.bindsN fun _ _ _ _ _ _ us hl => match us, hl with | [_], _ => rfl⟩
  obtain ⟨es, n, kd⟩ := c.t.tab 0 rfl
  have L : LO w K mg (He.ga K "LOOSE") es n := ⟨glo_at X G c.d 8 rfl, kd, fun x hx => by
    have v := bit q 13 rfl
    simp only [List.mem_cons, List.not_mem_nil, or_false] at hx
    rcases hx with rfl | rfl | rfl | rfl
    · obtain ⟨u, e, t, rfl⟩ := He.valsB_ok v (q := ("both", .int 0)) (by simp)
      exact ⟨t, e⟩
    · obtain ⟨u, e, t, rfl⟩ := He.valsB_ok v (q := ("far", .int 1)) (by simp)
      exact ⟨t, e⟩
    · obtain ⟨u, e, t, rfl⟩ := He.valsB_ok v (q := ("one", .int 2)) (by simp)
      exact ⟨t, e⟩
    · obtain ⟨u, e, t, rfl⟩ := He.valsB_ok v (q := ("any", .int 2)) (by simp)
      exact ⟨t, e⟩⟩
  have Dr : Fn0 P w K mg base "_ranks" 3 _ dranks p_ranks (spRanks (KA K)) := ⟨ok_ranks B T L c2 pL pT pU pQ Franks, mranks, Franks.kp, branks⟩
  have Dk : Fn0 P w K mg base "_kind_of_ranks" 5 _ dkind_of_ranks p_kind_of_ranks (spKOR (KA K)) := ⟨ok_kor T M c2 Fkind_of_ranks, mkind_of_ranks, Fkind_of_ranks.kp, bkind_of_ranks⟩
  obtain ⟨i1, i2⟩ := He.ba (bit q 10 (b := inB K) rfl)
  obtain ⟨i3, i4⟩ := He.ba i2
  have IC : C8.InsC K (KA K) := ⟨T.cl, He.eqO_ok i1, ec.gs, ec.tk, of_decide_eq_true i3, of_decide_eq_true i4⟩
  have I : IK K (KA K) := ⟨IC, fun t ht => of_decide_eq_true (List.all_eq_true.mp (bit q 14 (b := otB K) rfl) t ht)⟩
  have M1 : Mro1 K (KA K) := moB_ok (bit q 15 rfl)
  have hne := He.eqO_ok (bit q 16 rfl)
  obtain ⟨s1, s2, s3⟩ := He.meth_ok (c.d.fact 58 rfl)
  obtain ⟨e1, e2, e3⟩ := He.meth_ok (c.d.fact 59 rfl)
  obtain ⟨o1, o2, o3⟩ := He.meth_ok (c.d.fact 60 rfl)
  obtain ⟨a1, a2, a3⟩ := He.meth_ok (c.d.fact 61 rfl)
  obtain ⟨w1, w2, w3⟩ := He.meth_ok (c.d.fact 62 rfl)
  have S : SW P w K mg base (KA K) (kA K "__str__") dstr := ⟨ok_str B T Fstr, s1, s2, bstr⟩
  have Q : OW P w K mg base (KA K) "__eq__" 4 (kA K "__eq__") deq (spEqA (KA K)) := ⟨ok_eq B T I Dr Feq, beq, e1, e2, e3⟩
  have O : OW P w K mg base (KA K) "__or__" 6 (kA K "__or__") dor (spTwo (KA K) jo) := ⟨ok_or B T I Dr Dk For, bor, o1, o2, o3⟩
  have A : OW P w K mg base (KA K) "__and__" 6 (kA K "__and__") dand (spTwo (KA K) me) := ⟨ok_and B T I Dr Dk Fand, band, a1, a2, a3⟩
  have Wi : OW P w K mg base (KA K) "within" 4 (kA K "within") dwithin (spWi (KA K)) := ⟨ok_within B T Dr Fwithin, bwithin, w1, w2, w3⟩
  have WK : KwB K dwithin ["self", "other"] ["other"] id id := by
    obtain ⟨oc, od, dV, kV, doc, pm, an, cdv, ct, osl, rfl, lk, hcd, hD, hK⟩ := Fwithin.ex
    rcases hD with ⟨_, rfl⟩ | ⟨z, _⟩
    · exact ⟨fun s a ws _ hl => match ws, hl with | [_], _ => .of_eq rfl, fun r => r⟩
    · exact absurd rfl z
  obtain ⟨f1, f⟩ := He.ba (bit q 11 (b := tfB K) rfl)
  obtain ⟨f2, f⟩ := He.ba f
  obtain ⟨f3, f⟩ := He.ba f
  obtain ⟨f4, f5⟩ := He.ba f
  have Z : TF K mg (XA K) (He.ga K "MeetError") (He.ga K "NoStation") (He.ga K "TooMany") (He.ga K "Clash") (He.ga K "InvalidText") (He.ga K "InvalidPart") := ⟨glo_at X G c.d 1 rfl, glo_at X G c.d 6 rfl, glo_at X G c.d 7 rfl, glo_at X G c.d 4 rfl,
    glo_at X G c.d 5 rfl, glo_at X G c.d 3 rfl, of_decide_eq_true f1, of_decide_eq_true f2, of_decide_eq_true f3, of_decide_eq_true f4, of_decide_eq_true f5⟩
  -- the law's own functions
  have D : TD K mg (He.ga K "_law_told") dl_told := ⟨Fl_told, ml_told, bl_told⟩
  have DB : Fn0 P w K mg base "_law_begin" 1 _ dl_begin p_law_begin (spBegin K) := ⟨ok_begin B Fl_begin, ml_begin, Fl_begin.kp, bl_begin⟩
  have DT : Fn0 P w K mg base "_law_take" 1 _ dl_take p_law_take spTake := ⟨ok_take B Fl_take, ml_take, Fl_take.kp, bl_take⟩
  have DR : Fn0 P w K mg base "_law_right" 2 _ dl_right p_law_right spRight := ⟨ok_right B DT Fl_right, ml_right, Fl_right.kp, bl_right⟩
  have DO : Fn0 P w K mg base "_law_odd" 2 _ dl_odd p_law_odd (spOddA K) := ⟨ok_oddA B DT Fl_odd, ml_odd, Fl_odd.kp, bl_odd⟩
  have DA : Fn0 P w K mg base "_law_arguments" 3 _ dl_arguments p_law_arguments (spArgs K) := ⟨ok_args B DT DR DO Fl_arguments, ml_arguments, Fl_arguments.kp, bl_arguments⟩
  have DG : Fn0 P w K mg base "_law_ranks" 2 _ dl_ranks p_law_ranks spRk := ⟨ok_ranksL B DT Fl_ranks, ml_ranks, Fl_ranks.kp, bl_ranks⟩
  have DK : Fn0 P w K mg base "_law_kind" 5 _ dl_kind p_law_kind (spLK (KA K)) := ⟨ok_lkind T M KXX Fl_kind, ml_kind, Fl_kind.kp, bl_kind⟩
  have DP : Fn0 P w K mg base "_law_parts" 3 _ dl_parts p_law_parts (spParts (KA K)) := ⟨ok_parts' T pL pT pU pQ Fl_parts, ml_parts, Fl_parts.kp, bl_parts⟩
  have DL : Fn0 P w K mg base "_law_looser" 1 _ dl_looser p_law_looser (spJ jo) := ⟨ok_looser B Fl_looser, ml_looser, Fl_looser.kp, bl_looser⟩
  have DS : Fn0 P w K mg base "_law_stricter" 1 _ dl_stricter p_law_stricter (spJ me) := ⟨ok_stricter B Fl_stricter, ml_stricter, Fl_stricter.kp, bl_stricter⟩
  have DI : Fn0 P w K mg base "_law_is_within" 1 _ dl_is_within p_law_is_within spIsW := ⟨ok_isw B Fl_is_within, ml_is_within, Fl_is_within.kp, bl_is_within⟩
  have D3 : Fn0 P w K mg base "_law_three_right" 7 _ dl_three_right p_law_three_right spThree := ⟨ok_three T M1 O A Wi Q DK Fl_three_right, ml_three_right, Fl_three_right.kp, bl_three_right⟩
  have D2 : FgD P w K mg base "_law_pair_right" 7 (He.ga K "_law_pair_right") dl_pair_right p_law_pair_right spPair := by
    have kp := Fl_pair_right.kp
    obtain ⟨oc, od, dV, kV, doc, pm, an, cdv, ct, osl, rfl, lk, hcd, _, _⟩ := Fl_pair_right.ex
    exact ⟨ok_pair B T M1 sys O A Wi WK DK DP DL DS DI lk hcd, ml_pair_right, kp, bl_pair_right⟩
  have D4 : FgD P w K mg base "_law_three_kinds_right" 8 (He.ga K "_law_three_kinds_right") dl_three_kinds_right p_law_three_kinds_right spTK := by
    have kp := Fl_three_kinds_right.kp
    obtain ⟨oc, od, dV, kV, doc, pm, an, cdv, ct, osl, rfl, lk, hcd, _, _⟩ := Fl_three_kinds_right.ex
    exact ⟨ok_tk B DT DG D2 D3 lk hcd, ml_three_kinds_right, kp, bl_three_kinds_right⟩
  have D5 : FgD P w K mg base "_law_same_right" 8 (He.ga K "_law_same_right") dl_same_right p_law_same_right spSame := by
    have kp := Fl_same_right.kp
    obtain ⟨oc, od, dV, kV, doc, pm, an, cdv, ct, osl, rfl, lk, hcd, _, _⟩ := Fl_same_right.ex
    exact ⟨ok_same B T sys M Q hne (of_decide_eq_true i3) S DT DR lk hcd, ml_same_right, kp, bl_same_right⟩
  have D6 : FgD P w K mg base "_law_made_right" 8 (He.ga K "_law_made_right") dl_made_right p_law_made_right (spMade (TtOf K)) := by
    have kp := Fl_made_right.kp
    obtain ⟨oc, od, dV, kV, doc, pm, an, cdv, ct, osl, rfl, lk, hcd, _, _⟩ := Fl_made_right.ex
    obtain ⟨cc, rfl⟩ := He.codeIn_ref hcd
    have ce : He.codeOf K mdD = cc := He.codeOf_eq lk rfl
    have tb := hTB (He.cT K mdD) (List.mem_map.mpr ⟨mdD, by simp, rfl⟩)
    rw [show (He.cT K mdD).1 = cc from ce] at tb
    exact ⟨ok_made B T XE Z D M KXX pL pT pU pQ sys DA tb (by simp) (fun p hp e => by
      simp only [List.mem_cons, List.not_mem_nil, or_false] at hp
      rw [hp]) lk hcd, ml_made_right, kp, bl_made_right⟩
  obtain ⟨oc, od, dV, kV, doc, pm, an, cdv, ct, osl, rfl, lk, hcd, _, _⟩ := Flaw.ex
  exact ok_law B T M KXX sys Wi DB D6 D5 D4 lk hcd
end
end L2.M1
set_option maxRecDepth 100000
set_option maxHeartbeats 0
namespace L2.M1
open PySem PySem.Spec PyProof.Rows Mx Evl
abbrev RY : W.OpenRow := W.OpenLaw.row PySem.Challenge.rw_meetbehind_k01_kinds_made_and_compared
abbrev looseY : List Str := (["is_integer", "MeetError", "InvalidKind", "InvalidPart", "Clash", "InvalidText", "NoStation", "TooMany", "DIGITS", "number_of", "LEAST_REST", "MOST_REST", "LOOSE", "Kind", "_ranks", "_kind_of_ranks", "kind_of_words"] : List Str) ++ (["_law_begin", "_law_take", "_law_right", "_law_odd", "_law_arguments", "_law_told", "_law_made_right", "_law_same_right", "_law_ranks", "_law_kind", "_law_parts", "_law_looser", "_law_stricter", "_law_is_within", "_law_pair_right", "_law_three_right", "_law_three_kinds_right"] : List Str)
theorem run_f (w : World) : HandSHeadRun.RunEq RY (W.view RY.prog [39]) hkY eyeY 8000 looseY (w.withFollow "special-get-raises" false) := by
  intro os
  kernel_rfl
theorem run_t (w : World) : HandSHeadRun.RunEq RY (W.view RY.prog [39]) hkY eyeY 8000 looseY (w.withFollow "special-get-raises" true) := by
  intro os
  kernel_rfl
end L2.M1
set_option maxRecDepth 100000
set_option maxHeartbeats 0
namespace L2.M1
open PySem PySem.Spec PyProof.Rows L2 Mx L2.Mb Evl Mv TL LamX
theorem run (w : World) : HandSHeadRun.RunEq RY (W.view RY.prog [39]) hkY eyeY 8000 looseY w := W.byRow2 "special-get-raises" (P := fun w => HandSHeadRun.RunEq RY (W.view RY.prog [39]) hkY eyeY 8000 looseY w) run_f run_t w
theorem law_at {P : Program} {w : World} {mg : Str → Option Value} {h : Heap} {f : Addr} (Y : hkY.says w h) (G : h.Ns mainGlobals mg) (hmg : mg "law" = some (.ref f)) :
    ∃ (K : W.Frag) (fd : FuncData) (sp : Sp) (cs : List (Addr × Addr)), K.In h ∧ (∀ p ∈ cs, Bare h p.2) ∧ (∀ p ∈ cs, K.lookup p.2 = none) ∧ (∀ p ∈ cs, W.CodeHd h p.1 p.2) ∧ (∀ (s : Shared) (u : Value), BindsTo s fd ⟨[u], []⟩ [("_law_script", u)]) ∧
      (∀ (H : Hp) (a : Addr) (ns : List Int), ns.length ≤ 63 → (∀ p ∈ cs, H p.2 = some (.tbl #[])) → SqL K H a (ns.map V.int) → sp [.ref a] H (fun v _ => v = .bl true) fun _ _ _ => False) ∧
      ∀ base : Heap, K.In base → base.Ns mainGlobals mg → (∀ p ∈ cs, TabB base mg p.1 p.2) → FnG P w K mg base CX0 9 f fd ["_law_script"] sp := by
  obtain ⟨K, KX, c⟩ := Y
  obtain ⟨fd, hb, hF⟩ := facts (P := P) (w := w) KX G hmg c
  refine ⟨K, fd, spLaw K (TtOf K), tfZ.map (He.cT K), KX, fun p hp => ?_, fun p hp => ?_, fun p hp => ?_, hb, fun H a ns hl hT hS => ⟨a, ns, rfl, hS, hl, fun p hp => ?_, fun _ => rfl⟩, hF⟩
  · obtain ⟨d, hd, rfl⟩ := List.mem_map.mp hp
    exact c.bare d hd
  · obtain ⟨d, hd, rfl⟩ := List.mem_map.mp hp
    exact c.out d hd
  · obtain ⟨d, hd, rfl⟩ := List.mem_map.mp hp
    exact W.codeHd_of_K KX (c.hd d hd)
  · simp only [List.mem_cons, List.not_mem_nil, or_false] at hp
    rw [hp]
    exact TabS.nil (hT _ (List.mem_map.mpr ⟨mdD, by simp, rfl⟩))
end L2.M1
open PySem PySem.W PySem.Calls PyProof.Rows
theorem PySem.Challenge.cw_meetbehind_k01_kinds_made_and_compared_holds : PySem.Challenge.rw_meetbehind_k01_kinds_made_and_compared.Holds := by
  w_on; o_law
  refine HandSHeadRun.head_any (r := L2.M1.RY) (q := view L2.M1.RY.prog [39]) (H := L2.M1.hkY) (ob := L2.M1.eyeY) (M := 8000) (loose := L2.M1.looseY) (d := HandSHeadRun.topDef L2.M1.RY.prog 39) (kwd := []) L2.M1.eyeY_eq
    (by kernel_rfl) (fun s => by kernel_rfl) L2.M1.run (by kernel_rfl) (by kernel_rfl) (by kernel_rfl) (by rfl) (by first | assumption | decide +kernel) (by decide +kernel) ⟨rfl, rfl, rfl, rfl, rfl, by decide +kernel⟩ ?hw ?hc
  case hw => w_witness2
  case hc =>
    refine L2.Mb.walkT (l := PySem.Challenge.rw_meetbehind_k01_kinds_made_and_compared) (n := 63) (k := 9) (x := "_law_script") (CX := L2.CX0) rfl (by decide) (by kernel_rfl) ⟨rfl, by decide, by decide⟩ ?F (fun _ _ _ _ z => z)
    intro w mg fa h Y G hmg0
    have hmg : mg ("law" : PySem.Str) = some (.ref fa) := by
      have e : (HandSHeadRun.topDef (OpenLaw.row PySem.Challenge.rw_meetbehind_k01_kinds_made_and_compared).prog 39).name = ("law" : PySem.Str) := by kernel_rfl
      rw [← e]
      exact hmg0
    exact L2.M1.law_at (P := (PySem.Challenge.rw_meetbehind_k01_kinds_made_and_compared).prog) Y G hmg
