import PyProof.Rows.All
import Wide.All
import OpenK.AllK
import Wide.FinOn
import HandS.ForExc
import HandS.ExcInit
import HandS.ExcIs
import KE.KExcIs
import HandS.Defaults
import HandS.IsInst
import HandS.MakeKwOnly
import HandS.HeadEnd
import HandS.Dict
import HandS.EndTab
import KE.KTryMore
import HandS.Exc
import KE.KCallOwn
import HandS.ForMost
import HandS.ClsMeth
import HandS.Property
import HandS.OwnEq
import HandS.FStr
import HandS.Evl
import HandS.Walk
import HandS.Text
import HandS.HeadHook2
import PySem.Challenge.RW_meetbehind_k03_kinds_as_texts
import HandS.Codes
import HandS.Lambda
import PyProof.ReprLen
import PyProof.StrOps2
import HandS.Style
import HandS.Head0
import HandS.Head1
import HandS.Head2
import HandS.HeadHook1
import HandS.HeadHook3
import HandS.HeadHook4
import Wide.Once
set_option Elab.async false
set_option linter.all false
set_option maxRecDepth 100000
set_option maxHeartbeats 4000000
namespace Mx
open PySem PySem.Spec PyProof.Rows PySem.F

/-! exception bases -/
/-- the built-in classes over which the package's errors stand -/
inductive EB where | val | key | ind | look | run | over
  deriving DecidableEq
/-- the class whose maker serves -/
def EB.nm : EB → String
  | .val => "ValueError" | .key => "LookupError" | .ind => "IndexError" | .look => "LookupError"
  | .run => "RuntimeError" | .over => "OverflowError"
def EB.new : EB → String
  | .val => "ValueError.__new__" | .key => "LookupError.__new__" | .ind => "IndexError.__new__"
  | .look => "LookupError.__new__" | .run => "RuntimeError.__new__" | .over => "OverflowError.__new__"
def EB.ini : EB → String
  | .val => "ValueError.__init__" | .key => "LookupError.__init__" | .ind => "IndexError.__init__"
  | .look => "LookupError.__init__" | .run => "RuntimeError.__init__" | .over => "OverflowError.__init__"
def EB.names : EB → List String
  | .val => ["ValueError", "Exception", "BaseException", "object"]
  | .key => ["KeyError", "LookupError", "Exception", "BaseException", "object"]
  | .ind => ["IndexError", "LookupError", "Exception", "BaseException", "object"]
  | .look => ["LookupError", "Exception", "BaseException", "object"]
  | .run => ["RuntimeError", "Exception", "BaseException", "object"]
  | .over => ["OverflowError", "ArithmeticError", "Exception", "BaseException", "object"]
def EB.tl (b : EB) : List Value := b.names.map Value.type
def EB.mk : EB → EB
  | .key => .look
  | b => b
theorem EB.facts : ∀ b : EB, ExcBaseFacts b.nm b.new b.ini b.mk.tl
  | .val => excBase_ValueError
  | .key => excBase_LookupError
  | .ind => excBase_IndexError
  | .look => excBase_LookupError
  | .run => excBase_RuntimeError
  | .over => excBase_OverflowError
theorem EB.pass (self : Value) : ∀ b : EB, refuseLoop self "__setattr__" b.tl = pure ()
  | .val => by kernel_rfl
  | .key => by kernel_rfl
  | .ind => by kernel_rfl
  | .look => by kernel_rfl
  | .run => by kernel_rfl
  | .over => by kernel_rfl
theorem EB.obj (b : EB) : b.tl.contains (.type "object") = true := by cases b <;> decide +kernel
theorem EB.hasB (b : EB) : b.tl.contains (.type b.nm) = true := by cases b <;> decide +kernel
theorem EB.noA (b : EB) : b.tl.contains (.type "AttributeError") = false := by cases b <;> decide +kernel
theorem EB.noN (b : EB) : b.tl.contains (.type "NameError") = false := by cases b <;> decide +kernel
theorem EB.bas (b : EB) : b.tl.contains (.type "BaseException") = true := by cases b <;> decide +kernel
/-- own classes, then the built-in ones -/
def own (b : EB) : List Value → Bool
  | .ref _ :: r => own b r
  | l => l == b.tl
theorem own_cases {b : EB} {l : List Value} (h : own b l = true) : (∃ c r, l = .ref c :: r ∧ own b r = true) ∨ l = b.tl := by
  unfold own at h
  split at h
  · exact .inl ⟨_, _, rfl, h⟩
  · exact .inr (eq_of_beq h)
theorem own_has {b : EB} (X : String) : ∀ l : List Value, own b l = true → l.contains (.type X) = b.tl.contains (.type X)
  | [], h => by
    rcases own_cases h with ⟨c, r, e, _⟩ | e
    · cases e
    · rw [e]
  | a :: l, h => by
    rcases own_cases h with ⟨c, r, e, k⟩ | e
    · obtain ⟨rfl, rfl⟩ := List.cons.inj e
      have ih := own_has X l k
      rw [List.contains_cons, ih]
      rfl
    · rw [e]
theorem own_pass {b : EB} (self : Value) : ∀ l : List Value, own b l = true → refuseLoop self "__setattr__" l = pure ()
  | [], h => by
    rcases own_cases h with ⟨c, r, e, _⟩ | e
    · cases e
    · rw [e]
      exact EB.pass self b
  | a :: l, h => by
    rcases own_cases h with ⟨c, r, e, k⟩ | e
    · obtain ⟨rfl, rfl⟩ := List.cons.inj e
      rw [refuseLoop_ref]
      exact own_pass self l k
    · rw [e]
      exact EB.pass self b
theorem own_ne {b : EB} {l : List Value} (h : own b l = true) : l.isEmpty = false := by
  cases l with
  | nil =>
    rcases own_cases h with ⟨c, r, e, _⟩ | e
    · cases e
    · cases b <;> cases e
  | cons => rfl
section
variable {M : Model} {A : Around} {E : Value → Shared → Prop} {hp : Heap} {gs : Array GenState} {dr : Drawn} {tk : Nat} {os : OsState}
variable {nm q : Str} {C N : Addr} {bs bm : List Value} {hdct : Bool} {sn : List Str} {sub : List Value} {ab : Bool} {col : Option Bool} {dd : Option Addr} {k0 k1 k2 k3 k5 : Option Value}
theorem chk_new {b : EB} (hb : own b bm = true) {rest : List Value} {kw : List (Str × Value)} {Q : Unit → Shared → Prop}
    (hC : hp.get? C = some (excClassObj nm q C N bs bm hdct sn sub ab col dd k0 k1 k2 k3 k5 b.new)) (hq : Q () ⟨hp, gs, dr, tk, os⟩) :
    wpAny M A (checkBuiltinCall b.new ⟨.ref C :: rest, kw⟩) Q E ⟨hp, gs, dr, tk, os⟩ := by
  have F := b.facts
  have mB : (Value.ref C :: bm).contains (.type b.nm) = true := by rw [List.contains_cons, own_has _ _ hb, b.hasB, Bool.or_true]
  have st := F.noStar
  simp only [checkBuiltinCall, F.newKind, F.newSplit, F.newRow]
  repeat (first
    | refine wpAny_loadPart_at hC ?_
    | (refine wpAny_isSubtype_exc hC ?_; rw [mB])
    | refine wpAny_staticBase_exc hC ?_
    | refine wpAny_madeBy_exc hC ?_
    | simp only [bne_self_eq_false, Bool.false_eq_true, if_false]
    | wp_step)
  exact hq
end
section
variable {prog : Program} {w : World} {A : Around} {E : Value → Shared → Prop} {R : Result → Shared → Prop} {hp : Heap} {gs : Array GenState} {dr : Drawn} {tk : Nat} {os : OsState}
variable {nm q : Str} {C N : Addr} {bs bm : List Value} {hdct : Bool} {sn : List Str} {sub : List Value} {ab : Bool} {col : Option Bool} {dd : Option Addr} {k0 k1 k2 k3 k5 : Option Value}
/-- an exception that is not yet set up -/
abbrev rawX (C t : Addr) : Obj := { cls := .ref C, data := .fields #[.ref t, .none, .none, .none, .bool false, .none] }
abbrev tupO (us : List Value) : Obj := { cls := .type "tuple", data := .seq us.toArray }
theorem run_new {b : EB} (hb : own b bm = true) {rest : List Value} {kw : List (Str × Value)} (hr : rest.length ≤ sizeLine)
    (hC : hp.get? C = some (excClassObj nm q C N bs bm hdct sn sub ab col dd k0 k1 k2 k3 k5 b.new))
    (hq : R (.ok (.ret (.ref (hp.objs.size + 1)))) ⟨(hp.push (tupO rest)).push (rawX C hp.objs.size), gs, dr, tk, os⟩) :
    codeAny (model prog w) A (.builtin b.new ⟨.ref C :: rest, kw⟩) R ⟨hp, gs, dr, tk, os⟩ := by
  have F := b.facts
  have fe := F.ends
  have m1 : (Value.ref C :: bm).contains (.type b.nm) = true := by rw [List.contains_cons, own_has _ _ hb, b.hasB, Bool.or_true]
  have m2 : (Value.ref C :: bm).contains (.type "AttributeError") = false := by rw [List.contains_cons, own_has _ _ hb, b.noA]; rfl
  have m3 : (Value.ref C :: bm).contains (.type "NameError") = false := by rw [List.contains_cons, own_has _ _ hb, b.noN]; rfl
  refine codeAny_builtinAt F.entry ?_
  unfold Builtin.«BaseException.__new__»
  refine PySem.wpAt_bind ?_
  show PySem.wpAt _ _ _ (stack >>= _) _ _ _
  refine PySem.wpAt_bind (PySem.wpAt_stack fun p1 p2 => PySem.wpAt_of_wpAny ?_)
  wp_walk
  refine PySem.wpAt_of_wpAny ?_
  rw [F.owner]
  repeat (first
    | with_reducible refine wpAny_madeHere_exc F.canon hC ?_
    | with_reducible refine wpAny_loadPart_at hC ?_
    | (with_reducible refine wpAny_isSubtype_exc hC ?_; first | rw [m1] | rw [m2] | rw [m3])
    | wp_step)
  show R _ _
  rw [Heap.size_push]
  exact hq
/-- what comes back from the setting up -/
def BackX (e : Addr) (R : Result → Shared → Prop) : Result → Shared → Prop := fun r s => match r with
  | .ok (.ret v) => v = .none ∧ R (.ok (.ret (.ref e))) s
  | .ok _ => False
  | .error x => R (.error x) s
theorem run_typecall {b : EB} (hb : own b bm = true) {rest : List Value} {kw : List (Str × Value)} (hr : rest.length ≤ sizeLine) {fI : Addr} {Q : Fin → Shared → Prop}
    (hC : hp.get? C = some (excClassObj nm q C N bs bm hdct sn sub ab col dd k0 k1 k2 k3 k5 b.new))
    (hi : W.Looks (model prog w) hp (typeLookup (.ref C) "__init__") (some (.ref fI)))
    (hbd : ∀ self, W.Looks (model prog w) hp (bindSpecial (.ref fI) self) (.ref fI, [self]))
    (hq : codeAny (model prog w) A (.call (.ref fI) ⟨.ref (hp.objs.size + 1) :: rest, kw⟩)
      (fun r s' => match r with
        | .ok (.ret v) => v = .none ∧ Q (.done (.ret (.ref (hp.objs.size + 1)))) s'
        | .ok _ => False
        | .error x => E x s') ⟨(hp.push (tupO rest)).push (rawX C hp.objs.size), gs, dr, tk, os⟩) :
    wpAny (model prog w) A (Builtin.«type.__call__» ⟨.ref C :: rest, kw⟩) Q E ⟨hp, gs, dr, tk, os⟩ := by
  have F := b.facts
  repeat (first
    | with_reducible refine wpAny_loadPart_at hC ?_
    | with_reducible refine wpAny_madeBy_exc hC ?_
    | wp_step)
  refine codeAny_call_builtin_code (Code.quiet_builtin _ F.quiet) (chk_new hb hC ?_)
  refine run_new hb hr hC ?_
  show wpAny _ _ _ _ _ _
  have kp : ∀ c o, hp.get? c = some o → ((hp.push (tupO rest)).push (rawX C hp.objs.size)).get? c = some o :=
    fun c o e => Heap.get?_push_of_some _ (Heap.get?_push_of_some _ e)
  have hC2 := kp _ _ hC
  have ge : ((hp.push (tupO rest)).push (rawX C hp.objs.size)).get? (hp.objs.size + 1) = some (rawX C hp.objs.size) := by heap_get
  have mC : (Value.ref C :: bm).contains (.ref C) = true := by simp
  have j1 := hi.keeps kp
  have j2 := (hbd (.ref (hp.objs.size + 1))).keeps kp
  unfold isInstance
  repeat (first
    | with_reducible refine wpAny_loadPart_at ge ?_
    | (with_reducible refine wpAny_isSubtype_exc hC2 ?_; rw [mC])
    | wp_step)
  show wpAny _ _ (typeLookup (.ref C) _) _ _ _
  refine j1.at ?_
  refine wpAny_holding (wpAny_bind (j2.at ?_))
  refine wpAny_bind (wpAny_call (codeAny_mono hq fun r s' z => ?_))
  rcases r with x | (v | _ | _ | _) <;> first | exact z | exact z.elim | skip
  obtain ⟨ev, z⟩ := z
  subst ev
  first
    | exact wpAny_pure (wpAny_pure z)
    | (wp_walk; exact z)
theorem run_class {b : EB} (hb : own b bm = true) {rest : List Value} {kw : List (Str × Value)} (hr : rest.length ≤ sizeLine) {fI : Addr}
    (hC : hp.get? C = some (excClassObj nm q C N bs bm hdct sn sub ab col dd k0 k1 k2 k3 k5 b.new))
    (hi : W.Looks (model prog w) hp (typeLookup (.ref C) "__init__") (some (.ref fI)))
    (hbd : ∀ self, W.Looks (model prog w) hp (bindSpecial (.ref fI) self) (.ref fI, [self]))
    (hty : W.Looks (model prog w) hp (isInstance (.ref C) (.type "type")) true)
    (hq : codeAny (model prog w) (A.under (.builtin "type.__call__" ⟨.ref C :: rest, kw⟩)) (.call (.ref fI) ⟨.ref (hp.objs.size + 1) :: rest, kw⟩) (BackX (hp.objs.size + 1) R)
      ⟨(hp.push (tupO rest)).push (rawX C hp.objs.size), gs, dr, tk, os⟩) :
    codeAny (model prog w) A (.call (.ref C) ⟨rest, kw⟩) R ⟨hp, gs, dr, tk, os⟩ := by
  have f1 := tc_lookup
  have f2 := tc_bind (.ref C)
  have hTy : (⟨hp, gs, dr, tk, os⟩ : Shared).TypeIs (.ref C) "type" := ⟨_, hC, rfl⟩
  refine codeAny_of_tree ?_
  show wpAny _ _ (callAny (.ref C) _) _ _ _
  repeat (any_goals (first | assumption | with_reducible refine wpAny_loadPart_at hC ?_ | wp_step))
  refine ⟨rfl, ?_⟩
  refine codeAny_call_builtin_at (Code.quiet_builtin _ (by decide +kernel)) entry_typeCall
    (W.check_slot tc_kind tc_split hty (W.tc_args _ _ _) (run_typecall hb hr hC hi hbd ?_))
  refine codeAny_mono hq fun r s' z => ?_
  rcases r with x | (v | _ | _ | _) <;> exact z
end

/-! ### self.f = v -/
section
open Builtin Builtin.ObjectAttr PySem.W
variable {prog : Program} {w : World} {A : Around} {E : Value → Shared → Prop} {R : Result → Shared → Prop} {hp : Heap} {gs : Array GenState} {dr : Drawn} {tk : Nat} {os : OsState}
/-- the first field: the exception's dict is laid -/
theorem put_first {b : EB} {K : Frag} {f : Str} {u : Tok} {v : Value} {x C : Addr} {fv : Array Value} {cd : ClassData} (X : K.In hp)
    (hx : hp.get? x = some { cls := .ref C, data := .fields fv }) (hcd : clsIn K C = some cd) (hm : own b cd.mro = true) (hh : cd.hasDict = true) (ha : findIn K (.ref C) f = some none)
    (hq : ∀ h' tk' dx, (∀ c o, c ≠ x → hp.get? c = some o → h'.get? c = some o) → hp.objs.size ≤ dx → dx ≠ x →
      h'.get? x = some { cls := .ref C, dict := some dx, data := .fields fv } → h'.Ns1 dx (fun y => if y = f then some v else none) → R (.ok (.ret .none)) ⟨h', gs, dr, tk', os⟩) :
    codeAny (model prog w) A (.call (.builtin "object.__setattr__") ⟨[.ref x, .str f u, v], []⟩) R ⟨hp, gs, dr, tk, os⟩ := by
  have SF := F.store_object
  have I : InstAt hp x { cls := .ref C, data := .fields fv } C none := ⟨hx, rfl, rfl, trivial⟩
  have isob : cd.mro.contains (.type "object") = true := (own_has "object" _ hm).trans b.obj
  have ns := own_ne hm
  have xz : x ≠ hp.objs.size := Nat.ne_of_lt (Heap.lt_size hx)
  have Ls : Looks (model prog w) hp (isInstance (.ref x) (.type "object")) true :=
    I.type.andThen (looks_mroIn X (by unfold mroIn; rw [hcd, Option.bind_some, if_neg (by rw [ns]; decide), isob]))
  refine codeAny_call_builtin SF.slot.plain SF.entry
    (@check_slot (model prog w) _ _ ⟨hp, gs, dr, tk, os⟩ "object.__setattr__" "object" "__setattr__" (.ref x) [.str f u, v] [] _ SF.kind SF.split Ls (SF.args (.ref x) (.str f u) v) ?_)
  have Lm : Looks (model prog w) hp (mroOf (.ref C)) cd.mro := (looks_clsIn X hcd).andThen .now
  have Lt : Looks (model prog w) hp (storeTaker? none) none := .now
  have Lc : Looks (model prog w) hp (classData C) cd := looks_clsIn X hcd
  rw [osa_eq, refuse_eq]
  refine wpAny_bind (wpAny_bind (I.type.at (wpAny_bind (Lm.at ?_))))
  rw [own_pass _ _ hm]
  refine wpAny_pure (wpAny_bind (I.type.at (wpAny_bind ((looks_findIn X ha).at (wpAny_bind (Lt.at ?_))))))
  show wpAny _ _ (storeInOwnDict (.ref x) (.ref C) (.str f u) f v false) _ _ _
  obtain ⟨c1, c2, c3, c4, c5, c6, c7, c8, c9, c10, c11⟩ := cd
  dsimp only at hh
  subst hh
  unfold storeInOwnDict ownDictForStores
  repeat (first
    | with_reducible refine HandSPX.store_in_new ?_ ?_
    | with_reducible refine wpAny_loadPart_at hx ?_
    | with_reducible refine Lc.at ?_
    | wp_step)
  · exact ⟨_, #[], _, (Heap.get?_update_ne _ _ _ _ xz.symm).trans (Heap.get?_push_at rfl rfl), rfl, fun e he => absurd he (by simp), fun _ => rfl⟩
  · intro h' tk' hn' hs
    have hx1 : (hp.push { cls := .type "dict", data := .dict #[] }).get? x = some { cls := .ref C, data := .fields fv } := Heap.get?_push_of_some _ hx
    refine hq h' tk' hp.objs.size (fun c o hc ho => ?_) (Nat.le_refl _) xz.symm ?_ hn'
    · exact (hs.2 c (Nat.ne_of_lt (Heap.lt_size ho))).trans ((Heap.get?_update_ne _ _ _ _ hc).trans (Heap.get?_push_of_some _ ho))
    · exact (hs.2 x xz).trans (Heap.get?_update_self _ hx1 rfl)
/-- a further field -/
theorem put_more {b : EB} {K : Frag} {f : Str} {u : Tok} {v : Value} {x C dx : Addr} {fv : Array Value} {cd : ClassData} {m0 : Str → Option Value} {nl : List Str} (X : K.In hp)
    (hx : hp.get? x = some { cls := .ref C, dict := some dx, data := .fields fv }) (hns : hp.Ns1 dx m0) (hw : Within m0 nl) (hz : nl.length ≤ 1000)
    (hcd : clsIn K C = some cd) (hm : own b cd.mro = true) (hh : cd.hasDict = true) (ha : findIn K (.ref C) f = some none)
    (hq : ∀ h' tk', (∀ c o, c ≠ dx → hp.get? c = some o → h'.get? c = some o) → h'.Ns1 dx (fun y => if y = f then some v else m0 y) → R (.ok (.ret .none)) ⟨h', gs, dr, tk', os⟩) :
    codeAny (model prog w) A (.call (.builtin "object.__setattr__") ⟨[.ref x, .str f u, v], []⟩) R ⟨hp, gs, dr, tk, os⟩ := by
  have SF := F.store_object
  obtain ⟨oD, esD, epD, hoD, hdD, _⟩ := hns.count hw
  have I : InstAt hp x { cls := .ref C, dict := some dx, data := .fields fv } C (some oD) := ⟨hx, rfl, rfl, hoD⟩
  have isob : cd.mro.contains (.type "object") = true := (own_has "object" _ hm).trans b.obj
  have ns := own_ne hm
  have Ls : Looks (model prog w) hp (isInstance (.ref x) (.type "object")) true :=
    I.type.andThen (looks_mroIn X (by unfold mroIn; rw [hcd, Option.bind_some, if_neg (by rw [ns]; decide), isob]))
  refine codeAny_call_builtin SF.slot.plain SF.entry
    (@check_slot (model prog w) _ _ ⟨hp, gs, dr, tk, os⟩ "object.__setattr__" "object" "__setattr__" (.ref x) [.str f u, v] [] _ SF.kind SF.split Ls (SF.args (.ref x) (.str f u) v) ?_)
  have Lm : Looks (model prog w) hp (mroOf (.ref C)) cd.mro := (looks_clsIn X hcd).andThen .now
  have Lt : Looks (model prog w) hp (storeTaker? none) none := .now
  have Lc : Looks (model prog w) hp (classData C) cd := looks_clsIn X hcd
  rw [osa_eq, refuse_eq]
  refine wpAny_bind (wpAny_bind (I.type.at (wpAny_bind (Lm.at ?_))))
  rw [own_pass _ _ hm]
  refine wpAny_pure (wpAny_bind (I.type.at (wpAny_bind ((looks_findIn X ha).at (wpAny_bind (Lt.at ?_))))))
  show wpAny _ _ (storeInOwnDict (.ref x) (.ref C) (.str f u) f v false) _ _ _
  obtain ⟨c1, c2, c3, c4, c5, c6, c7, c8, c9, c10, c11⟩ := cd
  dsimp only at hh
  subst hh
  unfold storeInOwnDict ownDictForStores
  repeat (first
    | with_reducible refine OEX.store_in_old hns hw hz ?_
    | with_reducible refine wpAny_loadPart_at hx ?_
    | with_reducible refine Lc.at ?_
    | wp_step)
  intro h' tk' hn' hs
  exact hq h' tk' (fun c o hc ho => (hs.2 c hc).trans ho) hn'
end
end Mx
set_option maxRecDepth 100000
set_option maxHeartbeats 4000000
namespace L2.Mb
open PySem PySem.Spec PyProof.Rows Mx

/-- the own exception class at C over b, its setting up at fI -/
structure EC (K : W.Frag) (C fI : Addr) (b : EB) : Prop where
  cls : ∃ nm q N bs bm sn sub ab col dd k0 k1 k2 k3 k5, K.lookup C = some (excClassObj nm q C N bs bm true sn sub ab col dd k0 k1 k2 k3 k5 b.new) ∧ own b bm = true
  sa : W.findIn K (.ref C) "__setattr__" = some (some (.builtin "object.__setattr__"))
  ga : W.findIn K (.ref C) "__getattribute__" = some (some (.builtin "BaseException.__getattribute__"))
  gg : W.findIn K (.ref C) "__getattr__" = some none
  cl : W.findIn K (.ref C) "__class__" = some (some (.builtin "object.__class__"))
  ins : W.instIn K (.ref C) (.type "type") = some true
  kp : W.keepIn K (.ref C) = true
  ini : W.findIn K (.ref C) "__init__" = some (some (.ref fI))
  tfn : W.typeIn K (.ref fI) = some (.type "function")
  gs : W.specialIn K (.builtin "object.__class__") "__get__" = some (some (.builtin "getset_descriptor.__get__"))
  tk : W.takesIn K (.builtin "object.__class__") = some true
section
variable {K : W.Frag} {C fI : Addr} {b : EB}
theorem EC.cd (T : EC K C fI b) : ∃ cd, W.clsIn K C = some cd ∧ own b cd.mro = true ∧ cd.hasDict = true := by
  obtain ⟨nm, q, N, bs, bm, sn, sub, ab, col, dd, k0, k1, k2, k3, k5, hC, hb⟩ := T.cls
  refine ⟨{ name := nm, bases := bs, mro := .ref C :: bm, ns := N, qualname := q, hasDict := true, slotNames := sn, subclasses := sub, abstract := ab, collection := col, hasDel := false }, ?_, hb, rfl⟩
  unfold W.clsIn
  rw [hC]
  all_goals rfl
theorem EC.mro (T : EC K C fI b) (X : String) : W.mroIn K C (.type X) = some (b.tl.contains (.type X)) := by
  obtain ⟨cd, e, m, _⟩ := T.cd
  unfold W.mroIn
  rw [e, Option.bind_some, if_neg (by rw [own_ne m]; decide), own_has _ _ m]
theorem EC.base (T : EC K C fI b) : W.subIn K (.ref C) (.type "BaseException") = some true := by
  show W.mroIn K C (.type "BaseException") = some true
  rw [T.mro, b.bas]
theorem EC.isob (T : EC K C fI b) : W.mroIn K C (.type "object") = some true := by rw [T.mro, b.obj]
theorem EC.isc (T : EC K C fI b) : (W.clsIn K C).isSome = true := by
  obtain ⟨cd, e, _⟩ := T.cd
  rw [e]
  rfl
theorem EC.hd (T : EC K C fI b) : W.hasDictIn K C = true := by
  obtain ⟨cd, e, _, h⟩ := T.cd
  unfold W.hasDictIn
  rw [e]
  exact h
end
section
variable {X : Cx} {pins : List (Addr × Obj)} {σ : St} {H : Hp} {s : Shared} {C fI : Addr} {b : EB}
/-- C(..), the arguments reckoned -/
theorem run_mkX {CX : CXT} {k : Nat} {fd : FuncData} {ps : List Str} {sp : Sp} {Q : VK} {us ws : List Value} {vs : List V} {kw : List (Str × Value)} (T : EC X.K C fI b) (F : FnOk X.prog X.w X.K X.mg X.base CX k fI fd ps sp)
    (hr : Room (k + 1) X.A) (hx : Passes CX X (fun _ _ _ => False)) (I : Inv X pins σ H s) (hus : us.length ≤ sizeLine) (rv : Vals vs ws)
    (hto : ∀ (a : Addr) (s' : Shared), X.K.In s'.heap → BindsTo s' fd ⟨.ref a :: us, kw⟩ (ps.zip (.ref a :: ws)))
    (h : ∀ a, H a = none → sp (.ref a :: vs) (upd H a (exo a C none)) (fun v H2 => v = .non ∧ Q (.ref a) H2) (fun _ _ _ => False)) :
    wpAny (model X.prog X.w) X.A (call (.ref C) us kw) (EP X pins σ Q) X.xe s := by
  obtain ⟨nm, q, N, bs, bm, sn, sub, ab, col, dd, k0, k1, k2, k3, k5, hC, hb⟩ := T.cls
  obtain ⟨hp, g, dr, tk, os⟩ := s
  have hsz : hp.objs.size ≤ hp.objs.size + 1 := Nat.le_succ _
  have hn : H (hp.objs.size + 1) = none := I.hok.fresh hsz
  have kk : ∀ c o, hp.get? c = some o → ((hp.push (tupO us)).push (rawX C hp.objs.size)).get? c = some o := fun c o e => Heap.get?_push_of_some _ (Heap.get?_push_of_some _ e)
  have ge : ((hp.push (tupO us)).push (rawX C hp.objs.size)).get? (hp.objs.size + 1) = some (rawX C hp.objs.size) := by heap_get
  have I2 : Inv X pins σ (upd H (hp.objs.size + 1) (exo (hp.objs.size + 1) C none)) ⟨(hp.push (tupO us)).push (rawX C hp.objs.size), g, dr, tk, os⟩ :=
    I.laid (t' := tk) (a := hp.objs.size + 1) (o := exo (hp.objs.size + 1) C none) (h' := (hp.push (tupO us)).push (rawX C hp.objs.size)) kk hsz (exo_ok ge)
  refine wpAny_call (run_class hb hus (I.kIn _ _ hC) (W.looks_findIn I.kIn T.ini) (fun self => W.bind_fn I.kIn self T.tfn) (W.looks_instIn I.kIn T.ins)
    (codeAny_mono (F.run _ X.stack _ _ ⟨Value.ref (hp.objs.size + 1) :: us, kw⟩ (Value.ref (hp.objs.size + 1) :: ws) (V.ref (hp.objs.size + 1) :: vs) _ (fun _ _ _ => False) (hr.make C us kw) (I2.env0.make C us kw)
      (hto _ _ I2.kIn) (.cons rfl rv) (h _ hn)) fun r s' hq' => ?_))
  cases r with
  | error er => exact (hx pins σ _ _ er s' I2 hq')
  | ok fl =>
    cases fl with
    | ret u =>
      obtain ⟨v, H', I3, r3, ev, q3⟩ := I2.after hq'
      subst ev
      exact ⟨r3, ⟨V.ref (hp.objs.size + 1), H', I3, rfl, q3⟩⟩
    | next => exact False.elim hq'
    | brk => exact False.elim hq'
    | cont => exact False.elim hq'
end

/-! ### readings and rules -/
/-- the error of the class at C stands at a, with these fields -/
def XAt (H : Hp) (a C : Addr) (fs : List (Str × V)) : Prop := ∃ d, H a = some (exo a C (some d)) ∧ H d = some (exd d fs)
def tMkX (C : Addr) (sp : Sp) (ta : TA) : TE := fun σ H Q => ta σ H fun vs H1 => vs.length ≤ 1000 ∧
  ∀ a, H1 a = none → sp (.ref a :: vs) (upd H1 a (exo a C none)) (fun v H2 => v = .non ∧ Q (.ref a) H2) (fun _ _ _ => False)
def tMkXK (C : Addr) (sp : Sp) (n : Nat) (gV : List V → List V) (ta : TA) : TE := fun σ H Q => ta σ H fun vs H1 => vs.length = n ∧
  ∀ a, H1 a = none → sp (.ref a :: gV vs) (upd H1 a (exo a C none)) (fun v H2 => v = .non ∧ Q (.ref a) H2) (fun _ _ _ => False)
/-- how keywords alone bind -/
structure KwB (K : W.Frag) (fd : FuncData) (ps ks : List Str) (g : List Value → List Value) (gV : List V → List V) : Prop where
  to : ∀ (s : Shared) (a : Addr) (ws : List Value), K.In s.heap → ws.length = ks.length → BindsTo s fd ⟨[.ref a], ks.zip ws⟩ (ps.zip (.ref a :: g ws))
  rel : ∀ {zs : List V} {ws : List Value}, Vals zs ws → Vals (gV zs) (g ws)
section
variable {X : Cx} {CX : CXT} {k : Nat} {fI C : Addr} {b : EB} {fd : FuncData} {ps ks : List Str} {sp : Sp} {x f : Str} {p p' pos : Pos} {e o : Expr} {es : List Expr} {kws : List Keyword} {t tk : TA} {te to : TE} {g : List Value → List Value} {gV : List V → List V}
theorem pe_mkX (T : EC X.K C fI b) (F : FnOk X.prog X.w X.K X.mg X.base CX k fI fd ps sp) (hr : Room (k + 1) X.A) (hb : Binds X.K fd ps []) (hx : Passes CX X (fun _ _ _ => False)) (hg : Gl X x) (hm : X.mg x = some (.ref C)) (ha : PA X (e :: es) t)
    (hdb : (x == ("__debug__" : Str)) = false := by decide) (he : starEach (e :: es) X.env = (false, eval e X.env) :: starEach es X.env := by rfl) (hpl : (backTo pos (starEach es X.env)).any (·.1) = false := by rfl) :
    PE X (.Call (.Name x p) (e :: es) [] pos) (tMkX C sp t) := by
  refine ⟨fun pins s σ H Q I h => ?_⟩
  refine wpAny_Call_Name_kw (ld_glob I hg hm ?_ hdb)
  refine W.callWith_K (h₀ := X.base) I.ok.mod.kin T.kp (thn (ha.run pos pins s σ H _ I h) fun us s1 ⟨vs, H1, I1, r, hl, q⟩ => ⟨I1.kIn, ?_⟩) he hpl
  have hus : us.length ≤ sizeLine := by
    rw [← r.length, sizeLine_eq]
    omega
  have hn : (V.ref (s1.heap.objs.size + 1) :: vs).length = ps.length := F.len _ _ _ _ (q (s1.heap.objs.size + 1) (I1.hok.fresh (Nat.le_succ _)))
  refine run_mkX T F hr hx I1 hus r (fun a s' K' => ?_) q
  have z := hb s' (Value.ref a :: us) K' (by
    have r1 := r.length
    rw [List.length_cons] at hn
    rw [List.append_nil, List.length_cons]
    omega)
  rwa [List.append_nil] at z
theorem pe_mkXK (T : EC X.K C fI b) (F : FnOk X.prog X.w X.K X.mg X.base CX k fI fd ps sp) (hr : Room (k + 1) X.A) (hb : KwB X.K fd ps ks g gV) (hx : Passes CX X (fun _ _ _ => False)) (hg : Gl X x) (hm : X.mg x = some (.ref C)) (hkw : PK X kws tk)
    (hall : (backToKw pos (keywordEach kws X.env)).all (·.1.isSome) = true := by rfl) (hks : (backToKw pos (keywordEach kws X.env)).filterMap (·.1) = ks := by rfl) (hdb : (x == ("__debug__" : Str)) = false := by decide)
    (hpl : ((backTo pos (starEach [] X.env)).any (·.1) || (backToKw pos (keywordEach kws X.env)).any (·.1.isNone)) = false := by rfl) :
    PE X (.Call (.Name x p) [] kws pos) (tMkXK C sp ks.length gV tk) := by
  refine ⟨fun pins s σ H Q I h => ?_⟩
  refine wpAny_Call_Name_kw (ld_glob I hg hm ?_ hdb)
  refine W.callWith_KW0 (h₀ := X.base) I.ok.mod.kin T.kp hall ?_ hpl
  refine thn (hkw.run pos pins s σ H _ I h) fun ws s2 ⟨zs, H2, I2, rz, l2, q2⟩ => ⟨I2.kIn, ?_⟩
  rw [hks]
  exact run_mkX (us := []) T F hr hx I2 (Nat.zero_le _) (hb.rel rz) (fun a s' K' => hb.to s' a ws K' (rz.length.symm.trans l2)) q2
/-- self.f = e in an __init__ of such a class -/
def tPutX (K : W.Frag) (f : Str) (to te : TE) : TS := fun D σ H => te σ H fun y H1 => to σ H1 fun x H2 => ∃ (a C fI : Addr) (b : EB), x = .ref a ∧ EC K C fI b ∧ W.findIn K (.ref C) f = some none ∧
  ((H2 a = some (exo a C none) ∧ ∀ dx, H2 dx = none → dx ≠ a → D.nx σ (upd (upd H2 dx (exd dx [(f, y)])) a (exo a C (some dx)))) ∨
    ∃ (dx : Addr) (fs : List (Str × V)), H2 a = some (exo a C (some dx)) ∧ H2 dx = some (exd dx fs) ∧ fs.length ≤ 900 ∧ D.nx σ (upd H2 dx (exd dx ((f, y) :: fs))))
section
variable {pins : List (Addr × Obj)} {σ : St} {H : Hp} {s : Shared} {a dx : Addr} {y : V} {u : Value} {fs : List (Str × V)} {Q : Unit → Shared → Prop} {E : Value → Shared → Prop} {A : Around}
theorem putX_first (T : EC X.K C fI b) (I : Inv X pins σ H s) (e : H a = some (exo a C none)) (hno : W.findIn X.K (.ref C) f = some none) (ry : RelV y u)
    (h : ∀ dx s', H dx = none → dx ≠ a → Inv X pins σ (upd (upd H dx (exd dx [(f, y)])) a (exo a C (some dx))) s' → Q () s') : wpAny (model X.prog X.w) A (setAttr (.ref a) f u) Q E s := by
  obtain ⟨cd, hcl, hm, hd⟩ := T.cd
  obtain ⟨t1, ho⟩ := exo_at I.hok e
  obtain ⟨hp, g, d, t, os⟩ := s
  refine W.set_plain I.kIn (ox := { cls := .ref C, dict := none, data := .fields #[.ref t1, .none, .none, .none, .bool false, .none] }) (od := none) ⟨ho, rfl, rfl, trivial⟩ T.sa ?_
  refine put_first I.kIn ho hcl hm hd hno (fun h' tk' dx k dn dne hx hn => ?_)
  have hnd : H dx = none := I.hok.fresh dn
  have nd : ∀ {c : Addr} {o : Obj}, hp.get? c = some o → c ≠ dx := fun {c o} q => Nat.ne_of_lt (Nat.lt_of_lt_of_le (Heap.lt_size q) dn)
  have na : ∀ {c : Addr}, H c = none → c ≠ a := fun {c} n z => by
    rw [z, e] at n
    cases n
  have U : Un X.fs [] H (upd (upd H dx (exd dx [(f, y)])) a (exo a C (some dx))) hp h' := {
    keep := fun c o q n _ _ => k c o (na n) q
    slot := fun c o q n _ _ => ⟨o.slots, k c o (na n) q⟩
    free := fun c o q n _ => by
      rw [upd_ne (na n), upd_ne (nd q)]
      exact n
    there := fun c o q _ => by
      by_cases hc : c = a
      · exact ⟨_, by rw [hc]; exact hx⟩
      · exact ⟨o, k c o hc q⟩
    tups := fun c xs q => by
      rw [upd_ne (at_ne e q exo_tup), upd_ne (ne_of_none q hnd)]
      exact q
    frzs := fun c o v q => by
      rw [upd_ne (at_ne e q exo_frz), upd_ne (ne_of_none q hnd)]
      exact q
    tbls := fun c ps q => ⟨#[], by rw [upd_ne (at_ne e q exo_tbl), upd_ne (ne_of_none q hnd), q]; simp⟩ }
  refine h dx _ hnd dne (I.un (t' := tk') U fun c o q => ?_)
  by_cases hc : c = a
  · subst hc
    rw [upd_same] at q
    cases q
    exact exo_ok hx
  · rw [upd_ne hc] at q
    by_cases hd : c = dx
    · subst hd
      rw [upd_same] at q
      cases q
      exact exd_ok hn (relO_put (fs := []) ry fun g => True.intro)
    · rw [upd_ne hd] at q
      refine (I.hok c o q).stay (fun c2 v hc2 z => k c2 v ?_ z) (fun c2 hc2 => ?_) (fun c2 xs hc2 => ?_)
      · rcases hc2 with z2 | z2
        · rw [z2]
          exact hc
        · exact at_ne e z2 exo_own
      · rw [upd_ne (at_ne e hc2 exo_own), upd_ne (ne_of_none hc2 hnd)]
        exact hc2
      · rw [upd_ne (at_ne e hc2 exo_tup), upd_ne (ne_of_none hc2 hnd)]
        exact hc2
theorem putX_more (T : EC X.K C fI b) (I : Inv X pins σ H s) (e : H a = some (exo a C (some dx))) (ed : H dx = some (exd dx fs)) (hl : fs.length ≤ 900) (hno : W.findIn X.K (.ref C) f = some none) (ry : RelV y u)
    (h : ∀ s', Inv X pins σ (upd H dx (exd dx ((f, y) :: fs))) s' → Q () s') : wpAny (model X.prog X.w) A (setAttr (.ref a) f u) Q E s := by
  obtain ⟨cd, hcl, hm, hd⟩ := T.cd
  obtain ⟨t1, ho⟩ := exo_at I.hok e
  obtain ⟨mA, hns, rel⟩ := exd_at I.hok ed
  have hw := within_of rel
  obtain ⟨hp, g, d, t, os⟩ := s
  obtain ⟨oD, _, _, hoD, _, _⟩ := hns.count hw
  refine W.set_plain I.kIn (ox := { cls := .ref C, dict := some dx, data := .fields #[.ref t1, .none, .none, .none, .bool false, .none] }) (od := some oD) ⟨ho, rfl, rfl, hoD⟩ T.sa ?_
  refine put_more I.kIn ho hns hw (by rw [List.length_map]; omega) hcl hm hd hno (fun h' tk' k hn => ?_)
  obtain ⟨o1, _, _, e1, _⟩ := id hn
  exact h _ (I.write (t' := tk') (x := dx) (e := dx) (o := exd dx ((f, y) :: fs)) (by rw [ed]; exact True.intro) (.inl rfl) k ⟨o1, e1⟩ (exd_ok hn (relO_put ry rel)))
end
theorem ps_putX (ho : PE X o to) (he : PE X e te) (hs : swapsWith e (some (.Attribute o f p')) pos.line X.env = pure false := by rfl) : PS X (.Assign [.Attribute o f p'] e pos) (tPutX X.K f to te) := by
  refine ⟨fun pins s σ H D I h => ?_⟩
  refine plainObj_wpAny_Assign_Attribute (thn (he.run pins s σ H _ I h) fun v s1 ⟨y, H1, I1, r1, q1⟩ => thn (ho.run pins s1 σ H1 _ I1 q1) fun u s2 ⟨x, H2, I2, r2, a, C, fI, b, ex, T, hno, q⟩ => ?_) hs
  subst ex
  obtain rfl : u = Value.ref a := r2
  rcases q with ⟨ea, q⟩ | ⟨dx, fs, ea, ed, hl, q⟩
  · exact putX_first T I2 ea hno r1 fun dx s' n ne J => ⟨σ, _, J, q dx n ne⟩
  · exact putX_more T I2 ea ed hl hno r1 fun s' J => ⟨σ, _, J, q⟩
theorem xat_inst {pins : List (Addr × Obj)} {σ : St} {H : Hp} {s : Shared} {a : Addr} {fs : List (Str × V)} (I : Inv X pins σ H s) (h : XAt H a C fs) :
    ∃ (ox od : Obj) (d : Addr) (mA : Str → Option Value), W.InstAt s.heap a ox C (some od) ∧ s.heap.get? d = some od ∧ s.heap.Ns1 d mA ∧ ∀ g, RelO (fs.lookup g) (mA g) := by
  obtain ⟨d, e1, e2⟩ := h
  obtain ⟨t1, ho⟩ := exo_at I.hok e1
  obtain ⟨mA, hns, rel⟩ := exd_at I.hok e2
  obtain ⟨oD, _, _, hoD, _, _⟩ := hns.count (within_of rel)
  exact ⟨_, oD, d, mA, ⟨ho, rfl, rfl, hoD⟩, hoD, hns, rel⟩
/-- isinstance(e, c), e an error that is held as a value -/
def rIsX (K : W.Frag) : List V → Hp → VK → Prop := fun xs H Q => ∃ (a C fI : Addr) (b : EB) (fs : List (Str × V)) (c : V) (u : Value) (r : Bool), xs = [.ref a, c] ∧ XAt H a C fs ∧ EC K C fI b ∧ ClsV c u ∧ W.kitOne K (.ref C) u = some r ∧ Q (.bl r) H
theorem call_isX : CallR X (.builtin "isinstance") (rIsX X.K) := by
  intro pins s σ H xs us Q I r h
  obtain ⟨a, C, fI, b, fs, c, u, z, rfl, hx, T, k, e, q⟩ := h
  obtain ⟨u1, u2, rfl, r1, r2⟩ := vals2 r
  cases (show u1 = Value.ref a from r1)
  have e2 := k.eq r2
  subst e2
  obtain ⟨ox, od, d, mA, J, _⟩ := xat_inst I hx
  exact W.kia_one (W.kitx_exc T.isc T.ga T.gg T.base T.cl T.gs T.tk T.isob) I.kIn J e (fun z => nomatch z) fun tk => ⟨.bl z, H, I.tok tk, rfl, q⟩
/-- e.f, e an error that is held as a value -/
def tGetX (K : W.Frag) (f : Str) (te : TE) : TE := fun σ H Q => te σ H fun x H1 => ∃ (a C fI : Addr) (b : EB) (fs : List (Str × V)) (v : V), x = .ref a ∧ XAt H1 a C fs ∧ EC K C fI b ∧ W.findIn K (.ref C) f = some none ∧ fs.lookup f = some v ∧ Q v H1
theorem pe_getX (he : PE X e te) (hb : attributeBase e f X.env (eval e X.env) = eval e X.env := by rfl) : PE X (.Attribute e f pos) (tGetX X.K f te) := by
  refine ⟨fun pins s σ H Q I h => ?_⟩
  refine attr_of hb (thn (he.run pins s σ H _ I h) fun u s1 hh => ?_)
  obtain ⟨x, H1, I1, rx, a, C, fI, b, fs, v, ex, hx, T, hno, l, q⟩ := hh
  subst ex
  obtain rfl : u = Value.ref a := rx
  obtain ⟨ox, od, d, mA, J, hd, hns, hr⟩ := xat_inst I1 hx
  obtain ⟨od2, ho, hl⟩ := lookIn_ns hns
  rw [hd] at ho
  cases ho
  obtain ⟨u, hu, ru⟩ := RelO.some_of (v := v) (o := mA f) (by rw [← l]; exact hr f)
  exact HandSPX.exc_get I1.kIn J T.ga T.gg T.base (W.findObj_own T.hd hno rfl (by rw [hl, hu])) (handed_of ru) ⟨v, H1, I1.tok _, ru, q⟩
end
end L2.Mb
set_option maxRecDepth 100000
set_option maxHeartbeats 4000000
namespace L2.Mb
open PySem PySem.Spec PyProof.Rows Mx
/-! ### promises where no repr is under way -/
/-- no repr of a container runs around -/
abbrev Gd (A : Around) : Prop := A.guards = some []
theorem gd_deeper {A : Around} {env : Env} (h : Gd A) : Gd (A.deeper env) := h
structure FnG (P : Program) (w : World) (K : W.Frag) (mg : Str → Option Value) (base : Heap) (CX : CXT) (k : Nat) (f : Addr) (fd : FuncData) (ps : List Str) (sp : Sp) : Prop where
  len : ∀ vs H Q E, sp vs H Q E → vs.length = ps.length
  run : ∀ (A : Around) (outer : List Env) (s : Shared) (H : Hp) (args : Args) (us : List Value) (vs : List V) (Q : VK) (E : XK), Gd A → Room k A → Env0 P w K mg base A outer s H →
    BindsTo s fd args (ps.zip us) → Vals vs us → sp vs H Q E → codeAny (model P w) A (.call (.ref f) args) (CR CX outer P w H s Q E) s
section
variable {P : Program} {w : World} {K : W.Frag} {mg : Str → Option Value} {base : Heap} {CX : CXT} {k : Nat} {f : Addr} {fd : FuncData} {ps : List Str} {sp : Sp}
theorem FnG.of (F : FnOk P w K mg base CX k f fd ps sp) : FnG P w K mg base CX k f fd ps sp :=
  ⟨F.len, fun A outer s H args us vs Q E _ hr e hb hv hs => F.run A outer s H args us vs Q E hr e hb hv hs⟩
theorem FnG.mono {j : Nat} (F : FnG P w K mg base CX j f fd ps sp) (h : j ≤ k) : FnG P w K mg base CX k f fd ps sp :=
  ⟨F.len, fun A outer s H args us vs Q E hg hr => F.run A outer s H args us vs Q E hg (hr.mono h)⟩
theorem FnG.imp {sp' : Sp} (F : FnG P w K mg base CX k f fd ps sp) (h : ∀ vs H Q E, sp' vs H Q E → sp vs H Q E) : FnG P w K mg base CX k f fd ps sp' :=
  ⟨fun vs H Q E q => F.len vs H Q E (h _ _ _ _ q), fun A outer s H args us vs Q E hg hr he hb hv hs => F.run A outer s H args us vs Q E hg hr he hb hv (h _ _ _ _ hs)⟩
end
/-- a def by its body -/
theorem fng_of {CX : CXT} {P : Program} {w : World} {K : W.Frag} {mg : Str → Option Value} {base : Heap} {k : Nat} {f : Addr} {name qual : Str} {params : Arguments} {body : List Stmt} {scope : Scope} {dV kV doc pm cdv ct oc : Value} {an od : Option Addr}
    {osl : Array (Option Value)} {N ps : List Str} {sp : Sp} (lk : K.lookup f = some ⟨oc, od, .func (W.fnOf name qual params body scope dV kV doc pm an cdv ct), osl⟩) (hcd : W.codeIn K cdv qual = true) (S : FnScope N ps scope)
    (len : ∀ vs H Q E, sp vs H Q E → vs.length = ps.length)
    (hbody : ∀ (A : Around) (outer : List Env) (s : Shared) (H : Hp) (vs : List V) (Q : VK) (E : XK), Gd (A.deeper (envOfC qual scope s.heap.objs.size f cdv)) → Room k (A.deeper (envOfC qual scope s.heap.objs.size f cdv)) → sp vs H Q E →
      ∃ t, PSs (cxOf CX P w K mg base N qual scope f cdv A outer s H E) body t ∧ t { nx := fun _ H' => Q .non H', rt := Q } (start N vs) H) :
    FnG P w K mg base CX (k + 1) f (W.fnOf name qual params body scope dV kV doc pm an cdv ct) ps sp := by
  refine ⟨len, fun A outer s H args us vs Q E gd hr e0 hb r hsp => ?_⟩
  have hl := len _ _ _ _ hsp
  have kept : ∀ c o, base.get? c = some o → s.heap.get? c = some o := fun c o e => (e0.bs c o e).1
  have KX : K.In s.heap := e0.mod.kin.keeps kept
  have lim : s.heap.NoLimit := e0.mod.nolimit.keeps kept
  have kinds : ∀ y ∈ ps.zip us, scope.names.lookup y.1 = some .local ∨ (scope.names.lookup y.1 = some .cell ∧ ((cellsFrom (s.heap.objs.size + 1) scope.names []).lookup y.1).isSome = true) := fun ⟨n, v⟩ hy => by
    cases S.par n (List.of_mem_zip hy).1 with
    | inl q => exact .inl q
    | inr q => exact .inr ⟨q, W.cellsFrom_some _ _ _ (.inl q)⟩
  refine codeAny_call_function hr.depth (KX _ _ lk) rfl S.co S.gen rfl (W.codeRec_of KX hcd) (hb _ _ _ _ ?_)
  refine wpAny_newFunctionEnv_cells S.kind kinds fun env he s1 x => ?_
  subst he
  refine ⟨lim.keeps x.toInCall.keep, codeAny_func ?_⟩
  obtain ⟨t, ht, hq⟩ := hbody A outer s H vs Q E (gd_deeper gd) (hr.deeper _) hsp
  have I := inv_start (CX := CX) (E := E) S hr.hd e0 hl r x
  have back : ∀ {σ' : L2.St} {H' : Hp} {v : V} {u : Value} {s' : Shared}, Inv (cxOf CX P w K mg base N qual scope f cdv A outer s H E) [] σ' H' s' → RelV v u → Q v H' → CE outer P w H s Q u s' :=
    fun {σ' H' v u s'} J rv q => ⟨v, H', J.os, J.bare, J.base, J.hok, rv, q⟩
  refine wpAny_mono (ht.run [] s1 (start N vs) H _ I hq) (fun fl s' hs => ?_) fun e s' hs => hs
  cases fl with
  | ret u =>
    obtain ⟨v, σ', H', J, rv, q⟩ := hs
    exact back J rv q
  | next =>
    obtain ⟨σ', H', J, q⟩ := hs
    exact back (v := V.non) (u := Value.none) J rfl q
  | brk => exact (hs.elim fun _ z => z.elim fun _ z => z.elim fun _ z => False.elim z)
  | cont => exact (hs.elim fun _ z => z.elim fun _ z => z.elim fun _ z => False.elim z)
theorem fund_okG {P : Program} {w : World} {K : W.Frag} {mg : Str → Option Value} {base : Heap} {x qual : Str} {params : Arguments} {body : List Stmt} {scope : Scope} {dvs : List V} {kws : List (Str × V)} {f : Addr} {fd : FuncData} {CX : CXT} {N ps : List Str} {k : Nat} {sp : Sp}
    (F : FunD K x qual params body scope dvs kws f fd) (S : FnScope N ps scope) (len : ∀ vs H Q E, sp vs H Q E → vs.length = ps.length)
    (hbody : ∀ (cdv : Value) (A : Around) (outer : List Env) (s : Shared) (H : Hp) (vs : List V) (Q : VK) (E : XK), Gd (A.deeper (envOfC qual scope s.heap.objs.size f cdv)) → Room k (A.deeper (envOfC qual scope s.heap.objs.size f cdv)) → sp vs H Q E →
      ∃ t, PSs (cxOf CX P w K mg base N qual scope f cdv A outer s H E) body t ∧ t { nx := fun _ H' => Q .non H', rt := Q } (start N vs) H) : FnG P w K mg base CX (k + 1) f fd ps sp := by
  obtain ⟨oc, od, dV, kV, doc, pm, an, cdv, ct, osl, rfl, lk, hcd, _, _⟩ := F.ex
  exact fng_of lk hcd S len fun A outer s H vs Q E hg hr hsp => hbody cdv A outer s H vs Q E hg hr hsp
/-! ### calls -/
section
variable {X : Cx} {CX : CXT} {k : Nat} {f C : Addr} {fd : FuncData} {ps : List Str} {sp : Sp} {dvs : List V} {ds : List Value} {E : XK} {x m : Str} {p pos apos : Pos} {e o : Expr} {es : List Expr} {ta : TE} {t : TA}
theorem run_fnG {pins : List (Addr × Obj)} {σ : L2.St} {H : Hp} {s : Shared} {Q : VK} {us : List Value} {vs : List V} (gd : Gd X.A) (F : FnG X.prog X.w X.K X.mg X.base CX k f fd ps sp) (hr : Room k X.A) (hb : Binds X.K fd ps ds) (hd : Vals dvs ds) (hx : Passes CX X E)
    (I : Inv X pins σ H s) (r : Vals vs us) (h : sp (vs ++ dvs) H Q E) : wpAny (model X.prog X.w) X.A (call (.ref f) us) (EP X pins σ Q) X.xe s := by
  have r2 : Vals (vs ++ dvs) (us ++ ds) := r.append hd
  have hl : (us ++ ds).length = ps.length := by
    rw [← r2.length]
    exact F.len _ _ _ _ h
  refine wpAny_call (codeAny_mono (F.run X.A X.stack s H ⟨us, []⟩ (us ++ ds) (vs ++ dvs) Q E gd hr I.env0 (hb s us I.kIn hl) r2 h) fun r s' hq => ?_)
  cases r with
  | error er => exact (hx pins σ H s er s' I hq)
  | ok fl =>
    cases fl with
    | ret u => exact (I.after hq)
    | next => exact (False.elim hq)
    | brk => exact (False.elim hq)
    | cont => exact (False.elim hq)
theorem pe_callG (gd : Gd X.A) (F : FnG X.prog X.w X.K X.mg X.base CX k f fd ps sp) (hr : Room k X.A) (hg : Gl X x) (hm : X.mg x = some (.ref f)) (hk : W.keepIn X.K (.ref f) = true) (hb : Binds X.K fd ps ds) (hd : Vals dvs ds) (hx : Passes CX X E)
    (ha : PA X (e :: es) t) (hdb : (x == ("__debug__" : Str)) = false := by decide) (he : starEach (e :: es) X.env = (false, eval e X.env) :: starEach es X.env := by rfl) (hpl : (backTo pos (starEach es X.env)).any (·.1) = false := by rfl) :
    PE X (.Call (.Name x p) (e :: es) [] pos) (tCall sp dvs E t) :=
  ⟨fun pins s σ H Q I h => wpAny_Call_Name_kw (ld_glob I hg hm
    (W.callWith_K (h₀ := X.base) I.ok.mod.kin hk (thn (ha.run pos pins s σ H _ I h) fun us s1 ⟨vs, H1, I1, r, q⟩ => ⟨I1.kIn, run_fnG gd F hr hb hd hx I1 r q⟩) he hpl) hdb)⟩
theorem pe_callG0 (gd : Gd X.A) (F : FnG X.prog X.w X.K X.mg X.base CX k f fd ps sp) (hr : Room k X.A) (hg : Gl X x) (hm : X.mg x = some (.ref f)) (hk : W.keepIn X.K (.ref f) = true) (hb : Binds X.K fd ps ds) (hd : Vals dvs ds) (hx : Passes CX X E)
    (hdb : (x == ("__debug__" : Str)) = false := by decide) : PE X (.Call (.Name x p) [] [] pos) (tCall sp dvs E tNil) :=
  ⟨fun pins s σ H Q I h => wpAny_Call_Name_kw (ld_glob I hg hm (W.callWith_K0 I.kIn hk (run_fnG (us := []) gd F hr hb hd hx I .nil h)) hdb)⟩
end
/-! ### data: what a value says, dicts too -/
def keyD : Key → PyData
  | .inl i => .int i
  | .inr x => .str x
mutual
inductive Dq (K : W.Frag) (H : Hp) : V → PyData → Prop
  | non : Dq K H .non .none
  | bl (b : Bool) : Dq K H (.bl b) (.bool b)
  | int (i : Int) : Dq K H (.int i) (.int i)
  | str (x : Str) : Dq K H (.str x) (.str x)
  | lst {a : Addr} {xs : List V} {ds : List PyData} : SqL K H a xs → DqAll K H xs ds → Dq K H (.ref a) (.list ds)
  | tup {a : Addr} {xs : List V} {ds : List PyData} : SqT K H a xs → DqAll K H xs ds → Dq K H (.ref a) (.tuple ds)
  | dct {a : Addr} {ks : List Key} {xs : List V} {ds : List PyData} : H a = some (.dK (ks.zip xs)) → ks.length = xs.length → DqAll K H xs ds → Dq K H (.ref a) (.dict ((ks.map keyD).zip ds))
inductive DqAll (K : W.Frag) (H : Hp) : List V → List PyData → Prop
  | nil : DqAll K H [] []
  | cons {v : V} {vs : List V} {d : PyData} {ds : List PyData} : Dq K H v d → DqAll K H vs ds → DqAll K H (v :: vs) (d :: ds)
end

/-- the interpreter's table of modules is written down, and it is a dict -/
def SysD (K : W.Frag) : Prop := ∃ o, K.lookup sysModules = some o ∧ o.cls = .type "dict"
theorem keys_read {prog : Program} {w : World} {h : Heap} : ∀ {es : List DictEntry} {ks : List Key} {us : List Value}, ks.length = us.length → PySem.Pairs (mixKind prog w) es (ks.zip us) →
    ReadsAll h (es.map (·.key)) (ks.map keyD) [] ∧ es.map (·.val) = us
  | [], ks, us, l, p => by
    cases ks with
    | nil =>
      cases us with
      | nil => exact ⟨.nil, rfl⟩
      | cons _ _ => cases l
    | cons _ _ =>
      cases us with
      | nil => cases l
      | cons _ _ => cases p
  | e :: es, ks, us, l, p => by
    cases ks with
    | nil =>
      cases us with
      | nil => cases p
      | cons _ _ => cases l
    | cons k ks =>
      cases us with
      | nil => cases l
      | cons u us =>
        cases p with
        | cons h1 h2 h3 =>
          obtain ⟨r1, r2⟩ := keys_read (h := h) (Nat.succ.inj l) h3
          refine ⟨?_, ?_⟩
          · rcases keyIs_shape (show keyIs k e.key = true from h1) with ⟨i, t, e1, e2⟩ | ⟨x, t, e1, e2⟩
            · have q : ReadsAll h (e.key :: es.map (·.key)) (keyD k :: ks.map keyD) ([] ++ []) := by
                rw [e1, e2]
                exact .cons (.int i t) r1
              exact q
            · have q : ReadsAll h (e.key :: es.map (·.key)) (keyD k :: ks.map keyD) ([] ++ []) := by
                rw [e1, e2]
                exact .cons (.str x t) r1
              exact q
          · show e.val :: es.map (·.val) = u :: us
            rw [r2, show e.val = u from h2]
theorem kv_split : ∀ {ks : List Key} {xs : List V} {vs : List (Key × Value)}, ks.length = xs.length → KV (ks.zip xs) vs → ∃ us, us.length = xs.length ∧ vs = ks.zip us ∧ Vals xs us
  | [], [], _, _, h => by
    cases h
    exact ⟨[], rfl, rfl, .nil⟩
  | [], _ :: _, _, l, _ => by cases l
  | _ :: _, [], _, l, _ => by cases l
  | k :: ks, x :: xs, vs, l, h => by
    cases h with
    | @cons p q _ qs h1 h2 =>
      obtain ⟨us, e1, e2, e3⟩ := kv_split (Nat.succ.inj l) h2
      obtain ⟨qk, qv⟩ := q
      obtain ⟨a1, a2⟩ := h1
      refine ⟨qv :: us, congrArg Nat.succ e1, ?_, .cons a2 e3⟩
      rw [e2]
      have a1' : k = qk := a1
      rw [a1']
      rfl
section
variable {X : Cx} {pins : List (Addr × Obj)} {σ : L2.St} {H : Hp} {s : Shared}
theorem Dq.reads (sd : SysD X.K) (I : Inv X pins σ H s) {v : V} {d : PyData} (h : Dq X.K H v d) : ∀ u, RelV v u → ∃ as, Reads s.heap u d as ∧ sysModules ∉ as := by
  refine Dq.rec (motive_1 := fun v d _ => ∀ u, RelV v u → ∃ as, Reads s.heap u d as ∧ sysModules ∉ as)
    (motive_2 := fun vs ds _ => ds.length = vs.length ∧ ∀ us, Vals vs us → ∃ as, ReadsAll s.heap us ds as ∧ sysModules ∉ as) ?_ ?_ ?_ ?_ ?_ ?_ ?_ ?_ ?_ h
  · intro u r
    cases r
    exact ⟨_, .none, fun z => nomatch z⟩
  · intro b u r
    cases r
    exact ⟨_, .bool b, fun z => nomatch z⟩
  · intro i u r
    obtain ⟨t, rfl⟩ := r
    exact ⟨_, .int i t, fun z => nomatch z⟩
  · intro x u r
    obtain ⟨t, rfl⟩ := r
    exact ⟨_, .str x t, fun z => nomatch z⟩
  · intro a xs ds hs _ ih u r
    cases r
    obtain ⟨its, rv, ⟨o, n, ho, hc, _, hd⟩, _⟩ := I.list hs
    obtain ⟨as, hr, hn⟩ := ih.2 its rv
    refine ⟨_, .list ho hc hd hr, fun z => ?_⟩
    rcases List.mem_cons.mp z with z | z
    · obtain ⟨o2, q1, q2⟩ := sd
      have q3 := I.kIn _ _ q1
      rw [z, ho] at q3
      have q4 : o = o2 := Option.some.inj q3
      rw [← q4, hc] at q2
      exact absurd (Value.type.inj q2) (by decide)
    · exact hn z
  · intro a xs ds hs _ ih u r
    cases r
    obtain ⟨its, rv, ⟨o, ho, hc, n, hd⟩, _⟩ := I.tuple hs
    obtain ⟨as, hr, hn⟩ := ih.2 its rv
    exact ⟨_, .tuple ho hc hd hr, hn⟩
  · intro a ks xs ds ha hl _ ih u r
    cases r
    obtain ⟨el, hrs⟩ := ih
    obtain ⟨_, ya, vs, ra, o, es, ep, ho, hex, hd, _, hp, _⟩ := (show ObjOk X.prog X.w H s.heap a (.dK (ks.zip xs)) from I.hok a _ ha)
    obtain ⟨us, l1, e1, rv⟩ := kv_split hl ra
    subst e1
    have lk : ks.length = us.length := hl.trans l1.symm
    obtain ⟨k1, k2⟩ := keys_read (h := s.heap) lk hp
    obtain ⟨as, hr, hn⟩ := hrs us rv
    have m1 : (ks.map keyD).length = ds.length := by rw [List.length_map, hl, el]
    refine ⟨a :: [] ++ as, ?_, fun z => ?_⟩
    · refine .dict ho hex.1 hd ?_ ?_
      · rw [show ((ks.map keyD).zip ds).map (·.1) = ks.map keyD from List.map_fst_zip (Nat.le_of_eq m1)]
        exact k1
      · rw [show ((ks.map keyD).zip ds).map (·.2) = ds from List.map_snd_zip (Nat.le_of_eq m1.symm), k2]
        exact hr
    · rcases List.mem_cons.mp z with z | z
      · rw [← z] at ya
        simp at ya
      · exact hn z
  · exact ⟨rfl, fun us r => by
      cases r
      exact ⟨_, .nil, fun z => nomatch z⟩⟩
  · intro v vs d ds _ _ ih1 ih2
    refine ⟨congrArg Nat.succ ih2.1, fun us r => ?_⟩
    cases r with
    | cons r1 r2 =>
      obtain ⟨as, q1, n1⟩ := ih1 _ r1
      obtain ⟨bs, q2, n2⟩ := ih2.2 _ r2
      exact ⟨_, .cons q1 q2, fun z => (List.mem_append.mp z).elim n1 n2⟩
end
/-- what can be shown: short enough, no huge ints, at most 60 deep -/
def okD (d : PyData) : Bool := d.showable && (decide (d.depth ≤ 60) && decide (d.shown.length ≤ sizeLine))
section
variable {X : Cx}
/-- repr(x), x a list, a tuple or a dict of data -/
def rRepr (K : W.Frag) : List V → Hp → VK → Prop := fun xs H Q => ∃ (a : Addr) (d : PyData), xs = [.ref a] ∧ Dq K H (.ref a) d ∧ okD d = true ∧ Q (.str d.shown) H
theorem call_repr (gd : Gd X.A) (sd : SysD X.K) (hu : X.A.units + 64 < cLine) : CallR X (.builtin "repr") (rRepr X.K) := by
  intro pins s σ H xs us Q I r h
  obtain ⟨a, d, rfl, hd, ok, q⟩ := h
  obtain ⟨o1, o2⟩ := Bool.and_eq_true_iff.mp ok
  obtain ⟨o3, o4⟩ := Bool.and_eq_true_iff.mp o2
  have dp : d.depth ≤ 60 := of_decide_eq_true o3
  cases r with
  | cons r1 r2 =>
    cases r2
    obtain ⟨as, hr, hn⟩ := hd.reads sd I _ r1
    cases r1
    exact repr_of_reads' hr o1 (fun _ => hn) gd (by omega) (fun _ _ e => e) (fun h' u tk k => ⟨.str d.shown, H, I.kept (t' := tk) k, ⟨u, rfl⟩, q⟩) (of_decide_eq_true o4)
end
end L2.Mb
set_option maxRecDepth 100000
set_option maxHeartbeats 4000000
namespace L2.Mb
open PySem PySem.Spec PyProof.Rows Mx
section
variable {P : Program} {w : World} {K : W.Frag} {mg mb : Str → Option Value} {CX : CXT} {k : Nat} {fa a : Addr} {fd : FuncData} {x : Str} {sp : Sp} {s1 : Shared} {vs : List Value} {ns : List Int}
/-- what the law's call leaves -/
abbrev LawEnd (s1 : Shared) : Result → Shared → Prop := fun r s' => r = .ok (.ret (.bool true)) ∧ OldK s1.heap s'.heap ∧ s'.os = s1.os ∧ AllBare s'.gens
theorem lawG_core {H : Hp} {V0 : Array Value} (KX : K.In s1.heap) (hns : s1.heap.Ns mainGlobals mg) (hb : s1.heap.Ns builtinsNs mb) (hbb : ∀ x : Str, x ≠ "__name__" → mb x = bootBuiltins x) (hlim : s1.heap.NoLimit) (hg : s1.gens = #[])
    (hr : Room k callerA) (F : ∀ base : Heap, K.In base → base.Ns mainGlobals mg → FnG P w K mg base CX k fa fd [x] sp) (hbind : ∀ (s : Shared) (u : Value), BindsTo s fd ⟨[u], []⟩ [(x, u)])
    (ha : s1.heap.get? a = some { cls := .type "list", data := .seq V0 }) (hO : Only H) (hok : HOk P w H s1.heap) (hA : ∀ c, c ≠ a → H c = none) (hK : H a ≠ none → K.lookup a = none)
    (hsp : sp [.ref a] H (fun v _ => v = .bl true) fun _ _ _ => False) (hCX : ∀ e s', CX [] H s1 (fun _ _ _ => False) e s' → False) :
    codeAny (model P w) callerA (.call (.ref fa) ⟨[.ref a], []⟩) (LawEnd s1) s1 := by
  have keepD : ∀ {c : Addr} {o : Obj} {es : Array DictEntry} {ep : Nat}, s1.heap.get? c = some o → o.data = .dict es ep → H c = none := fun {c o es ep} e d => by
    by_cases q : c = a
    · rw [q, ha] at e
      cases e
      cases d
    · exact hA c q
  have nsH : ∀ {c : Addr} {m : Str → Option Value}, s1.heap.Ns c m → (hidT s1.heap H).Ns c m := fun {c m} z => by
    obtain ⟨o, es, ep, e, d, r⟩ := z
    exact ⟨o, es, ep, hidT_get e (keepD e d), d, r⟩
  have KH : K.In (hidT s1.heap H) := fun c o e => by
    refine hidT_get (KX c o e) ?_
    by_cases q : c = a
    · cases z : H c with
      | none => rfl
      | some u =>
        have y := hK (by rw [← q, z]; exact fun t => nomatch t)
        rw [q, y] at e
        cases e
    · exact hA c q
  obtain ⟨mc, l1, l2⟩ := hlim
  have M : Mod K mg (hidT s1.heap H) := { kin := KH, glob := nsH hns, blt := ⟨mb, nsH hb, hbb⟩, nolimit := ⟨mc, nsH l1, l2⟩ }
  have e0 : Env0 P w K mg (hidT s1.heap H) callerA [] s1 H := ⟨rfl, M, fun c o e => of_hidT e, Nat.le_of_eq (hidT_size _ _), trivial, (fun c hc => absurd (show c ∈ ([] : List Addr) from hc) (by simp)), hok, .of_eq hg⟩
  have run := (F _ KH (nsH hns)).run callerA [] s1 H ⟨[.ref a], []⟩ [.ref a] [.ref a] _ _ rfl hr e0 (hbind s1 (.ref a)) (.cons rfl .nil) hsp
  refine codeAny_mono run fun r s' h => ?_
  cases r with
  | error e => exact ((hCX e s' h).elim)
  | ok fl =>
    cases fl with
    | next => exact (False.elim h)
    | brk => exact (False.elim h)
    | cont => exact (False.elim h)
    | ret u =>
      obtain ⟨v, H', os, bare, un, hok', rv, q⟩ := h
      have q' : v = .bl true := q
      subst q'
      obtain rfl : u = Value.bool true := rv
      refine ⟨rfl, OldK.of_keep fun c o e => ?_, os, bare⟩
      cases z : H c with
      | none => exact un.keep c o e z (fun y => absurd (show c ∈ ([] : List Addr) from y) (by simp)) (by simp)
      | some u =>
        rcases hO c with y | ⟨ob, xs, y⟩
        · rw [z] at y
          cases y
        · obtain ⟨e1, _⟩ := hok c _ y
          obtain ⟨e2, _⟩ := hok' c _ (un.frzs c ob _ y)
          rw [e] at e1
          cases e1
          exact e2
theorem lawG_call (KX : K.In s1.heap) (hns : s1.heap.Ns mainGlobals mg) (hb : s1.heap.Ns builtinsNs mb) (hbb : ∀ x : Str, x ≠ "__name__" → mb x = bootBuiltins x) (hlim : s1.heap.NoLimit) (hg : s1.gens = #[])
    (ha : s1.heap.get? a = some { cls := .type "list", data := .seq vs.toArray }) (hi : IntsAre vs ns) (hl : ns.length ≤ sizeLine) (hr : Room k callerA)
    (F : ∀ base : Heap, K.In base → base.Ns mainGlobals mg → FnG P w K mg base CX k fa fd [x] sp) (hbind : ∀ (s : Shared) (u : Value), BindsTo s fd ⟨[u], []⟩ [(x, u)])
    (hsp : ∀ H : Hp, Only H → SqL K H a (ns.map V.int) → sp [.ref a] H (fun v _ => v = .bl true) fun _ _ _ => False) (hCX : ∀ H e s', CX [] H s1 (fun _ _ _ => False) e s' → False) :
    codeAny (model P w) callerA (.call (.ref fa) ⟨[.ref a], []⟩) (LawEnd s1) s1 := by
  have rv := vals_ints hi
  have hlen := hi.length
  cases hk : K.lookup a with
  | some o =>
    have e := KX a o hk
    rw [ha] at e
    cases e
    have hO : Only (fun _ => none) := fun _ => .inl rfl
    have hS : SqL K (fun _ => none) a (ns.map V.int) := .inr ⟨_, vs.toArray, _, hk, rfl, rfl, rfl, by rw [List.size_toArray, hlen]; exact hl, by simpa using rv⟩
    exact lawG_core KX hns hb hbb hlim hg hr F hbind ha hO (fun c u z => by cases (show (none : Option HO) = some u from z)) (fun _ _ => rfl) (fun z => absurd rfl z) (hsp _ hO hS) (hCX _)
  | none =>
    let H : Hp := fun c => if c = a then some (.frz { cls := .type "list", data := .seq vs.toArray } (.lst (ns.map V.int))) else none
    have Ha : H a = some (.frz { cls := .type "list", data := .seq vs.toArray } (.lst (ns.map V.int))) := if_pos rfl
    have Hn : ∀ c, c ≠ a → H c = none := fun c hc => if_neg hc
    have hO : Only H := fun c => by
      by_cases hc : c = a
      · exact .inr ⟨_, _, by rw [hc]; exact Ha⟩
      · exact .inl (Hn c hc)
    have hS : SqL K H a (ns.map V.int) := .inl (.inr ⟨_, Ha⟩)
    refine lawG_core KX hns hb hbb hlim hg hr F hbind ha hO (fun c u z => ?_) Hn (fun _ => hk) (hsp _ hO hS) (hCX _)
    by_cases hc : c = a
    · rw [hc, Ha] at z
      cases z
      rw [hc]
      exact ⟨ha, by rw [List.length_map]; exact hl, vs, _, rv, ha⟩
    · rw [Hn c hc] at z
      cases z
end
/-- the law's end over a head that reads facts -/
theorem walkG {l : W.OpenLaw} {n k : Nat} {q : Program} {loose : List Str} {XP : (Str → Option Value) → Heap → Prop} {YP : World → Heap → Prop} {d : DefRec} {CX : CXT} {x : Str}
    (hn : l.most = some n) (hn2 : n ≤ sizeLine) (hdf : d.params.defaults = []) (hr : Room k callerA)
    (F : ∀ (w : World) (mg : Str → Option Value) (fa : Addr) (h : Heap), YP w h → h.Ns mainGlobals mg → mg d.name = some (.ref fa) →
      ∃ (K : W.Frag) (fd : FuncData) (sp : Sp), K.In h ∧ (∀ (s : Shared) (u : Value), BindsTo s fd ⟨[u], []⟩ [(x, u)]) ∧
        (∀ (H : Hp) (a : Addr) (ns : List Int), ns.length ≤ n → Only H → SqL K H a (ns.map V.int) → sp [.ref a] H (fun v _ => v = .bl true) fun _ _ _ => False) ∧
        ∀ base : Heap, K.In base → base.Ns mainGlobals mg → FnG l.prog w K mg base CX k fa fd [x] sp)
    (hCX : ∀ (H : Hp) (s : Shared) (e : Value) (s' : Shared), CX [] H s (fun _ _ _ => False) e s' → False) :
    W.WalkO q loose XP YP l.row.toRowW d [] (fun f vs => PySem.call f vs) := by
  refine Att.attach_call hn hdf fun w s0 s1 mg mb fa o pm cd doc a vs ns G Y ho hd hcd hmg hobj hints hlen hg => ?_
  obtain ⟨K, fd, sp, KX, hb, hsp, hF⟩ := F w mg fa _ Y G.T.g hmg
  exact lawG_call KX G.T.g G.T.b G.T.builtins G.T.nolimit hg hobj hints (Nat.le_trans hlen hn2) hr hF hb (fun H hO hS => hsp H a ns hlen hO hS) fun H e s' => hCX H s1 e s'
end L2.Mb
set_option maxRecDepth 100000
set_option maxHeartbeats 4000000
namespace L2.Mb
open PySem PySem.Spec PyProof.Rows Mx LamX
/-! ### the law's end where lambdas run: tables of code objects, no repr under way -/
/-- an empty table stands at t -/
def Bare (h : Heap) (t : Addr) : Prop := h.get? t = some { cls := .none, data := .fields #[] }
/-- what is known of the module of built-ins -/
def BltMod (mg : Str → Option Value) (h : Heap) : Prop := ∃ (bm : Addr) (ob : Obj), mg "__builtins__" = some (.ref bm) ∧ bm ≠ builtinsNs ∧ h.get? bm = some ob ∧ ob.cls = .type "module" ∧ ob.dict = some builtinsNs ∧ ob.data = .plain
/-- what is tracked at first: the tables, perhaps the script -/
def hpT (a : Addr) (ts : List Addr) (fr : Option HO) : Hp := fun c => if c ∈ ts then some (.tbl #[]) else if c = a then fr else none
section
variable {a : Addr} {ts : List Addr} {fr : Option HO}
theorem hpT_t {c : Addr} (h : c ∈ ts) : hpT a ts fr c = some (.tbl #[]) := if_pos h
theorem hpT_a (h : a ∉ ts) : hpT a ts fr a = fr := (if_neg h).trans (if_pos rfl)
theorem hpT_n {c : Addr} (h : c ∉ ts) (n : c ≠ a) : hpT a ts fr c = none := (if_neg h).trans (if_neg n)
theorem hpT_cases {c : Addr} {u : HO} (h : hpT a ts fr c = some u) : (c ∈ ts ∧ u = .tbl #[]) ∨ (c ∉ ts ∧ c = a ∧ fr = some u) := by
  by_cases m : c ∈ ts
  · rw [hpT_t m] at h
    cases h
    exact .inl ⟨m, rfl⟩
  · by_cases e : c = a
    · subst e
      rw [hpT_a m] at h
      exact .inr ⟨m, rfl, h⟩
    · rw [hpT_n m e] at h
      cases h
end
section
variable {P : Program} {w : World} {K : W.Frag} {mg mb : Str → Option Value} {CX : CXT} {k : Nat} {fa a : Addr} {fd : FuncData} {x : Str} {sp : Sp} {s1 : Shared} {vs : List Value} {ns : List Int} {cs : List (Addr × Addr)}
theorem lawT_core {fr : Option HO} {V0 : Array Value} (KX : K.In s1.heap) (hns : s1.heap.Ns mainGlobals mg) (hb : s1.heap.Ns builtinsNs mb) (hbb : ∀ x : Str, x ≠ "__name__" → mb x = bootBuiltins x) (hlim : s1.heap.NoLimit) (hg : s1.gens = #[])
    (bt : ∀ p ∈ cs, Bare s1.heap p.2) (nk : ∀ p ∈ cs, K.lookup p.2 = none) (cd : ∀ p ∈ cs, W.CodeHd s1.heap p.1 p.2) (bm : BltMod mg s1.heap) (hr : Room k callerA)
    (F : ∀ base : Heap, K.In base → base.Ns mainGlobals mg → (∀ p ∈ cs, TabB base mg p.1 p.2) → FnG P w K mg base CX k fa fd [x] sp) (hbind : ∀ (s : Shared) (u : Value), BindsTo s fd ⟨[u], []⟩ [(x, u)])
    (ha : s1.heap.get? a = some { cls := .type "list", data := .seq V0 }) (hfr : fr = none ∨ (∃ o xs, fr = some (.frz o (.lst xs))) ∧ K.lookup a = none) (hfo : ∀ u, fr = some u → ∀ H : Hp, ObjOk P w H s1.heap a u)
    (hsp : sp [.ref a] (hpT a (cs.map Prod.snd) fr) (fun v _ => v = .bl true) fun _ _ _ => False) (hCX : ∀ e s', CX [] (hpT a (cs.map Prod.snd) fr) s1 (fun _ _ _ => False) e s' → False) :
    codeAny (model P w) callerA (.call (.ref fa) ⟨[.ref a], []⟩) (LawEnd s1) s1 := by
  generalize hts : cs.map Prod.snd = ts at hsp hCX
  have isT : ∀ c ∈ ts, Bare s1.heap c := fun c hc => by
    rw [← hts] at hc
    obtain ⟨p, hp, rfl⟩ := List.mem_map.mp hc
    exact bt p hp
  have notK : ∀ c ∈ ts, K.lookup c = none := fun c hc => by
    rw [← hts] at hc
    obtain ⟨p, hp, rfl⟩ := List.mem_map.mp hc
    exact nk p hp
  have aT : a ∉ ts := fun z => by
    have q := (isT a z).symm.trans ha
    have q2 : Data.fields #[] = Data.seq V0 _ := congrArg Obj.data (Option.some.inj q)
    cases q2
  -- what is neither a list nor an empty table is not tracked
  have free : ∀ {c : Addr} {o : Obj}, s1.heap.get? c = some o → (∀ v n, o.data ≠ .seq v n) → o.data ≠ .fields #[] → hpT a ts fr c = none := fun {c o} e d1 d2 => by
    refine hpT_n (fun m => ?_) fun z => ?_
    · have q := Option.some.inj ((isT c m).symm.trans e)
      exact d2 (by rw [← q])
    · rw [z] at e
      have q := Option.some.inj (ha.symm.trans e)
      exact d1 V0 _ (by rw [← q])
  have nsT : ∀ {c : Addr} {m : Str → Option Value}, s1.heap.Ns c m → (hidT s1.heap (hpT a ts fr)).Ns c m := fun {c m} z => by
    obtain ⟨o, es, ep, e, d, r⟩ := z
    exact ⟨o, es, ep, hidT_get e (free e (fun v n y => by rw [d] at y; cases y) fun y => by rw [d] at y; cases y), d, r⟩
  have KT : K.In (hidT s1.heap (hpT a ts fr)) := fun c o e => by
    refine hidT_get (KX c o e) ?_
    cases z : hpT a ts fr c with
    | none => rfl
    | some u =>
      rcases hpT_cases z with ⟨m, _⟩ | ⟨_, m, hu⟩
      · rw [notK c m] at e
        cases e
      · rcases hfr with y | ⟨_, y⟩
        · rw [y] at hu
          cases hu
        · rw [m, y] at e
          cases e
  have tb : ∀ p ∈ cs, TabB (hidT s1.heap (hpT a ts fr)) mg p.1 p.2 := fun p hp => by
    have b0 := bt p hp
    obtain ⟨go, ge, gp, g1, g2, g3⟩ := hns
    have gT : mainGlobals ≠ p.2 := fun z => by
      rw [z] at g1
      have q := Option.some.inj (b0.symm.trans g1)
      rw [← q] at g2
      cases g2
    refine ⟨?_, ?_, gT⟩
    · obtain ⟨o, us, file, tf, flags, tg, inF, text, tt, e1, c1, c2, c3, rest⟩ := cd p hp
      exact ⟨o, us, file, tf, flags, tg, inF, text, tt, hidT_get e1 (free e1 (fun v n y => by rw [c2] at y; cases y) fun y => by
        rw [c2] at y
        cases y
        simp at c3), c1, c2, c3, rest⟩
    · obtain ⟨m, ob, m1, m2, m3, m4, m5, m6⟩ := bm
      refine ⟨m, ob, m1, m2, fun z => ?_, fun z => ?_, hidT_get m3 (free m3 (fun v n y => by rw [m6] at y; cases y) fun y => by rw [m6] at y; cases y), m4, m5, m6⟩
      · rw [z] at m3
        have q := Option.some.inj (m3.symm.trans g1)
        rw [q, g2] at m6
        cases m6
      · rw [z] at m3
        have q := Option.some.inj (m3.symm.trans b0)
        rw [q] at m6
        cases m6
  have ok : HOk P w (hpT a ts fr) s1.heap := fun c u z => by
    rcases hpT_cases z with ⟨m, rfl⟩ | ⟨_, rfl, hu⟩
    · exact isT c m
    · exact hfo u hu _
  obtain ⟨mc, l1, l2⟩ := hlim
  have M : Mod K mg (hidT s1.heap (hpT a ts fr)) := { kin := KT, glob := nsT hns, blt := ⟨mb, nsT hb, hbb⟩, nolimit := ⟨mc, nsT l1, l2⟩ }
  have e0 : Env0 P w K mg (hidT s1.heap (hpT a ts fr)) callerA [] s1 (hpT a ts fr) := ⟨rfl, M, fun c o e => of_hidT e, Nat.le_of_eq (hidT_size _ _), True.intro, (fun c hc => absurd (show c ∈ ([] : List Addr) from hc) (by simp)), ok, .of_eq hg⟩
  have run := (F _ KT (nsT hns) tb).run callerA [] s1 (hpT a ts fr) ⟨[.ref a], []⟩ [.ref a] [.ref a] _ _ rfl hr e0 (hbind s1 (.ref a)) (.cons rfl .nil) hsp
  refine codeAny_mono run fun r s' h => ?_
  cases r with
  | error e => exact ((hCX e s' h).elim)
  | ok fl =>
    cases fl with
    | next => exact (False.elim h)
    | brk => exact (False.elim h)
    | cont => exact (False.elim h)
    | ret u =>
      obtain ⟨v, H', os, bare, un, hok', rv, q⟩ := h
      have q' : v = .bl true := q
      subst q'
      obtain rfl : u = Value.bool true := rv
      have keep : ∀ c o, c ∉ ts → s1.heap.get? c = some o → s'.heap.get? c = some o := fun c o nt e => by
        cases z : hpT a ts fr c with
        | none => exact un.keep c o e z (fun y => absurd (show c ∈ ([] : List Addr) from y) (by simp)) (by simp)
        | some u =>
          rcases hpT_cases z with ⟨m, _⟩ | ⟨_, rfl, hu⟩
          · exact absurd m nt
          · rcases hfr with y | ⟨⟨ob, xs, y⟩, _⟩
            · rw [y] at hu
              cases hu
            · rw [y] at hu
              cases hu
              obtain ⟨e1, _⟩ := ok c _ z
              obtain ⟨e2, _⟩ := hok' c _ (un.frzs c ob _ z)
              rw [e] at e1
              cases e1
              exact e2
      have more : ∀ p ∈ cs, ∃ us : Array Value, s'.heap.get? p.2 = some { cls := .none, data := .fields us } := fun p hp => by
        obtain ⟨us, z⟩ := un.tbls p.2 #[] (hpT_t (by rw [← hts]; exact List.mem_map.mpr ⟨p, hp, rfl⟩))
        exact ⟨_, hok' p.2 _ z⟩
      refine ⟨rfl, { old := fun c o e => ?_, there := fun c o e => ?_ }, os, bare⟩
      · by_cases m : c ∈ ts
        · rw [← hts] at m
          obtain ⟨p, hp, rfl⟩ := List.mem_map.mp m
          obtain ⟨us, hus⟩ := more p hp
          have b0 := bt p hp
          obtain rfl := Option.some.inj (b0.symm.trans e)
          exact .inr (.inl ⟨((cd p hp).tab b0).isCodeTable, rfl, #[], us, rfl, hus.trans (by rw [Array.empty_append])⟩)
        · exact .inl (keep c o m e)
      · by_cases m : c ∈ ts
        · rw [← hts] at m
          obtain ⟨p, hp, rfl⟩ := List.mem_map.mp m
          obtain ⟨us, hus⟩ := more p hp
          exact ⟨_, hus⟩
        · exact ⟨o, keep c o m e⟩
theorem lawT_call (KX : K.In s1.heap) (hns : s1.heap.Ns mainGlobals mg) (hb : s1.heap.Ns builtinsNs mb) (hbb : ∀ x : Str, x ≠ "__name__" → mb x = bootBuiltins x) (hlim : s1.heap.NoLimit) (hg : s1.gens = #[])
    (bt : ∀ p ∈ cs, Bare s1.heap p.2) (nk : ∀ p ∈ cs, K.lookup p.2 = none) (cd : ∀ p ∈ cs, W.CodeHd s1.heap p.1 p.2) (bm : BltMod mg s1.heap)
    (ha : s1.heap.get? a = some { cls := .type "list", data := .seq vs.toArray }) (hi : IntsAre vs ns) (hl : ns.length ≤ sizeLine) (hr : Room k callerA)
    (F : ∀ base : Heap, K.In base → base.Ns mainGlobals mg → (∀ p ∈ cs, TabB base mg p.1 p.2) → FnG P w K mg base CX k fa fd [x] sp) (hbind : ∀ (s : Shared) (u : Value), BindsTo s fd ⟨[u], []⟩ [(x, u)])
    (hsp : ∀ H : Hp, (∀ p ∈ cs, H p.2 = some (.tbl #[])) → SqL K H a (ns.map V.int) → sp [.ref a] H (fun v _ => v = .bl true) fun _ _ _ => False) (hCX : ∀ H e s', CX [] H s1 (fun _ _ _ => False) e s' → False) :
    codeAny (model P w) callerA (.call (.ref fa) ⟨[.ref a], []⟩) (LawEnd s1) s1 := by
  have rv := vals_ints hi
  have hlen := hi.length
  have aT : a ∉ cs.map Prod.snd := fun z => by
    obtain ⟨p, hp, e⟩ := List.mem_map.mp z
    have q := bt p hp
    rw [e] at q
    have q2 := (q.symm.trans ha)
    have q3 : Data.fields #[] = Data.seq vs.toArray _ := congrArg Obj.data (Option.some.inj q2)
    cases q3
  have ht : ∀ (fr : Option HO) (p), p ∈ cs → hpT a (cs.map Prod.snd) fr p.2 = some (.tbl #[]) := fun fr p hp => hpT_t (List.mem_map.mpr ⟨p, hp, rfl⟩)
  cases hk : K.lookup a with
  | some o =>
    have e := KX a o hk
    rw [ha] at e
    cases e
    have hS : SqL K (hpT a (cs.map Prod.snd) none) a (ns.map V.int) := .inr ⟨_, vs.toArray, _, hk, rfl, rfl, rfl, by rw [List.size_toArray, hlen]; exact hl, by simpa using rv⟩
    exact lawT_core (fr := none) KX hns hb hbb hlim hg bt nk cd bm hr F hbind ha (.inl rfl) (fun u z => by cases z) (hsp _ (ht _) hS) (hCX _)
  | none =>
    have hS : SqL K (hpT a (cs.map Prod.snd) (some (.frz { cls := .type "list", data := .seq vs.toArray } (.lst (ns.map V.int))))) a (ns.map V.int) := .inl (.inr ⟨_, hpT_a aT⟩)
    refine lawT_core KX hns hb hbb hlim hg bt nk cd bm hr F hbind ha (.inr ⟨⟨_, _, rfl⟩, hk⟩) (fun u z => ?_) (hsp _ (ht _) hS) (hCX _)
    cases z
    exact fun H => ⟨ha, by rw [List.length_map]; exact hl, vs, _, rv, ha⟩
end
/-- the law's end over a head that reads facts, with tables -/
theorem walkT {l : W.OpenLaw} {n k : Nat} {q : Program} {loose : List Str} {XP : (Str → Option Value) → Heap → Prop} {YP : World → Heap → Prop} {d : DefRec} {CX : CXT} {x : Str}
    (hn : l.most = some n) (hn2 : n ≤ sizeLine) (hdf : d.params.defaults = []) (hr : Room k callerA)
    (F : ∀ (w : World) (mg : Str → Option Value) (fa : Addr) (h : Heap), YP w h → h.Ns mainGlobals mg → mg d.name = some (.ref fa) →
      ∃ (K : W.Frag) (fd : FuncData) (sp : Sp) (cs : List (Addr × Addr)), K.In h ∧ (∀ p ∈ cs, Bare h p.2) ∧ (∀ p ∈ cs, K.lookup p.2 = none) ∧ (∀ p ∈ cs, W.CodeHd h p.1 p.2) ∧ (∀ (s : Shared) (u : Value), BindsTo s fd ⟨[u], []⟩ [(x, u)]) ∧
        (∀ (H : Hp) (a : Addr) (ns : List Int), ns.length ≤ n → (∀ p ∈ cs, H p.2 = some (.tbl #[])) → SqL K H a (ns.map V.int) → sp [.ref a] H (fun v _ => v = .bl true) fun _ _ _ => False) ∧
        ∀ base : Heap, K.In base → base.Ns mainGlobals mg → (∀ p ∈ cs, TabB base mg p.1 p.2) → FnG l.prog w K mg base CX k fa fd [x] sp)
    (hCX : ∀ (H : Hp) (s : Shared) (e : Value) (s' : Shared), CX [] H s (fun _ _ _ => False) e s' → False) :
    W.WalkO q loose XP YP l.row.toRowW d [] (fun f vs => PySem.call f vs) := by
  refine Att.attach_call hn hdf fun w s0 s1 mg mb fa o pm cd doc a vs ns G Y ho hd hcd hmg hobj hints hlen hg => ?_
  obtain ⟨K, fd, sp, cs, KX, bt, nk, ch, hb, hsp, hF⟩ := F w mg fa _ Y G.T.g hmg
  exact lawT_call KX G.T.g G.T.b G.T.builtins G.T.nolimit hg bt nk ch G.T.bmain hobj hints (Nat.le_trans hlen hn2) hr hF hb (fun H hT hS => hsp H a ns hlen hT hS) fun H e s' => hCX H s1 e s'
end L2.Mb
set_option maxRecDepth 100000
set_option maxHeartbeats 4000000
namespace L2.Mb
open PySem PySem.Spec PyProof.Rows Mx

/-! ### an error that was caught and is kept behind its suite -/
/-- the record of a caught error: its class, its dict -/
def exh (a C d : Addr) : HO := .ext fun h => ∃ (o : Obj) (vs : Array Value), h.get? a = some o ∧ o.cls = .ref C ∧ o.dict = some d ∧ o.data = .fields vs
def HAt (H : Hp) (a C : Addr) (fs : List (Str × V)) : Prop := ∃ d, H a = some (exh a C d) ∧ H d = some (.xd fs)
theorem exh_ok {P : Program} {w : World} {H : Hp} {h : Heap} {a C d : Addr} {o : Obj} {vs : Array Value} (e : h.get? a = some o) (c : o.cls = .ref C) (k : o.dict = some d) (f : o.data = .fields vs) : ObjOk P w H h a (exh a C d) :=
  ⟨⟨o, vs, e, c, k, f⟩, ⟨o, e⟩, fun h1 h2 z kk => by
    obtain ⟨o1, v1, e1, r⟩ := z
    exact ⟨o1, v1, kk _ e1, r⟩⟩
section
variable {X : Cx} {pins : List (Addr × Obj)} {σ : St} {H : Hp} {s : Shared}
/-- an object that was made since the def began is looked at from now on -/
theorem inv_know {a : Addr} {o : HO} (I : Inv X pins σ H s) (na : H a = none) (n0 : X.s_0.heap.get? a = none) (nL : a ≠ X.env.locals) (nc : ∀ x c, X.env.cells.lookup x = some c → c ≠ a) (np : ∀ p ∈ X.pn ++ pins, p.1 ≠ a)
    (new : ObjOk X.prog X.w (upd H a o) s.heap a o) : Inv X pins σ (upd H a o) s := by
  have far : ∀ {b : Addr} {u : HO}, H b = some u → b ≠ a := fun e => ne_of_none e na
  refine ⟨I.ok, I.os, I.bare, ⟨I.base.keep, I.base.slot, fun b u e n hx => ?_, I.base.there, fun b xs e => ?_, fun b u v e => ?_, fun b ps e => ?_⟩, I.loc, I.cell, ?_, fun x c e => ?_, fun p hp => ?_, fun b u e => ?_, I.len⟩
  · have hb : b ≠ a := fun z => by
      rw [z, n0] at e
      cases e
    rw [upd_ne hb]
    exact I.base.free b u e n hx
  · have q := I.base.tups b xs e
    rw [upd_ne (far q)]
    exact q
  · have q := I.base.frzs b u v e
    rw [upd_ne (far q)]
    exact q
  · obtain ⟨more, q⟩ := I.base.tbls b ps e
    exact ⟨more, by rw [upd_ne (far q)]; exact q⟩
  · rw [upd_ne (Ne.symm nL)]
    exact I.free
  · rw [upd_ne (nc x c e)]
    exact I.freeC x c e
  · obtain ⟨z1, z2, z3⟩ := I.pin p hp
    exact ⟨z1, by rw [upd_ne (np p hp)]; exact z2, z3⟩
  · by_cases hb : b = a
    · subst hb
      rw [upd_same] at e
      cases e
      exact new
    · rw [upd_ne hb] at e
      refine (I.hok b u e).stay (fun c v _ q => q) (fun c q => ?_) fun c xs q => ?_
      · rw [upd_ne (far q)]
        exact q
      · rw [upd_ne (far q)]
        exact q
theorem unsuiteK {a : Addr} {q : Addr × Obj} {pn' : List (Addr × Obj)} (I : Inv (X.suite a (q :: (X.pn ++ pins))) pn' σ H s) (ok : X.Ok) : Inv X (q :: pins) σ H s :=
  ⟨ok, I.os, I.bare, I.base, I.loc, I.cell, I.free, I.freeC, fun p hp => by
    refine I.pin p (List.mem_append_left _ ?_)
    rcases List.mem_append.mp hp with z | z
    · exact List.mem_cons_of_mem _ (List.mem_append_left _ z)
    · rcases List.mem_cons.mp z with z | z
      · rw [z]
        exact List.mem_cons_self
      · exact List.mem_cons_of_mem _ (List.mem_append_right _ z), I.hok, I.len⟩
theorem flying_kept {B h h' : Heap} {l : List Env} {e : Addr} {Z : Obj → Prop} (x : HandSPX.FlyingZ B l e Z h) (k : ∀ b o, h.get? b = some o → h'.get? b = some o) : HandSPX.FlyingZ B l e Z h' := by
  obtain ⟨k1, k2, k3, oe, vs, T, oT, ts, e1, e2, e3, e4, e5, e6, e7, e8⟩ := x
  exact ⟨fun b o q => k b o (k1 b o q), k2, k3.of_keeps fun b o q _ => ⟨o, k b o q, rfl⟩, oe, vs, T, oT, ts, k _ _ e1, e2, e3, e4, e5, e6, k _ _ e7, e8⟩
end
/-- what 'except (x1, x2, x3) as n' wishes of an error that it catches, behind which the error is kept -/
def wHold (K : W.Frag) (n : Nat) (cs : List Value) (i : Nat) (ts : Addr → Value → Option Addr → TS) (D : Ends) : WX := fun cls d σ H => ∃ C dd, cls = .ref C ∧ d = some dd ∧ W.exmAny K cls cs = some true ∧
  ∀ a, σ.length = n → H a = none → ts a cls d { nx := fun σ' H' => H' a = none → D.nx (σ'.set i none) (upd H' a (exh a C dd)), rt := fun _ _ => False, bk := fun _ _ => False, ct := fun _ _ => False } (σ.set i (some (.ref a))) H
section
variable {X : Cx} {x1 x2 x3 n : Str} {c1 c2 c3 : Value} {i j : Nat} {body suite : List Stmt} {b₀ : Stmt} {p1 p2 p3 pt pos pos' : Pos} {tb : WX → TS} {ts : Addr → Value → Option Addr → TS}
theorem ps_try_hold (hs : X.stack = X.env :: X.outer) (hf : X.env.frame = some X.env.locals) (hx : X.ex = []) (hN : X.N.Nodup) (hi : X.N[i]? = some n) (hln : X.env.kindOf n = some .local) (g1 : Gl X x1) (m1 : X.mg x1 = some c1) (g2 : Gl X x2) (m2 : X.mg x2 = some c2)
    (g3 : Gl X x3) (m3 : X.mg x3 = some c3) (d1 : (x1 == ("__debug__" : Str)) = false) (d2 : (x2 == ("__debug__" : Str)) = false) (d3 : (x3 == ("__debug__" : Str)) = false)
    (hb : ∀ (W : WX) (pn : List (Addr × Obj)) (xe : Value → Shared → Prop), Takes (X.tr pn xe) W → PassesOwn (model X.prog X.w) X.A X.env xe → PSs (X.tr pn xe) body (tb W))
    (hsu : ∀ (a : Addr) (oe : Obj) (cls : Value) (d : Option Addr) (pn : List (Addr × Obj)), Zc cls d oe → (∃ vs, oe.data = .fields vs) → PSs (X.suite a ((a, oe) :: pn)) (b₀ :: suite) (ts a cls d)) :
    PS X (.Try body [.ExceptHandler (some (.Tuple [.Name x1 p1, .Name x2 p2, .Name x3 p3] j pt)) (some n) (b₀ :: suite) pos'] [] [] pos) (fun D σ H => tb (wHold X.K X.N.length [c1, c2, c3] i ts D) D σ H) := by
  refine ⟨fun pins s σ H D I h => ?_⟩
  have ok := I.ok
  have fr : X.A.frames = some (X.env :: X.outer) := by
    rw [ok.frames, hs]
  have hloc : Loc X.env.scope n := .inl hln
  refine wpAny_Try_except ?_
  refine wpAny_mono ((hb (wHold X.K X.N.length [c1, c2, c3] i ts D) (X.pn ++ pins) (fun e sa => wpAny (model X.prog X.w) X.A (noteFrame e X.env) (fun _ sb => wpAny (model X.prog X.w) X.A (setFlight e none) (fun _ sc =>
    wpAny (model X.prog X.w) X.A (handleBy e X.env [.ExceptHandler (some (.Tuple [.Name x1 p1, .Name x2 p2, .Name x3 p3] j pt)) (some n) (b₀ :: suite) pos']) (SP X pins D) X.xe sc) X.xe sb) X.xe sa) (fun u s' xx => ?_) PassesOwn.looking).run [] s σ H D (I.toTry _) h) (fun f s1 hsp => ?_) (fun _ _ z => z)
  · obtain ⟨a, B, sI, pins', σ', H', cls, d, rfl, J', nb, up, sky, na, os, ag, C, dd, rfl, rfl, ha, hyes⟩ := xx
    have J : Inv X pins σ' H' sI := J'.ofTry ok
    have sky2 : Sky B (X.env :: X.outer) a (Zc (.ref C) (some dd)) X.env.locals s'.heap := by
      rw [← hs]
      exact sky
    show wpAny (model X.prog X.w) X.A (noteFrame (.ref a) X.env) _ _ _
    refine Sky.land Zc.steady fr hf sky2 fun hA flA upA => ?_
    have JA : Inv X pins σ' H' { s' with heap := hA } := J.landed nb flA.1 (up.trans upA) os ag
    obtain ⟨oA, vA, eA, zA, dA⟩ := flA.there
    have nfr : a ∉ frs (X.env :: X.outer) := fun hm => by
      obtain ⟨_, o2, e2, nf2⟩ := flA.2.2.1.mem hm
      rw [eA] at e2
      cases e2
      exact nf2 _ dA
    have nL : a ≠ X.env.locals := fun z => nfr (List.mem_filterMap.mpr ⟨X.env, List.mem_cons_self, by rw [hf, z]⟩)
    have nF : a ∉ X.fs := fun hm => by
      obtain ⟨e, he, q⟩ := List.mem_filterMap.mp hm
      exact nfr (List.mem_filterMap.mpr ⟨e, List.mem_cons_of_mem _ he, q⟩)
    have nI : ∀ o, sI.heap.get? a ≠ some o := fun o e => by
      have q := nb a o e (by rw [hs]; exact nfr)
      rw [flA.2.1] at q
      cases q
    have n0 : X.s_0.heap.get? a = none := by
      cases q : X.s_0.heap.get? a with
      | none => rfl
      | some o =>
        obtain ⟨o2, e2⟩ := J.base.there a o q (by rw [hx]; exact List.not_mem_nil)
        exact absurd e2 (nI o2)
    have nc : ∀ x c, X.env.cells.lookup x = some c → c ≠ a := fun x c e z => by
      obtain ⟨_, oc, hoc, _⟩ := J.cell x c e
      rw [z] at hoc
      exact nI _ hoc
    have np : ∀ p ∈ X.pn ++ pins, p.1 ≠ a := fun p hp z => by
      have q := (J.pin p hp).1
      rw [z] at q
      exact nI _ q
    have SA := JA.suite eA dA na nL nF
    refine wpAny_handleBy_cons (codeAny_handlers_test ?_) (by intro q; cases q)
    refine wpAny_Tuple ?_
    refine wpAny_items_cons (ld_glob (X := X.suite a ((a, oA) :: (X.pn ++ pins))) SA g1 m1 ?_ d1)
    refine wpAny_items_cons (ld_glob (X := X.suite a ((a, oA) :: (X.pn ++ pins))) SA g2 m2 ?_ d2)
    refine wpAny_items_cons (ld_glob (X := X.suite a ((a, oA) :: (X.pn ++ pins))) SA g3 m3 ?_ d3)
    refine wpAny_items_nil ⟨by size_fits, ?_⟩
    have kp : ∀ q o, hA.get? q = some o → (hA.push { cls := .type "tuple", data := .seq [c1, c2, c3].toArray }).get? q = some o := fun _ _ z => Heap.get?_push_of_some _ z
    have LT : W.Looks (model X.prog X.w) hA (typeOf (.ref a)) (.ref C) := fun A Q E s k q => wpAny_typeOf_ref (k _ _ eA) (by rw [zA.1]; exact q)
    refine (W.exm_tup3 (M := model X.prog X.w) (JA.kIn.keeps kp) (LT.keeps kp) (Heap.get?_push_size hA rfl) ha).here ?_
    refine codeAny_handlers_suite_as ?_
    have flB := flying_kept flA kp
    have upB : hA.UpToSlots (hA.push { cls := .type "tuple", data := .seq [c1, c2, c3].toArray }) := Heap.UpToSlots.of_keeps kp
    refine HandSPX.lands_againZ flB fun h4 fl4 up4 => ?_
    have J4 : Inv X pins σ' H' { s' with heap := h4 } := J.landed nb fl4.1 (((up.trans upA).trans upB).trans up4) os ag
    obtain ⟨o4, v4, e4, z4, f4⟩ := fl4.there
    have S4 := J4.suite e4 f4 na nL nF
    refine store_ok (X := X.suite a ((a, o4) :: (X.pn ++ pins))) (v := .ref a) S4 hN hi hloc rfl (fun s5 S5 => ?_) (.inr hln)
    refine wpAny_mono ((hsu a o4 (.ref C) (some dd) (X.pn ++ pins) z4 ⟨_, f4⟩).run [] s5 _ H' _ S5 (hyes a J.len na)) (fun f s6 hsp => ?_) (fun _ _ z => False.elim z)
    cases f with
    | next =>
      obtain ⟨σ6, H6, S6, q6⟩ := hsp
      refine gone_ok (unsuiteK S6 ok) hN hi hln fun s7 J7 => ?_
      have e7 := (J7.pin (a, o4) (List.mem_append_right _ List.mem_cons_self)).1
      have u7 := (J7.pin (a, o4) (List.mem_append_right _ List.mem_cons_self)).2.1
      have K7 : Inv X pins (σ6.set i none) H6 s7 := J7.pins_of fun r hr => J7.pin r (List.mem_append_right _ (List.mem_cons_of_mem _ hr))
      exact ⟨_, _, inv_know K7 u7 n0 nL nc np (exh_ok e7 z4.1 z4.2 f4), q6 u7⟩
    | brk =>
      obtain ⟨σ6, H6, S6, q6⟩ := hsp
      exact q6.elim
    | cont =>
      obtain ⟨σ6, H6, S6, q6⟩ := hsp
      exact q6.elim
    | ret u =>
      obtain ⟨v6, σ6, H6, S6, r6, q6⟩ := hsp
      exact q6.elim
  · cases f with
    | next =>
      obtain ⟨σ', H', J', q⟩ := hsp
      exact wpAny_execs_nil ⟨σ', H', J'.ofTry ok, q⟩
    | brk =>
      obtain ⟨σ', H', J', q⟩ := hsp
      exact ⟨σ', H', J'.ofTry ok, q⟩
    | cont =>
      obtain ⟨σ', H', J', q⟩ := hsp
      exact ⟨σ', H', J'.ofTry ok, q⟩
    | ret u =>
      obtain ⟨v, σ', H', J', r, q⟩ := hsp
      exact ⟨v, σ', H', J'.ofTry ok, r, q⟩
end
/-! ### what is asked of it -/
section
variable {X : Cx} {C : Addr} {f : Str} {e : Expr} {te : TE} {pos : Pos} {b : EB} {fI : Addr}
theorem hat_inst {pins : List (Addr × Obj)} {σ : St} {H : Hp} {s : Shared} {a : Addr} {fs : List (Str × V)} (I : Inv X pins σ H s) (h : HAt H a C fs) :
    ∃ (ox od : Obj) (d : Addr) (mA : Str → Option Value), W.InstAt s.heap a ox C (some od) ∧ s.heap.get? d = some od ∧ s.heap.Ns1 d mA ∧ ∀ g, RelO (fs.lookup g) (mA g) := by
  obtain ⟨d, e1, e2⟩ := h
  have z : ObjOk X.prog X.w H s.heap a (.ext fun h => ∃ (o : Obj) (vs : Array Value), h.get? a = some o ∧ o.cls = .ref C ∧ o.dict = some d ∧ o.data = .fields vs) := I.hok a _ e1
  obtain ⟨⟨o, vs, q1, q2, q3, q4⟩, _, _⟩ := z
  have y : ObjOk X.prog X.w H s.heap d (.xd fs) := I.hok d _ e2
  obtain ⟨mA, hns, rel⟩ := y
  obtain ⟨oD, hoD, _⟩ := lookIn_ns hns
  exact ⟨o, oD, d, mA, ⟨q1, q2, by unfold W.notCls; rw [q4] <;> rfl, by rw [q3]; exact hoD⟩, hoD, hns, rel⟩
/-- isinstance(e, c) | isinstance(e, (c, ..)), e such an error -/
def rIsH (K : W.Frag) : List V → Hp → VK → Prop := fun xs H Q => ∃ (a C fI : Addr) (b : EB) (fs : List (Str × V)) (c : V) (r : Bool), xs = [.ref a, c] ∧ HAt H a C fs ∧ EC K C fI b ∧ Q (.bl r) H ∧
  ((∃ u, ClsV c u ∧ W.kitOne K (.ref C) u = some r) ∨ ∃ (tp : Addr) (cs : List V) (us : List Value), c = .ref tp ∧ H tp = some (.tup cs) ∧ Paired ClsV cs us ∧ W.kitAny K (.ref C) us = some r)
theorem call_isH : CallR X (.builtin "isinstance") (rIsH X.K) := by
  intro pins s σ H xs us Q I r h
  obtain ⟨a, C, fI, b, fs, c, z, rfl, hx, T, q, hc⟩ := h
  obtain ⟨u1, u2, rfl, r1, r2⟩ := vals2 r
  cases (show u1 = Value.ref a from r1)
  obtain ⟨ox, od, d, mA, J, _⟩ := hat_inst I hx
  rcases hc with ⟨u, k, e⟩ | ⟨tp, cs, ws, rfl, hT, k, e⟩
  · have e2 := k.eq r2
    subst e2
    exact W.kia_one (W.kitx_exc T.isc T.ga T.gg T.base T.cl T.gs T.tk T.isob) I.kIn J e (fun z => nomatch z) fun tk => ⟨.bl z, H, I.tok tk, rfl, q⟩
  · cases (show u2 = Value.ref tp from r2)
    obtain ⟨_, its, rv, o, h1, h2, n, h3⟩ := (show ObjOk X.prog X.w H s.heap tp (.tup cs) from I.hok tp _ hT)
    have e3 := ClsV.all k rv
    subst e3
    obtain ⟨oc, od2, dt, sl⟩ := o
    simp only at h2 h3
    subst h2 h3
    exact W.kia_tup (W.kitx_exc T.isc T.ga T.gg T.base T.cl T.gs T.tk T.isob) I.kIn J h1 e (fun z => nomatch z) fun tk => ⟨.bl z, H, I.tok tk, rfl, q⟩
/-- e.f of such an error -/
def tGetH (K : W.Frag) (f : Str) (te : TE) : TE := fun σ H Q => te σ H fun x H1 => ∃ (a C fI : Addr) (b : EB) (fs : List (Str × V)) (v : V), x = .ref a ∧ HAt H1 a C fs ∧ EC K C fI b ∧ W.findIn K (.ref C) f = some none ∧ fs.lookup f = some v ∧ Q v H1
theorem pe_getH (he : PE X e te) (hb : attributeBase e f X.env (eval e X.env) = eval e X.env := by rfl) : PE X (.Attribute e f pos) (tGetH X.K f te) := by
  refine ⟨fun pins s σ H Q I h => ?_⟩
  refine attr_of hb (thn (he.run pins s σ H _ I h) fun u s1 hh => ?_)
  obtain ⟨x, H1, I1, rx, a, C, fI, b, fs, v, ex, hx, T, hno, l, q⟩ := hh
  subst ex
  obtain rfl : u = Value.ref a := rx
  obtain ⟨ox, od, d, mA, J, hd, hns, hr⟩ := hat_inst I1 hx
  obtain ⟨od2, ho, hl⟩ := lookIn_ns hns
  rw [hd] at ho
  cases ho
  obtain ⟨u, hu, ru⟩ := RelO.some_of (v := v) (o := mA f) (by rw [← l]; exact hr f)
  exact HandSPX.exc_get I1.kIn J T.ga T.gg T.base (W.findObj_own T.hd hno rfl (by rw [hl, hu])) (handed_of ru) ⟨v, H1, I1.tok _, ru, q⟩
end
/-! ### the own classes over ValueError are raised -/
theorem own_VE (l : List Value) : own .val l = true → HandSPX.refsVE l = true := by
  induction l with
  | nil => exact fun h => by cases h
  | cons v r ih =>
    intro h
    rcases own_cases h with ⟨c, r2, e, h2⟩ | e
    · cases e
      exact ih h2
    · rw [e]
      rfl
theorem EC.oex {K : W.Frag} {C fI : Addr} (T : EC K C fI .val) (ty : W.typeIn K (.ref C) = some (.type "type")) : OexC K C where
  cls := by
    obtain ⟨nm, q, N, bs, bm, sn, sub, ab, col, dd, k0, k1, k2, k3, k5, h, ho⟩ := T.cls
    exact ⟨nm, q, N, bs, bm, sn, sub, ab, col, dd, k0, k1, k2, k3, k5, h, own_VE _ ho⟩
  sa := T.sa
  exC := T.base
  tyC := ty
  kC := T.kp
end L2.Mb
set_option maxRecDepth 100000
set_option maxHeartbeats 4000000
namespace L2.Mb
open PySem PySem.Spec PyProof.Rows Mx
/-! ### str(x), repr(x) of an own instance -/
/-- the own method is asked -/
def rOwn (C : Addr) (sp : Sp) : List V → Hp → VK → Prop := fun xs H Q => ∃ (a dx : Addr) (fs : List (Str × V)), xs = [.ref a] ∧ H a = some (.ins C dx fs) ∧ sp [.ref a] H (fun v H' => (∃ y, v = .str y) ∧ Q v H') (fun _ _ _ => False)
section
variable {X : Cx} {CX : CXT} {k : Nat} {C f : Addr} {fd : FuncData} {p0 : Str} {sp : Sp}
theorem back_str {pins : List (Addr × Obj)} {σ : St} {H : Hp} {s : Shared} {Q : VK} {a : Addr} {A2 : Around} (F : FnOk X.prog X.w X.K X.mg X.base CX k f fd [p0] sp) (hr : Room k A2) (e0 : Env0 X.prog X.w X.K X.mg X.base A2 X.stack s H) (hb : Binds X.K fd [p0] [])
    (hx : Passes CX X (fun _ _ _ => False)) (I : Inv X pins σ H s) (h : sp [.ref a] H (fun v H' => (∃ y, v = .str y) ∧ Q v H') (fun _ _ _ => False)) :
    wpAny (model X.prog X.w) A2 (call (.ref f) [.ref a]) (W.StrBack (EP X pins σ Q)) X.xe s := by
  refine wpAny_call (codeAny_mono (F.run A2 X.stack s H ⟨[.ref a], []⟩ [.ref a] [.ref a] _ _ hr e0 (by
    have z := hb s [.ref a] I.kIn rfl
    simpa using z) (.cons rfl .nil) h) fun r s' hq => ?_)
  cases r with
  | error e => exact hx pins σ H s e s' I hq
  | ok fl =>
    cases fl with
    | ret u =>
      obtain ⟨v, H', J, rv, ⟨y, ey⟩, q⟩ := I.after hq
      subst ey
      obtain ⟨t, et⟩ := rv
      subst et
      exact ⟨.str y, H', J, ⟨t, rfl⟩, q⟩
    | next => exact False.elim hq
    | brk => exact False.elim hq
    | cont => exact False.elim hq
theorem call_strO (F : FnOk X.prog X.w X.K X.mg X.base CX k f fd [p0] sp) (hs : W.findIn X.K (.ref C) "__str__" = some (some (.ref f))) (hf : W.isFn X.K (.ref f) = true) (hb : Binds X.K fd [p0] []) (hx : Passes CX X (fun _ _ _ => False)) (hr : Room (k + 2) X.A) :
    CallR X (.type "str") (rOwn C sp) := by
  intro pins s σ H xs us Q I r h
  obtain ⟨a, dx, fs, rfl, ea, q⟩ := h
  cases r with
  | cons r1 r2 =>
    cases r2
    cases r1
    obtain ⟨mA, O, _⟩ := ins_get I.hok ea
    obtain ⟨od, J, _⟩ := O.look
    exact W.kso_call hr.in1.in1.units0 I.kIn J hs hf (back_str F hr.in1.in1 I.env0.in1.in1 hb hx I q)
theorem call_reprO (F : FnOk X.prog X.w X.K X.mg X.base CX k f fd [p0] sp) (hs : W.findIn X.K (.ref C) "__repr__" = some (some (.ref f))) (hf : W.isFn X.K (.ref f) = true) (hb : Binds X.K fd [p0] []) (hx : Passes CX X (fun _ _ _ => False)) (hr : Room (k + 1) X.A) :
    CallR X (.builtin "repr") (rOwn C sp) := by
  intro pins s σ H xs us Q I r h
  obtain ⟨a, dx, fs, rfl, ea, q⟩ := h
  cases r with
  | cons r1 r2 =>
    cases r2
    cases r1
    obtain ⟨mA, O, _⟩ := ins_get I.hok ea
    obtain ⟨od, J, _⟩ := O.look
    obtain ⟨m, fr⟩ := I.fr
    exact W.repr_K hr.in1.units0 fr I.ok.mod.kin J hs hf (back_str F hr.in1 I.env0.in1 hb hx I q)
end
/-! ### C.m(k = v), a classmethod -/
section
variable {X : Cx} {CX : CXT} {k : Nat} {C p g : Addr} {mc : Value} {fd : FuncData} {ps ks : List Str} {sp : Sp} {E : XK} {o : Expr} {kws : List Keyword} {m : Str} {pos apos : Pos} {ta : TE} {t : TA} {pl : Sem Bool} {gg : List Value → List Value} {gV : List V → List V}
def tCMethK (C : Addr) (sp : Sp) (n : Nat) (gV : List V → List V) (E : XK) (ta : TE) (t : TA) : TE := fun σ H Q => ta σ H fun x H1 => x = .ref C ∧ t σ H1 fun vs H2 => vs.length = n ∧ sp (.ref C :: gV vs) H2 Q E
theorem pe_cmethK (he : PE X o ta) (r : ClX.CRead X.K C mc) (c : ClX.CMet X.K C mc m p g) (F : FnOk X.prog X.w X.K X.mg X.base CX k g fd ps sp) (hb : KwB X.K fd ps ks gg gV) (hr : Room k X.A) (hx : Passes CX X E) (ha : PK X kws t)
    (hall : (backToKw pos (keywordEach kws X.env)).all (·.1.isSome) = true := by rfl) (hks : (backToKw pos (keywordEach kws X.env)).filterMap (·.1) = ks := by rfl)
    (hpl : ((backTo pos (starEach [] X.env)).any (·.1) || (backToKw pos (keywordEach kws X.env)).any (·.1.isNone)) = false := by rfl)
    (ht : eval (.Call (.Attribute o m apos) [] kws pos) X.env = (do
      let ov ← eval o X.env
      standAt apos.atName
      let (f, first) ← holding [ov] (getMethod ov m pl)
      callWith pos f first (backTo pos (starEach [] X.env)) (backToKw pos (keywordEach kws X.env))) := by rfl) :
    PE X (.Call (.Attribute o m apos) [] kws pos) (tCMethK C sp ks.length gV E ta t) := by
  refine ⟨fun pins s σ H Q I h => ?_⟩
  refine W.methodCall_KW (pl := pl) (thn (he.run pins s σ H _ I h) fun u s1 ⟨x, H1, I1, rx, ex, q⟩ => ?_) ht
  subst ex
  obtain rfl : u = Value.ref C := rx
  refine ClX.getmethcm_ok I1 r c fun s2 I2 => ?_
  refine W.callWith_of hpl (W.keeps_M (self := .ref C) c.fi) (evalArgs_kw2_nil hall (thn (ha.run pos _ s2 σ H1 _ I2 q) fun ws s3 ⟨zs, H2, I3, rz, l2, q2⟩ => ⟨⟨ClX.pin_at I3, I3.kIn⟩, ?_⟩))
  rw [hks]
  have hq := q2
  have e0 := I3.env0
  have z : wpAny (model X.prog X.w) X.A (call (.ref s1.heap.objs.size) [] (ks.zip ws)) (EP X ((s1.heap.objs.size, W.methodObj (.ref g) (.ref C)) :: _) σ Q) X.xe s3 :=
    wpAny_call (W.method_call (ClX.pin_at I3) (codeAny_mono (F.run X.A X.stack s3 H2 ⟨[.ref C], ks.zip ws⟩ (.ref C :: gg ws) (.ref C :: gV zs) Q E hr e0 (hb.to s3 C ws I3.kIn (rz.length.symm.trans l2)) (.cons rfl (hb.rel rz)) hq) fun r s' hq' => by
      cases r with
      | error e => exact hx _ σ H2 s3 e s' I3 hq'
      | ok fl =>
        cases fl with
        | ret u => exact I3.after hq'
        | next => exact False.elim hq'
        | brk => exact False.elim hq'
        | cont => exact False.elim hq'))
  exact thn z fun _ _ y => ClX.unpinE y
end
end L2.Mb
set_option maxRecDepth 100000
set_option maxHeartbeats 4000000
namespace Mv
open PySem PySem.Spec PyProof.Rows L2 Evl
/-! ### more of what a reading evaluates to -/
section
variable {K : W.Frag} {σ : L2.St} {H H' : Hp} {te ta tb tc tl : TE} {t : TT} {v x y z : V}
theorem ev_chain {r r' : R2} {a b : Bool} (ha : Ev ta σ H x) (hb : Ev tb σ H y) (hr : RV r x y H (.bl a)) (hc : a = true → Ev tc σ H z) (hr2 : a = true → RV r' y z H (.bl b)) : Ev (tChain r r' ta tb tc) σ H (.bl (a && b)) := fun H1 e Q q =>
  ha H1 e _ fun H2 e2 => hb H2 (e.trans e2) _ fun H3 e3 => hr H3 ((e.trans e2).trans e3) _ fun H4 e4 => ⟨a, rfl, by
    have e14 := (e2.trans e3).trans e4
    cases a with
    | true => exact hc rfl H4 (e.trans e14) _ fun H5 e5 => hr2 rfl H5 ((e.trans e14).trans e5) _ fun H6 e6 => q H6 ((e14.trans e5).trans e6)
    | false => exact q H4 e14⟩
theorem et_chain {r r' : R2} {a b : Bool} (h : Ev (tChain r r' ta tb tc) σ H (.bl (a && b))) : EvT (tTest (tChain r r' ta tb tc)) σ H (a && b) := et_test h
theorem rv_int {g : Int → Int → V} {i j : Int} : RV (rI0 g) (.int i) (.int j) H (g i j) := rv_I0
/-- s + t -/
def rCatS : R2 := fun x y H Q => ∃ i j : Str, x = .str i ∧ y = .str j ∧ i.length + j.length ≤ sizeLine ∧ Q (.str (i ++ j)) H
theorem rv_catS {i j : Str} (h : i.length + j.length ≤ 100000) : RV rCatS (.str i) (.str j) H (.str (i ++ j)) := fun H1 _ _ q => ⟨i, j, rfl, rfl, sz_of h, q H1 (Ex.refl H1)⟩
/-- c in s, c one sign -/
def rInSg : R2 := fun x y H Q => ∃ (c : Nat) (z : Str), x = .str ⟨#[c]⟩ ∧ y = .str z ∧ Q (.bl (decide (c ∈ z.cps.toList))) H
theorem rv_inSg {c : Nat} {z : Str} : RV rInSg (.str ⟨#[c]⟩) (.str z) H (.bl (decide (c ∈ z.cps.toList))) := fun H1 _ _ q => ⟨c, z, rfl, rfl, q H1 (Ex.refl H1)⟩
def rNiSg : R2 := fun x y H Q => ∃ (c : Nat) (z : Str), x = .str ⟨#[c]⟩ ∧ y = .str z ∧ Q (.bl (!decide (c ∈ z.cps.toList))) H
theorem rv_niSg {c : Nat} {z : Str} : RV rNiSg (.str ⟨#[c]⟩) (.str z) H (.bl (!decide (c ∈ z.cps.toList))) := fun H1 _ _ q => ⟨c, z, rfl, rfl, q H1 (Ex.refl H1)⟩
/-- len(s), int(s), str(n) -/
def rLenT : List V → Hp → VK → Prop := fun xs H Q => ∃ z : Str, xs = [.str z] ∧ z.length ≤ sizeLine ∧ Q (.int z.length) H
theorem rc_lenT {w : Str} (h : w.length ≤ 100000) : RC rLenT [.str w] H (.int (w.length : Int)) := fun H1 _ _ q => ⟨w, rfl, sz_of h, q H1 (Ex.refl H1)⟩
def rIntT : List V → Hp → VK → Prop := fun xs H Q => ∃ (a : Str) (n : Int), xs = [.str a] ∧ PySem.intText? a = some n ∧ a.length ≤ 640 ∧ Q (.int n) H
theorem rc_intT {w : Str} {n : Int} (h : PySem.intText? w = some n) (l : w.length ≤ 640) : RC rIntT [.str w] H (.int n) := fun H1 _ _ q => ⟨w, n, rfl, h, l, q H1 (Ex.refl H1)⟩
def rStrI : List V → Hp → VK → Prop := fun xs H Q => ∃ i : Int, xs = [.int i] ∧ i.natAbs.log2 < 1920 ∧ Q (.str (toString i)) H
theorem rc_strI {i : Int} (h : i.natAbs.log2 < 1920) : RC rStrI [.int i] H (.str (toString i)) := fun H1 _ _ q => ⟨i, rfl, h, q H1 (Ex.refl H1)⟩
theorem rc_isi {x c : V} {t u : Value} {b : Bool} (k : ClsV c u) (ty : ∀ H1, Ex H H1 → TyX K H1 x t) (e : W.kitOne K t u = some b) : RC (rIsi K) [x, c] H (.bl b) := fun H1 e1 _ q => ⟨x, c, t, u, b, rfl, k, ty H1 e1, e, q H1 (Ex.refl H1)⟩
/-- a text's slice -/
theorem ev_slS {tl th : TO} {w : Str} {lo hi : Option Int} (h : Ev te σ H (.str w)) (h1 : EvO tl σ H lo) (h2 : EvO th σ H hi) (hs : w.length ≤ 100000) : Ev (tSl rSlS te tl th) σ H (.str (cutS w lo hi)) := fun H1 e _ q =>
  h H1 e _ fun H2 e2 => h1 H2 (e.trans e2) _ fun H3 e3 => h2 H3 ((e.trans e2).trans e3) _ fun H4 e4 => ⟨w, rfl, sz_of hs, q H4 ((e2.trans e3).trans e4)⟩
/-- a comprehension over a text -/
theorem el_lcS {w : Str} {j : Nat} {vs : List Nat} (f : Nat → Bool) (g : Nat → V) (h : Ev tl σ H (.str w)) (hz : w.cps.size ≤ 40000) (hw : ∀ x, wipe ((wipe σ vs).set j (some x)) vs = wipe σ vs)
    (ht : ∀ (i c : Nat) H1, Ex H H1 → w.cps[i]? = some c → EvT t ((wipe σ vs).set j (some (.str ⟨#[c]⟩))) H1 (f i)) (he : ∀ (i c : Nat) H1, Ex H H1 → w.cps[i]? = some c → f i = true → Ev te ((wipe σ vs).set j (some (.str ⟨#[c]⟩))) H1 (g i)) :
    EvL (tLc (iStr tl) (gName j) t te vs) σ H (given w.cps.size f g) := fun H0 e Q q => h H0 e _ fun H1 e1 => ⟨w, rfl, fun Dl hD =>
  lc_it walk_str (Cw H1 f g Dl) ⟨hD, Ex.new hD, upd_same⟩ (fun _ _ _ _ => trivial) (fun i x H2 H3 hi p y => by
    obtain ⟨rfl, c, hc, rfl⟩ := y
    exact ⟨hw _, cw_turn p (by omega) (ht i c H1 (e.trans e1) hc) (fun hf => he i c H1 (e.trans e1) hc hf)⟩) (fun H' p => q Dl H' (fresh_back e1 p.1) (e1.trans p.2.1) p.2.2)⟩
/-- over a new tuple -/
theorem el_lcNT {xs : List V} {j : Nat} {vs : List Nat} (f : Nat → Bool) (g : Nat → V) (h : EvU tl σ H xs) (hz : xs.length ≤ 40000) (hw : ∀ x, wipe ((wipe σ vs).set j (some x)) vs = wipe σ vs)
    (ht : ∀ (i : Nat) (x : V) H1, Ex H H1 → xs[i]? = some x → EvT t ((wipe σ vs).set j (some x)) H1 (f i)) (he : ∀ (i : Nat) (x : V) H1, Ex H H1 → xs[i]? = some x → f i = true → Ev te ((wipe σ vs).set j (some x)) H1 (g i)) :
    EvL (tLc (iTup K tl) (gName j) t te vs) σ H (given xs.length f g) := fun H0 e Q q => h H0 e _ fun a H1 ha e1 hx => ⟨a, rfl, ⟨xs, st_of hx⟩, fun Dl hD =>
  lc_it (walk_tup (K := K) (xs := xs)) (Cw H1 f g Dl) ⟨hD, Ex.new hD, upd_same⟩ (fun _ H' _ p => st_of (p.2.1 a _ hx)) (fun i x H2 H3 hi p y => by
    obtain ⟨rfl, hc⟩ := y
    exact ⟨hw x, cw_turn p (by omega) (ht i x H1 (e.trans e1) hc) (fun hf => he i x H1 (e.trans e1) hc hf)⟩) (fun H' p => q Dl H' (fresh_back e1 p.1) (e1.trans p.2.1) p.2.2)⟩
/-- all(a new list of truths) -/
theorem ev_allN {bs : List Bool} (ha : EvL ta σ H (bs.map V.bl)) : Ev (tCB (rAll K) (tCons ta tNil)) σ H (.bl (bs.all id)) := fun H1 e Q q => ha H1 e _ fun p H2 _ e2 hp => ⟨p, bs, rfl, sq_of hp, q H2 e2⟩
/-- s.split(t), s.partition(t), s.join(xs) -/
theorem el_split {a b : Str} {r : V → List V → Hp → VK → Prop} (h : Ev ta σ H (.str a)) (h2 : Ev tb σ H (.str b)) (hr : r = fun x xs H Q => ∃ a b, x = .str a ∧ xs = [.str b] ∧ (b.length == 0) = false ∧ a.length + 2 ≤ sizeLine ∧ rNewStrs (Txt.split a b) H Q)
    (hb : (b.length == 0) = false) (hz : a.length ≤ 99000) : EvL (tM1 r ta tb) σ H ((Txt.split a b).map V.str) := fun H1 e Q q => h H1 e _ fun H2 e2 => ⟨⟨a, rfl⟩, h2 H2 (e.trans e2) _ fun H3 e3 => by
    subst hr
    exact ⟨a, b, rfl, rfl, hb, Nat.le_trans (show a.length + 2 ≤ 100000 by omega) (by decide), fun p hp => q p _ (fresh_back (e2.trans e3) hp) ((e2.trans e3).trans (Ex.new hp)) upd_same⟩⟩
end
end Mv
set_option maxRecDepth 100000
set_option maxHeartbeats 4000000
namespace Mv
open PySem PySem.Spec PyProof.Rows L2 L2.Mb Evl
section
variable {K : W.Frag} {σ : L2.St} {H H' : Hp} {te ta tb tc tl : TE} {t : TT} {v x y z : V}
/-! ### lists of texts -/
theorem dp_strs : ∀ l : List Str, DpAll K H (l.map V.str) (l.map PyData.str)
  | [] => .nil
  | b :: r => .cons (.str b) (dp_strs r)
abbrev okS (l : List Str) : Prop := l.all PyData.strOk = true
theorem strs_lay : ∀ l : List Str, okS l → PyData.canLayAll0 (l.map PyData.str) = true ∧ PyData.depthAll (l.map PyData.str) = 0
  | [], _ => ⟨by simp [PyData.canLayAll0], by simp [PyData.depthAll]⟩
  | b :: r, h => by
    have h0 : (PyData.strOk b && r.all PyData.strOk) = true := by simpa [okS] using h
    obtain ⟨hb, hr⟩ := Bool.and_eq_true_iff.mp h0
    obtain ⟨h1, h2⟩ := strs_lay r hr
    refine ⟨?_, ?_⟩
    · simp only [List.map_cons, PyData.canLayAll0, PyData.canLay0, h1, hb, Bool.and_self]
    · simp only [List.map_cons, PyData.depthAll, PyData.depth, h2, Nat.max_self]
theorem strs_shaped (l : List Str) (h : okS l) : SeqAt.shaped (.list (l.map PyData.str)) = true := by
  obtain ⟨h1, h2⟩ := strs_lay l h
  show (PyData.canLay0 (.list (l.map PyData.str)) && decide (PyData.depth (.list (l.map PyData.str)) ≤ 64)) = true
  simp only [PyData.canLay0, PyData.depth, h1, h2]
  decide
theorem eqv_strs : ∀ l m : List Str, PyData.eqvAll (l.map PyData.str) (m.map PyData.str) = decide (l = m)
  | [], [] => by simp [PyData.eqvAll]
  | [], b :: r => by simp [PyData.eqvAll]
  | a :: l, [] => by simp [PyData.eqvAll]
  | a :: l, b :: r => by
    simp only [List.map_cons, PyData.eqvAll, PyData.eqv, eqv_strs l r, List.cons.injEq, Bool.decide_and]
    by_cases h : a = b <;> simp [h]
theorem rv_eqStrs {r q : Addr} {l m : List Str} (hr : SqL K H r (l.map V.str)) (hq : SqL K H q (m.map V.str)) (ol : okS l) (om : okS m) : RV (rEqD K) (.ref r) (.ref q) H (.bl (decide (l = m))) := fun H1 e Q k => by
  refine ⟨_, _, .lst (ex_l e hr) (dp_strs l), .lst (ex_l e hq) (dp_strs m), strs_shaped l ol, strs_shaped m om, ?_⟩
  have z : PyData.eqv (.list (l.map PyData.str)) (.list (m.map PyData.str)) = decide (l = m) := by simp only [PyData.eqv, eqv_strs]
  rw [z]
  exact k H1 (Ex.refl H1)
/-- the piece of one item -/
def one1 (l : List Str) (k : Nat) : List Str := match l[k]? with
  | some x => [x]
  | none => []
theorem cut_one (l : List Str) (k : Nat) : cutV (l.map V.str) (some (k : Int)) (some ((k : Int) + 1)) = (one1 l k).map V.str := by
  unfold cutV one1
  rw [show ((k : Int) + 1) = ((k + 1 : Nat) : Int) by omega, HT.sIx_nat, HT.sIx_nat, List.length_map]
  cases h : l[k]? with
  | none =>
    have hk := List.getElem?_eq_none_iff.mp h
    have e : min (k + 1) l.length - min k l.length = 0 := by omega
    rw [e]
    rfl
  | some x =>
    obtain ⟨hk, hx⟩ := List.getElem?_eq_some_iff.mp h
    rw [show min k l.length = k by omega, show min (k + 1) l.length = k + 1 by omega, show k + 1 - k = 1 by omega, ← List.map_drop, List.drop_eq_getElem_cons hk, hx]
    rfl
theorem one_eq (l : List Str) (k : Nat) (x : Str) : decide (one1 l k = [x]) = decide (l[k]? = some x) := by
  unfold one1
  cases l[k]? with
  | none => simp
  | some y => simp
/-- s.partition(t) -/
theorem eu_part {a b : Str} {r : V → List V → Hp → VK → Prop} (h : Ev ta σ H (.str a)) (h2 : Ev tb σ H (.str b)) (hr : r = fun x xs H Q => ∃ a b, x = .str a ∧ xs = [.str b] ∧ (b.length == 0) = false ∧ a.length ≤ sizeLine ∧
      ∀ p, H p = none → Q (.ref p) (upd H p (.tup [.str (Txt.partition a b).1, .str (Txt.partition a b).2.1, .str (Txt.partition a b).2.2])))
    (hb : (b.length == 0) = false) (hz : a.length ≤ 100000) : EvU (tM1 r ta tb) σ H [.str (Txt.partition a b).1, .str (Txt.partition a b).2.1, .str (Txt.partition a b).2.2] := fun H1 e Q q => h H1 e _ fun H2 e2 => ⟨⟨a, rfl⟩, h2 H2 (e.trans e2) _ fun H3 e3 => by
    subst hr
    exact ⟨a, b, rfl, rfl, hb, sz_of hz, fun p hp => q p _ (fresh_back (e2.trans e3) hp) ((e2.trans e3).trans (Ex.new hp)) upd_same⟩⟩
/-- s.join(xs), xs known -/
theorem ev_join {a : Str} {p : Addr} {ys : List Str} {r : V → List V → Hp → VK → Prop} (h : Ev ta σ H (.str a)) (h2 : Ev tb σ H (.ref p)) (hr : r = fun x xs H Q => ∃ a p, ∃ ys : List Str, x = .str a ∧ xs = [.ref p] ∧ (SqL K H p (ys.map V.str) ∨ SqT K H p (ys.map V.str)) ∧
      (ys.map (·.length)).sum + ys.length * a.length ≤ 16777216 ∧ Q (.str (Txt.join a ys)) H) (hp : SqL K H p (ys.map V.str)) (hz : (ys.map (·.length)).sum + ys.length * a.length ≤ 16777216) : Ev (tM1 r ta tb) σ H (.str (Txt.join a ys)) := fun H1 e Q q =>
  h H1 e _ fun H2 e2 => ⟨⟨a, rfl⟩, h2 H2 (e.trans e2) _ fun H3 e3 => by
    subst hr
    exact ⟨a, p, ys, rfl, rfl, .inl (ex_l ((e.trans e2).trans e3) hp), hz, q H3 (e2.trans e3)⟩⟩
/-- a, b, c = e, e a new tuple -/
theorem s_unp3 {D : Ends} {i j k : Nat} {a b c : V} (h : EvU te σ H [a, b, c]) (kk : ∀ H1, Ex H H1 → D.nx (((σ.set i (some a)).set j (some b)).set k (some c)) H1) :
    tAsg te (gTup K 3 (gCons (gName i) (gCons (gName j) (gCons (gName k) gNil)))) D σ H := h H (Ex.refl H) _ fun p H1 _ e hp => ⟨p, [a, b, c], rfl, st_of hp, rfl, a, [b, c], rfl, b, [c], rfl, c, [], rfl, rfl, kk H1 e⟩
end
end Mv
set_option maxRecDepth 100000
set_option maxHeartbeats 4000000
namespace L2.M3
open PySem PySem.Spec PyProof.Rows L2 Mx L2.Mb
def top (i : Nat) : Stmt := PySem.Challenge.pw_meetbehind_k03_kinds_as_texts.main.body.getD i (.Pass ⟨0, 0, 0, 0⟩)
abbrev FnP (K : W.Frag) (x : Str) (st : Stmt) (f : Addr) (fd : FuncData) : Prop := FunD K x x (defArgs st) (defBody st) (defScope st) [] [] f fd
/-- a def of a class: m its name, q the qualified one -/
abbrev FnC (K : W.Frag) (m q : Str) (st : Stmt) (kws : List (Str × V)) (f : Addr) (fd : FuncData) : Prop := FunD K m q (defArgs st) (defBody st) (defScope st) [] kws f fd
/-- the built-in names that nobody has taken -/
structure Bt (mg : Str → Option Value) : Prop where
  KeyError : mg "KeyError" = none
  NotImplemented : mg "NotImplemented" = none
  OverflowError : mg "OverflowError" = none
  ValueError : mg "ValueError" = none
  abs : mg "abs" = none
  all : mg "all" = none
  bool : mg "bool" = none
  classmethod : mg "classmethod" = none
  int : mg "int" = none
  isinstance : mg "isinstance" = none
  len : mg "len" = none
  list : mg "list" = none
  max : mg "max" = none
  min : mg "min" = none
  property : mg "property" = none
  range : mg "range" = none
  repr : mg "repr" = none
  str : mg "str" = none
  zip : mg "zip" = none
abbrev s_is_integer : Stmt := top 1
abbrev n_is_integer : List Str := ["value", "least", "most"]
abbrev p_is_integer : List Str := ["value", "least", "most"]
theorem sc_is_integer : FnScope n_is_integer p_is_integer (defScope s_is_integer) := ⟨rfl, rfl, rfl, by decide +kernel, rfl, by decide +kernel, by decide +kernel⟩
abbrev s_InvalidKind_init : Stmt := inClass (top 4) 0
abbrev n_InvalidKind_init : List Str := ["self", "place"]
abbrev p_InvalidKind_init : List Str := ["self", "place"]
theorem sc_InvalidKind_init : FnScope n_InvalidKind_init p_InvalidKind_init (defScope s_InvalidKind_init) := ⟨rfl, rfl, rfl, by decide +kernel, rfl, by decide +kernel, by decide +kernel⟩
abbrev s_InvalidPart_init : Stmt := inClass (top 5) 0
abbrev n_InvalidPart_init : List Str := ["self", "index"]
abbrev p_InvalidPart_init : List Str := ["self", "index"]
theorem sc_InvalidPart_init : FnScope n_InvalidPart_init p_InvalidPart_init (defScope s_InvalidPart_init) := ⟨rfl, rfl, rfl, by decide +kernel, rfl, by decide +kernel, by decide +kernel⟩
abbrev s_Clash_init : Stmt := inClass (top 6) 0
abbrev n_Clash_init : List Str := ["self", "number"]
abbrev p_Clash_init : List Str := ["self", "number"]
theorem sc_Clash_init : FnScope n_Clash_init p_Clash_init (defScope s_Clash_init) := ⟨rfl, rfl, rfl, by decide +kernel, rfl, by decide +kernel, by decide +kernel⟩
abbrev s_InvalidText_init : Stmt := inClass (top 7) 0
abbrev n_InvalidText_init : List Str := ["self", "line", "word"]
abbrev p_InvalidText_init : List Str := ["self", "line", "word"]
theorem sc_InvalidText_init : FnScope n_InvalidText_init p_InvalidText_init (defScope s_InvalidText_init) := ⟨rfl, rfl, rfl, by decide +kernel, rfl, by decide +kernel, by decide +kernel⟩
abbrev s_NoStation_init : Stmt := inClass (top 8) 0
abbrev n_NoStation_init : List Str := ["self", "name"]
abbrev p_NoStation_init : List Str := ["self", "name"]
theorem sc_NoStation_init : FnScope n_NoStation_init p_NoStation_init (defScope s_NoStation_init) := ⟨rfl, rfl, rfl, by decide +kernel, rfl, by decide +kernel, by decide +kernel⟩
abbrev s_TooMany_init : Stmt := inClass (top 9) 0
abbrev n_TooMany_init : List Str := ["self", "limit"]
abbrev p_TooMany_init : List Str := ["self", "limit"]
theorem sc_TooMany_init : FnScope n_TooMany_init p_TooMany_init (defScope s_TooMany_init) := ⟨rfl, rfl, rfl, by decide +kernel, rfl, by decide +kernel, by decide +kernel⟩
abbrev s_number_of : Stmt := top 12
abbrev n_number_of : List Str := ["word", "least", "most", "sign", "number"]
abbrev p_number_of : List Str := ["word", "least", "most"]
theorem sc_number_of : FnScope n_number_of p_number_of (defScope s_number_of) := ⟨rfl, rfl, rfl, by decide +kernel, rfl, by decide +kernel, by decide +kernel⟩
abbrev s_Kind_init : Stmt := inClass (top 17) 2
abbrev n_Kind_init : List Str := ["self", "lends", "lets", "turns", "rests"]
abbrev p_Kind_init : List Str := ["self", "lends", "lets", "turns", "rests"]
theorem sc_Kind_init : FnScope n_Kind_init p_Kind_init (defScope s_Kind_init) := ⟨rfl, rfl, rfl, by decide +kernel, rfl, by decide +kernel, by decide +kernel⟩
abbrev s_Kind_lends : Stmt := inClass (top 17) 3
abbrev n_Kind_lends : List Str := ["self"]
abbrev p_Kind_lends : List Str := ["self"]
theorem sc_Kind_lends : FnScope n_Kind_lends p_Kind_lends (defScope s_Kind_lends) := ⟨rfl, rfl, rfl, by decide +kernel, rfl, by decide +kernel, by decide +kernel⟩
abbrev s_Kind_lets : Stmt := inClass (top 17) 4
abbrev n_Kind_lets : List Str := ["self"]
abbrev p_Kind_lets : List Str := ["self"]
theorem sc_Kind_lets : FnScope n_Kind_lets p_Kind_lets (defScope s_Kind_lets) := ⟨rfl, rfl, rfl, by decide +kernel, rfl, by decide +kernel, by decide +kernel⟩
abbrev s_Kind_turns : Stmt := inClass (top 17) 5
abbrev n_Kind_turns : List Str := ["self"]
abbrev p_Kind_turns : List Str := ["self"]
theorem sc_Kind_turns : FnScope n_Kind_turns p_Kind_turns (defScope s_Kind_turns) := ⟨rfl, rfl, rfl, by decide +kernel, rfl, by decide +kernel, by decide +kernel⟩
abbrev s_Kind_rests : Stmt := inClass (top 17) 6
abbrev n_Kind_rests : List Str := ["self"]
abbrev p_Kind_rests : List Str := ["self"]
theorem sc_Kind_rests : FnScope n_Kind_rests p_Kind_rests (defScope s_Kind_rests) := ⟨rfl, rfl, rfl, by decide +kernel, rfl, by decide +kernel, by decide +kernel⟩
abbrev s_Kind_within : Stmt := inClass (top 17) 7
abbrev n_Kind_within : List Str := ["self", "other", "mine", "yours"]
abbrev p_Kind_within : List Str := ["self", "other"]
theorem sc_Kind_within : FnScope n_Kind_within p_Kind_within (defScope s_Kind_within) := ⟨rfl, rfl, rfl, by decide +kernel, rfl, by decide +kernel, by decide +kernel⟩
abbrev s_Kind_read : Stmt := inClass (top 17) 8
abbrev n_Kind_read : List Str := ["cls", "text"]
abbrev p_Kind_read : List Str := ["cls", "text"]
theorem sc_Kind_read : FnScope n_Kind_read p_Kind_read (defScope s_Kind_read) := ⟨rfl, rfl, rfl, by decide +kernel, rfl, by decide +kernel, by decide +kernel⟩
abbrev s_Kind_or : Stmt := inClass (top 17) 9
abbrev n_Kind_or : List Str := ["self", "other", "mine", "yours"]
abbrev p_Kind_or : List Str := ["self", "other"]
theorem sc_Kind_or : FnScope n_Kind_or p_Kind_or (defScope s_Kind_or) := ⟨rfl, rfl, rfl, by decide +kernel, rfl, by decide +kernel, by decide +kernel⟩
abbrev s_Kind_and : Stmt := inClass (top 17) 10
abbrev n_Kind_and : List Str := ["self", "other", "mine", "yours"]
abbrev p_Kind_and : List Str := ["self", "other"]
theorem sc_Kind_and : FnScope n_Kind_and p_Kind_and (defScope s_Kind_and) := ⟨rfl, rfl, rfl, by decide +kernel, rfl, by decide +kernel, by decide +kernel⟩
abbrev s_Kind_eq : Stmt := inClass (top 17) 11
abbrev n_Kind_eq : List Str := ["self", "other"]
abbrev p_Kind_eq : List Str := ["self", "other"]
theorem sc_Kind_eq : FnScope n_Kind_eq p_Kind_eq (defScope s_Kind_eq) := ⟨rfl, rfl, rfl, by decide +kernel, rfl, by decide +kernel, by decide +kernel⟩
abbrev s_Kind_str : Stmt := inClass (top 17) 12
abbrev n_Kind_str : List Str := ["self", "words"]
abbrev p_Kind_str : List Str := ["self"]
theorem sc_Kind_str : FnScope n_Kind_str p_Kind_str (defScope s_Kind_str) := ⟨rfl, rfl, rfl, by decide +kernel, rfl, by decide +kernel, by decide +kernel⟩
abbrev s_Kind_repr : Stmt := inClass (top 17) 13
abbrev n_Kind_repr : List Str := ["self"]
abbrev p_Kind_repr : List Str := ["self"]
theorem sc_Kind_repr : FnScope n_Kind_repr p_Kind_repr (defScope s_Kind_repr) := ⟨rfl, rfl, rfl, by decide +kernel, rfl, by decide +kernel, by decide +kernel⟩
abbrev s_ranks : Stmt := top 18
abbrev n_ranks : List Str := ["kind", "rests"]
abbrev p_ranks : List Str := ["kind"]
theorem sc_ranks : FnScope n_ranks p_ranks (defScope s_ranks) := ⟨rfl, rfl, rfl, by decide +kernel, rfl, by decide +kernel, by decide +kernel⟩
abbrev s_kind_of_ranks : Stmt := top 19
abbrev n_kind_of_ranks : List Str := ["ranks", "lends", "lets", "turns", "rests", "limit"]
abbrev p_kind_of_ranks : List Str := ["ranks"]
theorem sc_kind_of_ranks : FnScope n_kind_of_ranks p_kind_of_ranks (defScope s_kind_of_ranks) := ⟨rfl, rfl, rfl, by decide +kernel, rfl, by decide +kernel, by decide +kernel⟩
abbrev s_kind_of_words : Stmt := top 20
abbrev n_kind_of_words : List Str := ["words", "line", "before", "lends", "_", "lets", "at", "turns", "rests"]
abbrev p_kind_of_words : List Str := ["words", "line", "before"]
theorem sc_kind_of_words : FnScope n_kind_of_words p_kind_of_words (defScope s_kind_of_words) := ⟨rfl, rfl, rfl, by decide +kernel, rfl, by decide +kernel, by decide +kernel⟩
abbrev s_law_begin : Stmt := top 22
abbrev n_law_begin : List Str := ["_law_script"]
abbrev p_law_begin : List Str := ["_law_script"]
theorem sc_law_begin : FnScope n_law_begin p_law_begin (defScope s_law_begin) := ⟨rfl, rfl, rfl, by decide +kernel, rfl, by decide +kernel, by decide +kernel⟩
abbrev s_law_take : Stmt := top 23
abbrev n_law_take : List Str := ["_law_hand", "_law_bound", "_law_digit", "_law_at", "_law_piece", "_law_great", "_law_mixed"]
abbrev p_law_take : List Str := ["_law_hand", "_law_bound"]
theorem sc_law_take : FnScope n_law_take p_law_take (defScope s_law_take) := ⟨rfl, rfl, rfl, by decide +kernel, rfl, by decide +kernel, by decide +kernel⟩
abbrev s_law_words : Stmt := top 24
abbrev n_law_words : List Str := ["_law_hand", "_law_found", "_law_rest"]
abbrev p_law_words : List Str := ["_law_hand"]
theorem sc_law_words : FnScope n_law_words p_law_words (defScope s_law_words) := ⟨rfl, rfl, rfl, by decide +kernel, rfl, by decide +kernel, by decide +kernel⟩
abbrev s_law_other : Stmt := top 25
abbrev n_law_other : List Str := ["_law_hand", "_law_some"]
abbrev p_law_other : List Str := ["_law_hand"]
theorem sc_law_other : FnScope n_law_other p_law_other (defScope s_law_other) := ⟨rfl, rfl, rfl, by decide +kernel, rfl, by decide +kernel, by decide +kernel⟩
abbrev s_law_bent : Stmt := top 26
abbrev n_law_bent : List Str := ["_law_hand", "_law_words_here", "_law_pick", "_law_at"]
abbrev p_law_bent : List Str := ["_law_hand", "_law_words_here"]
theorem sc_law_bent : FnScope n_law_bent p_law_bent (defScope s_law_bent) := ⟨rfl, rfl, rfl, by decide +kernel, rfl, by decide +kernel, by decide +kernel⟩
abbrev s_law_is_rest : Stmt := top 27
abbrev n_law_is_rest : List Str := ["_law_written", "_law_sign"]
abbrev p_law_is_rest : List Str := ["_law_written"]
theorem sc_law_is_rest : FnScope n_law_is_rest p_law_is_rest (defScope s_law_is_rest) := ⟨rfl, rfl, rfl, by decide +kernel, rfl, by decide +kernel, by decide +kernel⟩
abbrev s_law_due : Stmt := top 28
abbrev n_law_due : List Str := ["_law_shown", "_law_words_here", "_law_pairs", "_law_lend", "_law_first", "_law_pair", "_law_is_turning", "_law_behind", "_law_begin_here"]
abbrev p_law_due : List Str := ["_law_shown"]
theorem sc_law_due : FnScope n_law_due p_law_due (defScope s_law_due) := ⟨rfl, rfl, rfl, by decide +kernel, rfl, by decide +kernel, by decide +kernel⟩
abbrev s_law_told : Stmt := top 29
abbrev n_law_told : List Str := ["_law_ask", "_law_caught", "_law_made"]
abbrev p_law_told : List Str := ["_law_ask"]
theorem sc_law_told : FnScope n_law_told p_law_told (defScope s_law_told) := ⟨rfl, rfl, rfl, by decide +kernel, rfl, by decide +kernel, by decide +kernel⟩
abbrev s_law_read_right : Stmt := top 30
abbrev n_law_read_right : List Str := ["_law_shown", "_law_due_here"]
abbrev p_law_read_right : List Str := ["_law_shown"]
theorem sc_law_read_right : FnScope n_law_read_right p_law_read_right (defScope s_law_read_right) := ⟨rfl, rfl, rfl, by decide +kernel, rfl, by decide +kernel, by decide +kernel⟩
abbrev s_law_shown_right : Stmt := top 31
abbrev n_law_shown_right : List Str := ["_law_words_here", "_law_shown", "_law_told_here", "_law_parts", "_law_made"]
abbrev p_law_shown_right : List Str := ["_law_words_here"]
theorem sc_law_shown_right : FnScope n_law_shown_right p_law_shown_right (defScope s_law_shown_right) := ⟨rfl, rfl, rfl, by decide +kernel, rfl, by decide +kernel, by decide +kernel⟩
abbrev s_law : Stmt := top 32
abbrev n_law : List Str := ["_law_script", "_law_hand", "_law_turn", "_law_words_here", "_law_bent_here", "_law_odd"]
abbrev p_law : List Str := ["_law_script"]
theorem sc_law : FnScope n_law p_law (defScope s_law) := ⟨rfl, rfl, rfl, by decide +kernel, rfl, by decide +kernel, by decide +kernel⟩
end L2.M3
set_option maxRecDepth 100000
set_option maxHeartbeats 4000000
namespace L2.M3
open PySem PySem.Spec PyProof.Rows L2 Mx L2.Mb Evl Mv TL
/-! ### the package's functions -/
section
variable {P : Program} {w : World} {K : W.Frag} {mg : Str → Option Value} {base : Heap} {f : Addr} {fd : FuncData}
/-- least <= n <= most, n a whole number -/
def spInt : Sp := fun vs H Q _ => ∃ n a b : Int, vs = [.int n, .int a, .int b] ∧ Q (.bl (decide (a ≤ n ∧ n ≤ b))) H
theorem ok_is_integer (B : Bt mg) (F : FnP K "is_integer" s_is_integer f fd) : FnOk P w K mg base CX0 1 f fd p_is_integer spInt := by
  refine F.ok sc_is_integer (fun vs H Q E h => ?_) (fun cdv A outer s H vs Q E hr h => ?_)
  · obtain ⟨n, a, b, rfl, _⟩ := h
    rfl
  · obtain ⟨n, a, b, rfl, k⟩ := h
    refine ⟨_, PSs.nox (pss_one (ps_ret (pe_and (pe_callB call_isi (by rfl) B.isinstance (by decide +kernel) (pa_cons (pv 0) (pa_cons (pe_bltn (v := .ty "int") (by rfl) B.int (by decide +kernel) rfl) pa_nil)))
      (pe_and (pe_not (pe_callB call_isi (by rfl) B.isinstance (by decide +kernel) (pa_cons (pv 0) (pa_cons (pe_bltn (v := .ty "bool") (by rfl) B.bool (by decide +kernel) rfl) pa_nil)))) (pe_one (pe_chain op_le op_le (pv 1) (pv 0) (pv 2))))))), ?_⟩
    refine ⟨_, rfl, _, _, _, _, _, rfl, .ty "int", .base (.int n), kit_ty (a := "int") (b := "int") (r := true) (by decide +kernel), ?_⟩
    refine ⟨_, rfl, ?_⟩
    refine ⟨_, rfl, _, _, _, _, _, rfl, .ty "bool", .base (.int n), kit_ty (a := "int") (b := "bool") (r := false) (by decide +kernel), ?_⟩
    refine ⟨_, rfl, _, rfl, ?_⟩
    refine ⟨_, rfl, _, rfl, _, _, rfl, rfl, _, rfl, ?_⟩
    by_cases h1 : a ≤ n
    · rw [if_pos (decide_eq_true h1)]
      refine ⟨_, rfl, _, _, rfl, rfl, ?_⟩
      have e : decide (n ≤ b) = decide (a ≤ n ∧ n ≤ b) := by simp [h1]
      show Q (.bl (decide (n ≤ b))) H
      rw [e]
      exact k
    · rw [if_neg (by simp [h1])]
      have e : false = decide (a ≤ n ∧ n ≤ b) := by simp [h1]
      rw [e]
      exact k
/-- the signs of a number's text -/
def digC (c : Nat) : Bool := decide (48 ≤ c) && decide (c ≤ 57)
def digs (x : Str) : Bool := (tl x).all digC
def numOf (x : Str) : Int := ((NumText.digitsVal (tl x) : Nat) : Int)
def inRest (n : Int) : Bool := decide (2 ≤ n) && decide (n ≤ 1000000)
/-- the number that is written, in the bounds of a rest -/
def numS (x : Str) : Option Int := if (decide (1 ≤ x.length) && decide (x.length ≤ 7)) && (digs x && (!(decide (1 < x.length) && decide ((tl x).headD 0 = 48)) && inRest (numOf x))) then some (numOf x) else none
def optV : Option Int → V
  | some n => .int n
  | none => .non
theorem digs_all {x : Str} (h : digs x = true) : NumText.AllDigits (tl x) := fun c hc => by
  have z := List.all_eq_true.mp h c hc
  unfold digC at z
  simp only [Bool.and_eq_true, decide_eq_true_eq] at z
  exact z
theorem digs_int {x : Str} (h : digs x = true) (h1 : 1 ≤ x.length) (h2 : x.length ≤ 7) : PySem.intText? x = some (numOf x) :=
  intText_digits (digs_all h) (fun z => by
    have e := len_tl x
    rw [show tl x = [] from z] at e
    simp at e
    omega) (by omega)
theorem given_map {n : Nat} {f : Nat → Bool} {g : Nat → V} (h : ∀ i, f i = true) : given n f g = (List.range n).map g := by
  unfold given
  rw [List.filter_eq_self.mpr fun i _ => h i]
theorem bools_of (x : Str) (p : Nat → Bool) : (given x.cps.size (fun _ => true) fun i => .bl (p (x.cps.getD i 0))) = ((tl x).map p).map V.bl := by
  rw [given_map fun _ => rfl, List.map_map]
  refine List.ext_getElem (by simp [tl]) fun i h1 h2 => ?_
  have h3 : i < x.cps.size := by simpa using h1
  simp [tl, Array.getD, h3]
def spNum : Sp := fun vs H Q _ => ∃ x : Str, vs = [.str x, .int 2, .int 1000000] ∧ x.length ≤ 40000 ∧ ∀ H', Ex H H' → Q (optV (numS x)) H'
def digitsT : Str := "0123456789"
theorem dig_in (c : Nat) : decide (c ∈ digitsT.cps.toList) = digC c := by
  have e : digitsT.cps.toList = [48, 49, 50, 51, 52, 53, 54, 55, 56, 57] := by decide +kernel
  rw [e]
  unfold digC
  by_cases h : 48 ≤ c ∧ c ≤ 57
  · obtain ⟨h1, h2⟩ := h
    rw [decide_eq_true h1, decide_eq_true h2]
    refine decide_eq_true ?_
    simp
    omega
  · have : ¬ c ∈ [48, 49, 50, 51, 52, 53, 54, 55, 56, 57] := fun z => by
      simp at z
      omega
    rw [decide_eq_false this]
    by_cases h1 : 48 ≤ c
    · rw [decide_eq_true h1, decide_eq_false (by omega)]
      rfl
    · rw [decide_eq_false h1]
      rfl
theorem ok_number_of {t : Tok} (B : Bt mg) (dD : mg "DIGITS" = some (.str digitsT t)) (F : FnP K "number_of" s_number_of f fd) : FnOk P w K mg base CX0 1 f fd p_number_of spNum := by
  refine F.ok sc_number_of (fun vs H Q E h => ?_) (fun cdv A outer s H vs Q E hr h => ?_)
  · obtain ⟨x, rfl, _⟩ := h
    rfl
  · obtain ⟨x, rfl, hz, k⟩ := h
    have nd := sc_number_of.nd
    refine ⟨_, PSs.nox (pss_cons (ps_if (pt_not (pt_chain op_le op_le pe_int (pe_callB call_len_str (by rfl) B.len (by decide +kernel) (pa_cons (pv 0) pa_nil)) (pe_callB call_len_str (by rfl) B.len (by decide +kernel) (pa_cons (pe_callTy call_str_int (by rfl) B.str (by decide +kernel) (pa_cons (pv 2) pa_nil)) pa_nil)))) (pss_one (ps_ret pe_non)) pss_nil)
      (pss_cons (ps_if (pt_not (pt_val (pe_callB (cr_all rfl) (by rfl) B.all (by decide +kernel) (pa_cons (pe_lc (own := [("sign", 3)]) (g := gName 3) (tt := tYes) rfl nd (pi_str (pv 0)) (blkOk_by (N := n_number_of) (sc := defScope s_number_of) (by decide +kernel)) (fun _ _ _ _ _ => pg_name (i := 3) nd rfl (Or.inl rfl)) (fun _ _ _ _ _ => pts_nil)
          (fun _ _ _ _ _ => pe_cmpR op_in_sign (pv 3) (pe_glob (v := .str digitsT) rfl dD ⟨_, rfl⟩) rfl)) pa_nil)))) (pss_one (ps_ret pe_non)) pss_nil)
      (pss_cons (ps_if (pw_and (pt_cmpR op_gt (pe_callB call_len_str (by rfl) B.len (by decide +kernel) (pa_cons (pv 0) pa_nil)) pe_int (nomark _)) (pw_and1 (pt_cmpR op_eq (pe_ix ix_str (pv 0) pe_int (fun _ _ => rfl)) pe_str (nomark _)))).pt (pss_one (ps_ret pe_non)) pss_nil)
      (pss_cons (ps_set (i := 4) nd rfl (Or.inl rfl) (pe_callTy call_int_str (by rfl) B.int (by decide +kernel) (pa_cons (pv 0) pa_nil)))
      (pss_one (ps_ret (pe_ifExp (pt_chain op_le op_le (pv 1) (pv 4) (pv 2)) (pv 4) pe_non))))))), ?_⟩
    -- its length
    have hl : (toString (1000000 : Int) : Str).length = 7 := by decide +kernel
    have hLB : (decide (1 ≤ (x.length : Int)) && decide ((x.length : Int) ≤ 7)) = (decide (1 ≤ x.length) && decide (x.length ≤ 7)) := by
      congr 1 <;> exact decide_eq_decide.mpr (by omega)
    refine q_when (b := !(decide (1 ≤ (x.length : Int)) && decide ((x.length : Int) ≤ 7))) (et_not (et_chain (ev_chain ev_c (ev_cb (r := rLenT) (ea_cons (ev_var rfl) ea_nil) (rc_lenT (by omega))) rv_int (fun _ => ev_is (ev_cb (r := rLenT) (ea_cons (ev_cb (r := rStrI) (ea_cons (ev_var rfl) ea_nil) (rc_strI (by decide +kernel))) ea_nil) (rc_lenT (by decide +kernel))) (by rw [hl]; rfl)) (fun _ => rv_int)))) (fun z H1 e1 => s_ret ev_c fun H2 e2 => ?_) (fun z H1 e1 => ?_)
    · have e : numS x = none := by
        rw [hLB, Bool.not_eq_true'] at z
        unfold numS
        rw [z]
        rfl
      have q := k H2 (e1.trans e2)
      rw [e] at q
      exact q
    rw [hLB, Bool.not_eq_false'] at z
    have z0 := z
    simp only [Bool.and_eq_true, decide_eq_true_eq] at z0
    obtain ⟨l1, l7⟩ := z0
    have hne : (tl x).length = x.length := (len_tl x).symm
    refine q_when (b := !digs x) (et_not (et_B (ev_is (ev_allN (bs := (tl x).map digC) (fun H9 e9 Q9 q9 => by
      have w9 := el_lcS (σ := [some (.str x), some (.int 2), some (.int 1000000), none, none]) (H := H1) (te := tOp rInSg (tVar 3) (tC (.str digitsT))) (tl := tVar 0) (t := tYes) (vs := [3]) (j := 3) (w := x) (fun _ => true) (fun i => .bl (digC (x.cps.getD i 0))) (ev_var rfl) hz (fun _ => rfl)
        (fun _ _ H8 _ _ H7 _ Q q => q H7 (Ex.refl H7)) (fun i c H8 e8 hc _ => ev_is (ev_op (ev_var rfl) ev_c rv_inSg) (by
          rw [dig_in]
          have e : x.cps.getD i 0 = c := by simp [Array.getD_eq_getD_getElem?, hc]
          rw [e]))
      rw [bools_of] at w9
      exact w9 H9 e9 Q9 q9)) (by simp [digs, List.all_map, Function.comp_def])))) (fun z2 H2 e2 => s_ret ev_c fun H3 e3 => ?_) (fun z2 H2 e2 => ?_)
    · have e : numS x = none := by
        rw [Bool.not_eq_true'] at z2
        unfold numS
        rw [z2, z]
        rfl
      have q := k H3 ((e1.trans e2).trans e3)
      rw [e] at q
      exact q
    rw [Bool.not_eq_false'] at z2
    obtain ⟨c0, r0, hx⟩ : ∃ c r, tl x = c :: r := by
      cases hx : tl x with
      | nil =>
        rw [hx] at hne
        simp at hne
        omega
      | cons c r => exact ⟨c, r, rfl⟩
    refine q_when (b := decide (1 < x.length) && decide ((tl x).headD 0 = 48)) (et_and (et_test (ev_is (ev_op (ev_cb (r := rLenT) (ea_cons (ev_var rfl) ea_nil) (rc_lenT (by omega))) ev_c rv_int) (congrArg V.bl (decide_eq_decide.mpr (by omega)))))
      (fun _ => et_test (ev_is (ev_op (ev_op (ev_var rfl) ev_c (rv_ixS (c := c0) (by omega) (by rw [show x.cps.toList = c0 :: r0 from hx]; exact atI_nat (j := 0) rfl))) ev_c (rv_eq rfl)) (congrArg V.bl (decide_eq_decide.mpr ?_))))) (fun z3 H3 e3 => s_ret ev_c fun H4 e4 => ?_) (fun z3 H3 e3 => ?_)
    · rw [hx]
      refine ⟨fun y => ?_, fun y => ?_⟩
      · have y2 := congrArg tl (V.str.inj y)
        have y3 : ([c0] : List Nat) = [48] := y2
        exact List.head_eq_of_cons_eq y3
      · rw [show c0 = 48 from y]
        rfl
    · have e : numS x = none := by
        unfold numS
        rw [z2, z, z3]
        rfl
      have q := k H4 (((e1.trans e2).trans e3).trans e4)
      rw [e] at q
      exact q
    refine q_asg (ev_cb (r := rIntT) (ea_cons (ev_var rfl) ea_nil) (rc_intT (digs_int z2 l1 l7) (by omega))) fun H4 e4 => ?_
    refine s_ret (v := optV (numS x)) (ev_if (b := decide (2 ≤ numOf x) && decide (numOf x ≤ 1000000)) (et_chain (ev_chain (ev_var rfl) (ev_var rfl) rv_int (fun _ => ev_var rfl) (fun _ => rv_int))) (fun y => ev_is (ev_var rfl) ?_) (fun y => ev_is ev_c ?_)) fun H5 e5 => k H5 ((((e1.trans e2).trans e3).trans e4).trans e5)
    · have e : numS x = some (numOf x) := by
        unfold numS inRest
        rw [z2, z, z3, y]
        rfl
      rw [e]
      rfl
    · have e : numS x = none := by
        unfold numS inRest
        rw [z2, z, z3, y]
        rfl
      rw [e]
      rfl
end
end L2.M3
set_option maxRecDepth 100000
set_option maxHeartbeats 4000000
namespace L2.M3
open PySem PySem.Spec PyProof.Rows L2 Mx L2.Mb Evl Mv TL
abbrev lendL : List Str := ["both", "far", "one"]
abbrev letL : List Str := ["both", "far", "any"]
/-- what is known of the class Kind at C: its metaclass, the two tuples of words -/
structure KF (K : W.Frag) (mg : Str → Option Value) (C : Addr) (mc : Value) (aL aT : Addr) : Prop where
  m : mg "Kind" = some (.ref C)
  cl : Cls K C
  n1 : NoAttr K C "_lends"
  n2 : NoAttr K C "_lets"
  n3 : NoAttr K C "_turns"
  n4 : NoAttr K C "_rests"
  rd : ClX.CRead K C mc
  vL : ClX.CVal K C mc "LENDS" (.ref aL) (.ref aL)
  vT : ClX.CVal K C mc "LETS" (.ref aT) (.ref aT)
  tL : ∀ H, SqT K H aL (lendL.map V.str)
  tT : ∀ H, SqT K H aT (letL.map V.str)
  kp : W.keepIn K (.ref C) = true
/-- a kind's parts -/
structure Kd where
  le : Str
  lt : Str
  tu : Bool
  re : Option Int
def Kd.ok (k : Kd) : Bool := lendL.contains k.le && (letL.contains k.lt && k.re.all inRest)
abbrev Kd.fs (k : Kd) : List (Str × V) := putF "_rests" (optV k.re) (putF "_turns" (.bl k.tu) (putF "_lets" (.str k.lt) (putF "_lends" (.str k.le) [])))
/-- the kind stands at a -/
def KAt (C : Addr) (H : Hp) (a : Addr) (k : Kd) : Prop := ∃ dx, H a = some (.ins C dx k.fs)
theorem KAt.mono {C : Addr} {H H' : Hp} {a : Addr} {k : Kd} (h : KAt C H a k) (e : Ex H H') : KAt C H' a k := h.elim fun dx z => ⟨dx, e _ _ z⟩
def spInit (C : Addr) : Sp := fun vs H Q _ => ∃ (a dx : Addr) (k : Kd), vs = [.ref a, .str k.le, .str k.lt, .bl k.tu, optV k.re] ∧ k.ok = true ∧ H a = some (.ins C dx []) ∧
  ∀ H', (∀ c o, c ≠ a → H c = some o → H' c = some o) → H' a = some (.ins C dx k.fs) → Q .non H'
theorem inV_str (x : Str) (l : List Str) : inV (.str x) (l.map V.str) = l.contains x := by
  unfold inV
  rw [List.any_map, List.contains_eq_any_beq]
  congr 1
  funext y
  show eqV (.str y) (.str x) = (x == y)
  by_cases h : x = y
  · subst h
    simp [eqV]
  · have h2 : ¬ y = x := fun z => h z.symm
    have h3 : (y == x) = false := by simpa using h2
    have h4 : (x == y) = false := by simpa using h
    simp [eqV, h3, h4]
section
variable {P : Program} {w : World} {K : W.Frag} {mg : Str → Option Value} {base : Heap} {f fI C aL aT : Addr} {fd dI : FuncData} {mc : Value}
theorem flat_strs (l : List Str) : (l.map V.str).all flatV = true := by
  rw [List.all_map]
  exact List.all_eq_true.mpr fun _ _ => rfl
/-- a def for its callers, errors and all -/
structure Fn0 (P : Program) (w : World) (K : W.Frag) (mg : Str → Option Value) (base : Heap) (x : Str) (k : Nat) (f : Addr) (fd : FuncData) (ps : List Str) (sp : Sp) : Prop where
  ok : FnOk P w K mg base CX0 k f fd ps sp
  m : mg x = some (.ref f)
  k : W.keepIn K (.ref f) = true
  b : Binds K fd ps []
theorem ev_cval {t : TE} {σ : L2.St} {H : Hp} {u : Value} {x : Str} {a : Addr} (h : Ev t σ H (.ref C)) (rd : ClX.CRead K C mc) (v : ClX.CVal K C mc x (.ref a) u) : Ev (ClX.tCVal K t x) σ H (.ref a) := fun H1 e Q q => h H1 e _ fun H2 e2 => ⟨C, mc, _, u, rfl, rd, v, q H2 e2⟩
theorem ok_init {t1 t2 : Tok} (B : Bt mg) (T : KF K mg C mc aL aT) (c1 : mg "LEAST_REST" = some (.int 2 t1)) (c2 : mg "MOST_REST" = some (.int 1000000 t2)) (D : Fn0 P w K mg base "is_integer" 1 fI dI p_is_integer spInt)
    {kws : List (Str × V)} {q : Str} (F : FnC K "__init__" q s_Kind_init kws f fd) : FnOk P w K mg base CX0 2 f fd ["self", "lends", "lets", "turns", "rests"] (spInit C) := by
  refine F.ok sc_Kind_init (fun vs H Q E h => ?_) (fun cdv A outer s H vs Q E hr h => ?_)
  · obtain ⟨a, dx, k, rfl, _⟩ := h
    rfl
  · obtain ⟨a, dx, kd, rfl, hk, ha, k⟩ := h
    have nd := sc_Kind_init.nd
    unfold Kd.ok at hk
    simp only [Bool.and_eq_true] at hk
    obtain ⟨k1, k2, k3⟩ := hk
    refine ⟨_, PSs.nox (pss_cons (ps_if (pt_cmpR op_notIn_seq (pv 1) (ClX.pe_cval (pe_glob (v := .ref C) (by rfl) T.m rfl)) rfl) (pss_one ps_never) pss_nil)
      (pss_cons (ps_if (pt_cmpR op_notIn_seq (pv 2) (ClX.pe_cval (pe_glob (v := .ref C) (by rfl) T.m rfl)) rfl) (pss_one ps_never) pss_nil)
      (pss_cons (ps_if (pt_not (pt_val (pe_callB call_isi (by rfl) B.isinstance (by decide +kernel) (pa_cons (pv 3) (pa_cons (pe_bltn (v := .ty "bool") (by rfl) B.bool (by decide +kernel) rfl) pa_nil))))) (pss_one ps_never) pss_nil)
      (pss_cons (ps_if (pw_and (pt_cmpR op_notN (pv 4) pe_non (nomark _)) (pw_and1 (pt_not (pt_val (pe_call D.ok hr (by rfl) D.m D.k D.b .nil pass0 (pa_cons (pv 4) (pa_cons (pe_glob (v := .int 2) (by rfl) c1 ⟨_, rfl⟩) (pa_cons (pe_glob (v := .int 1000000) (by rfl) c2 ⟨_, rfl⟩) pa_nil)))))))).pt (pss_one ps_never) pss_nil)
      (pss_cons (ps_fld (pv 0) (pv 1) rfl) (pss_cons (ps_fld (pv 0) (pv 2) rfl) (pss_cons (ps_fld (pv 0) (pv 3) rfl) (pss_one (ps_fld (pv 0) (pv 4) rfl))))))))), ?_⟩
    refine q_when (b := false) (et_test (ev_is (ev_op (ev_var rfl) (ev_cval ev_c T.rd T.vL) (rv_niT (T.tL _) rfl (flat_strs _))) (by rw [inV_str, k1]; rfl))) (fun z => by cases z) (fun _ H1 e1 => ?_)
    refine q_when (b := false) (et_test (ev_is (ev_op (ev_var rfl) (ev_cval ev_c T.rd T.vT) (rv_niT (T.tT _) rfl (flat_strs _))) (by rw [inV_str, k2]; rfl))) (fun z => by cases z) (fun _ H2 e2 => ?_)
    refine q_when (b := false) (et_not (a := true) (et_B (ev_cb (ea_cons (ev_var rfl) (ea_cons ev_c ea_nil)) (rc_isi (t := .type "bool") (.ty "bool") (fun _ _ => .base (.bl _)) (kit_ty (a := "bool") (b := "bool") (r := true) (by decide +kernel)))))) (fun z => by cases z) (fun _ H3 e3 => ?_)
    have e03 := (e1.trans e2).trans e3
    refine q_when (b := false) (et_is (et_and (a := kd.re.isSome) (b := false) (et_test (ev_is (ev_op (ev_var rfl) ev_c (fun H9 _ Q9 q9 => ⟨rfl, q9 H9 (Ex.refl H9)⟩)) (by cases kd.re <;> rfl)))
      (fun hs => et_not (a := true) (et_B ?_))) (by cases kd.re <;> rfl)) (fun z => by cases z) (fun _ H4 e4 => ?_)
    · cases hre : kd.re with
      | none =>
        rw [hre] at hs
        cases hs
      | some n =>
        rw [hre] at k3
        have k4 : inRest n = true := k3
        refine ev_is (ev_call (z := .bl (decide (2 ≤ n ∧ n ≤ 1000000))) (ea_cons (ev_var rfl) (ea_cons ev_c (ea_cons ev_c ea_nil))) (fun H1 _ Q q E => ⟨n, 2, 1000000, rfl, q H1 (Ex.refl H1)⟩)) ?_
        unfold inRest at k4
        simp only [Bool.and_eq_true, decide_eq_true_eq] at k4
        rw [decide_eq_true k4]
    have a4 := (e03.trans e4) _ _ ha
    refine ⟨_, rfl, _, rfl, a, C, dx, _, rfl, a4, T.cl, T.n1, (by show 0 < 1000; decide), ?_⟩
    refine ⟨_, rfl, _, rfl, a, C, dx, _, rfl, upd_same, T.cl, T.n2, (by show 1 < 1000; decide), ?_⟩
    refine ⟨_, rfl, _, rfl, a, C, dx, _, rfl, upd_same, T.cl, T.n3, (by show 2 < 1000; decide), ?_⟩
    refine ⟨_, rfl, _, rfl, a, C, dx, _, rfl, upd_same, T.cl, T.n4, (by show 3 < 1000; decide), ?_⟩
    refine k _ (fun c o hc h => ?_) upd_same
    rw [upd_ne hc, upd_ne hc, upd_ne hc, upd_ne hc]
    exact (e03.trans e4) c o h
/-- what a getter gives -/
def spGet (C : Addr) (v : Kd → V) : Sp := fun vs H Q _ => ∃ (a : Addr) (k : Kd), vs = [.ref a] ∧ KAt C H a k ∧ Q (v k) H
theorem ok_lends (T : KF K mg C mc aL aT) {q : Str} (F : FnC K "lends" q s_Kind_lends [] f fd) : FnOk P w K mg base CX0 1 f fd ["self"] (spGet C fun k => .str k.le) := by
  refine F.ok sc_Kind_lends (fun vs H Q E h => ?_) (fun cdv A outer s H vs Q E hr h => ?_)
  · obtain ⟨a, k, rfl, _⟩ := h
    rfl
  · obtain ⟨a, kd, rfl, ⟨dx, ha⟩, k⟩ := h
    exact ⟨_, PSs.nox (pss_one (ps_ret (pe_fld (pv 0) rfl))), _, rfl, a, C, dx, _, _, rfl, ha, T.cl, T.n1, rfl, k⟩
theorem ok_lets (T : KF K mg C mc aL aT) {q : Str} (F : FnC K "lets" q s_Kind_lets [] f fd) : FnOk P w K mg base CX0 1 f fd ["self"] (spGet C fun k => .str k.lt) := by
  refine F.ok sc_Kind_lets (fun vs H Q E h => ?_) (fun cdv A outer s H vs Q E hr h => ?_)
  · obtain ⟨a, k, rfl, _⟩ := h
    rfl
  · obtain ⟨a, kd, rfl, ⟨dx, ha⟩, k⟩ := h
    exact ⟨_, PSs.nox (pss_one (ps_ret (pe_fld (pv 0) rfl))), _, rfl, a, C, dx, _, _, rfl, ha, T.cl, T.n2, rfl, k⟩
theorem ok_turns (T : KF K mg C mc aL aT) {q : Str} (F : FnC K "turns" q s_Kind_turns [] f fd) : FnOk P w K mg base CX0 1 f fd ["self"] (spGet C fun k => .bl k.tu) := by
  refine F.ok sc_Kind_turns (fun vs H Q E h => ?_) (fun cdv A outer s H vs Q E hr h => ?_)
  · obtain ⟨a, k, rfl, _⟩ := h
    rfl
  · obtain ⟨a, kd, rfl, ⟨dx, ha⟩, k⟩ := h
    exact ⟨_, PSs.nox (pss_one (ps_ret (pe_fld (pv 0) rfl))), _, rfl, a, C, dx, _, _, rfl, ha, T.cl, T.n3, rfl, k⟩
theorem ok_rests (T : KF K mg C mc aL aT) {q : Str} (F : FnC K "rests" q s_Kind_rests [] f fd) : FnOk P w K mg base CX0 1 f fd ["self"] (spGet C fun k => optV k.re) := by
  refine F.ok sc_Kind_rests (fun vs H Q E h => ?_) (fun cdv A outer s H vs Q E hr h => ?_)
  · obtain ⟨a, k, rfl, _⟩ := h
    rfl
  · obtain ⟨a, kd, rfl, ⟨dx, ha⟩, k⟩ := h
    exact ⟨_, PSs.nox (pss_one (ps_ret (pe_fld (pv 0) rfl))), _, rfl, a, C, dx, _, _, rfl, ha, T.cl, T.n4, rfl, k⟩
end
end L2.M3
set_option maxRecDepth 100000
set_option maxHeartbeats 4000000
namespace L2.M3
open PySem PySem.Spec PyProof.Rows L2 Mx L2.Mb Evl Mv TL
/-! ### errors of two fields, raised -/
def spI2 (C : Addr) (f g : Str) : Sp := fun vs H Q _ => ∃ (a : Addr) (v u : V), vs = [.ref a, v, u] ∧ H a = some (exo a C none) ∧
  ∀ dx, H dx = none → dx ≠ a → Q .non (upd (upd (upd H dx (exd dx [(f, v)])) a (exo a C (some dx))) dx (exd dx [(g, u), (f, v)]))
section
variable {P : Program} {w : World} {K : W.Frag} {mg : Str → Option Value} {base : Heap} {f fI C CE aL aT : Addr} {fd dI : FuncData} {mc : Value}
theorem ok_xi (F : FnC K "__init__" "InvalidText.__init__" s_InvalidText_init [] f fd) (T : EC K CE f .val) (no : W.findIn K (.ref CE) "line" = some none) (no2 : W.findIn K (.ref CE) "word" = some none) : FnOk P w K mg base CX0 1 f fd ["self", "line", "word"] (spI2 CE "line" "word") := by
  refine F.ok sc_InvalidText_init (fun vs H Q E h => ?_) (fun cdv A outer s H vs Q E hr h => ?_)
  · obtain ⟨a, v, u, rfl, _⟩ := h
    rfl
  · obtain ⟨a, v, u, rfl, ha, k⟩ := h
    refine ⟨_, PSs.nox (pss_cons (ps_putX (pv 0) (pv 1)) (pss_one (ps_putX (pv 0) (pv 2)))), ?_⟩
    refine ⟨v, rfl, _, rfl, a, CE, f, .val, rfl, T, no, .inl ⟨ha, fun dx hd ne => ?_⟩⟩
    exact ⟨u, rfl, _, rfl, a, CE, f, .val, rfl, T, no2, .inr ⟨dx, [("line", v)], upd_same, (by rw [upd_ne ne]; exact upd_same), (by show 1 ≤ 900; decide), k dx hd ne⟩⟩
theorem s_raise2 {σ : L2.St} {H : Hp} {ta : TA} {f g : Str} {v u : V} {W : WX} (h : EvA ta σ H [v, u]) (k : ∀ d H1, Ex H H1 → H1 d = some (.xd [(g, u), (f, v)]) → W (.ref C) (some d) σ H1) :
    tMkO C (spI2 C f g) [] ta σ H (fun cls d H' => W cls d σ H') := h H (Ex.refl H) _ fun H2 e2 => ⟨by show 2 ≤ 1000; decide, fun a na => ⟨a, v, u, rfl, upd_same, fun dx hd ne => by
    have hd2 : H2 dx = none := by
      rw [upd_ne ne] at hd
      exact hd
    refine ⟨rfl, dx, _, ?_, upd_same, hd2, k dx _ ?_ upd_same⟩
    · rw [upd_ne (Ne.symm ne), upd_same]
    · intro c o hc
      have h2 := e2 c o hc
      have c1 : c ≠ a := ne_of_none h2 na
      have c2 : c ≠ dx := ne_of_none h2 hd2
      rw [upd_ne c2, del_ne c1, upd_ne c2, upd_ne c1, upd_ne c2, upd_ne c1]
      exact h2⟩⟩
/-- what is known of the error InvalidText -/
structure XT (P : Program) (w : World) (K : W.Frag) (mg : Str → Option Value) (base : Heap) (CE fE : Addr) (dE : FuncData) : Prop where
  ec : EC K CE fE .val
  ty : W.typeIn K (.ref CE) = some (.type "type")
  m : mg "InvalidText" = some (.ref CE)
  ok : FnOk P w K mg base CX0 1 fE dE ["self", "line", "word"] (spI2 CE "line" "word")
  b : Binds K dE ["self", "line", "word"] []
  no : W.findIn K (.ref CE) "line" = some none
  no2 : W.findIn K (.ref CE) "word" = some none
/-- .. and of how a kind is made -/
structure KM (P : Program) (w : World) (K : W.Frag) (mg : Str → Option Value) (base : Heap) (C fK : Addr) (dK : FuncData) (g : List Value → List Value → List Value) (gV : List V → List V → List V) : Prop where
  made : Mk K C fK
  ok : FnOk P w K mg base CX0 2 fK dK ["self", "lends", "lets", "turns", "rests"] (spInit C)
  kb : KBn K dK ["self", "lends", "lets", "turns", "rests"] 3 ["turns", "rests"] g gV
  gv : ∀ a b c d e : V, gV [a, b, c] [d, e] = [a, b, c, d, e]
/-! ### a kind read from words -/
inductive Rd where
  | kind (k : Kd)
  | wrong (n : Int)
def readW (ws : List Str) : Rd :=
  if lendL.contains (Txt.partition (ws.headD "") "/").1 && letL.contains (Txt.partition (ws.headD "") "/").2.2 then
    let tu := decide (ws[1]? = some ("turns" : Str))
    let i : Nat := if tu = true then 2 else 1
    if ws[i]? = some ("rests" : Str) then match (ws[i + 1]?).bind numS with
      | none => .wrong ((i : Int) + 1)
      | some n => if i + 2 < ws.length then .wrong ((i : Int) + 2) else .kind ⟨(Txt.partition (ws.headD "") "/").1, (Txt.partition (ws.headD "") "/").2.2, tu, some n⟩
    else if i < ws.length then .wrong (i : Int) else .kind ⟨(Txt.partition (ws.headD "") "/").1, (Txt.partition (ws.headD "") "/").2.2, tu, none⟩
  else .wrong 0
def spWords (C CE : Addr) : Sp := fun vs H Q E => ∃ (a : Addr) (ws : List Str) (line before : Int), vs = [.ref a, .int line, .int before] ∧ H a = some (.lst (ws.map V.str)) ∧ ws ≠ [] ∧ okS ws ∧ (∀ x ∈ ws, x.length ≤ 40000) ∧ ws.length ≤ 50000 ∧
  (∀ kd, readW ws = .kind kd → ∀ b H', Ex H H' → KAt C H' b kd → Q (.ref b) H') ∧ (∀ n, readW ws = .wrong n → ∀ d H', Ex H H' → H' d = some (.xd [("word", .int (before + n)), ("line", .int line)]) → E (.ref CE) (some d) H')
theorem q_unp3 {σ : L2.St} {H : Hp} {te : TE} {tz : TS} {D : Ends} {i j k : Nat} {a b c : V} (h : EvU te σ H [a, b, c]) (kk : ∀ H1, Ex H H1 → tz D (((σ.set i (some a)).set j (some b)).set k (some c)) H1) :
    tSeq (tAsg te (gTup K 3 (gCons (gName i) (gCons (gName j) (gCons (gName k) gNil))))) tz D σ H := s_unp3 (D := { D with nx := tz D }) h kk
theorem e_make {σ : L2.St} {H : Hp} {ta tk : TA} {gV : List V → List V → List V} {E : XK} {kd : Kd} (hg : ∀ a b c d e : V, gV [a, b, c] [d, e] = [a, b, c, d, e]) (h1 : EvA ta σ H [.str kd.le, .str kd.lt]) (h2 : EvA tk σ H [.bl kd.tu, optV kd.re]) (ok : kd.ok = true) :
    ∀ H1, Ex H H1 → ∀ Q : VK, (∀ a H2, Ex H1 H2 → KAt C H2 a kd → Q (.ref a) H2) → tMakeK C 2 2 (spInit C) gV E ta tk σ H1 Q := fun H1 e Q q => h1 H1 e _ fun H2 e2 => h2 H2 (e.trans e2) _ fun H3 e3 => ⟨rfl, rfl, fun x dx hx hd ne => ⟨x, dx, kd, hg _ _ _ _ _, ok, upd_same, fun H' hk ha => ⟨rfl, q x H' (fun c o hc => by
    have h3 := e3 c o (e2 c o hc)
    refine hk c o (ne_of_none h3 hx) ?_
    rw [upd_ne (ne_of_none h3 hx), upd_ne (ne_of_none h3 hd)]
    exact h3) ⟨dx, ha⟩⟩⟩⟩
theorem numS_ok {x : Str} {n : Int} (h : numS x = some n) : inRest n = true := by
  unfold numS at h
  split at h
  · rename_i c
    simp only [Bool.and_eq_true] at c
    cases h
    exact c.2.2.2
  · cases h
theorem ok_words {t1 t2 : Tok} {fN fE fK : Addr} {dN dE dK : FuncData} {g : List Value → List Value → List Value} {gV : List V → List V → List V} (B : Bt mg) (T : KF K mg C mc aL aT) (XE : XT P w K mg base CE fE dE) (M : KM P w K mg base C fK dK g gV) (c1 : mg "LEAST_REST" = some (.int 2 t1)) (c2 : mg "MOST_REST" = some (.int 1000000 t2))
    (D : Fn0 P w K mg base "number_of" 1 fN dN p_number_of spNum) (F : FnP K "kind_of_words" s_kind_of_words f fd) : FnOk P w K mg base (L2.CX P w) 4 f fd p_kind_of_words (spWords C CE) := by
  refine F.ok sc_kind_of_words (fun vs H Q E h => ?_) (fun cdv A outer s H vs Q E hr h => ?_)
  · obtain ⟨a, ws, line, before, rfl, _⟩ := h
    rfl
  · obtain ⟨a, ws, line, before, rfl, ha, hne, hok, hlen, hn, kq, ke⟩ := h
    have nd := sc_kind_of_words.nd
    have hu := hr.units
    refine ⟨_, (pss_cons (ps_if (pt_not (pt_truth (pv 0) (by intro _; rfl))) (pss_one ps_never) pss_nil)
      (pss_cons (ps_asg (pe_partition (pe_ix ix_list (pv 0) pe_int (fun _ _ => rfl)) pe_str) (pg_tup rfl (pgs_cons (pg_name (i := 3) nd rfl (Or.inl rfl)) (pgs_cons (pg_name (i := 4) nd rfl (Or.inl rfl)) (pgs_cons (pg_name (i := 5) nd rfl (Or.inl rfl)) pgs_nil)))))
      (pss_cons (ps_if (pw_or (pt_cmpR op_notIn_seq (pv 3) (ClX.pe_cval (pe_glob (v := .ref C) (by rfl) T.m rfl)) rfl) (pw_or1 (pt_cmpR op_notIn_seq (pv 5) (ClX.pe_cval (pe_glob (v := .ref C) (by rfl) T.m rfl)) rfl))).pt (pss_one (ps_raise rfl (takes_of rfl rfl rfl rfl) (pmk_oex (XE.ec.oex XE.ty) XE.ec.ini XE.ec.tfn XE.ok (hr.mono (by decide)) XE.b .nil pass0 (by rfl) XE.m (pa_cons (pv 1) (pa_cons (pv 2) pa_nil))))) pss_nil)
      (pss_cons (ps_set (i := 6) nd rfl (Or.inl rfl) pe_int)
      (pss_cons (ps_set (i := 7) nd rfl (Or.inl rfl) (pe_cmpR (op_eqD hu) (pe_slice sl_list (pv 0) (po_some (pv 6)) (po_some (pe_op op_add (pv 6) pe_int))) (pe_lst (pa_cons pe_str pa_nil)) (nomark _)))
      (Evl.pss_cut (ps_if (pt_val (pv 7)) (pss_one (ps_aug (i := 6) nd rfl (Or.inl rfl) pe_int ip_add)) pss_nil)
      (pss_cons (ps_set (i := 8) nd rfl (Or.inl rfl) pe_non)
      (Evl.pss_cut (ps_if (pt_cmpR (op_eqD hu) (pe_slice sl_list (pv 0) (po_some (pv 6)) (po_some (pe_op op_add (pv 6) pe_int))) (pe_lst (pa_cons pe_str pa_nil)) (nomark _)) (pss_cons (ps_aug (i := 6) nd rfl (Or.inl rfl) pe_int ip_add)
      (pss_cons (ps_set (i := 8) nd rfl (Or.inl rfl) (pe_ifExp (pt_cmpR op_lt (pv 6) (pe_callB call_len_seq (by rfl) B.len (by decide +kernel) (pa_cons (pv 0) pa_nil)) (nomark _)) (pe_call D.ok (hr.mono (by decide)) (by rfl) D.m D.k D.b .nil pass0 (pa_cons (pe_ix ix_list (pv 0) (pv 6) (fun _ _ => rfl)) (pa_cons (pe_glob (v := .int 2) (by rfl) c1 ⟨_, rfl⟩) (pa_cons (pe_glob (v := .int 1000000) (by rfl) c2 ⟨_, rfl⟩) pa_nil)))) pe_non))
      (pss_cons (ps_if (pt_cmpR op_isN (pv 8) pe_non (nomark _)) (pss_one (ps_raise rfl (takes_of rfl rfl rfl rfl) (pmk_oex (XE.ec.oex XE.ty) XE.ec.ini XE.ec.tfn XE.ok (hr.mono (by decide)) XE.b .nil pass0 (by rfl) XE.m (pa_cons (pv 1) (pa_cons (pe_op op_add (pv 2) (pv 6)) pa_nil))))) pss_nil)
      (pss_one (ps_aug (i := 6) nd rfl (Or.inl rfl) pe_int ip_add))))) pss_nil)
      (pss_cons (ps_if (pt_cmpR op_lt (pv 6) (pe_callB call_len_seq (by rfl) B.len (by decide +kernel) (pa_cons (pv 0) pa_nil)) (nomark _)) (pss_one (ps_raise rfl (takes_of rfl rfl rfl rfl) (pmk_oex (XE.ec.oex XE.ty) XE.ec.ini XE.ec.tfn XE.ok (hr.mono (by decide)) XE.b .nil pass0 (by rfl) XE.m (pa_cons (pv 1) (pa_cons (pe_op op_add (pv 2) (pv 6)) pa_nil))))) pss_nil)
      (pss_one (ps_ret (pe_makeK M.made M.ok (hr.mono (by decide)) (by rfl) T.m M.kb pass0 (pa_cons (pv 3) (pa_cons (pv 5) pa_nil)) (pk_cons (pv 7) (pk_cons (pv 8) pk_nil)))))))))))))), ?_⟩
    obtain ⟨w0, r0, ews⟩ : ∃ w0 r0, ws = w0 :: r0 := by
      cases ws with
      | nil => exact absurd rfl hne
      | cons w0 r0 => exact ⟨w0, r0, rfl⟩
    have hw0 : ws.headD "" = w0 := by rw [ews]; rfl
    have l0 : w0.length ≤ 40000 := hlen w0 (by rw [ews]; exact List.mem_cons_self)
    have lws : (ws.map V.str).length = ws.length := List.length_map ..
    refine q_when (b := false) (et_not (a := true) (fun H9 e9 Q9 q9 => ⟨_, rfl, true, .inl ⟨_, sq_of (e9 _ _ ha), by rw [ews]; rfl⟩, q9 H9 (Ex.refl H9)⟩)) (fun z => by cases z) (fun _ H1 e1 => ?_)
    refine q_unp3 (eu_part (ev_op (ev_var rfl) ev_c (rv_ixL (v := .str w0) (sq_of (e1 _ _ ha)) (atI_nat (j := 0) (by rw [ews]; rfl)))) ev_c rfl (by decide +kernel) (by omega)) fun H2 e2 => ?_
    have e12 := e1.trans e2
    generalize hp : Txt.partition w0 "/" = p
    have hrd : readW ws = if lendL.contains p.1 && letL.contains p.2.2 then
        (if ws[(if decide (ws[1]? = some ("turns" : Str)) = true then (2 : Nat) else 1)]? = some ("rests" : Str) then match (ws[(if decide (ws[1]? = some ("turns" : Str)) = true then (2 : Nat) else 1) + 1]?).bind numS with
          | none => .wrong (((if decide (ws[1]? = some ("turns" : Str)) = true then (2 : Nat) else 1 : Nat) : Int) + 1)
          | some n => if (if decide (ws[1]? = some ("turns" : Str)) = true then (2 : Nat) else 1) + 2 < ws.length then .wrong (((if decide (ws[1]? = some ("turns" : Str)) = true then (2 : Nat) else 1 : Nat) : Int) + 2) else .kind ⟨p.1, p.2.2, decide (ws[1]? = some ("turns" : Str)), some n⟩
        else if (if decide (ws[1]? = some ("turns" : Str)) = true then (2 : Nat) else 1) < ws.length then .wrong ((if decide (ws[1]? = some ("turns" : Str)) = true then (2 : Nat) else 1 : Nat) : Int) else .kind ⟨p.1, p.2.2, decide (ws[1]? = some ("turns" : Str)), none⟩)
      else .wrong 0 := by
      unfold readW
      rw [hw0, hp]
    generalize htu : decide (ws[1]? = some ("turns" : Str)) = tu at hrd
    generalize hi : (if tu = true then (2 : Nat) else 1) = i at hrd
    refine q_when (b := !lendL.contains p.1 || !letL.contains p.2.2) (et_or (et_test (ev_is (ev_op (ev_var rfl) (ev_cval ev_c T.rd T.vL) (rv_niT (T.tL _) rfl (flat_strs _))) (by rw [inV_str]))) (fun _ => et_test (ev_is (ev_op (ev_var rfl) (ev_cval ev_c T.rd T.vT) (rv_niT (T.tT _) rfl (flat_strs _))) (by rw [inV_str]))))
      (fun z H3 e3 => ?_) (fun z H3 e3 => ?_)
    · refine s_raise2 (W := fun cls d _ H' => E cls d H') (ea_cons (ev_var rfl) (ea_cons (ev_var rfl) ea_nil)) fun d H4 e4 hd => ke 0 ?_ d H4 ((e12.trans e3).trans e4) (by rw [Int.add_zero]; exact hd)
      rw [hrd, if_neg]
      intro y
      simp only [Bool.and_eq_true] at y
      rw [y.1, y.2] at z
      cases z
    have y12 : lendL.contains p.1 = true ∧ letL.contains p.2.2 = true := by
      cases h1 : lendL.contains p.1 <;> cases h2 : letL.contains p.2.2 <;> rw [h1, h2] at z <;> first | exact ⟨rfl, rfl⟩ | cases z
    rw [if_pos (by rw [y12.1, y12.2]; rfl)] at hrd
    have e13 := e12.trans e3
    refine q_asg ev_c fun H4 e4 => ?_
    have okT : okS ["turns"] := by decide +kernel
    have okR : okS ["rests"] := by decide +kernel
    have ok1 : ∀ k, okS (one1 ws k) := fun k => by
      unfold one1
      cases h : ws[k]? with
      | none => rfl
      | some x =>
        have hx := List.all_eq_true.mp hok x (List.mem_of_getElem? h)
        show (PyData.strOk x && true) = true
        rw [hx]
        rfl
    have piece : ∀ {σ : L2.St} {H9 : Hp} (k : Nat) (y : Str), Ex H H9 → okS [y] → σ[0]? = some (some (.ref a)) → σ[6]? = some (some (.int (k : Int))) → Ev (tOp (rEqD K) (tSl (rSlL K) (tVar 0) (tPart (tVar 6)) (tPart (tOp (rI0 fun i j => V.int (i + j)) (tVar 6) (tC (V.int 1))))) (tLst (tCons (tC (V.str y)) tNil))) σ H9 (.bl (decide (ws[k]? = some y))) := fun {σ H9} k y e9 oy h0 h6 =>
      ev_is (ev_opLL (el_sl (ev_var h0) (eo_some (ev_var h6)) (eo_some (ev_op (ev_var h6) ev_c rv_int)) (sq_of (e9 _ _ ha))) (el_lst (ea_cons ev_c ea_nil) (by show 1 ≤ 100000; decide)) (fun r q H8 hr hq _ => rv_eqStrs (l := one1 ws k) (m := [y]) (by rw [← cut_one]; exact sq_of hr) (sq_of hq) (ok1 k) oy)) (congrArg V.bl (one_eq ws k y))
    refine q_asg (v := .bl tu) (ev_is (piece 1 "turns" (e13.trans e4) okT rfl rfl) (by rw [htu])) fun H5 e5 => ?_
    have e15 := (e13.trans e4).trans e5
    refine q_cut (M := fun σ' H' => σ' = [some (.ref a), some (.int line), some (.int before), some (.str p.1), some (.str p.2.1), some (.str p.2.2), some (.int (i : Int)), some (.bl tu), none] ∧ Ex H H') ?_ ?_
    · refine s_if (b := tu) (et_B (ev_var rfl)) (fun h H6 e6 => s_aug rfl ev_c fun H7 e7 => ⟨?_, (e15.trans e6).trans e7⟩) (fun h H6 e6 => ⟨?_, e15.trans e6⟩)
      · rw [← hi, h]
        rfl
      · rw [← hi, h]
        rfl
    rintro σ' H6 ⟨rfl, e16⟩
    refine q_asg ev_c fun H7 e7 => ?_
    have e17 := e16.trans e7
    refine q_cut (M := fun σ' H' => ∃ (j : Nat) (r : Option Int), σ' = [some (.ref a), some (.int line), some (.int before), some (.str p.1), some (.str p.2.1), some (.str p.2.2), some (.int (j : Int)), some (.bl tu), some (optV r)] ∧ Ex H H' ∧ r.all inRest = true ∧
      readW ws = if j < ws.length then .wrong (j : Int) else .kind ⟨p.1, p.2.2, tu, r⟩) ?_ ?_
    · refine s_if (b := decide (ws[i]? = some ("rests" : Str))) (et_test (piece i "rests" e17 okR rfl rfl)) (fun h H8 e8 => ?_) (fun h H8 e8 => ⟨i, none, rfl, e17.trans e8, rfl, ?_⟩)
      · rw [if_pos (of_decide_eq_true h)] at hrd
        have e18 := e17.trans e8
        refine q_aug rfl ev_c fun H9 e9 => ?_
        have e19 := e18.trans e9
        have ci : (i : Int) + 1 = ((i + 1 : Nat) : Int) := by omega
        refine q_asg (v := optV ((ws[i + 1]?).bind numS)) (ev_if (b := decide (i + 1 < ws.length)) (et_test (ev_is (ev_op (ev_var rfl) (ev_cb (r := rLenS K) (ea_cons (ev_var rfl) ea_nil) (fun H8 e8 Q q => ⟨a, _, rfl, .inl (sq_of ((e19.trans e8) _ _ ha)), q H8 (Ex.refl H8)⟩)) rv_int) (congrArg V.bl (decide_eq_decide.mpr (by rw [lws]; omega)))))
          (fun hlt => ?_) (fun hlt => ?_)) fun H10 e10 => ?_
        · have hl := of_decide_eq_true hlt
          have hx : ws[i + 1]? = some ws[i + 1] := List.getElem?_eq_getElem hl
          rw [hx]
          exact ev_call (ea_cons (ev_op (ev_var rfl) (ev_var rfl) (rv_ixL (v := .str ws[i + 1]) (sq_of (e19 _ _ ha)) (by rw [ci]; exact atI_nat (by rw [List.getElem?_map, hx]; rfl)))) (ea_cons ev_c (ea_cons ev_c ea_nil)))
            (fun H8 e8 Q q E => ⟨ws[i + 1], rfl, hlen _ (List.getElem_mem hl), fun H' e' => q H' e'⟩)
        · have hl := of_decide_eq_false hlt
          rw [List.getElem?_eq_none_iff.mpr (by omega)]
          exact ev_c
        have e20 := e19.trans e10
        generalize hb : (ws[i + 1]?).bind numS = rr at hrd
        refine q_when (b := rr.isNone) (et_test (ev_is (ev_op (ev_var rfl) ev_c (fun H9 _ Q9 q9 => ⟨rfl, q9 H9 (Ex.refl H9)⟩)) (by cases rr <;> rfl))) (fun h2 H11 e11 => ?_) (fun h2 H11 e11 => ?_)
        · cases rr with
          | some n => cases h2
          | none =>
            exact s_raise2 (W := fun cls d _ H' => E cls d H') (ea_cons (ev_var rfl) (ea_cons (ev_op (ev_var rfl) (ev_var rfl) rv_int) ea_nil)) fun d H4 e4 hd => ke _ hrd d H4 ((e20.trans e11).trans e4) hd
        · cases rr with
          | none => cases h2
          | some n =>
            refine s_aug rfl ev_c fun H12 e12 => ⟨i + 2, some n, ?_, (e20.trans e11).trans e12, ?_, hrd⟩
            · have : (i : Int) + 1 + 1 = ((i + 2 : Nat) : Int) := by omega
              rw [← this]
              rfl
            · cases hx : ws[i + 1]? with
              | none =>
                rw [hx] at hb
                cases hb
              | some x =>
                rw [hx] at hb
                exact numS_ok hb
      · rw [if_neg (of_decide_eq_false h)] at hrd
        exact hrd
    rintro σ' H8 ⟨j, r, rfl, e18, hr2, hrd2⟩
    refine q_when (b := decide (j < ws.length)) (et_test (ev_is (ev_op (ev_var rfl) (ev_cb (r := rLenS K) (ea_cons (ev_var rfl) ea_nil) (fun H9 e9 Q q => ⟨a, _, rfl, .inl (sq_of ((e18.trans e9) _ _ ha)), q H9 (Ex.refl H9)⟩)) rv_int) (congrArg V.bl (decide_eq_decide.mpr (by rw [lws]; omega))))) (fun h H9 e9 => ?_) (fun h H9 e9 => ?_)
    · rw [if_pos (of_decide_eq_true h)] at hrd2
      exact s_raise2 (W := fun cls d _ H' => E cls d H') (ea_cons (ev_var rfl) (ea_cons (ev_op (ev_var rfl) (ev_var rfl) rv_int) ea_nil)) fun d H4 e4 hd => ke _ hrd2 d H4 ((e18.trans e9).trans e4) hd
    · rw [if_neg (of_decide_eq_false h)] at hrd2
      have e19 := e18.trans e9
      exact e_make (kd := ⟨p.1, p.2.2, tu, r⟩) M.gv (ea_cons (ev_var rfl) (ea_cons (ev_var rfl) ea_nil)) (ea_cons (ev_var rfl) (ea_cons (ev_var rfl) ea_nil)) (by unfold Kd.ok; rw [y12.1, y12.2, hr2]; rfl) H9 (Ex.refl H9) _ fun b H10 e10 hb => kq _ hrd2 b H10 (e19.trans e10) hb
end
end L2.M3
set_option maxRecDepth 100000
set_option maxHeartbeats 4000000
namespace L2.M3
open PySem PySem.Spec PyProof.Rows L2 Mx L2.Mb Evl Mv TL
theorem spl_facts (S : List Nat) : ∀ (l : List Nat) (k : Nat) (acc : List Nat), spl S k acc l ≠ [] ∧ (∀ p ∈ spl S k acc l, p.length ≤ acc.length + l.length ∧ ∀ c ∈ p, c ∈ acc ∨ c ∈ l) ∧ (spl S k acc l).length ≤ l.length + 1
  | [], k, acc => by
    rw [spl_nil]
    refine ⟨by simp, fun p hp => ?_, by simp⟩
    rw [List.mem_singleton.mp hp]
    exact ⟨by simp, fun c hc => .inl hc⟩
  | c :: r, 0, acc => by
    cases h : pre S (c :: r) with
    | true =>
      rw [spl_hit h]
      obtain ⟨h1, h2, h3⟩ := spl_facts S r (S.length - 1) []
      refine ⟨by simp, fun p hp => ?_, by simp; omega⟩
      rcases List.mem_cons.mp hp with z | z
      · rw [z]
        exact ⟨by simp, fun d hd => .inl hd⟩
      · obtain ⟨q1, q2⟩ := h2 p z
        refine ⟨by simp at q1 ⊢; omega, fun d hd => .inr (List.mem_cons_of_mem _ ((q2 d hd).resolve_left (by simp)))⟩
    | false =>
      rw [spl_miss h]
      obtain ⟨h1, h2, h3⟩ := spl_facts S r 0 (acc ++ [c])
      refine ⟨h1, fun p hp => ?_, by simp; omega⟩
      obtain ⟨q1, q2⟩ := h2 p hp
      refine ⟨by simp at q1 ⊢; omega, fun d hd => ?_⟩
      rcases q2 d hd with z | z
      · rcases List.mem_append.mp z with z | z
        · exact .inl z
        · rw [List.mem_singleton.mp z]
          exact .inr List.mem_cons_self
      · exact .inr (List.mem_cons_of_mem _ z)
  | c :: r, k + 1, acc => by
    obtain ⟨h1, h2, h3⟩ := spl_facts S r k acc
    refine ⟨h1, fun p hp => ?_, by show (spl S k acc r).length ≤ _; simp; omega⟩
    obtain ⟨q1, q2⟩ := h2 p hp
    exact ⟨by simp at q1 ⊢; omega, fun d hd => (q2 d hd).imp id (List.mem_cons_of_mem _)⟩
theorem strOk_tl (x : Str) : PyData.strOk x = true ↔ ∀ c ∈ tl x, c < 0x110000 := by
  unfold PyData.strOk
  rw [← Array.all_toList, List.all_eq_true]
  exact ⟨fun h c hc => of_decide_eq_true (h c hc), fun h c hc => decide_eq_true (h c hc)⟩
abbrev wsOf (t : Str) : List Str := Txt.split t " "
theorem split_facts {t : Str} (hl : t.length ≤ 40000) (ok : PyData.strOk t = true) : wsOf t ≠ [] ∧ okS (wsOf t) ∧ (∀ x ∈ wsOf t, x.length ≤ 40000) ∧ (wsOf t).length ≤ 50000 := by
  have hs : tl (" " : Str) ≠ [] := by decide +kernel
  have e := split_spl t " " hs (kind_ok (by decide +kernel))
  obtain ⟨h1, h2, h3⟩ := spl_facts (tl " ") (tl t) 0 []
  rw [← e] at h1 h2 h3
  have lt := len_tl t
  refine ⟨fun z => h1 (by rw [show Txt.split t " " = [] from z]; rfl), List.all_eq_true.mpr fun x hx => (strOk_tl x).mpr fun c hc => ?_, fun x hx => ?_, ?_⟩
  · have q := (h2 (tl x) (List.mem_map.mpr ⟨x, hx, rfl⟩)).2 c hc
    exact (strOk_tl t).mp ok c (q.resolve_left (by simp))
  · have q := (h2 (tl x) (List.mem_map.mpr ⟨x, hx, rfl⟩)).1
    have q2 : (tl x).length ≤ 0 + (tl t).length := q
    have lx := len_tl x
    omega
  · rw [List.length_map] at h3
    show (Txt.split t " ").length ≤ 50000
    omega
section
variable {P : Program} {w : World} {K : W.Frag} {mg : Str → Option Value} {base : Heap} {f fI C CE aL aT : Addr} {fd dI : FuncData} {mc : Value}
/-- Kind.read: of a text, of another thing -/
def spRead (K : W.Frag) (C CE : Addr) : Sp := fun vs H Q E => ∃ x, vs = [.ref C, x] ∧
  ((∃ t : Str, x = .str t ∧ t.length ≤ 40000 ∧ PyData.strOk t = true ∧ (∀ kd, readW (wsOf t) = .kind kd → ∀ b H', Ex H H' → KAt C H' b kd → Q (.ref b) H') ∧ (∀ n, readW (wsOf t) = .wrong n → ∀ d H', Ex H H' → H' d = some (.xd [("word", .int n), ("line", .int 0)]) → E (.ref CE) (some d) H')) ∨
   ∃ ty, (∀ H', Ex H H' → TyX K H' x ty) ∧ W.kitOne K ty (.type "str") = some false ∧ ∀ d H', Ex H H' → H' d = some (.xd [("word", .int 0), ("line", .int 0)]) → E (.ref CE) (some d) H')
theorem ok_read {fW fE : Addr} {dW dE : FuncData} {q : Str} (B : Bt mg) (XE : XT P w K mg base CE fE dE) (okW : FnOk P w K mg base (L2.CX P w) 4 fW dW p_kind_of_words (spWords C CE)) (mW : mg "kind_of_words" = some (.ref fW)) (kW : W.keepIn K (.ref fW) = true) (bW : Binds K dW p_kind_of_words [])
    (F : FnC K "read" q s_Kind_read [] f fd) : FnOk P w K mg base (L2.CX P w) 5 f fd ["cls", "text"] (spRead K C CE) := by
  refine F.ok sc_Kind_read (fun vs H Q E h => ?_) (fun cdv A outer s H vs Q E hr h => ?_)
  · obtain ⟨x, rfl, _⟩ := h
    rfl
  · obtain ⟨x, rfl, h⟩ := h
    refine ⟨_, (pss_cons (ps_if (pt_not (pt_val (pe_callB call_isi (by rfl) B.isinstance (by decide +kernel) (pa_cons (pv 1) (pa_cons (pe_bltn (v := .ty "str") (by rfl) B.str (by decide +kernel) rfl) pa_nil)))))
        (pss_one (ps_raise rfl (takes_of rfl rfl rfl rfl) (pmk_oex (XE.ec.oex XE.ty) XE.ec.ini XE.ec.tfn XE.ok (hr.mono (by decide)) XE.b .nil pass0 (by rfl) XE.m (pa_cons pe_int (pa_cons pe_int pa_nil))))) pss_nil)
      (pss_one (ps_ret (pe_call okW hr (by rfl) mW kW bW .nil (passes_call (takes_of rfl rfl rfl rfl) (fun _ _ _ _ h => h)) (pa_cons (pe_split (pv 1) pe_str) (pa_cons pe_int (pa_cons pe_int pa_nil))))))), ?_⟩
    rcases h with ⟨t, rfl, hl, hok, kq, ke⟩ | ⟨ty, hty, hk, ke⟩
    · refine q_when (b := false) (et_not (a := true) (et_B (ev_cb (ea_cons (ev_var rfl) (ea_cons ev_c ea_nil)) (rc_isi (t := .type "str") (.ty "str") (fun _ _ => .base (.str _)) (kit_ty (a := "str") (b := "str") (r := true) (by decide +kernel)))))) (fun z => by cases z) (fun _ H1 e1 => ?_)
      obtain ⟨s1, s2, s3, s4⟩ := split_facts hl hok
      refine el_split (a := t) (b := " ") (ev_var rfl) ev_c rfl (by decide +kernel) (by omega) H1 (Ex.refl H1) _ fun p H2 _ e2 hp => ?_
      refine ⟨p, wsOf t, 0, 0, rfl, hp, s1, s2, s3, s4, fun kd hk b H' e hb => kq kd hk b H' ((e1.trans e2).trans e) hb, fun n hn d H' e hd => ke n hn d H' ((e1.trans e2).trans e) (by rw [Int.zero_add] at hd; exact hd)⟩
    · refine q_when (b := true) (et_not (a := false) (et_B (ev_cb (ea_cons (ev_var rfl) (ea_cons ev_c ea_nil)) (rc_isi (t := ty) (.ty "str") (fun H1 e1 => hty H1 e1) hk)))) (fun _ H1 e1 => ?_) (fun z => by cases z)
      exact s_raise2 (W := fun cls d _ H' => E cls d H') (ea_cons ev_c (ea_cons ev_c ea_nil)) fun d H4 e4 hd => ke d H4 (e1.trans e4) hd
/-! ### a kind's text -/
def Kd.words (k : Kd) : List Str := [k.le ++ "/" ++ k.lt] ++ (if k.tu = true then (["turns"] : List Str) else []) ++ (match k.re with
  | some n => [("rests " : Str) ++ (toString n : Str)]
  | none => [])
def Kd.text (k : Kd) : Str := Txt.join " " k.words
def spText (C : Addr) (g : Kd → Str) : Sp := fun vs H Q _ => ∃ (a : Addr) (k : Kd), vs = [.ref a] ∧ k.ok = true ∧ KAt C H a k ∧ ∀ H', Ex H H' → Q (.str (g k)) H'
theorem lend_len {x : Str} (h : lendL.contains x = true) : x.length ≤ 4 := by
  have z := List.contains_iff_mem.mp h
  simp only [List.mem_cons, List.not_mem_nil, or_false] at z
  rcases z with rfl | rfl | rfl <;> decide +kernel
theorem let_len {x : Str} (h : letL.contains x = true) : x.length ≤ 4 := by
  have z := List.contains_iff_mem.mp h
  simp only [List.mem_cons, List.not_mem_nil, or_false] at z
  rcases z with rfl | rfl | rfl <;> decide +kernel
theorem num_len {n : Int} (h : inRest n = true) : ((toString n : String) : Str).length ≤ 7 := by
  unfold inRest at h
  simp only [Bool.and_eq_true, decide_eq_true_eq] at h
  obtain ⟨m, rfl⟩ := Int.eq_ofNat_of_zero_le (show 0 ≤ n by omega)
  rw [len_tl, tl_num]
  exact numL_len (by decide) (by omega)
theorem num_log {n : Int} (h : inRest n = true) : n.natAbs.log2 < 1920 := by
  unfold inRest at h
  simp only [Bool.and_eq_true, decide_eq_true_eq] at h
  by_cases hz : n.natAbs = 0
  · rw [hz]
    decide
  · refine (Nat.log2_lt hz).mpr (Nat.lt_of_lt_of_le (show n.natAbs < 2 ^ 20 by omega) (Nat.pow_le_pow_right (by decide) (by decide)))
theorem words_sum {kd : Kd} (o1 : lendL.contains kd.le = true) (o2 : letL.contains kd.lt = true) (o3 : kd.re.all inRest = true) : (kd.words.map (·.length)).sum + kd.words.length * (" " : Str).length ≤ 100 := by
  have l1 := lend_len o1
  have l2 := let_len o2
  have s1 : ("/" : Str).length = 1 := by decide +kernel
  have s2 : (" " : Str).length = 1 := by decide +kernel
  have s3 : ("turns" : Str).length = 5 := by decide +kernel
  have s4 : ("rests " : Str).length = 6 := by decide +kernel
  have h1 : (kd.le ++ "/" ++ kd.lt).length = kd.le.length + 1 + kd.lt.length := by
    rw [len_tl, tl_append, tl_append, List.length_append, List.length_append, ← len_tl, ← len_tl, ← len_tl, s1]
  unfold Kd.words
  cases hre : kd.re with
  | none => cases kd.tu <;> simp [h1, s2, s3] <;> omega
  | some n =>
    rw [hre] at o3
    have y1 := num_len (show inRest n = true from o3)
    have h2 : (("rests " : Str) ++ (toString n : Str)).length = 6 + ((toString n : String) : Str).length := by
      rw [len_tl, tl_append, List.length_append, ← len_tl, ← len_tl, s4]
    have h3 : (("rests " : Str) ++ Str.ofString n.repr).length = 6 + (Str.ofString n.repr).length := h2
    have y2 : (Str.ofString n.repr).length ≤ 7 := y1
    cases kd.tu <;> simp [h1, h3, s2, s3] <;> omega
theorem join_len (y : Str) : ∀ l : List Str, (Str.join y l).length ≤ (l.map (·.length)).sum + l.length * y.length
  | [] => Nat.zero_le _
  | [x] => by
    show x.length ≤ _
    simp
  | x :: z :: r => by
    have ih := join_len y (z :: r)
    show (x ++ y ++ Str.join y (z :: r)).length ≤ _
    rw [len_tl, tl_append, tl_append, List.length_append, List.length_append, ← len_tl, ← len_tl, ← len_tl]
    simp only [List.map_cons, List.sum_cons, List.length_cons, Nat.succ_mul] at ih ⊢
    omega
theorem text_len {kd : Kd} (h : kd.ok = true) : kd.text.length ≤ 100 := by
  unfold Kd.ok at h
  simp only [Bool.and_eq_true] at h
  unfold Kd.text
  rw [join_eq]
  exact Nat.le_trans (join_len _ _) (words_sum h.1 h.2.1 h.2.2)
theorem emp_app (x : Str) : Str.empty ++ x = x := ext_tl (by rw [tl_append]; rfl)
theorem ev_fK {σ : L2.St} {H : Hp} {a : Addr} {kd : Kd} {i : Nat} {x : Str} {v : V} (cl : Cls K C) (n : NoAttr K C x) (h0 : σ[i]? = some (some (.ref a))) (ha : KAt C H a kd) (hl : kd.fs.lookup x = some v) : Ev (tFld K (tVar i) x) σ H v := fun H1 e Q q => by
  obtain ⟨dx, hd⟩ := ha
  exact ⟨_, h0, a, C, dx, _, v, rfl, e _ _ hd, cl, n, hl, q H1 (Ex.refl H1)⟩
theorem ok_str {q : Str} (B : Bt mg) {aL aT : Addr} (T : KF K mg C mc aL aT) (F : FnC K "__str__" q s_Kind_str [] f fd) : FnOk P w K mg base CX0 1 f fd ["self"] (spText C Kd.text) := by
  refine F.ok sc_Kind_str (fun vs H Q E h => ?_) (fun cdv A outer s H vs Q E hr h => ?_)
  · obtain ⟨a, k, rfl, _⟩ := h
    rfl
  · obtain ⟨a, kd, rfl, hok, ha, k⟩ := h
    have nd := sc_Kind_str.nd
    unfold Kd.ok at hok
    simp only [Bool.and_eq_true] at hok
    obtain ⟨o1, o2, o3⟩ := hok
    have l1 := lend_len o1
    have l2 := let_len o2
    refine ⟨_, PSs.nox (pss_cons (ps_set (i := 1) nd rfl (Or.inl rfl) (pe_lst (pa_cons (pe_op op_add_str (pe_op op_add_str (pe_fld (pv 0) rfl) pe_str) (pe_fld (pv 0) rfl)) pa_nil)))
      (Evl.pss_cut (ps_if (pt_val (pe_fld (pv 0) rfl)) (pss_one (ps_expr (pe_bm PySem.F.plainAttrs_list PySem.F.slot_list_append PySem.F.type_list_append mt_append (pv 1) (pa_cons pe_str pa_nil)))) pss_nil)
      (Evl.pss_cut (ps_if (pt_cmpR op_notN (pe_fld (pv 0) rfl) pe_non (nomark _)) (pss_one (ps_expr (pe_bm PySem.F.plainAttrs_list PySem.F.slot_list_append PySem.F.type_list_append mt_append (pv 1) (pa_cons (pe_op op_add_str pe_str (pe_callTy call_str_int (by rfl) B.str (by decide +kernel) (pa_cons (pe_fld (pv 0) rfl) pa_nil))) pa_nil)))) pss_nil)
      (pss_one (ps_ret (pe_join pe_str (pv 1))))))), ?_⟩
    have sl : ("/" : Str).length = 1 := by decide +kernel
    have sl2 : (kd.le ++ "/").length = kd.le.length + 1 := by
      rw [len_tl, tl_append, List.length_append, ← len_tl, ← len_tl, sl]
    refine q_asgL (xs := ([kd.le ++ "/" ++ kd.lt] : List Str).map V.str) (el_lst (ea_cons (ev_op (ev_op (ev_fK T.cl T.n1 rfl ha rfl) ev_c (rv_catS (by rw [sl]; omega))) (ev_fK T.cl T.n2 rfl ha rfl) (rv_catS (by rw [sl2]; omega))) ea_nil) (by show 1 ≤ 100000; decide)) fun l H1 nl e1 hl => ?_
    have nla : H l = none := nl
    refine q_cut (M := fun σ' H' => σ' = [some (.ref a), some (.ref l)] ∧ Ex H H' ∧ H' l = some (.lst (([kd.le ++ "/" ++ kd.lt] ++ (if kd.tu = true then (["turns"] : List Str) else [])).map V.str))) ?_ ?_
    · refine s_if (b := kd.tu) (et_B (ev_fK T.cl T.n3 rfl (ha.mono e1) rfl)) (fun h H2 e2 => ?_) (fun h H2 e2 => ⟨rfl, e1.trans e2, ?_⟩)
      · refine s_app (xs := ([kd.le ++ "/" ++ kd.lt] : List Str).map V.str) (e2 _ _ hl) (ev_var rfl) ev_c (by show 1 < 100000; decide) fun H3 e3 => ⟨rfl, Ex.mut ((e1.trans e2).trans e3) nla, ?_⟩
        rw [if_pos h]
        exact upd_same
      · rw [if_neg (by rw [h]; simp)]
        exact e2 _ _ hl
    rintro σ' H2 ⟨rfl, e2, hl2⟩
    refine q_cut (M := fun σ' H' => σ' = [some (.ref a), some (.ref l)] ∧ Ex H H' ∧ H' l = some (.lst (kd.words.map V.str))) ?_ ?_
    · refine s_if (b := kd.re.isSome) (et_test (ev_is (ev_op (ev_fK T.cl T.n4 rfl (ha.mono e2) rfl) ev_c (fun H9 _ Q9 q9 => ⟨rfl, q9 H9 (Ex.refl H9)⟩)) (by cases kd.re <;> rfl))) (fun h H3 e3 => ?_) (fun h H3 e3 => ⟨rfl, e2.trans e3, ?_⟩)
      · cases hre : kd.re with
        | none =>
          rw [hre] at h
          cases h
        | some n =>
          rw [hre] at o3
          have o4 : inRest n = true := o3
          have hv : kd.fs.lookup ("_rests" : Str) = some (V.int n) := by
            show some (optV kd.re) = _
            rw [hre]
            rfl
          have y1 := num_len o4
          have y2 : ("rests " : Str).length = 6 := by decide +kernel
          refine s_app (e3 _ _ hl2) (ev_var rfl) (ev_op ev_c (ev_cb (r := rStrI) (ea_cons (ev_fK T.cl T.n4 rfl ((ha.mono e2).mono e3) hv) ea_nil) (rc_strI (num_log o4))) (rv_catS (by omega))) (by rw [List.length_map]; split <;> simp) fun H4 e4 => ⟨rfl, Ex.mut ((e2.trans e3).trans e4) nla, ?_⟩
          unfold Kd.words
          rw [hre, List.map_append, List.map_append, List.map_append]
          exact upd_same
      · unfold Kd.words
        cases hre : kd.re with
        | some n =>
          rw [hre] at h
          cases h
        | none =>
          rw [List.append_nil]
          exact e3 _ _ hl2
    rintro σ' H3 ⟨rfl, e3, hl3⟩
    refine s_ret (ev_join (a := " ") (ys := kd.words) ev_c (ev_var rfl) rfl (sq_of hl3) (Nat.le_trans (words_sum o1 o2 o3) (by decide))) fun H4 e4 => k H4 (e3.trans e4)
theorem ok_repr {q : Str} {fS : Addr} {dS : FuncData} (B : Bt mg) (okS : FnOk P w K mg base CX0 1 fS dS ["self"] (spText C Kd.text)) (hs : W.findIn K (.ref C) "__str__" = some (some (.ref fS))) (hf : W.isFn K (.ref fS) = true) (bS : Binds K dS ["self"] [])
    (F : FnC K "__repr__" q s_Kind_repr [] f fd) : FnOk P w K mg base CX0 4 f fd ["self"] (spText C fun k => "Kind(" ++ k.text ++ ")") := by
  refine F.ok sc_Kind_repr (fun vs H Q E h => ?_) (fun cdv A outer s H vs Q E hr h => ?_)
  · obtain ⟨a, k, rfl, _⟩ := h
    rfl
  · obtain ⟨a, kd, rfl, hok, ha, k⟩ := h
    refine ⟨_, PSs.nox (pss_one (ps_ret (pe_joined (PJ.cons pe_str (PJ.cons (pe_fmt (pe_callTy (call_strO okS hs hf bS pass0 hr) (by rfl) B.str (by decide +kernel) (pa_cons (pv 0) pa_nil))) (PJ.cons pe_str PJ.nil)))))), ?_⟩
    have tz := text_len hok
    have s1 : ("Kind(" : Str).length = 5 := by decide +kernel
    have s2 : (")" : Str).length = 1 := by decide +kernel
    obtain ⟨dx, hd⟩ := ha
    have l1 : ("Kind(" ++ kd.text).length = 5 + kd.text.length := by
      rw [len_tl, tl_append, List.length_append, ← len_tl, ← len_tl, s1]
    refine ⟨"Kind(", rfl, (by rw [emp_app, s1]; decide), _, rfl, a, dx, _, rfl, hd, a, kd, rfl, hok, ⟨dx, hd⟩, fun H1 e1 => ⟨⟨_, rfl⟩, .inl ⟨_, rfl, sz_of (by omega), kd.text, rfl, ?_, ")", rfl, ?_, ?_⟩⟩⟩
    · rw [emp_app]
      exact sz_of (by omega)
    · rw [emp_app]
      refine sz_of ?_
      rw [len_tl, tl_append, List.length_append, ← len_tl, ← len_tl, l1, s2]
      omega
    · rw [emp_app]
      exact k H1 e1
end
end L2.M3
set_option maxRecDepth 100000
set_option maxHeartbeats 4000000
namespace L2.M3
open PySem PySem.Spec PyProof.Rows L2 Mx L2.Mb Evl Mv TL
/-- d[k], d a written dict with text keys -/
def rIxK (K : W.Frag) (d : Addr) : R2 := fun x y H Q => ∃ (z : Str) (u0 : Value) (v0 : V), x = .ref d ∧ y = .str z ∧ W.nsIn K d z = some (some u0) ∧ RelV v0 u0 ∧ Q v0 H
theorem ix_kd {X : Cx} {d : Addr} {es : Array DictEntry} {n : Nat} (D : KDict X.K X.w d es n) : IxR X (rIxK X.K d) := by
  intro value slice pins s σ H x y v u Q I rx ry h hs
  obtain ⟨z, u0, v0, rfl, rfl, e, r, q⟩ := h
  cases rx
  obtain ⟨t, rfl⟩ := ry
  exact subscriptTail_builtinR (x := u0) (kd_type D I) slot_dict_getitem.lookup (wpAny_getItem_of (Q := fun r s' => r = u0 ∧ EP X pins σ Q r s') (strKind_is X.prog X.w z t) (W.mapOf_K (prog := X.prog) I.kIn D.at_ D.lit) (W.find_K D.at_ e) ⟨rfl, v0, H, I.tok _, r, q⟩) hs
/-- the getters of Kind -/
structure KP (P : Program) (w : World) (K : W.Frag) (mg : Str → Option Value) (base : Heap) (C : Addr) (x : Str) (v : Kd → V) : Prop where
  ex : ∃ (p g : Addr) (fd : FuncData), PropOf K C x p g ∧ FnOk P w K mg base CX0 1 g fd ["self"] (spGet C v) ∧ Binds K fd ["self"] []
section
variable {P : Program} {w : World} {K : W.Frag} {mg : Str → Option Value} {base : Heap} {f fI C CE aL aT : Addr} {fd dI : FuncData} {mc : Value}
/-- e.x, x a property -/
def tPr (C : Addr) (v : Kd → V) (ta : TE) : TE := fun σ H Q => ta σ H fun x H1 => ∃ (a : Addr) (k : Kd), x = .ref a ∧ KAt C H1 a k ∧ Q (v k) H1
theorem pe_pr {X : Cx} {e : Expr} {x : Str} {pos : Pos} {ta : TE} {v : Kd → V} (T : KF X.K X.mg C mc aL aT) (p : KP X.prog X.w X.K X.mg X.base C x v) (hr : Room 2 X.A) (he : PE X e ta) (hab : attributeBase e x X.env (eval e X.env) = eval e X.env := by rfl) : PE X (.Attribute e x pos) (tPr C v ta) := by
  obtain ⟨pp, g, fd, h1, h2, h3⟩ := p.ex
  refine ⟨fun pins s σ H Q I h => ?_⟩
  refine attr_of hab (thn (he.run pins s σ H _ I h) fun u s1 ⟨y, H1, I1, ry, a, kd, ey, ⟨dx, ea⟩, q⟩ => ?_)
  subst ey
  obtain rfl : u = Value.ref a := ry
  exact getprop_ok I1 ea T.cl h1 h2 hr h3 .nil pass0 ⟨a, kd, rfl, ⟨dx, ea⟩, q⟩
theorem ev_pr {σ : L2.St} {H : Hp} {te : TE} {a : Addr} {kd : Kd} {v : Kd → V} (h : Ev te σ H (.ref a)) (ha : KAt C H a kd) : Ev (tPr C v te) σ H (v kd) := fun H1 e Q q => h H1 e _ fun H2 e2 => ⟨a, kd, rfl, ha.mono (e.trans e2), q H2 e2⟩
/-- the table LOOSE -/
structure LO (w : World) (K : W.Frag) (mg : Str → Option Value) (d : Addr) (es : Array DictEntry) (n : Nat) : Prop where
  m : mg "LOOSE" = some (.ref d)
  k : KDict K w d es n
  v : ∀ x : Str, x ∈ (["both", "far", "one", "any"] : List Str) → ∃ t, W.nsIn K d x = some (some (.int (if x = "both" then 0 else if x = "far" then 1 else 2) t))
def looseV (x : Str) : Int := if x = "both" then 0 else if x = "far" then 1 else 2
def Kd.ranks (k : Kd) : List Int := [looseV k.le, looseV k.lt, if k.tu = true then 1 else 0, match k.re with
  | some n => n
  | none => 1000001]
def spRanks (C : Addr) : Sp := fun vs H Q _ => ∃ (a : Addr) (k : Kd), vs = [.ref a] ∧ k.ok = true ∧ KAt C H a k ∧ ∀ p H', H p = none → Ex H H' → H' p = some (.lst (k.ranks.map V.int)) → Q (.ref p) H'
theorem ok_ranks {d : Addr} {es : Array DictEntry} {n : Nat} {t2 : Tok} (B : Bt mg) (T : KF K mg C mc aL aT) (L : LO w K mg d es n) (c2 : mg "MOST_REST" = some (.int 1000000 t2)) (pL : KP P w K mg base C "lends" fun k => .str k.le) (pT : KP P w K mg base C "lets" fun k => .str k.lt) (pU : KP P w K mg base C "turns" fun k => .bl k.tu)
    (pR : KP P w K mg base C "rests" fun k => optV k.re) (F : FnP K "_ranks" s_ranks f fd) : FnOk P w K mg base CX0 3 f fd p_ranks (spRanks C) := by
  refine F.ok sc_ranks (fun vs H Q E h => ?_) (fun cdv A outer s H vs Q E hr h => ?_)
  · obtain ⟨a, k, rfl, _⟩ := h
    rfl
  · obtain ⟨a, kd, rfl, hok, ha, k⟩ := h
    have nd := sc_ranks.nd
    unfold Kd.ok at hok
    simp only [Bool.and_eq_true] at hok
    obtain ⟨o1, o2, o3⟩ := hok
    refine ⟨_, PSs.nox (pss_cons (ps_set (i := 1) nd rfl (Or.inl rfl) (pe_ifExp (pt_cmpR op_isN (pe_pr T pR hr (pv 0)) pe_non (nomark _)) (pe_op op_add (pe_glob (v := .int 1000000) (by rfl) c2 ⟨_, rfl⟩) pe_int) (pe_pr T pR hr (pv 0))))
      (pss_one (ps_ret (pe_lst (pa_cons (pe_ix (ix_kd L.k) (pe_glob (v := .ref d) (by rfl) L.m rfl) (pe_pr T pL hr (pv 0)) (fun _ _ => rfl)) (pa_cons (pe_ix (ix_kd L.k) (pe_glob (v := .ref d) (by rfl) L.m rfl) (pe_pr T pT hr (pv 0)) (fun _ _ => rfl)) (pa_cons (pe_callTy call_int1 (by rfl) B.int (by decide +kernel) (pa_cons (pe_pr T pU hr (pv 0)) pa_nil)) (pa_cons (pv 1) pa_nil)))))))), ?_⟩
    have ixl : ∀ {σ : L2.St} {H9 : Hp} {te : TE} {x : Str}, x ∈ (["both", "far", "one", "any"] : List Str) → Ev te σ H9 (.str x) → Ev (tOp (rIxK K d) (tC (.ref d)) te) σ H9 (.int (looseV x)) := fun {σ H9 te x} hx h => by
      obtain ⟨t, e⟩ := L.v x hx
      exact ev_op ev_c h fun H8 _ Q q => ⟨x, _, .int (looseV x), rfl, rfl, e, ⟨t, rfl⟩, q H8 (Ex.refl H8)⟩
    have m1 : kd.le ∈ (["both", "far", "one", "any"] : List Str) := by
      have z := List.contains_iff_mem.mp o1
      simp only [List.mem_cons, List.not_mem_nil, or_false] at z
      rcases z with z | z | z <;> rw [z] <;> simp
    have m2 : kd.lt ∈ (["both", "far", "one", "any"] : List Str) := by
      have z := List.contains_iff_mem.mp o2
      simp only [List.mem_cons, List.not_mem_nil, or_false] at z
      rcases z with z | z | z <;> rw [z] <;> simp
    refine q_asg (v := .int (match kd.re with | some n => n | none => 1000001)) (ev_if (b := kd.re.isNone) (et_test (ev_is (ev_op (ev_pr (ev_var rfl) ha) ev_c (fun H9 _ Q9 q9 => ⟨rfl, q9 H9 (Ex.refl H9)⟩)) (by cases kd.re <;> rfl)))
      (fun h => ev_is (ev_op ev_c ev_c rv_int) (by cases hre : kd.re with | none => rfl | some n => rw [hre] at h; cases h)) (fun h => ev_is (ev_pr (ev_var rfl) ha) (by cases hre : kd.re with | some n => rfl | none => rw [hre] at h; cases h))) fun H1 e1 => ?_
    refine s_retL (xs := kd.ranks.map V.int) (el_lst (ea_cons (ixl m1 (ev_pr (ev_var rfl) (ha.mono e1))) (ea_cons (ixl m2 (ev_pr (ev_var rfl) (ha.mono e1))) (ea_cons ?_ (ea_cons (ev_var rfl) ea_nil)))) (by show 4 ≤ 100000; decide)) fun p H2 np e2 hp => k p H2 (fresh_back e1 np) (e1.trans e2) hp
    refine ev_cb (ea_cons (ev_pr (v := fun k => .bl k.tu) (ev_var rfl) (ha.mono e1)) ea_nil) fun H9 _ Q q => .inr ⟨kd.tu, rfl, ?_⟩
    exact q H9 (Ex.refl H9)
theorem dp_is {H : Hp} : ∀ ns : List Int, DpAll K H (ns.map V.int) (ns.map PyData.int)
  | [] => .nil
  | n :: r => .cons (.int n) (dp_is r)
theorem is_lay : ∀ ns : List Int, PyData.canLayAll0 (ns.map PyData.int) = true ∧ PyData.depthAll (ns.map PyData.int) = 0
  | [] => ⟨by simp [PyData.canLayAll0], by simp [PyData.depthAll]⟩
  | n :: r => by
    obtain ⟨h1, h2⟩ := is_lay r
    exact ⟨by simp only [List.map_cons, PyData.canLayAll0, PyData.canLay0, h1, Bool.and_self], by simp only [List.map_cons, PyData.depthAll, PyData.depth, h2, Nat.max_self]⟩
theorem is_shaped (ns : List Int) : SeqAt.shaped (.list (ns.map PyData.int)) = true := by
  obtain ⟨h1, h2⟩ := is_lay ns
  show (PyData.canLay0 (.list (ns.map PyData.int)) && decide (PyData.depth (.list (ns.map PyData.int)) ≤ 64)) = true
  simp only [PyData.canLay0, PyData.depth, h1, h2]
  decide
theorem eqv_is : ∀ l : List Int, PyData.eqvAll (l.map PyData.int) (l.map PyData.int) = true
  | [] => by simp [PyData.eqvAll]
  | b :: r => by simp [PyData.eqvAll, PyData.eqv, eqv_is r]
theorem rv_eqIs {H : Hp} {r q : Addr} {l : List Int} (hr : SqL K H r (l.map V.int)) (hq : SqL K H q (l.map V.int)) : RV (rEqD K) (.ref r) (.ref q) H (.bl true) := fun H1 e Q k => by
  refine ⟨_, _, .lst (ex_l e hr) (dp_is l), .lst (ex_l e hq) (dp_is l), is_shaped l, is_shaped l, ?_⟩
  have z : PyData.eqv (.list (l.map PyData.int)) (.list (l.map PyData.int)) = true := by simp only [PyData.eqv, eqv_is]
  rw [z]
  exact k H1 (Ex.refl H1)
/-- two kinds with the same parts -/
def sameK (C : Addr) : Addr → Addr → Hp → Prop := fun a b H => ∃ kd : Kd, kd.ok = true ∧ KAt C H a kd ∧ KAt C H b kd
theorem ok_eq {fR : Addr} {dR : FuncData} {q : Str} (B : Bt mg) (T : KF K mg C mc aL aT) (IC : C8.InsC K C) (D : Fn0 P w K mg base "_ranks" 3 fR dR p_ranks (spRanks C)) (F : FnC K "__eq__" q s_Kind_eq [] f fd) : FnOk P w K mg base CX0 4 f fd ["self", "other"] (spEq (sameK C)) := by
  refine F.ok sc_Kind_eq (fun vs H Q E h => ?_) (fun cdv A outer s H vs Q E hr h => ?_)
  · obtain ⟨a, b, rfl, _⟩ := h
    rfl
  · obtain ⟨a, b, rfl, ⟨kd, hok, ha, hb⟩, k⟩ := h
    have hu := hr.units
    refine ⟨_, PSs.nox (pss_one (ps_ret (pe_and (pe_callB (C8.call_isC IC) (by rfl) B.isinstance (by decide +kernel) (pa_cons (pv 1) (pa_cons (pe_glob (v := .ref C) (by rfl) T.m rfl) pa_nil)))
      (pe_one (pe_cmpR (op_eqD hu) (pe_call D.ok hr (by rfl) D.m D.k D.b .nil pass0 (pa_cons (pv 0) pa_nil)) (pe_call D.ok hr (by rfl) D.m D.k D.b .nil pass0 (pa_cons (pv 1) pa_nil)) (nomark _)))))), ?_⟩
    have call : ∀ {i : Nat} {x : Addr}, ([some (.ref a), some (.ref b)] : L2.St)[i]? = some (some (.ref x)) → KAt C H x kd → EvL (tCall (spRanks C) [] E0 (tCons (tVar i) tNil)) [some (.ref a), some (.ref b)] H (kd.ranks.map V.int) := fun {i x} hi hx =>
      el_call (ea_cons (ev_var hi) ea_nil) fun H1 e1 Q q E => ⟨x, kd, rfl, hok, hx.mono e1, fun p H' np e hp => q p H' np e hp⟩
    refine s_ret (v := .bl true) (ev_andV (a := true) (b := true) (ev_cb (ea_cons (ev_var rfl) (ea_cons ev_c ea_nil)) (fun H1 e1 Q q => hb.elim fun dx z => ⟨b, dx, _, rfl, e1 _ _ z, q H1 (Ex.refl H1)⟩)) (fun _ => ev_opLL (call rfl ha) (call rfl hb) (fun r q H1 hr hq _ => rv_eqIs (sq_of hr) (sq_of hq)))) fun H1 e1 => k H1 e1
end
end L2.M3
set_option maxRecDepth 100000
set_option maxHeartbeats 4000000
namespace L2.M3
open PySem PySem.Spec PyProof.Rows L2 Mx L2.Mb Evl Mv TL LamX
/-! ### told: what a call gives, its value or its error -/
abbrev n_told : List Str := ["_law_ask", "_law_caught", "_law_made", "error"]
theorem sc_told : FnScope n_told ["_law_ask"] (defScope s_law_told) := ⟨rfl, rfl, rfl, by decide +kernel, rfl, by decide +kernel, by decide +kernel⟩
/-- the error classes as told looks at them -/
structure TF (K : W.Frag) (mg : Str → Option Value) (CE cM cS cO cC cK cP : Addr) : Prop where
  m1 : mg "MeetError" = some (.ref cM)
  m2 : mg "NoStation" = some (.ref cS)
  m3 : mg "TooMany" = some (.ref cO)
  m4 : mg "Clash" = some (.ref cC)
  m5 : mg "InvalidKind" = some (.ref cK)
  m6 : mg "InvalidPart" = some (.ref cP)
  ex : W.exmAny K (.ref CE) [.ref cM, .ref cS, .ref cO] = some true
  k1 : W.kitOne K (.ref CE) (.ref CE) = some true
  k2 : W.kitOne K (.ref CE) (.ref cM) = some true
  k3 : W.kitAny K (.ref CE) [.ref cC, .ref cK, .ref cP, .ref cS, .ref cO] = some false
def TT3 (C CE : Addr) : (XK → Hp → VK → Prop) → Hp → VK → Prop := fun tl H Q => ∀ (E' : XK) (Q' : VK),
  (∀ dd n H1, H1 dd = some (.xd [("word", .int n), ("line", .int 0)]) → (∀ p H2, Ex H1 H2 → H2 p = some (.tup [.str "wrong", .int n]) → Q (.ref p) H2) → E' (.ref CE) (some dd) H1) →
  (∀ a kd H1, KAt C H1 a kd → (∀ p l H2, Ex H1 H2 → H2 l = some (.lst [.str kd.le, .str kd.lt, .bl kd.tu, optV kd.re]) → H2 p = some (.tup [.str "kind", .ref l]) → Q (.ref p) H2) → Q' (.ref a) H1) → tl E' H Q'
section
variable {P : Program} {w : World} {K : W.Frag} {mg : Str → Option Value} {base : Heap}
theorem hat_mono {H H' : Hp} {a C : Addr} {fs : List (Str × V)} (h : HAt H a C fs) (e : Ex H H') : HAt H' a C fs := h.elim fun d z => ⟨d, e _ _ z.1, e _ _ z.2⟩
theorem ev_getH {σ : L2.St} {H : Hp} {te : TE} {a C fI : Addr} {b : EB} {fs : List (Str × V)} {x : Str} {v : V} (h : Ev te σ H (.ref a)) (hx : HAt H a C fs) (T : EC K C fI b) (no : W.findIn K (.ref C) x = some none) (lk : fs.lookup x = some v) : Ev (tGetH K x te) σ H v := fun H1 e Q q =>
  h H1 e _ fun H2 e2 => ⟨a, C, fI, b, fs, v, rfl, hat_mono hx (e.trans e2), T, no, lk, q H2 e2⟩
theorem told_ps {g C CE fE cM cS cO cC cK cP aL aT : Addr} {mc cdg : Value} {dE : FuncData} {q : Str} {A : Around} {outer : List Env} (B : Bt mg) (T : KF K mg C mc aL aT) (XE : XT P w K mg base CE fE dE) (Z : TF K mg CE cM cS cO cC cK cP)
    (pL : KP P w K mg base C "lends" fun k => .str k.le) (pT : KP P w K mg base C "lets" fun k => .str k.lt) (pU : KP P w K mg base C "turns" fun k => .bl k.tu) (pR : KP P w K mg base C "rests" fun k => optV k.re)
    {f c' : Addr} {s : Shared} {H : Hp} {Q : VK} {tl : XK → Hp → VK → Prop} (hr2 : Room 2 (A.deeper (envOfC "_law_told" (defScope s_law_told) s.heap.objs.size g cdg)))
    (act : ∀ (W : WX) (pn : List (Addr × Obj)) (xe : Value → Shared → Prop) (E : XK) (p1 p2 : Pos), Takes ((cxOf C8.CX0 P w K mg base n_told "_law_told" (defScope s_law_told) g cdg A outer s H C8.E0).tr pn xe) W → (∀ cls d σ' H', E cls d H' → W cls d σ' H') →
      PE ((cxOf C8.CX0 P w K mg base n_told "_law_told" (defScope s_law_told) g cdg A outer s H C8.E0).tr pn xe) (.Call (.Name "_law_ask" p1) [] [] p2) (fun σZ HZ Q => σZ[0]? = some (some (.ref f)) ∧ HZ c' = some (CodeO c' q) ∧ tl E HZ Q))
    (hc : H c' = some (CodeO c' q)) (h : TT3 C CE tl H Q) :
    ∃ t, PSs (cxOf C8.CX0 P w K mg base n_told "_law_told" (defScope s_law_told) g cdg A outer s H C8.E0).nox (defBody s_law_told) t ∧ t { nx := fun _ H' => Q .non H', rt := Q } (L2.start n_told [.ref f]) H := by
  have nd := sc_told.nd
  have ecT := XE.ec
  refine ⟨_, pss_cons (ps_set (i := 1) nd rfl (Or.inl rfl) pe_non)
    (pss_cons (ps_try_hold (X := (cxOf C8.CX0 P w K mg base n_told "_law_told" (defScope s_law_told) g cdg A outer s H C8.E0).nox) (c1 := .ref cM) (c2 := .ref cS) (c3 := .ref cO) (i := 3)
        (tb := fun W D σ H => ∃ Ech : XK, (∀ cls d σ' H', Ech cls d H' → W cls d σ' H') ∧ σ = [some (.ref f), some .non, none, none] ∧ H c' = some (CodeO c' q) ∧ ∀ Q' : VK, (∀ a kd H1, KAt C H1 a kd → (∀ p l H2, Ex H1 H2 → H2 l = some (.lst [.str kd.le, .str kd.lt, .bl kd.tu, optV kd.re]) → H2 p = some (.tup [.str "kind", .ref l]) → D.rt (.ref p) H2) → Q' (.ref a) H1) → tl Ech H Q')
        (ts := fun a cls d => tAsg (tVar 3) (gName 1))
        rfl rfl rfl nd rfl rfl (by rfl) Z.m1 (by rfl) Z.m2 (by rfl) Z.m3 (by decide) (by decide) (by decide) (fun W pn xe tk _ => ?_) (fun a oe cls d pn _ _ => pss_one (ps_set (i := 1) nd rfl (Or.inl rfl) (pv 3))))
    (pss_cons (ps_if (pw_or (pt_not (pt_val (pe_callB call_isH (by rfl) B.isinstance (by decide +kernel) (pa_cons (pv 1) (pa_cons (pe_glob (v := .ref CE) (by rfl) XE.m rfl) pa_nil)))))
        (pw_or (pt_not (pt_val (pe_callB call_isH (by rfl) B.isinstance (by decide +kernel) (pa_cons (pv 1) (pa_cons (pe_glob (v := .ref cM) (by rfl) Z.m1 rfl) pa_nil))))) (pw_or1 (pt_cmpR op_ne (pe_getH (pv 1)) pe_int (nomark _))))).pt
      (pss_one (ps_ret (pe_tup (pa_cons pe_str (pa_cons pe_non pa_nil))))) pss_nil)
    (pss_cons (ps_if (pt_val (pe_callB call_isH (by rfl) B.isinstance (by decide +kernel) (pa_cons (pv 1) (pa_cons (pe_tup (pa_cons (pe_glob (v := .ref cC) (by rfl) Z.m4 rfl) (pa_cons (pe_glob (v := .ref cK) (by rfl) Z.m5 rfl) (pa_cons (pe_glob (v := .ref cP) (by rfl) Z.m6 rfl) (pa_cons (pe_glob (v := .ref cS) (by rfl) Z.m2 rfl) (pa_cons (pe_glob (v := .ref cO) (by rfl) Z.m3 rfl) pa_nil)))))) pa_nil))))
      (pss_one (ps_ret (pe_tup (pa_cons pe_str (pa_cons pe_non pa_nil))))) pss_nil)
    (pss_one (ps_ret (pe_tup (pa_cons pe_str (pa_cons (pe_getH (pv 1)) pa_nil)))))))), ?_⟩
  · refine ⟨fun pins s' σ H' D I h' => ?_⟩
    obtain ⟨Ech, hW, rfl, h2, h3⟩ := h'
    refine (pss_cons (ps_set (i := 2) nd rfl (Or.inl rfl) (act W pn xe Ech _ _ tk hW)) (pss_one (ps_ret (pe_tup (pa_cons pe_str (pa_cons (pe_lst (pa_cons (pe_pr T pL hr2 (pv 2)) (pa_cons (pe_pr T pT hr2 (pv 2)) (pa_cons (pe_pr T pU hr2 (pv 2)) (pa_cons (pe_pr T pR hr2 (pv 2)) pa_nil))))) pa_nil)))))).run pins s' _ H' D I ?_
    refine ⟨rfl, h2, h3 _ fun a kd H1 ha kk => ?_⟩
    have hl : EvL (tLst (tCons (tPr C (fun k => .str k.le) (tVar 2)) (tCons (tPr C (fun k => .str k.lt) (tVar 2)) (tCons (tPr C (fun k => .bl k.tu) (tVar 2)) (tCons (tPr C (fun k => optV k.re) (tVar 2)) tNil))))) [some (.ref f), some .non, some (.ref a), none] H1 [.str kd.le, .str kd.lt, .bl kd.tu, optV kd.re] :=
      el_lst (ea_cons (ev_pr (v := fun k => .str k.le) (ev_var rfl) ha) (ea_cons (ev_pr (v := fun k => .str k.lt) (ev_var rfl) ha) (ea_cons (ev_pr (v := fun k => .bl k.tu) (ev_var rfl) ha) (ea_cons (ev_pr (v := fun k => optV k.re) (ev_var rfl) ha) ea_nil)))) (by show 4 ≤ 100000; decide)
    dsimp only [gName, tRet, tTup, tCons, tC, tNil, List.set]
    exact hl H1 (Ex.refl H1) _ fun l H2 nl e2 hl2 => ⟨(by show 2 ≤ sizeLine; decide), fun p hp => kk p l _ (e2.trans (Ex.new hp)) (Ex.new hp _ _ hl2) upd_same⟩
  · refine ⟨fun cls d H' => ∃ (dd : Addr) (n : Int), cls = .ref CE ∧ d = some dd ∧ H' dd = some (.xd [("word", .int n), ("line", .int 0)]) ∧ ∀ p H2, Ex H' H2 → H2 p = some (.tup [.str "wrong", .int n]) → Q (.ref p) H2, ?_, rfl, hc, ?_⟩
    · rintro cls d σ' H' ⟨dd, n, rfl, rfl, hd, kk⟩
      refine ⟨CE, dd, rfl, rfl, Z.ex, fun a hl na => ?_⟩
      obtain ⟨s0, s1, s2, s3, rfl⟩ : ∃ s0 s1 s2 s3, σ' = [s0, s1, s2, s3] := by
        match σ', hl with
        | [s0, s1, s2, s3], _ => exact ⟨s0, s1, s2, s3, rfl⟩
      refine s_asg (v := .ref a) (ev_var rfl) fun H2 e2 na2 => ?_
      have ha : HAt (upd H2 a (exh a CE dd)) a CE [("word", .int n), ("line", .int 0)] := ⟨dd, upd_same, by
        rw [upd_ne (fun z => by rw [z] at hd; rw [na] at hd; cases hd)]
        exact e2 _ _ hd⟩
      have e3 : Ex H' (upd H2 a (exh a CE dd)) := e2.trans (Ex.new na2)
      have rc1 : ∀ {c : Addr} {r : Bool}, W.kitOne K (.ref CE) (.ref c) = some r → RC (rIsH K) [.ref a, .ref c] (upd H2 a (exh a CE dd)) (.bl r) := fun {c r} hk H9 e9 Q q => ⟨a, CE, fE, .val, _, _, r, rfl, hat_mono ha e9, ecT, q H9 (Ex.refl H9), .inl ⟨_, .own _, hk⟩⟩
      refine q_when (b := false) (et_is (et_or (a := false) (b := false) (et_not (a := true) (et_B (ev_cb (ea_cons (ev_var rfl) (ea_cons ev_c ea_nil)) (rc1 Z.k1)))) (fun _ => et_or (a := false) (b := false) (et_not (a := true) (et_B (ev_cb (ea_cons (ev_var rfl) (ea_cons ev_c ea_nil)) (rc1 Z.k2))))
        (fun _ => et_test (ev_is (ev_op (ev_getH (v := .int 0) (ev_var rfl) ha ecT XE.no rfl) ev_c (rv_ne rfl)) rfl)))) rfl) (fun z => by cases z) (fun _ H4 e4 => ?_)
      refine q_when (b := false) (et_B (fun H9 e9 Q9 q9 => ⟨.ref a, rfl, (eu_tup (σ := [s0, some (.ref a), s2, none]) (H := H9) (ea_cons ev_c (ea_cons ev_c (ea_cons ev_c (ea_cons ev_c (ea_cons ev_c ea_nil))))) (by show 5 ≤ 100000; decide)) H9 (Ex.refl H9) _ fun p H10 _ e10 hp => ⟨a, CE, fE, .val, _, .ref p, false, rfl, hat_mono ha ((e4.trans e9).trans e10), ecT, q9 H10 e10,
        .inr ⟨p, _, _, rfl, hp, .cons (.own _) (.cons (.own _) (.cons (.own _) (.cons (.own _) (.cons (.own _) .nil)))), Z.k3⟩⟩⟩)) (fun z => by cases z) (fun _ H5 e5 => ?_)
      exact s_retU (eu_tup (ea_cons ev_c (ea_cons (ev_getH (v := .int n) (ev_var rfl) (hat_mono ha (e4.trans e5)) ecT XE.no2 rfl) ea_nil)) (by show 2 ≤ 100000; decide)) fun p H6 np e6 hp => kk p H6 ((e3.trans (e4.trans e5)).trans e6) hp
    · intro Q' hQ
      exact h _ Q' (fun dd n H1 hd kk => ⟨dd, n, rfl, rfl, hd, kk⟩) hQ
theorem told_gives {X : Cx} {g C CE fE cM cS cO cC cK cP aL aT : Addr} {mc cdg : Value} {dE : FuncData} {q : Str} (B : Bt X.mg) (T : KF X.K X.mg C mc aL aT) (XE : XT X.prog X.w X.K X.mg X.base CE fE dE) (Z : TF X.K X.mg CE cM cS cO cC cK cP) (hr : Room 3 X.A)
    (pL : KP X.prog X.w X.K X.mg X.base C "lends" fun k => .str k.le) (pT : KP X.prog X.w X.K X.mg X.base C "lets" fun k => .str k.lt) (pU : KP X.prog X.w X.K X.mg X.base C "turns" fun k => .bl k.tu) (pR : KP X.prog X.w X.K X.mg X.base C "rests" fun k => optV k.re) :
    GivesTo X n_told "_law_told" (defScope s_law_told) g cdg (defBody s_law_told) "_law_ask" q (TT3 C CE) := fun f c' s H Q tl act hc h => told_ps B T XE Z pL pT pU pR (hr.deeper _) act hc h
end
end L2.M3
set_option maxRecDepth 100000
set_option maxHeartbeats 4000000
namespace L2.M3
open PySem PySem.Spec PyProof.Rows L2 Mx L2.Mb Evl Mv TL LamX
/-! ### what is told of a text, as data -/
def resD : Rd → PyData
  | .kind k => .tuple [.str "kind", .list [.str k.le, .str k.lt, .bool k.tu, (match k.re with | some n => .int n | none => .none)]]
  | .wrong n => .tuple [.str "wrong", .int n]
/-- the result stands at p -/
def RAt (H : Hp) (p : Addr) : Rd → Prop
  | .kind k => ∃ l, H l = some (.lst [.str k.le, .str k.lt, .bl k.tu, optV k.re]) ∧ H p = some (.tup [.str "kind", .ref l])
  | .wrong n => H p = some (.tup [.str "wrong", .int n])
theorem RAt.mono {H H' : Hp} {p : Addr} {r : Rd} (h : RAt H p r) (e : Ex H H') : RAt H' p r := by
  cases r with
  | kind k => exact h.elim fun l z => ⟨l, e _ _ z.1, e _ _ z.2⟩
  | wrong n => exact e _ _ h
theorem RAt.dq {K : W.Frag} {H : Hp} {p : Addr} {r : Rd} (h : RAt H p r) : Dq K H (.ref p) (resD r) := by
  cases r with
  | kind k =>
    obtain ⟨l, h1, h2⟩ := h
    refine .tup (st_of h2) (.cons (.str _) (.cons (.lst (sq_of h1) (.cons (.str _) (.cons (.str _) (.cons (.bl _) (.cons ?_ .nil))))) .nil))
    cases k.re with
    | none => exact .non
    | some n => exact .int n
  | wrong n => exact .tup (st_of h) (.cons (.str _) (.cons (.int _) .nil))
section
variable {P : Program} {w : World} {K : W.Frag} {mg : Str → Option Value} {base : Heap}
/-- the classmethod read -/
structure RF (P : Program) (w : World) (K : W.Frag) (mg : Str → Option Value) (base : Heap) (C CE : Addr) (mc : Value) (pR gR : Addr) (dR : FuncData) : Prop where
  cm : ClX.CMet K C mc "read" pR gR
  ok : FnOk P w K mg base (L2.CX P w) 5 gR dR ["cls", "text"] (spRead K C CE)
  b : Binds K dR ["cls", "text"] []
  kw : KwB K dR ["cls", "text"] ["text"] id id
/-- .. and of the def that calls what it got -/
structure TD (K : W.Frag) (mg : Str → Option Value) (fT : Addr) (dT : FuncData) : Prop where
  fn : FnP K "_law_told" s_law_told fT dT
  m : mg "_law_told" = some (.ref fT)
  b : Binds K dT ["_law_ask"] []
/-- told(lambda: body) -/
theorem pe_told {X : Cx} {C CE fE cM cS cO cC cK cP aL aT fT c Pt : Addr} {mc : Value} {dE dT : FuncData} {Tt : List (Addr × Str)} {scope : Scope} {params : Arguments} {body : Expr} {t : XK → TE} {p5 p6 p7 : Pos}
    (B : Bt X.mg) (T : KF X.K X.mg C mc aL aT) (XE : XT X.prog X.w X.K X.mg X.base CE fE dE) (Z : TF X.K X.mg CE cM cS cO cC cK cP) (D : TD X.K X.mg fT dT)
    (pL : KP X.prog X.w X.K X.mg X.base C "lends" fun k => .str k.le) (pT : KP X.prog X.w X.K X.mg X.base C "lets" fun k => .str k.lt) (pU : KP X.prog X.w X.K X.mg X.base C "turns" fun k => .bl k.tu) (pQ : KP X.prog X.w X.K X.mg X.base C "rests" fun k => optV k.re)
    (TB : TabB X.base X.mg c Pt) (hcode : X.env.code = .ref c) (hmT : (Pt, X.env.qual ++ "<lambda>") ∈ Tt) (hu : ∀ p ∈ Tt, p.1 = Pt → p.2 = X.env.qual ++ "<lambda>") (hr : Room 7 X.A) (L : LamS X.env.scope scope) (hdef : defaultsOf params X.env = ([], []))
    (hbind : ∀ (q : Str) (cl : List (Str × Addr)) (pm cv ctv : Value), bindArgs (W.kla_fn "<lambda>" q params body scope cl pm cv ctv) ⟨[], []⟩ = pure []) (hg : Gl X "_law_told")
    (hbody : ∀ (A : Around) (outer : List Env) (s : Shared) (H : Hp) (E : XK) (f c' : Addr), Room 5 (A.deeper (lamEnv X scope s.heap.objs.size f c')) → PE (lamCx X A outer s H E scope f c') body (t E)) :
    PE X (.Call (.Name "_law_told" p5) [.Lambda params body scope p6] [] p7) (tLam Tt (TT3 C CE) t) := by
  obtain ⟨oc, od, dV, kV, doc, pm, an, cdv, ct, osl, rfl, lk, hcg, _, _⟩ := D.fn.ex
  exact pe_lamcall (k := 5) (c := c) (P := Pt) (Ng := n_told) (a := "_law_ask") hg D.m D.fn.kp lk hcg D.b sc_told rfl (.inl rfl) (told_gives B T XE Z (hr.mono (by decide)) pL pT pU pQ) TB hcode hmT hu hr L hdef hbind hbody
/-! ### a text read in both ways -/
def spRR (Tt : List (Addr × Str)) : Sp := fun vs H Q _ => ∃ t : Str, vs = [.str t] ∧ t.length ≤ 40000 ∧ PyData.strOk t = true ∧ Tabs Tt H ∧ ∀ H', ExtN H H' → Tabs Tt H' → Q (.bl true) H'
def spDue : Sp := fun vs H Q _ => ∃ t : Str, vs = [.str t] ∧ t.length ≤ 40000 ∧ PyData.strOk t = true ∧ ∀ p H', Ex H H' → RAt H' p (readW (wsOf t)) → Q (.ref p) H'
theorem ex_extn {H H' : Hp} (e : Ex H H') : ExtN H H' := fun b o h _ => e b o h
theorem tt3_read {C CE : Addr} {t : Str} {H : Hp} {Q : VK} (hl : t.length ≤ 40000) (hok : PyData.strOk t = true) (q : ∀ p H1, Ex H H1 → RAt H1 p (readW (wsOf t)) → Q (.ref p) H1) : TT3 C CE (fun E H' Q' => spRead K C CE [.ref C, .str t] H' Q' E) H Q := fun E' Q' hE hQ =>
  ⟨.str t, rfl, .inl ⟨t, rfl, hl, hok, fun kd hk b H3 e3 hb => hQ b kd H3 hb fun p l H4 e4 h1 h2 => q p H4 (e3.trans e4) (by rw [hk]; exact ⟨l, h1, h2⟩), fun n hn d H3 e3 hd => hE d n H3 hd fun p H4 e4 hp => q p H4 (e3.trans e4) (by rw [hn]; exact hp)⟩⟩
theorem tt3_imp {C CE : Addr} {tl tm : XK → Hp → VK → Prop} {H : Hp} {Q : VK} (h : TT3 C CE tl H Q) (i : ∀ E Q', tl E H Q' → tm E H Q') : TT3 C CE tm H Q := fun E' Q' a b => i _ _ (h E' Q' a b)
theorem ok_read_right {C CE fE cM cS cO cC cK cP aL aT pR gR fT c Pt f fU : Addr} {mc : Value} {dE dR dT dU : FuncData} {Tt : List (Addr × Str)} {oc dV kV doc pm ct : Value} {an od : Option Addr} {osl : Array (Option Value)}
    (B : Bt mg) (T : KF K mg C mc aL aT) (XE : XT P w K mg base CE fE dE) (Z : TF K mg CE cM cS cO cC cK cP) (R : RF P w K mg base C CE mc pR gR dR) (D : TD K mg fT dT)
    (pL : KP P w K mg base C "lends" fun k => .str k.le) (pT : KP P w K mg base C "lets" fun k => .str k.lt) (pU : KP P w K mg base C "turns" fun k => .bl k.tu) (pQ : KP P w K mg base C "rests" fun k => optV k.re)
    (sys : SysD K) (dueOk : ∀ t : Str, t.length ≤ 40000 → PyData.strOk t = true → okD (resD (readW (wsOf t))) = true) (DU : FnOk P w K mg base CX0 3 fU dU ["_law_shown"] spDue) (mU : mg "_law_due" = some (.ref fU)) (kU : W.keepIn K (.ref fU) = true) (bU : Binds K dU ["_law_shown"] [])
    (TB : TabB base mg c Pt) (hmT : (Pt, ("_law_read_right.<locals>.<lambda>" : Str)) ∈ Tt) (hu : ∀ p ∈ Tt, p.1 = Pt → p.2 = ("_law_read_right.<locals>.<lambda>" : Str))
    (lk : K.lookup f = some ⟨oc, od, .func (W.fnOf "_law_read_right" "_law_read_right" (defArgs s_law_read_right) (defBody s_law_read_right) (defScope s_law_read_right) dV kV doc pm an (.ref c) ct), osl⟩) (hcd : W.codeIn K (.ref c) "_law_read_right" = true) :
    FnG P w K mg base CX0 8 f (W.fnOf "_law_read_right" "_law_read_right" (defArgs s_law_read_right) (defBody s_law_read_right) (defScope s_law_read_right) dV kV doc pm an (.ref c) ct) p_law_read_right (spRR Tt) := by
  refine fng_of lk hcd sc_law_read_right (fun vs H Q E h => ?_) (fun A outer s H vs Q E gd hr h => ?_)
  · obtain ⟨t, rfl, _⟩ := h
    rfl
  · obtain ⟨t, rfl, hl, hok, hT, k⟩ := h
    have nd := sc_law_read_right.nd
    have hun := hr.units
    refine ⟨_, PSs.nox (pss_cons (ps_set (i := 1) nd rfl (Or.inl rfl) (pe_callB (call_repr gd sys hun) (by rfl) B.repr (by decide +kernel) (pa_cons (pe_call DU (hr.mono (by decide)) (by rfl) mU kU bU .nil pass0 (pa_cons (pe_var (i := 0) rfl (.inr (.inl rfl))) pa_nil)) pa_nil)))
      (pss_cons (ps_if (pt_cmpR op_ne (pe_callB (call_repr gd sys hun) (by rfl) B.repr (by decide +kernel) (pa_cons (pe_told B T XE Z D pL pT pU pQ TB rfl hmT hu hr (lamS_by (sc := defScope s_law_read_right) (by decide +kernel)) (by rfl) (fun _ _ _ _ _ => by rfl) (by rfl)
          (fun A outer s H E f c' hr2 => ClX.pe_cmeth (pe_glob (v := .ref C) (by rfl) T.m rfl) T.rd R.cm (R.ok.raw R.b .nil) hr2 (passes_call (takes_of rfl rfl rfl rfl) (fun _ _ _ _ h => h)) (pa_cons (pe_var (i := 0) rfl (.inr (.inr rfl))) pa_nil))) pa_nil)) (pv 1) (nomark _)) (pss_one (ps_ret pe_bl)) pss_nil)
      (pss_one (ps_ret (pe_cmpR op_eq (pe_callB (call_repr gd sys hun) (by rfl) B.repr (by decide +kernel) (pa_cons (pe_told B T XE Z D pL pT pU pQ TB rfl hmT hu hr (lamS_by (sc := defScope s_law_read_right) (by decide +kernel)) (by rfl) (fun _ _ _ _ _ => by rfl) (by rfl)
          (fun A outer s H E f c' hr2 => pe_cmethK (pe_glob (v := .ref C) (by rfl) T.m rfl) T.rd R.cm R.ok R.kw hr2 (passes_call (takes_of rfl rfl rfl rfl) (fun _ _ _ _ h => h)) (pk_cons (pe_var (i := 0) rfl (.inr (.inr rfl))) pk_nil))) pa_nil)) (pv 1) (nomark _)))))), ?_⟩
    generalize hsh : (resD (readW (wsOf t))).shown = sh
    refine ⟨_, rfl, t, rfl, hl, hok, fun p H1 e1 hp => ⟨p, resD (readW (wsOf t)), rfl, RAt.dq hp, dueOk t hl hok, ?_⟩⟩
    rw [hsh]
    have T1 := hT.ext e1
    refine ⟨T1, fun H2 n2 T2 => ?_⟩
    refine tt3_imp (tt3_read (K := K) hl hok fun p2 H3 e3 hp2 => ?_) (fun E Q' z => ⟨rfl, _, rfl, z⟩)
    refine ⟨p2, resD (readW (wsOf t)), rfl, RAt.dq hp2, dueOk t hl hok, ?_⟩
    rw [hsh]
    refine ⟨_, rfl, rfl, false, by rw [decide_eq_true rfl]; rfl, ?_⟩
    have T3 := T2.ext e3
    refine ⟨T3, fun H4 n4 T4 => ?_⟩
    refine tt3_imp (tt3_read (K := K) hl hok fun p3 H5 e5 hp3 => ?_) (fun E Q' z => ⟨rfl, _, rfl, rfl, z⟩)
    refine ⟨p3, resD (readW (wsOf t)), rfl, RAt.dq hp3, dueOk t hl hok, ?_⟩
    rw [hsh]
    refine ⟨_, rfl, rfl, ?_⟩
    rw [decide_eq_true rfl]
    exact k H5 (((((ex_extn e1).trans n2).trans (ex_extn e3)).trans n4).trans (ex_extn e5)) (T4.ext e5)
end
end L2.M3
set_option maxRecDepth 100000
set_option maxHeartbeats 4000000
namespace L2.M3
open PySem PySem.Spec PyProof.Rows L2 Mx L2.Mb Evl Mv TL LamX
section
variable {P : Program} {w : World} {K : W.Frag} {mg : Str → Option Value} {base : Heap} {f : Addr} {fd : FuncData}
/-- the signs that are no digits -/
def badS (x : Str) : List Str := ((tl x).filter fun c => !digC c).map fun c => ⟨#[c]⟩
theorem range_tl (x : Str) : (List.range x.cps.size).map (fun i => x.cps.getD i 0) = tl x := by
  refine List.ext_getElem (by simp [tl]) fun i h1 h2 => ?_
  have h3 : i < x.cps.size := by simpa using h1
  simp [tl, Array.getD, h3]
theorem bad_given (x : Str) : given x.cps.size (fun i => !digC (x.cps.getD i 0)) (fun i => .str ⟨#[x.cps.getD i 0]⟩) = (badS x).map V.str := by
  unfold given badS
  rw [← range_tl x, List.filter_map, List.map_map, List.map_map]
  rfl
theorem bad_iff (x : Str) : badS x = [] ↔ digs x = true := by
  unfold badS digs
  rw [List.map_eq_nil_iff, List.filter_eq_nil_iff, List.all_eq_true]
  exact ⟨fun h c hc => by
    have q := h c hc
    cases hd : digC c with
    | true => rfl
    | false => rw [hd] at q; exact absurd rfl q, fun h c hc => by rw [h c hc]; simp⟩
theorem bad_nil (x : Str) : decide (badS x = []) = digs x := by
  cases h : digs x with
  | true => exact decide_eq_true ((bad_iff x).mpr h)
  | false =>
    refine decide_eq_false fun z => ?_
    have q := (bad_iff x).mp z
    rw [h] at q
    cases q
theorem bad_ok {x : Str} (h : PyData.strOk x = true) : okS (badS x) := List.all_eq_true.mpr fun y hy => by
  obtain ⟨c, hc, rfl⟩ := List.mem_map.mp hy
  have q := (strOk_tl x).mp h c (List.mem_filter.mp hc).1
  exact (strOk_tl _).mpr fun d hd => by
    have : d = c := by simpa [tl] using hd
    rw [this]
    exact q
def spIsRest : Sp := fun vs H Q _ => ∃ x : Str, vs = [.str x] ∧ x.length ≤ 40000 ∧ PyData.strOk x = true ∧ ∀ H', Ex H H' → Q (.bl (numS x).isSome) H'
theorem ok_is_rest (B : Bt mg) (F : FnP K "_law_is_rest" s_law_is_rest f fd) : FnOk P w K mg base CX0 1 f fd p_law_is_rest spIsRest := by
  refine F.ok sc_law_is_rest (fun vs H Q E h => ?_) (fun cdv A outer s H vs Q E hr h => ?_)
  · obtain ⟨x, rfl, _⟩ := h
    rfl
  · obtain ⟨x, rfl, hz, hok, k⟩ := h
    have nd := sc_law_is_rest.nd
    have hu := hr.units
    refine ⟨_, PSs.nox (pss_cons (ps_if (pw_or (pt_not (pt_chain op_le op_le pe_int (pe_callB call_len_str (by rfl) B.len (by decide +kernel) (pa_cons (pv 0) pa_nil)) pe_int)) (pw_or1 (pt_cmpR op_eq (pe_ix ix_str (pv 0) pe_int (fun _ _ => rfl)) pe_str (nomark _)))).pt (pss_one (ps_ret pe_bl)) pss_nil)
      (pss_one (ps_ret (pe_and (pe_cmpR (op_eqD hu) (pe_lc (own := [("_law_sign", 1)]) (g := gName 1) (by rfl) nd (pi_str (pv 0)) (blkOk_by (N := n_law_is_rest) (sc := defScope s_law_is_rest) (by decide +kernel)) (fun _ _ _ _ _ => pg_name (i := 1) nd rfl (Or.inl rfl)) (fun _ _ _ _ _ => pts_one (pt_cmpR op_notIn_sign (pv 1) pe_str rfl))
          (fun _ _ _ _ _ => pv 1)) (pe_lst pa_nil) (nomark _)) (pe_one (pe_chain op_le op_le pe_int (pe_callTy call_int_str (by rfl) B.int (by decide +kernel) (pa_cons (pv 0) pa_nil)) (pe_op op_pow pe_int pe_int))))))), ?_⟩
    have hLB : (decide (1 ≤ (x.length : Int)) && decide ((x.length : Int) ≤ 7)) = (decide (1 ≤ x.length) && decide (x.length ≤ 7)) := by
      congr 1 <;> exact decide_eq_decide.mpr (by omega)
    have hne : (tl x).length = x.length := (len_tl x).symm
    have e0 : (1 ≤ x.length) → ∃ c r, tl x = c :: r := fun l1 => by
      cases hx : tl x with
      | nil =>
        rw [hx] at hne
        simp at hne
        omega
      | cons c r => exact ⟨c, r, rfl⟩
    have z0 : (1 ≤ x.length) → (tl x).headD 0 = 48 → (decide (1 < x.length) = false) → inRest (numOf x) = false := fun l1 h48 hl => by
      obtain ⟨c, r, hx⟩ := e0 l1
      have hr : r = [] := by
        have : ¬ 1 < x.length := of_decide_eq_false hl
        rw [hx] at hne
        simp at hne
        exact List.length_eq_zero_iff.mp (by omega)
      rw [hx] at h48
      have hc : c = 48 := h48
      unfold numOf
      rw [hx, hr, hc]
      decide +kernel
    refine q_when (b := !(decide (1 ≤ (x.length : Int)) && decide ((x.length : Int) ≤ 7)) || decide ((tl x).headD 0 = 48)) (et_or (et_not (et_chain (ev_chain ev_c (ev_cb (r := rLenT) (ea_cons (ev_var rfl) ea_nil) (rc_lenT (by omega))) rv_int (fun _ => ev_c) (fun _ => rv_int))))
      (fun hl => ?_)) (fun y H1 e1 => s_ret ev_c fun H2 e2 => ?_) (fun y H1 e1 => ?_)
    · have l1 : 1 ≤ x.length := by
        cases h1 : decide (1 ≤ (x.length : Int)) with
        | true =>
          have := of_decide_eq_true h1
          omega
        | false =>
          rw [h1] at hl
          cases hl
      obtain ⟨c0, r0, hx⟩ := e0 l1
      refine et_test (ev_is (ev_op (ev_op (ev_var rfl) ev_c (rv_ixS (c := c0) (by omega) (by rw [show x.cps.toList = c0 :: r0 from hx]; exact atI_nat (j := 0) rfl))) ev_c (rv_eq rfl)) (congrArg V.bl (decide_eq_decide.mpr ?_)))
      rw [hx]
      refine ⟨fun y => ?_, fun y => ?_⟩
      · have y3 : ([c0] : List Nat) = [48] := congrArg tl (V.str.inj y)
        exact List.head_eq_of_cons_eq y3
      · rw [show c0 = 48 from y]
        rfl
    · have e : (numS x).isSome = false := by
        rw [hLB] at y
        unfold numS
        cases hb : (decide (1 ≤ x.length) && decide (x.length ≤ 7)) with
        | false => rfl
        | true =>
          rw [hb] at y
          have h48 : (tl x).headD 0 = 48 := of_decide_eq_true (by simpa using y)
          have l1 : 1 ≤ x.length := of_decide_eq_true (Bool.and_eq_true_iff.mp hb).1
          cases hl : decide (1 < x.length) with
          | true =>
            rw [decide_eq_true h48]
            simp
          | false =>
            rw [z0 l1 h48 hl]
            simp
      have q := k H2 (e1.trans e2)
      rw [e] at q
      exact q
    · rw [hLB, Bool.or_eq_false_iff, Bool.not_eq_false'] at y
      obtain ⟨yb, y48⟩ := y
      have l1 : 1 ≤ x.length := of_decide_eq_true (Bool.and_eq_true_iff.mp yb).1
      have l7 : x.length ≤ 7 := of_decide_eq_true (Bool.and_eq_true_iff.mp yb).2
      have e : (numS x).isSome = (digs x && (decide (2 ≤ numOf x) && decide (numOf x ≤ 1000000))) := by
        unfold numS inRest
        rw [yb, y48, Bool.and_false, Bool.not_false, Bool.true_and, Bool.true_and]
        cases (digs x && (decide (2 ≤ numOf x) && decide (numOf x ≤ 1000000))) <;> rfl
      refine s_ret (v := .bl (numS x).isSome) (ev_is (ev_andV (a := digs x) (b := decide (2 ≤ numOf x) && decide (numOf x ≤ 1000000)) (ev_is (ev_opLL (ys := []) (fun H9 e9 Q9 q9 => by
          have w9 := el_lcS (σ := [some (.str x), none]) (H := H1) (te := tVar 1) (tl := tVar 0) (t := tTest (tOp rNiSg (tVar 1) (tC (.str "0123456789")))) (vs := [1]) (j := 1) (w := x) (fun i => !digC (x.cps.getD i 0)) (fun i => .str ⟨#[x.cps.getD i 0]⟩) (ev_var rfl) hz (fun _ => rfl)
            (fun i c H8 e8 hc => et_test (ev_is (ev_op (ev_var rfl) ev_c rv_niSg) (by
              have e : x.cps.getD i 0 = c := by simp [Array.getD_eq_getD_getElem?, hc]
              rw [e, ← dig_in c]
              rfl))) (fun i c H8 e8 hc _ => ev_is (ev_var rfl) (by
              have e : x.cps.getD i 0 = c := by simp [Array.getD_eq_getD_getElem?, hc]
              rw [e]))
          rw [bad_given] at w9
          exact w9 H9 e9 Q9 q9) (el_lst ea_nil (by decide)) (fun r q H9 hr hq _ => rv_eqStrs (l := badS x) (m := []) (sq_of hr) (sq_of hq) (bad_ok hok) rfl)) (congrArg V.bl (bad_nil x)))
        (fun hd => ev_chain ev_c (ev_cb (r := rIntT) (ea_cons (ev_var rfl) ea_nil) (rc_intT (digs_int hd l1 l7) (by omega))) rv_int (fun _ => ev_is (ev_op ev_c ev_c (rv_I ⟨by decide, by decide, by decide⟩)) rfl) (fun _ => rv_int))) (congrArg V.bl e.symm)) fun H2 e2 => k H2 (e1.trans e2)
end
end L2.M3
set_option maxRecDepth 100000
set_option maxHeartbeats 4000000
namespace L2.M3
open PySem PySem.Spec PyProof.Rows L2 Mx L2.Mb Evl Mv TL LamX
/-! ### lists of tuples -/
abbrev Tps (H : Hp) (yss : List (List V)) (vs : List V) : Prop := Paired (fun ys v => ∃ t, v = V.ref t ∧ H t = some (.tup ys)) yss vs
theorem tps_mono {H H' : Hp} {yss : List (List V)} {vs : List V} (h : Tps H yss vs) (e : Ex H H') : Tps H' yss vs := by
  induction h with
  | nil => exact .nil
  | cons p _ ih => exact .cons (p.elim fun t z => ⟨t, z.1, e _ _ z.2⟩) ih
theorem tps_upd {H : Hp} {D : Addr} {xs ys0 : List V} {yss : List (List V)} {vs : List V} (h : Tps H yss vs) (hD : H D = some (.lst xs)) : Tps (upd H D (.lst ys0)) yss vs := by
  induction h with
  | nil => exact .nil
  | cons p _ ih =>
    obtain ⟨t, rfl, ht⟩ := p
    exact .cons ⟨t, rfl, by rw [upd_ne (fun z => by rw [z, hD] at ht; cases ht)]; exact ht⟩ ih
theorem tps_app {H : Hp} {as bs : List (List V)} {vs us : List V} (h : Tps H as vs) (k : Tps H bs us) : Tps H (as ++ bs) (vs ++ us) := by
  induction h with
  | nil => exact k
  | cons p _ ih => exact .cons p ih
/-- a new list of tuples -/
def EvTs (te : TE) (σ : L2.St) (H : Hp) (yss : List (List V)) : Prop := ∀ H1, Ex H H1 → ∀ Q : VK, (∀ p vs H2, H1 p = none → Ex H1 H2 → H2 p = some (.lst vs) → Tps H2 yss vs → Q (.ref p) H2) → te σ H1 Q
/-- a list of tuples, new or known -/
def EvTk (te : TE) (σ : L2.St) (H : Hp) (yss : List (List V)) : Prop := ∀ H1, Ex H H1 → ∀ Q : VK, (∀ p vs H2, Ex H1 H2 → H2 p = some (.lst vs) → Tps H2 yss vs → Q (.ref p) H2) → te σ H1 Q
theorem EvTs.k {te : TE} {σ : L2.St} {H : Hp} {yss : List (List V)} (h : EvTs te σ H yss) : EvTk te σ H yss := fun H1 e Q q => h H1 e Q fun p vs H2 _ e2 hp tp => q p vs H2 e2 hp tp
/-- a tuple, new or known -/
def EvTp (te : TE) (σ : L2.St) (H : Hp) (ys : List V) : Prop := ∀ H1, Ex H H1 → ∀ Q : VK, (∀ p H2, Ex H1 H2 → H2 p = some (.tup ys) → Q (.ref p) H2) → te σ H1 Q
theorem EvU.tp {te : TE} {σ : L2.St} {H : Hp} {ys : List V} (h : EvU te σ H ys) : EvTp te σ H ys := fun H1 e Q q => h H1 e Q fun p H2 _ e2 hp => q p H2 e2 hp
section
variable {K : W.Frag} {σ : L2.St} {H : Hp} {te tl ta tb : TE} {t : TT}
theorem tp_var {i : Nat} {p : Addr} {ys : List V} (h : σ[i]? = some (some (.ref p))) (hp : H p = some (.tup ys)) : EvTp (tVar i) σ H ys := fun H1 e Q q => ⟨_, h, q p H1 (Ex.refl H1) (e _ _ hp)⟩
def Ct (H : Hp) (f : Nat → Bool) (g : Nat → List V) (Dl : Addr) (i : Nat) (H' : Hp) : Prop := H Dl = none ∧ Ex H H' ∧ ∃ acc, H' Dl = some (.lst acc) ∧ Tps H' (((List.range i).filter f).map g) acc
theorem ct_turn {H' : Hp} {f : Nat → Bool} {g : Nat → List V} {Dl : Addr} {i : Nat} {σ2 : L2.St} (p : Ct H f g Dl i H') (hi : i < 50000) (ht : EvT t σ2 H (f i)) (he : f i = true → EvTp te σ2 H (g i)) :
    t σ2 H' fun b H3 => if b = true then te σ2 H3 fun y H4 => ∃ acc, H4 Dl = some (.lst acc) ∧ acc.length < sizeLine ∧ Ct H f g Dl (i + 1) (upd H4 Dl (.lst (acc ++ [y]))) else Ct H f g Dl (i + 1) H3 := by
  obtain ⟨p1, p2, acc, p3, p4⟩ := p
  have hl : acc.length ≤ i := by
    have q := (Paired.length p4).symm
    rw [List.length_map] at q
    have r := List.length_filter_le f (List.range i)
    rw [List.length_range] at r
    omega
  have hr : List.range (i + 1) = List.range i ++ [i] := List.range_succ
  refine ht H' p2 _ fun H3 e3 => ?_
  cases hf : f i with
  | true =>
    show te σ2 H3 fun y H4 => ∃ acc, H4 Dl = some (.lst acc) ∧ acc.length < sizeLine ∧ Ct H f g Dl (i + 1) (upd H4 Dl (.lst (acc ++ [y])))
    refine he hf H3 (p2.trans e3) _ fun p H4 e4 hp => ⟨acc, e4 Dl _ (e3 Dl _ p3), sz_lt (by omega), p1, Ex.mut ((p2.trans e3).trans e4) p1, acc ++ [.ref p], upd_same, ?_⟩
    rw [hr, List.filter_append, List.map_append]
    have h1 : List.filter f [i] = [i] := by simp [hf]
    rw [h1]
    exact tps_upd (tps_app (tps_mono p4 (e3.trans e4)) (.cons ⟨p, rfl, hp⟩ .nil)) (e4 Dl _ (e3 Dl _ p3))
  | false =>
    show Ct H f g Dl (i + 1) H3
    refine ⟨p1, p2.trans e3, acc, e3 Dl _ p3, ?_⟩
    rw [hr, List.filter_append, List.map_append]
    have h1 : List.filter f [i] = [] := by simp [hf]
    rw [h1, List.map_nil, List.append_nil]
    exact tps_mono p4 e3
/-- [(..) for x in (.., ..)] -/
theorem ts_lcNT {xs : List V} {j : Nat} {vs : List Nat} (f : Nat → Bool) (g : Nat → List V) (h : EvU tl σ H xs) (hz : xs.length ≤ 40000) (hw : ∀ x, wipe ((wipe σ vs).set j (some x)) vs = wipe σ vs)
    (ht : ∀ (i : Nat) (x : V) H1, Ex H H1 → xs[i]? = some x → EvT t ((wipe σ vs).set j (some x)) H1 (f i)) (he : ∀ (i : Nat) (x : V) H1, Ex H H1 → xs[i]? = some x → f i = true → EvTp te ((wipe σ vs).set j (some x)) H1 (g i)) :
    EvTs (tLc (iTup K tl) (gName j) t te vs) σ H (((List.range xs.length).filter f).map g) := fun H0 e Q q => h H0 e _ fun a H1 ha e1 hx => ⟨a, rfl, ⟨xs, st_of hx⟩, fun Dl hD =>
  lc_it (walk_tup (K := K) (xs := xs)) (Ct H1 f g Dl) ⟨hD, Ex.new hD, [], upd_same, .nil⟩ (fun _ H' _ p => st_of (p.2.1 a _ hx)) (fun i x H2 H3 hi p y => by
    obtain ⟨rfl, hc⟩ := y
    exact ⟨hw x, ct_turn p (by omega) (ht i x H1 (e.trans e1) hc) (fun hf => he i x H1 (e.trans e1) hc hf)⟩) (fun H' p => p.2.2.elim fun acc z => q Dl acc H' (fresh_back e1 p.1) (e1.trans p.2.1) z.1 z.2)⟩
/-- [x for x in xs if ..], xs such a list -/
theorem ts_lcL {a : Addr} {xs : List V} {yss : List (List V)} {j : Nat} {vs : List Nat} (f : Nat → Bool) (g : Nat → List V) (h : Ev tl σ H (.ref a)) (hx : H a = some (.lst xs)) (hz : xs.length ≤ 40000) (hw : ∀ x, wipe ((wipe σ vs).set j (some x)) vs = wipe σ vs)
    (ht : ∀ (i : Nat) (x : V) H1, Ex H H1 → xs[i]? = some x → EvT t ((wipe σ vs).set j (some x)) H1 (f i)) (he : ∀ (i : Nat) (x : V) H1, Ex H H1 → xs[i]? = some x → f i = true → EvTp te ((wipe σ vs).set j (some x)) H1 (g i)) :
    EvTs (tLc (iList K tl) (gName j) t te vs) σ H (((List.range xs.length).filter f).map g) := fun H0 e Q q => h H0 e _ fun H1 e1 => ⟨a, rfl, ⟨xs, sq_of (e1 _ _ (e _ _ hx))⟩, fun Dl hD =>
  lc_it (walk_list (K := K) (xs := xs)) (Ct H1 f g Dl) ⟨hD, Ex.new hD, [], upd_same, .nil⟩ (fun _ H' _ p => sq_of (p.2.1 a _ (e1 _ _ (e _ _ hx)))) (fun i x H2 H3 hi p y => by
    obtain ⟨rfl, hc⟩ := y
    exact ⟨hw x, ct_turn p (by omega) (ht i x H1 (e.trans e1) hc) (fun hf => he i x H1 (e.trans e1) hc hf)⟩) (fun H' p => p.2.2.elim fun acc z => q Dl acc H' (fresh_back e1 p.1) (e1.trans p.2.1) z.1 z.2)⟩
/-- xs + ys of such lists -/
theorem ts_cat {as bs : List (List V)} (h1 : EvTk ta σ H as) (h2 : EvTs tb σ H bs) (hz : as.length + bs.length ≤ 100000) : EvTs (tOp rCat ta tb) σ H (as ++ bs) := fun H1 e Q q =>
  h1 H1 e _ fun p vs H2 e2 hp tp => h2 H2 (e.trans e2) _ fun r us H3 nr e3 hr tr => ⟨p, r, vs, us, rfl, rfl, e3 _ _ hp, hr, (by rw [← Paired.length tp, ← Paired.length tr]; exact sz_of hz), fun s hs => q s _ _ (fresh_back (e2.trans e3) hs) ((e2.trans e3).trans (Ex.new hs)) upd_same
    (tps_app (tps_mono tp (e3.trans (Ex.new hs))) (tps_mono tr (Ex.new hs)))⟩
end
end L2.M3
set_option maxRecDepth 100000
set_option maxHeartbeats 4000000
namespace L2.M3
open PySem PySem.Spec PyProof.Rows L2 Mx L2.Mb Evl Mv TL LamX
theorem par_app (S : List Nat) : ∀ (l acc a b : List Nat), par S acc l = some (a, b) → acc ++ l = a ++ (S ++ b)
  | [], acc, a, b, h => by cases h
  | c :: r, acc, a, b, h => by
    cases hp : pre S (c :: r) with
    | true =>
      rw [par_hit hp] at h
      cases h
      have e : (c :: r).take S.length = S := eq_of_beq hp
      have e2 := List.take_append_drop S.length (c :: r)
      rw [e] at e2
      rw [e2]
    | false =>
      rw [par_miss hp] at h
      have q := par_app S r (acc ++ [c]) a b h
      rw [List.append_assoc] at q
      exact q
theorem part_full {w0 : Str} (h : (Txt.partition w0 "/").2.2 ≠ Str.empty) : w0 = (Txt.partition w0 "/").1 ++ "/" ++ (Txt.partition w0 "/").2.2 := by
  have hy : tl ("/" : Str) ≠ [] := by decide +kernel
  have e := partition_par w0 "/" hy
  cases hp : par (tl "/") [] (tl w0) with
  | none =>
    rw [hp] at e
    rw [e] at h
    exact absurd rfl h
  | some ab =>
    obtain ⟨a, b⟩ := ab
    rw [hp] at e
    rw [e]
    have q := par_app _ _ _ _ _ hp
    refine ext_tl ?_
    rw [tl_append, tl_append, List.append_assoc]
    exact q
abbrev pairs9 : List (Str × Str) := [("one", "any"), ("far", "any"), ("both", "any"), ("one", "far"), ("far", "far"), ("both", "far"), ("one", "both"), ("far", "both"), ("both", "both")]
def firstOf (w0 : Str) : List (Str × Str) := pairs9.filter fun p => decide (p.1 ++ "/" ++ p.2 = w0)
theorem mem_lend {x : Str} (h : lendL.contains x = true) : x = "both" ∨ x = "far" ∨ x = "one" := by
  have z := List.contains_iff_mem.mp h
  simpa only [List.mem_cons, List.not_mem_nil, or_false] using z
theorem mem_let {x : Str} (h : letL.contains x = true) : x = "both" ∨ x = "far" ∨ x = "any" := by
  have z := List.contains_iff_mem.mp h
  simpa only [List.mem_cons, List.not_mem_nil, or_false] using z
theorem first_eq (w0 : Str) : firstOf w0 = if lendL.contains (Txt.partition w0 "/").1 && letL.contains (Txt.partition w0 "/").2.2 then [((Txt.partition w0 "/").1, (Txt.partition w0 "/").2.2)] else [] := by
  cases h1 : lendL.contains (Txt.partition w0 "/").1 with
  | true =>
    cases h2 : letL.contains (Txt.partition w0 "/").2.2 with
    | true =>
      have ne : (Txt.partition w0 "/").2.2 ≠ Str.empty := fun z => by
        rw [z] at h2
        revert h2
        decide +kernel
      have full := part_full ne
      rw [if_pos (show (true && true) = true from rfl)]
      generalize (Txt.partition w0 "/").1 = a at *
      generalize (Txt.partition w0 "/").2.2 = b at *
      subst full
      rcases mem_lend h1 with rfl | rfl | rfl <;> rcases mem_let h2 with rfl | rfl | rfl <;> decide +kernel
    | false =>
      rw [if_neg (by simp)]
      unfold firstOf
      refine List.filter_eq_nil_iff.mpr fun q hq hw => ?_
      have e : q.1 ++ "/" ++ q.2 = w0 := of_decide_eq_true hw
      have hs : 47 ∉ tl q.1 := by
        simp only [pairs9, List.mem_cons, List.not_mem_nil, or_false] at hq
        rcases hq with rfl | rfl | rfl | rfl | rfl | rfl | rfl | rfl | rfl <;> decide +kernel
      have p := partition_app (y := "/") (s := 47) (S := []) (by decide +kernel) (a := q.1) (b := q.2) hs
      rw [e] at p
      rw [p] at h2
      revert h2
      simp only [pairs9, List.mem_cons, List.not_mem_nil, or_false] at hq
      rcases hq with rfl | rfl | rfl | rfl | rfl | rfl | rfl | rfl | rfl <;> decide +kernel
  | false =>
    rw [if_neg (by simp)]
    unfold firstOf
    refine List.filter_eq_nil_iff.mpr fun q hq hw => ?_
    have e : q.1 ++ "/" ++ q.2 = w0 := of_decide_eq_true hw
    have hs : 47 ∉ tl q.1 := by
      simp only [pairs9, List.mem_cons, List.not_mem_nil, or_false] at hq
      rcases hq with rfl | rfl | rfl | rfl | rfl | rfl | rfl | rfl | rfl <;> decide +kernel
    have p := partition_app (y := "/") (s := 47) (S := []) (by decide +kernel) (a := q.1) (b := q.2) hs
    rw [e] at p
    rw [p] at h1
    revert h1
    simp only [pairs9, List.mem_cons, List.not_mem_nil, or_false] at hq
    rcases hq with rfl | rfl | rfl | rfl | rfl | rfl | rfl | rfl | rfl <;> decide +kernel
end L2.M3
set_option maxRecDepth 100000
set_option maxHeartbeats 4000000
namespace L2.M3
open PySem PySem.Spec PyProof.Rows L2 Mx L2.Mb Evl Mv TL LamX
theorem q_asgTs {σ : L2.St} {H : Hp} {te : TE} {tz : TS} {D : Ends} {i : Nat} {yss : List (List V)} (h : EvTs te σ H yss) (k : ∀ p vs H1, Ex H H1 → H1 p = some (.lst vs) → Tps H1 yss vs → tz D (σ.set i (some (.ref p))) H1) : tSeq (tAsg te (gName i)) tz D σ H :=
  h H (Ex.refl H) _ fun p vs H1 _ e hp tp => k p vs H1 e hp tp
theorem ts_var {σ : L2.St} {H : Hp} {i : Nat} {p : Addr} {yss : List (List V)} {vs : List V} (h : σ[i]? = some (some (.ref p))) (hp : H p = some (.lst vs)) (ht : Tps H yss vs) : EvTk (tVar i) σ H yss := fun H1 e Q q => ⟨_, h, q p vs H1 (Ex.refl H1) (e _ _ hp) (tps_mono ht e)⟩
theorem tps_get {H : Hp} : ∀ {ps : List (Str × Str)} {vs : List V} {i : Nat} {x : V}, Tps H (ps.map fun p => [.str p.1, .str p.2]) vs → vs[i]? = some x → ∃ (q : Str × Str) (tp : Addr), ps[i]? = some q ∧ x = .ref tp ∧ H tp = some (.tup [.str q.1, .str q.2])
  | [], _, _, _, .nil, h => by simp at h
  | p :: r, _, 0, x, .cons ⟨t, e, ht⟩ _, h => ⟨p, t, rfl, by rw [← e]; exact (Option.some.inj h).symm, ht⟩
  | p :: r, _, i + 1, x, .cons _ ts, h => tps_get (ps := r) (i := i) ts h
theorem pairs_len : ∀ q ∈ pairs9, (q.1.length ≤ 4 ∧ q.2.length ≤ 4) ∧ (PyData.strOk q.1 = true ∧ PyData.strOk q.2 = true) := by decide +kernel
abbrev pAt (i : Nat) : Str × Str := pairs9.getD i ("", "")
theorem first_range (w0 : Str) : ((List.range 9).filter fun i => decide ((pAt i).1 ++ "/" ++ (pAt i).2 = w0)).map (fun i => [V.str (pAt i).1, V.str (pAt i).2]) = (firstOf w0).map fun p => [V.str p.1, V.str p.2] := by
  have e : pairs9 = (List.range 9).map fun i => pAt i := by decide +kernel
  have e2 : firstOf w0 = ((List.range 9).map fun i => pAt i).filter fun p => decide (p.1 ++ "/" ++ p.2 = w0) := congrArg (List.filter fun p : Str × Str => decide (p.1 ++ "/" ++ p.2 = w0)) e
  rw [e2, List.filter_map, List.map_map]
  rfl
theorem dp_tps {K : W.Frag} {H : Hp} : ∀ {ps : List (Str × Str)} {vs : List V}, Tps H (ps.map fun p => [.str p.1, .str p.2]) vs → DpAll K H vs (ps.map fun p => PyData.tuple [.str p.1, .str p.2])
  | [], _, .nil => .nil
  | p :: r, _, .cons ⟨t, e, ht⟩ ts => by
    subst e
    exact .cons (.tup (st_of ht) (.cons (.str _) (.cons (.str _) .nil))) (dp_tps ts)
theorem rv_noTps {K : W.Frag} {H : Hp} {r q : Addr} {vs : List V} {ps : List (Str × Str)} (hr : H r = some (.lst vs)) (ht : Tps H (ps.map fun p => [.str p.1, .str p.2]) vs) (hq : H q = some (.lst [])) (sh : SeqAt.shaped (.list (ps.map fun p => PyData.tuple [.str p.1, .str p.2])) = true) : RV (rEqD K) (.ref r) (.ref q) H (.bl ps.isEmpty) := fun H1 e Q k => by
  refine ⟨_, _, .lst (sq_of (e _ _ hr)) (dp_tps (tps_mono ht e)), .lst (sq_of (e _ _ hq)) .nil, sh, rfl, ?_⟩
  have z : PyData.eqv (.list (ps.map fun p => PyData.tuple [.str p.1, .str p.2])) (.list []) = ps.isEmpty := by
    cases ps with
    | nil => simp [PyData.eqv, PyData.eqvAll]
    | cons a b => simp [PyData.eqv, PyData.eqvAll]
  rw [z]
  exact k H1 (Ex.refl H1)
theorem sh_one {a b : Str} (ha : PyData.strOk a = true) (hb : PyData.strOk b = true) : SeqAt.shaped (.list ([(a, b)].map fun p : Str × Str => PyData.tuple [.str p.1, .str p.2])) = true := by
  show (PyData.canLay0 (.list [.tuple [.str a, .str b]]) && decide (PyData.depth (.list [.tuple [.str a, .str b]]) ≤ 64)) = true
  simp [PyData.canLay0, PyData.canLayAll0, PyData.depth, PyData.depthAll, ha, hb]
theorem cut_from (l : List Str) (k : Nat) : cutV (l.map V.str) (some (k : Int)) none = (l.drop k).map V.str := by
  unfold cutV
  rw [HT.sIx_nat, HT.sIx_none, List.length_map, ← List.map_drop, ← List.map_take]
  congr 1
  by_cases h : k ≤ l.length
  · rw [Nat.min_eq_left h, List.take_of_length_le (by rw [List.length_drop]; omega)]
  · rw [Nat.min_eq_right (by omega), List.drop_of_length_le (by omega), List.drop_of_length_le (by omega), List.take_nil]
theorem s_retTL {σ : L2.St} {H : Hp} {tl : TE} {D : Ends} {xs : List V} {s : Str} (hl : EvL tl σ H xs) (k : ∀ p l H1, Ex H H1 → H1 l = some (.lst xs) → H1 p = some (.tup [.str s, .ref l]) → D.rt (.ref p) H1) : tRet (tTup (tCons (tC (.str s)) (tCons tl tNil))) D σ H :=
  hl H (Ex.refl H) _ fun l H2 nl e2 h2 => ⟨(by show 2 ≤ sizeLine; decide), fun p hp => k p l _ (e2.trans (Ex.new hp)) (Ex.new hp _ _ h2) upd_same⟩
theorem numS_int {y : Str} {n : Int} (h : numS y = some n) : PySem.intText? y = some n ∧ y.length ≤ 7 := by
  unfold numS at h
  split at h
  · rename_i c
    simp only [Bool.and_eq_true, decide_eq_true_eq] at c
    cases h
    exact ⟨digs_int c.2.1 c.1.1 c.1.2, c.1.2⟩
  · cases h
section
variable {P : Program} {w : World} {K : W.Frag} {mg : Str → Option Value} {base : Heap} {f fR : Addr} {fd dR : FuncData}
theorem ok_due (B : Bt mg) (DR : Fn0 P w K mg base "_law_is_rest" 1 fR dR p_law_is_rest spIsRest) (F : FnP K "_law_due" s_law_due f fd) : FnOk P w K mg base CX0 3 f fd ["_law_shown"] spDue := by
  refine F.ok sc_law_due (fun vs H Q E h => ?_) (fun cdv A outer s H vs Q E hr h => ?_)
  · obtain ⟨t, rfl, _⟩ := h
    rfl
  · obtain ⟨t, rfl, hl, hok, k⟩ := h
    have nd := sc_law_due.nd
    have hu := hr.units
    refine ⟨_, PSs.nox (pss_cons (ps_set (i := 1) nd rfl (Or.inr rfl) (pe_split (pv 0) pe_str))
      (pss_cons (ps_set (i := 2) nd rfl (Or.inl rfl) (pe_op op_cat (pe_lc (own := [("_law_lend", 3)]) (g := gName 3) (tt := tYes) (by rfl) nd (pi_tup (pe_tup (pa_cons pe_str (pa_cons pe_str (pa_cons pe_str pa_nil))))) (blkOk_by (N := n_law_due) (sc := defScope s_law_due) (by decide +kernel)) (fun _ _ _ _ _ => pg_name (i := 3) nd rfl (Or.inl rfl)) (fun _ _ _ _ _ => pts_nil) (fun _ _ _ _ _ => pe_tup (pa_cons (pv 3) (pa_cons pe_str pa_nil)))) (pe_lc (own := [("_law_lend", 3)]) (g := gName 3) (tt := tYes) (by rfl) nd (pi_tup (pe_tup (pa_cons pe_str (pa_cons pe_str (pa_cons pe_str pa_nil))))) (blkOk_by (N := n_law_due) (sc := defScope s_law_due) (by decide +kernel)) (fun _ _ _ _ _ => pg_name (i := 3) nd rfl (Or.inl rfl)) (fun _ _ _ _ _ => pts_nil) (fun _ _ _ _ _ => pe_tup (pa_cons (pv 3) (pa_cons pe_str pa_nil))))))
      (pss_cons (ps_set (i := 2) nd rfl (Or.inl rfl) (pe_op op_cat (pv 2) (pe_lc (own := [("_law_lend", 3)]) (g := gName 3) (tt := tYes) (by rfl) nd (pi_tup (pe_tup (pa_cons pe_str (pa_cons pe_str (pa_cons pe_str pa_nil))))) (blkOk_by (N := n_law_due) (sc := defScope s_law_due) (by decide +kernel)) (fun _ _ _ _ _ => pg_name (i := 3) nd rfl (Or.inl rfl)) (fun _ _ _ _ _ => pts_nil) (fun _ _ _ _ _ => pe_tup (pa_cons (pv 3) (pa_cons pe_str pa_nil))))))
      (pss_cons (ps_setLc (i := 4) (own := [("_law_pair", 5)]) (g := gName 5) (by rfl) nd rfl rfl (sw_true rfl rfl rfl (by decide +kernel)) (pi_list (pv 2)) (blkOk_by (N := n_law_due) (sc := defScope s_law_due) (by decide +kernel)) (fun _ _ _ _ _ => pg_name (i := 5) nd rfl (Or.inl rfl)) (fun _ _ _ _ _ => pts_one (pt_cmpR op_eq (pe_op op_add_str (pe_op op_add_str (pe_ix (show IxR _ (rIxT K) from ix_tup) (pv 5) pe_int (fun _ _ => rfl)) pe_str) (pe_ix (show IxR _ (rIxT K) from ix_tup) (pv 5) pe_int (fun _ _ => rfl))) (pe_ix (show IxR _ (rIxL K) from ix_list) (pv 1) pe_int (fun _ _ => rfl)) (nomark _))) (fun _ _ _ _ _ => pv 5))
      (pss_cons (ps_if (pt_cmpR (op_eqD hu) (pv 4) (pe_lst pa_nil) (nomark _)) (pss_one (ps_ret (pe_tup (pa_cons pe_str (pa_cons pe_int pa_nil))))) pss_nil)
      (pss_cons (ps_set (i := 6) nd rfl (Or.inl rfl) (pe_and (pe_cmpR op_gt (pe_callB call_len_seq (by rfl) B.len (by decide +kernel) (pa_cons (pv 1) pa_nil)) pe_int (nomark _)) (pe_one (pe_cmpR op_eq (pe_ix ix_list (pv 1) pe_int (fun _ _ => rfl)) pe_str (nomark _)))))
      (pss_cons (ps_set (i := 7) nd rfl (Or.inl rfl) (pe_slice sl_list (pv 1) (po_some (pe_op op_add pe_int (pe_callTy call_int1 (by rfl) B.int (by decide +kernel) (pa_cons (pv 6) pa_nil)))) po_none))
      (pss_cons (ps_set (i := 8) nd rfl (Or.inl rfl) (pe_op op_sub (pe_callB call_len_seq (by rfl) B.len (by decide +kernel) (pa_cons (pv 1) pa_nil)) (pe_callB call_len_seq (by rfl) B.len (by decide +kernel) (pa_cons (pv 7) pa_nil))))
      (pss_cons (ps_if (pt_cmpR (op_eqD hu) (pv 7) (pe_lst pa_nil) (nomark _)) (pss_one (ps_ret (pe_tup (pa_cons pe_str (pa_cons (pe_lst (pa_cons (pe_ix (show IxR _ (rIxT K) from ix_tup) (pe_ix ix_list (pv 4) pe_int (fun _ _ => rfl)) pe_int (fun _ _ => rfl)) (pa_cons (pe_ix (show IxR _ (rIxT K) from ix_tup) (pe_ix ix_list (pv 4) pe_int (fun _ _ => rfl)) pe_int (fun _ _ => rfl)) (pa_cons (pv 6) (pa_cons pe_non pa_nil))))) pa_nil))))) pss_nil)
      (pss_cons (ps_if (pt_cmpR op_ne (pe_ix ix_list (pv 7) pe_int (fun _ _ => rfl)) pe_str (nomark _)) (pss_one (ps_ret (pe_tup (pa_cons pe_str (pa_cons (pv 8) pa_nil))))) pss_nil)
      (pss_cons (ps_if (pw_or (pt_cmpR op_eq (pe_callB call_len_seq (by rfl) B.len (by decide +kernel) (pa_cons (pv 7) pa_nil)) pe_int (nomark _)) (pw_or1 (pt_not (pt_val (pe_call DR.ok (hr.mono (by decide)) (by rfl) DR.m DR.k DR.b .nil pass0 (pa_cons (pe_ix ix_list (pv 7) pe_int (fun _ _ => rfl)) pa_nil)))))).pt (pss_one (ps_ret (pe_tup (pa_cons pe_str (pa_cons (pe_op op_add (pv 8) pe_int) pa_nil))))) pss_nil)
      (pss_cons (ps_if (pt_cmpR op_gt (pe_callB call_len_seq (by rfl) B.len (by decide +kernel) (pa_cons (pv 7) pa_nil)) pe_int (nomark _)) (pss_one (ps_ret (pe_tup (pa_cons pe_str (pa_cons (pe_op op_add (pv 8) pe_int) pa_nil))))) pss_nil)
      (pss_one (ps_ret (pe_tup (pa_cons pe_str (pa_cons (pe_lst (pa_cons (pe_ix (show IxR _ (rIxT K) from ix_tup) (pe_ix ix_list (pv 4) pe_int (fun _ _ => rfl)) pe_int (fun _ _ => rfl)) (pa_cons (pe_ix (show IxR _ (rIxT K) from ix_tup) (pe_ix ix_list (pv 4) pe_int (fun _ _ => rfl)) pe_int (fun _ _ => rfl)) (pa_cons (pv 6) (pa_cons (pe_callTy call_int_str (by rfl) B.int (by decide +kernel) (pa_cons (pe_ix ix_list (pv 7) pe_int (fun _ _ => rfl)) pa_nil)) pa_nil))))) pa_nil))))))))))))))))), ?_⟩
    obtain ⟨s1, s2, s3, s4⟩ := split_facts hl hok
    generalize hws : wsOf t = ws at *
    obtain ⟨w0, r0, ews⟩ : ∃ w0 r0, ws = w0 :: r0 := by
      cases ws with
      | nil => exact absurd rfl s1
      | cons w0 r0 => exact ⟨w0, r0, rfl⟩
    have lws : (ws.map V.str).length = ws.length := List.length_map ..
    have hw0 : ws.headD "" = w0 := by rw [ews]; rfl
    have i0 : ws[0]? = some w0 := by rw [ews]; rfl
    refine q_asgL (xs := ws.map V.str) (by rw [← hws]; exact el_split (a := t) (b := " ") (ev_var rfl) ev_c rfl (by decide +kernel) (by omega)) fun pw H1 nw e1 hw => ?_
    have comp : ∀ {σ : L2.St} {H9 : Hp} (z : Str), (∀ x, wipe ((wipe σ [3]).set 3 (some x)) [3] = wipe σ [3]) → (∀ x, ((wipe σ [3]).set 3 (some x))[3]? = some (some x)) → EvTs (tLc (iTup K (tTup (tCons (tC (.str "one")) (tCons (tC (.str "far")) (tCons (tC (.str "both")) tNil))))) (gName 3) tYes (tTup (tCons (tVar 3) (tCons (tC (.str z)) tNil))) [3]) σ H9 [[.str "one", .str z], [.str "far", .str z], [.str "both", .str z]] := fun {σ H9} z g1 g2 =>
      ts_lcNT (K := K) (vs := [3]) (j := 3) (fun _ => true) (fun i => [([V.str "one", .str "far", .str "both"] : List V).getD i .non, .str z]) (eu_tup (ea_cons ev_c (ea_cons ev_c (ea_cons ev_c ea_nil))) (by decide)) (by decide) g1 (fun _ _ H8 _ _ H7 _ Q q => q H7 (Ex.refl H7))
        (fun i x H8 _ hx _ => EvU.tp (eu_tup (ea_cons (ev_is (ev_var (g2 x)) (by rw [List.getD_eq_getElem?_getD, hx]; rfl)) (ea_cons ev_c ea_nil)) (by show 2 ≤ 100000; decide)))
    refine q_asgTs (yss := [[V.str "one", V.str "any"], [V.str "far", V.str "any"], [V.str "both", V.str "any"]] ++ [[V.str "one", V.str "far"], [V.str "far", V.str "far"], [V.str "both", V.str "far"]]) (ts_cat (EvTs.k (comp "any" (fun _ => rfl) (fun _ => rfl))) (comp "far" (fun _ => rfl) (fun _ => rfl)) (by decide)) fun p2 v2 H2 e2 hp2 t2 => ?_
    refine q_asgTs (yss := pairs9.map fun p => [.str p.1, .str p.2]) (ts_cat (ts_var rfl hp2 t2) (comp "both" (fun _ => rfl) (fun _ => rfl)) (by decide)) fun p3 v3 H3 e3 hp3 t3 => ?_
    have e13 := (e1.trans e2).trans e3
    have hw3 : H3 pw = some (.lst (ws.map V.str)) := e3 _ _ (e2 _ _ hw)
    have item : ∀ (i : Nat) (x : V), v3[i]? = some x → ∃ (q : Str × Str) (tp : Addr), pairs9[i]? = some q ∧ x = .ref tp ∧ H3 tp = some (.tup [.str q.1, .str q.2]) := fun i x hx => tps_get t3 hx
    have l3 : v3.length = 9 := (Paired.length t3).symm
    have fev : EvTs (tLc (iList K (tVar 2)) (gName 5) (tTest (tOp rEq (tOp rCatS (tOp rCatS (tOp (rIxT K) (tVar 5) (tC (.int 0))) (tC (.str "/"))) (tOp (rIxT K) (tVar 5) (tC (.int 1)))) (tOp (rIxL K) (tVar 1) (tC (.int 0))))) (tVar 5) [5]) [some (.str t), some (.ref pw), some (.ref p3), none, none, none, none, none, none] H3 ((firstOf w0).map fun p => [V.str p.1, V.str p.2]) := by
      rw [← first_range, ← l3]
      refine ts_lcL (K := K) (yss := []) (vs := [5]) (j := 5) (fun i => decide ((pAt i).1 ++ "/" ++ (pAt i).2 = w0)) (fun i => [V.str (pAt i).1, V.str (pAt i).2]) (ev_var rfl) hp3 (by omega) (fun _ => rfl) (fun i x H8 e8 hx => ?_) (fun i x H8 e8 hx _ => ?_)
      · obtain ⟨q, tp, hq, rfl, htp⟩ := item i x hx
        have hqi : pAt i = q := by show (pairs9.getD i _) = q; rw [List.getD_eq_getElem?_getD, hq]; rfl
        obtain ⟨⟨q1, q2⟩, _⟩ := pairs_len q (List.mem_of_getElem? hq)
        have sl : ("/" : Str).length = 1 := by decide +kernel
        have sl2 : (q.1 ++ "/").length = q.1.length + 1 := by
          rw [len_tl, tl_append, List.length_append, ← len_tl, ← len_tl, sl]
        rw [hqi]
        refine et_test (ev_is (ev_op (ev_op (ev_op (ev_op (ev_var rfl) ev_c (rv_ixT (v := .str q.1) (st_of (e8 _ _ htp)) (atI_nat (j := 0) rfl))) ev_c (rv_catS (by omega))) (ev_op (ev_var rfl) ev_c (rv_ixT (v := .str q.2) (st_of (e8 _ _ htp)) (atI_nat (j := 1) rfl))) (rv_catS (by omega))) (ev_op (ev_var rfl) ev_c (rv_ixL (v := .str w0) (sq_of (e8 _ _ hw3)) (atI_nat (j := 0) (by rw [List.getElem?_map, i0]; rfl)))) (rv_eq rfl)) (congrArg V.bl (decide_eq_decide.mpr ⟨fun z => V.str.inj z, fun z => congrArg V.str z⟩)))
      · obtain ⟨q, tp, hq, rfl, htp⟩ := item i x hx
        have hqi : pAt i = q := by show (pairs9.getD i _) = q; rw [List.getD_eq_getElem?_getD, hq]; rfl
        rw [hqi]
        exact tp_var rfl (e8 _ _ htp)
    refine q_asgTs fev fun p4 v4 H4 e4 hp4 t4 => ?_
    have fe := first_eq w0
    have e14 := e13.trans e4
    have hw4 := e4 _ _ hw3
    have hrd : readW ws = if lendL.contains (Txt.partition w0 "/").1 && letL.contains (Txt.partition w0 "/").2.2 then
        (if ws[(if decide (ws[1]? = some ("turns" : Str)) = true then (2 : Nat) else 1)]? = some ("rests" : Str) then match (ws[(if decide (ws[1]? = some ("turns" : Str)) = true then (2 : Nat) else 1) + 1]?).bind numS with
          | none => .wrong (((if decide (ws[1]? = some ("turns" : Str)) = true then (2 : Nat) else 1 : Nat) : Int) + 1)
          | some n => if (if decide (ws[1]? = some ("turns" : Str)) = true then (2 : Nat) else 1) + 2 < ws.length then .wrong (((if decide (ws[1]? = some ("turns" : Str)) = true then (2 : Nat) else 1 : Nat) : Int) + 2) else .kind ⟨(Txt.partition w0 "/").1, (Txt.partition w0 "/").2.2, decide (ws[1]? = some ("turns" : Str)), some n⟩
        else if (if decide (ws[1]? = some ("turns" : Str)) = true then (2 : Nat) else 1) < ws.length then .wrong ((if decide (ws[1]? = some ("turns" : Str)) = true then (2 : Nat) else 1 : Nat) : Int) else .kind ⟨(Txt.partition w0 "/").1, (Txt.partition w0 "/").2.2, decide (ws[1]? = some ("turns" : Str)), none⟩)
      else .wrong 0 := by
      unfold readW
      rw [hw0]
      all_goals rfl
    generalize Txt.partition w0 "/" = p at fe hrd
    have i0le : (if decide (ws[1]? = some ("turns" : Str)) = true then (2 : Nat) else 1) ≤ ws.length := by
      split
      · rename_i h
        have := (List.getElem?_eq_some_iff.mp (of_decide_eq_true h)).1
        omega
      · rw [ews]
        simp
    have turnsW : (decide (1 < (ws.length : Int)) && decide (ws[1]? = some ("turns" : Str))) = decide (ws[1]? = some ("turns" : Str)) := by
      cases h : decide (ws[1]? = some ("turns" : Str)) with
      | false => rw [Bool.and_false]
      | true =>
        have := (List.getElem?_eq_some_iff.mp (of_decide_eq_true h)).1
        rw [Bool.and_true]
        exact decide_eq_true (by omega)
    generalize htu : decide (ws[1]? = some ("turns" : Str)) = tu at hrd i0le turnsW
    generalize hi : (if tu = true then (2 : Nat) else 1) = i at hrd i0le
    cases hc : lendL.contains p.1 && letL.contains p.2.2 with
    | false =>
      rw [hc, if_neg (by simp)] at fe hrd
      rw [fe] at t4
      refine q_when (b := true) (et_test (ev_opL (ev_var rfl) (el_lst ea_nil (by decide)) (fun q H9 hq e9 => rv_noTps (ps := []) (e9 _ _ hp4) (tps_mono t4 e9) hq rfl))) (fun _ H5 e5 => ?_) (fun z => by cases z)
      exact s_retU (eu_tup (ea_cons ev_c (ea_cons ev_c ea_nil)) (by decide)) fun q H6 nq e6 hq => k q H6 ((e14.trans e5).trans e6) (by rw [hrd]; exact hq)
    | true =>
      rw [hc, if_pos rfl] at fe hrd
      rw [fe] at t4
      have hm : (p.1, p.2.2) ∈ pairs9 := by
        have : (p.1, p.2.2) ∈ firstOf w0 := by rw [fe]; exact List.mem_singleton.mpr rfl
        exact (List.mem_filter.mp this).1
      obtain ⟨_, ok1, ok2⟩ := pairs_len _ hm
      obtain ⟨tp, ev4, htp⟩ : ∃ tp, v4 = [.ref tp] ∧ H4 tp = some (.tup [.str p.1, .str p.2.2]) := by
        cases t4 with
        | cons a b =>
          cases b
          obtain ⟨tp, rfl, h⟩ := a
          exact ⟨tp, rfl, h⟩
      refine q_when (b := false) (et_test (ev_opL (ev_var rfl) (el_lst ea_nil (by decide)) (fun q H9 hq e9 => rv_noTps (ps := [(p.1, p.2.2)]) (e9 _ _ hp4) (tps_mono t4 e9) hq (sh_one ok1 ok2)))) (fun z => by cases z) (fun _ H5 e5 => ?_)
      subst ev4
      have hw5 := e5 _ _ hw4
      refine q_asg (v := .bl tu) (ev_is (ev_andV (a := decide (1 < (ws.length : Int))) (b := tu) (ev_is (ev_op (ev_len (ev_var rfl) (sq_of hw5)) ev_c rv_int) (congrArg V.bl (decide_eq_decide.mpr (by rw [lws]))))
        (fun h => ?_)) (congrArg V.bl turnsW)) fun H6 e6 => ?_
      · have hl := of_decide_eq_true h
        have hx : ws[1]? = some ws[1] := List.getElem?_eq_getElem (by omega)
        refine ev_is (ev_op (ev_op (ev_var rfl) ev_c (rv_ixL (v := .str ws[1]) (sq_of hw5) (atI_nat (j := 1) (by rw [List.getElem?_map, hx]; rfl)))) ev_c (rv_eq rfl)) (congrArg V.bl ?_)
        rw [← htu, hx]
        exact decide_eq_decide.mpr ⟨fun z => congrArg some (V.str.inj z), fun z => congrArg V.str (Option.some.inj z)⟩
      have hw6 := e6 _ _ hw5
      have hi2 : (1 : Int) + (if tu = true then 1 else 0) = (i : Int) := by
        rw [← hi]
        cases tu <;> rfl
      refine q_asgL (xs := (ws.drop i).map V.str) (by
        rw [← cut_from]
        exact el_sl (ev_var rfl) (eo_some (ev_is (ev_op ev_c (ev_cb (ea_cons (ev_var rfl) ea_nil) (z := .int (if tu = true then 1 else 0)) (fun H9 _ Q q => .inr ⟨tu, rfl, q H9 (Ex.refl H9)⟩)) rv_int) (congrArg V.int hi2))) eo_none (sq_of hw6)) fun pb H7 nb e7 hb => ?_
      have e17 := ((e14.trans e5).trans e6).trans e7
      have hw7 := e7 _ _ hw6
      have lb : ((ws.drop i).map V.str).length = ws.length - i := by rw [List.length_map, List.length_drop]
      refine q_asg (v := .int (i : Int)) (ev_is (ev_op (ev_len (ev_var rfl) (sq_of hw7)) (ev_len (ev_var rfl) (sq_of hb)) rv_int) (congrArg V.int (by rw [lb, lws]; omega))) fun H8 e8 => ?_
      have e18 := e17.trans e8
      have hb8 := e8 _ _ hb
      have hp48 := (((e5.trans e6).trans e7).trans e8) _ _ hp4
      have htp8 := (((e5.trans e6).trans e7).trans e8) _ _ htp
      have okD : okS (ws.drop i) := List.all_eq_true.mpr fun x hx => List.all_eq_true.mp s2 x (List.mem_of_mem_drop hx)
      have fst : ∀ {σ : L2.St} {H9 : Hp} {j : Nat} {v : V}, Ex H8 H9 → σ[4]? = some (some (.ref p4)) → ([V.str p.1, V.str p.2.2] : List V)[j]? = some v → Ev (tOp (rIxT K) (tOp (rIxL K) (tVar 4) (tC (.int 0))) (tC (.int (j : Int)))) σ H9 v := fun {σ H9 j v} e9 h4 hv =>
        ev_op (ev_op (ev_var h4) ev_c (rv_ixL (v := .ref tp) (sq_of (e9 _ _ hp48)) (atI_nat (j := 0) rfl))) ev_c (rv_ixT (st_of (e9 _ _ htp8)) (atI_nat (j := j) hv))
      refine q_when (b := decide (ws.drop i = [])) (et_test (ev_opL (ev_var rfl) (el_lst ea_nil (by decide)) (fun q H9 hq e9 => rv_eqStrs (l := ws.drop i) (m := []) (sq_of (e9 _ _ hb8)) (sq_of hq) okD rfl))) (fun h H9 e9 => ?_) (fun h H9 e9 => ?_)
      · have hd := of_decide_eq_true h
        have hlen2 : ws.length ≤ i := List.drop_eq_nil_iff.mp hd
        rw [if_neg (by rw [List.getElem?_eq_none_iff.mpr hlen2]; simp), if_neg (by omega)] at hrd
        refine s_retTL (xs := [.str p.1, .str p.2.2, .bl tu, .non]) (el_lst (ea_cons (fst (j := 0) e9 rfl rfl) (ea_cons (fst (j := 1) e9 rfl rfl) (ea_cons (ev_var rfl) (ea_cons ev_c ea_nil)))) (by show 4 ≤ 100000; decide)) fun q l H10 e10 h1 h2 => k q H10 ((e18.trans e9).trans e10) ?_
        rw [hrd]
        exact ⟨l, h1, h2⟩
      have hd := of_decide_eq_false h
      have hlt : i < ws.length := by
        by_cases z : i < ws.length
        · exact z
        · exact absurd (List.drop_eq_nil_iff.mpr (by omega)) hd
      have hx : ws[i]? = some ws[i] := List.getElem?_eq_getElem hlt
      have bx : ∀ {j : Nat} {x : Str}, ws[i + j]? = some x → ((ws.drop i).map V.str)[j]? = some (.str x) := fun {j x} hj => by rw [List.getElem?_map, List.getElem?_drop, hj]; rfl
      have hb9 := e9 _ _ hb8
      refine q_when (b := !decide (ws[i] = ("rests" : Str))) (et_test (ev_is (ev_op (ev_op (ev_var rfl) ev_c (rv_ixL (v := .str ws[i]) (sq_of hb9) (atI_nat (j := 0) (bx (j := 0) hx)))) ev_c (rv_ne rfl)) (congrArg (fun z => V.bl (!z)) (decide_eq_decide.mpr ⟨fun z => V.str.inj z, fun z => congrArg V.str z⟩)))) (fun h2 H10 e10 => ?_) (fun h2 H10 e10 => ?_)
      · have hne : ¬ ws[i] = ("rests" : Str) := of_decide_eq_false (by simpa using h2)
        rw [hx, if_neg (fun z => hne (Option.some.inj z)), if_pos hlt] at hrd
        exact s_retU (eu_tup (ea_cons ev_c (ea_cons (ev_var rfl) ea_nil)) (by show 2 ≤ 100000; decide)) fun q H11 nq e11 hq => k q H11 (((e18.trans e9).trans e10).trans e11) (by rw [hrd]; exact hq)
      have hre : ws[i] = ("rests" : Str) := of_decide_eq_true (by simpa using h2)
      rw [hx, if_pos (congrArg some hre)] at hrd
      have hb10 := e10 _ _ hb9
      generalize hrr : (ws[i + 1]?).bind numS = rr at hrd
      refine q_when (b := rr.isNone) (et_is (et_or (a := decide ((ws.drop i).length = 1)) (b := !rr.isSome) (et_test (ev_is (ev_op (ev_len (ev_var rfl) (sq_of hb10)) ev_c (rv_eq rfl)) (congrArg V.bl (decide_eq_decide.mpr ⟨fun z => by
          have := V.int.inj z
          rw [List.length_map] at this
          omega, fun z => by rw [List.length_map, z]; rfl⟩)))) (fun hn => et_not (et_B ?_))) ?_) (fun h3 H11 e11 => ?_) (fun h3 H11 e11 => ?_)
      · have hl2 := of_decide_eq_false hn
        rw [List.length_drop] at hl2
        have hy : ws[i + 1]? = some ws[i + 1] := List.getElem?_eq_getElem (by omega)
        rw [hy] at hrr
        have hrr2 : numS ws[i + 1] = rr := hrr
        rw [← hrr2]
        exact ev_call (ea_cons (ev_op (ev_var rfl) ev_c (rv_ixL (v := .str ws[i + 1]) (sq_of hb10) (atI_nat (j := 1) (bx (j := 1) hy)))) ea_nil) (fun H12 e12 Q q E => ⟨ws[i + 1], rfl, s3 _ (List.getElem_mem _), List.all_eq_true.mp s2 _ (List.getElem_mem _), fun H' e' => q H' e'⟩)
      · cases hd1 : decide ((ws.drop i).length = 1) with
        | false => cases rr <;> rfl
        | true =>
          have hl2 := of_decide_eq_true hd1
          rw [List.length_drop] at hl2
          rw [List.getElem?_eq_none_iff.mpr (by omega)] at hrr
          rw [← hrr]
          rfl
      · cases rr with
        | some n => cases h3
        | none => exact s_retU (eu_tup (ea_cons ev_c (ea_cons (ev_op (ev_var rfl) ev_c rv_int) ea_nil)) (by show 2 ≤ 100000; decide)) fun q H12 nq e12 hq => k q H12 ((((e18.trans e9).trans e10).trans e11).trans e12) (by rw [hrd]; exact hq)
      cases rr with
      | none => cases h3
      | some n =>
        have hb11 := e11 _ _ hb10
        refine q_when (b := decide (i + 2 < ws.length)) (et_test (ev_is (ev_op (ev_len (ev_var rfl) (sq_of hb11)) ev_c rv_int) (congrArg V.bl (decide_eq_decide.mpr (by rw [lb]; omega))))) (fun h4 H12 e12 => ?_) (fun h4 H12 e12 => ?_)
        · have hrd2 : readW ws = .wrong ((i : Int) + 2) := hrd.trans (if_pos (of_decide_eq_true h4))
          exact s_retU (eu_tup (ea_cons ev_c (ea_cons (ev_op (ev_var rfl) ev_c rv_int) ea_nil)) (by show 2 ≤ 100000; decide)) fun q H13 nq e13 hq => k q H13 (((((e18.trans e9).trans e10).trans e11).trans e12).trans e13) (by rw [hrd2]; exact hq)
        · have hrd2 : readW ws = .kind ⟨p.1, p.2.2, tu, some n⟩ := hrd.trans (if_neg (of_decide_eq_false h4))
          obtain ⟨y, hy, hny⟩ : ∃ y, ws[i + 1]? = some y ∧ numS y = some n := by
            cases hy : ws[i + 1]? with
            | none =>
              rw [hy] at hrr
              cases hrr
            | some y =>
              rw [hy] at hrr
              exact ⟨y, rfl, hrr⟩
          obtain ⟨y1, y2⟩ := numS_int hny
          refine s_retTL (xs := [.str p.1, .str p.2.2, .bl tu, .int n]) (el_lst (ea_cons (fst (j := 0) (((e9.trans e10).trans e11).trans e12) rfl rfl) (ea_cons (fst (j := 1) (((e9.trans e10).trans e11).trans e12) rfl rfl) (ea_cons (ev_var rfl)
            (ea_cons (ev_cb (r := rIntT) (ea_cons (ev_op (ev_var rfl) ev_c (rv_ixL (v := .str y) (sq_of (e12 _ _ hb11)) (atI_nat (j := 1) (bx (j := 1) hy)))) ea_nil) (rc_intT y1 (by omega))) ea_nil)))) (by show 4 ≤ 100000; decide)) fun q l H13 e13 h1 h2 => k q H13 (((((e18.trans e9).trans e10).trans e11).trans e12).trans e13) ?_
          rw [hrd2]
          exact ⟨l, h1, h2⟩
end
end L2.M3
set_option maxRecDepth 100000
set_option maxHeartbeats 4000000
namespace L2.M3
open PySem PySem.Spec PyProof.Rows L2 Mx L2.Mb Evl Mv TL
/-- the pen at p: its list of cells, the next cell's index, the rest of a great cell -/
def PenAt (H : Hp) (p : Addr) (ns : List Int) (t : Int) : Prop := ∃ (l : Addr) (g : Int), H p = some (.lst [.ref l, .int t, .int g]) ∧ H l = some (.lst (ns.map V.int))
/-- all but p stands as it stood -/
def But (p : Addr) (H H' : Hp) : Prop := ∀ c o, c ≠ p → H c = some o → H' c = some o
def spTake : Sp := fun vs H Q _ => ∃ (p : Addr) (m : Int) (ns : List Int) (t : Int), vs = [.ref p, .int m] ∧ PenAt H p ns t ∧ ns.length ≤ 63 ∧ 0 ≤ t ∧ t ≤ 1000000 ∧ 1 ≤ m ∧ m ≤ 1000000 ∧
  ∀ (d t' : Int) (H' : Hp), 0 ≤ d → d < m → t ≤ t' → t' ≤ t + 1 → PenAt H' p ns t' → But p H H' → Q (.int d) H'
theorem pow_bd {x : Int} {n : Nat} (k : Nat) (h : x.natAbs ≤ n) : (x ^ k).natAbs ≤ n ^ k := by
  rw [Int.natAbs_pow]
  exact Nat.pow_le_pow_left h k
theorem ifB {c : Bool} {X Y : Prop} (h1 : c = true → X) (h2 : c = false → Y) : if c = true then X else Y := by
  cases c with
  | true => exact (h1 rfl)
  | false => exact (h2 rfl)
section
variable {P : Program} {w : World} {K : W.Frag} {mg : Str → Option Value} {base : Heap} {f : Addr} {fd : FuncData}
theorem ok_take (B : Bt mg) (F : FnP K "_law_take" s_law_take f fd) : FnOk P w K mg base CX0 1 f fd p_law_take spTake := by
  refine F.ok sc_law_take (fun vs H Q E h => ?_) (fun cdv A outer s H vs Q E hr h => ?_)
  · obtain ⟨p, m, ns, t, rfl, _⟩ := h
    rfl
  · obtain ⟨p, m, ns, t, rfl, ⟨l, g, hp, hl⟩, hn, t0, t1, m0, m1, k⟩ := h
    have hu := hr.units
    refine ⟨_, PSs.nox (pss_cons (ps_if (pt_cmpR op_gt (pe_ix ix_list (pv 0) pe_int (fun _ _ => rfl)) pe_int (nomark _)) (pss_cons (ps_set (i := 2) sc_law_take.nd rfl (Or.inl rfl) (pe_op op_mod (pe_callTy call_int1 (by rfl) B.int (by decide +kernel) (pa_cons (pe_ix ix_list (pv 0) pe_int (fun _ _ => rfl)) pa_nil)) (pv 1)))
      (pss_cons (ps_asg (pe_op op_fdiv (pe_ix ix_list (pv 0) pe_int (fun _ _ => rfl)) (pv 1)) (pg_sub (pv 0) pe_int set_list))
      (pss_one (ps_ret (pv 2))))) pss_nil)
    (pss_cons (ps_set (i := 3) sc_law_take.nd rfl (Or.inl rfl) (pe_ix ix_list (pv 0) pe_int (fun _ _ => rfl)))
    (pss_cons (ps_asg (pe_op op_add (pv 3) pe_int) (pg_sub (pv 0) pe_int set_list))
    (pss_cons (ps_set (i := 4) sc_law_take.nd rfl (Or.inl rfl) (pe_op op_add (pe_op op_mul pe_int (pv 3)) pe_int))
    (Evl.pss_cut (ps_if (pt_cmpR (op_neD hu) (pe_ix ix_list (pv 0) pe_int (fun _ _ => rfl)) (pe_lst pa_nil) (nomark _)) (pss_one (ps_set (i := 4) sc_law_take.nd rfl (Or.inl rfl) (pe_ix ix_list (pe_ix ix_list (pv 0) pe_int (fun _ _ => rfl)) (pe_op op_mod (pe_callTy call_int1 (by rfl) B.int (by decide +kernel) (pa_cons (pv 3) pa_nil)) (pe_callB call_len_seq (by rfl) B.len (by decide +kernel) (pa_cons (pe_ix ix_list (pv 0) pe_int (fun _ _ => rfl)) pa_nil))) (fun _ _ => rfl)))) pss_nil)
    (Evl.pss_cut (ps_if ((pw_and (pt_cmpR op_lt (pv 3) (pe_callB call_len_seq (by rfl) B.len (by decide +kernel) (pa_cons (pe_ix ix_list (pv 0) pe_int (fun _ _ => rfl)) pa_nil)) (nomark _)) (pw_and1 (pt_cmpR op_ge (pe_callB call_abs (by rfl) B.abs (by decide +kernel) (pa_cons (pv 4) pa_nil)) (pe_op op_pow pe_int pe_int) (nomark _))))).pt (pss_cons (ps_set (i := 5) sc_law_take.nd rfl (Or.inl rfl) (pe_op op_add (pe_op op_mul pe_int (pe_op op_sub (pe_callB call_abs (by rfl) B.abs (by decide +kernel) (pa_cons (pv 4) pa_nil)) (pe_op op_pow pe_int pe_int))) (pe_callTy call_int1 (by rfl) B.int (by decide +kernel) (pa_cons (pe_cmpR op_lt (pv 4) pe_int (nomark _)) pa_nil))))
      (pss_cons (ps_asg (pe_op op_fdiv (pv 5) (pv 1)) (pg_sub (pv 0) pe_int set_list))
      (pss_one (ps_ret (pe_op op_mod (pe_callTy call_int1 (by rfl) B.int (by decide +kernel) (pa_cons (pv 5) pa_nil)) (pv 1)))))) pss_nil)
    (pss_cons (ps_set (i := 6) sc_law_take.nd rfl (Or.inl rfl) (pe_op op_mod (pe_callTy call_int1 (by rfl) B.int (by decide +kernel) (pa_cons (pe_op op_pow (pe_op op_add (pe_op op_add (pe_op op_add (pe_op op_mod (pe_callTy call_int1 (by rfl) B.int (by decide +kernel) (pa_cons (pv 4) pa_nil)) pe_int) (pe_op op_mul pe_int (pv 3))) (pe_op op_mul (pe_op op_mul pe_int (pv 3)) (pv 3))) pe_int) pe_int) pa_nil)) pe_int))
    (pss_cons (ps_set (i := 6) sc_law_take.nd rfl (Or.inl rfl) (pe_op op_mod (pe_callTy call_int1 (by rfl) B.int (by decide +kernel) (pa_cons (pe_op op_pow (pe_op op_add (pe_op op_add (pe_op op_mul (pv 6) (pe_op op_add (pe_op op_mul pe_int (pv 3)) pe_int)) (pe_op op_mul pe_int (pv 3))) pe_int) pe_int) pa_nil)) pe_int))
    (pss_one (ps_ret (pe_op op_mod (pe_callTy call_int1 (by rfl) B.int (by decide +kernel) (pa_cons (pe_op op_fdiv (pv 6) pe_int) pa_nil)) (pv 1)))))))))))), ?_⟩
    have npl : p ≠ l := by
      intro e
      rw [e, hl] at hp
      cases ns with
      | nil => simp at hp
      | cons a r => simp at hp
    -- if pen[2] > 0
    refine ⟨_, rfl, p, _, _, _, rfl, rfl, SqL.of hp, atI_nat (j := 2) rfl, _, _, rfl, rfl, _, rfl, ?_⟩
    refine ite2 (fun _ => ?_) (fun _ => ?_)
    · refine ⟨_, rfl, p, _, _, _, rfl, rfl, SqL.of hp, atI_nat (j := 2) rfl, .inl ⟨g, rfl, _, rfl, _, _, rfl, rfl, by omega, ?_⟩⟩
      refine ⟨_, rfl, p, _, _, _, rfl, rfl, SqL.of hp, atI_nat (j := 2) rfl, _, rfl, _, _, rfl, rfl, ⟨by omega, by omega⟩, ?_⟩
      refine ⟨_, rfl, p, _, _, 2, rfl, rfl, hp, rfl, ?_⟩
      refine ⟨_, rfl, ?_⟩
      refine k _ t _ (Int.emod_nonneg _ (by omega)) (Int.emod_lt_of_pos _ (by omega)) (Int.le_refl _) (by omega) ⟨l, _, upd_same, ?_⟩ (fun c o hc e => by rw [upd_ne hc]; exact e)
      rw [upd_ne npl.symm]
      exact hl
    · refine ⟨_, rfl, p, _, _, _, rfl, rfl, SqL.of hp, atI_nat (j := 1) rfl, ?_⟩
      refine ⟨_, rfl, _, _, rfl, rfl, _, rfl, p, _, _, 1, rfl, rfl, hp, rfl, ?_⟩
      refine ⟨_, rfl, _, _, rfl, rfl, .inl ⟨by decide, by decide⟩, _, _, rfl, rfl, ?_⟩
      have hp1 : (upd H p (.lst [.ref l, .int (t + 1), .int g])) p = some (.lst [.ref l, .int (t + 1), .int g]) := upd_same
      have hl1 : (upd H p (.lst [.ref l, .int (t + 1), .int g])) l = some (.lst (ns.map V.int)) := by
        rw [upd_ne npl.symm]
        exact hl
      refine ⟨fun σ' H' => ∃ c : Int, σ' = [some (.ref p), some (.int m), none, some (.int t), some (.int c), none, none] ∧ H' p = some (.lst [.ref l, .int (t + 1), .int g]) ∧ H' l = some (.lst (ns.map V.int)) ∧ But p H H', ?_, ?_⟩
      · -- if pen[0] != []
        refine ⟨_, rfl, p, _, _, _, rfl, rfl, SqL.of hp1, atI_nat (j := 0) rfl, Nat.zero_le _, fun q hq => ?_⟩
        have nq : ∀ {c : Addr} {o : HO}, (upd H p (.lst [.ref l, .int (t + 1), .int g])) c = some o → c ≠ q := fun e => ne_of_none e hq
        have hp2 : (upd (upd H p (.lst [.ref l, .int (t + 1), .int g])) q (.lst [])) p = some (.lst [.ref l, .int (t + 1), .int g]) := by
          rw [upd_ne (nq hp1)]
          exact hp1
        have hl2 : (upd (upd H p (.lst [.ref l, .int (t + 1), .int g])) q (.lst [])) l = some (.lst (ns.map V.int)) := by
          rw [upd_ne (nq hl1)]
          exact hl1
        have bt2 : But p H (upd (upd H p (.lst [.ref l, .int (t + 1), .int g])) q (.lst [])) := fun c o hc e => by
          have e1 : (upd H p (.lst [.ref l, .int (t + 1), .int g])) c = some o := by
            rw [upd_ne hc]
            exact e
          rw [upd_ne (nq e1)]
          exact e1
        refine ⟨_, _, .lst (SqL.of hl2) (dp_is ns), .lst (SqL.of upd_same) .nil, is_shaped ns, rfl, _, rfl, ?_⟩
        cases hns : ns with
        | nil =>
          refine ifB (fun z => ?_) (fun _ => ?_)
          · simp [PyData.eqv, PyData.eqvAll] at z
          · rw [hns] at hl2
            exact ⟨_, rfl, hp2, hl2, bt2⟩
        | cons a r =>
          refine ifB (fun _ => ?_) (fun z => ?_)
          · have lp : (0 : Int) < ((ns.map V.int).length : Int) := by
              rw [hns]
              simp
              try omega
            have ix0 := Int.emod_nonneg t (show ((ns.map V.int).length : Int) ≠ 0 by omega)
            have ix1 := Int.emod_lt_of_pos t lp
            obtain ⟨j, hj⟩ := Int.eq_ofNat_of_zero_le ix0
            have hjl : j < ns.length := by
              rw [List.length_map] at hj ix1
              omega
            obtain ⟨c, hc⟩ : ∃ c, ns[j]? = some c := ⟨ns[j], List.getElem?_eq_getElem hjl⟩
            refine ⟨_, rfl, p, _, _, _, rfl, rfl, SqL.of hp2, atI_nat (j := 0) rfl, _, rfl, .inl ⟨_, rfl, _, rfl, p, _, _, _, rfl, rfl, SqL.of hp2, atI_nat (j := 0) rfl, l, _, rfl, .inl (SqL.of hl2), _, _, rfl, rfl, lp, ?_⟩⟩
            refine ⟨l, _, _, .int c, rfl, rfl, SqL.of hl2, ?_, ?_⟩
            · rw [hj]
              exact atI_nat (by rw [List.getElem?_map, hc]; rfl)
            · rw [hns] at hl2
              exact ⟨_, rfl, hp2, hl2, bt2⟩
          · simp [PyData.eqv, PyData.eqvAll] at z
      · rintro σ' H' ⟨c, rfl, hp3, hl3, bt3⟩
        -- if turn < len(pen[0]) and abs(cell) >= 10 ** 18
        refine ⟨fun σ'' H'' => σ'' = [some (.ref p), some (.int m), none, some (.int t), some (.int c), none, none] ∧ H'' p = some (.lst [.ref l, .int (t + 1), .int g]) ∧ H'' l = some (.lst (ns.map V.int)) ∧ But p H H'', ?_, ?_⟩
        · refine ⟨_, rfl, _, rfl, p, _, _, _, rfl, rfl, SqL.of hp3, atI_nat (j := 0) rfl, l, _, rfl, .inl (SqL.of hl3), _, _, rfl, rfl, _, rfl, ?_⟩
          refine ite2 (fun _ => ?_) (fun _ => ?_)
          · refine ⟨_, rfl, c, rfl, _, _, rfl, rfl, ⟨by decide, by decide, by decide⟩, _, _, rfl, rfl, _, rfl, ?_⟩
            refine ite2 (fun _ => ?_) (fun _ => ?_)
            · refine ⟨_, rfl, c, rfl, _, _, rfl, rfl, ⟨by decide, by decide, by decide⟩, _, _, rfl, rfl, _, _, rfl, rfl, .inl ⟨by decide, by decide⟩, ?_⟩
              refine ⟨_, rfl, _, _, rfl, rfl, .inr ⟨_, rfl, _, _, rfl, rfl, ?_⟩⟩
              refine ⟨_, rfl, _, rfl, _, _, rfl, rfl, ⟨by omega, by omega⟩, _, rfl, p, _, _, 2, rfl, rfl, hp3, rfl, ?_⟩
              refine ⟨_, rfl, .inl ⟨_, rfl, _, rfl, _, _, rfl, rfl, by omega, ?_⟩⟩
              refine k _ (t + 1) _ (Int.emod_nonneg _ (by omega)) (Int.emod_lt_of_pos _ (by omega)) (by omega) (Int.le_refl _) ⟨l, _, upd_same, ?_⟩ (fun c o hc e => by rw [upd_ne hc]; exact bt3 c o hc e)
              rw [upd_ne npl.symm]
              exact hl3
            · exact ⟨rfl, hp3, hl3, bt3⟩
          · exact ⟨rfl, hp3, hl3, bt3⟩
        · rintro σ'' H'' ⟨rfl, hp4, hl4, bt4⟩
          have q0 := Int.emod_nonneg c (show (2147483563 : Int) ≠ 0 by decide)
          have q1 := Int.emod_lt_of_pos c (show (0 : Int) < 2147483563 by decide)
          have tt0 : 0 ≤ t * t := Int.mul_nonneg t0 t0
          have tt1 : t * t ≤ 1000000 * 1000000 := Int.mul_le_mul t1 t1 t0 (by decide)
          have te : 5 * t * t = 5 * (t * t) := Int.mul_assoc _ _ _
          -- the first mix
          refine ⟨_, rfl, .inl ⟨c, rfl, _, _, rfl, rfl, (by show (0 : Int) < 2147483563; decide), _, rfl, _, _, rfl, rfl, .inl ⟨by decide, by decide⟩, _, _, rfl, rfl,
            _, rfl, _, _, rfl, rfl, .inl ⟨by decide, by decide⟩, _, rfl, _, _, rfl, rfl, .inr ⟨by omega, by omega⟩, _, _, rfl, rfl, _, _, rfl, rfl, _, _, rfl, rfl, ⟨by decide, by decide, ?_⟩, .inl ⟨_, rfl, _, _, rfl, rfl, (by show (0 : Int) < 2147483629; decide), ?_⟩⟩⟩
          · show (c % 2147483563 + 40037 * t + 5 * t * t + 29).natAbs < 2 ^ 64
            rw [te]
            omega
          · show gName 6 (V.int ((c % 2147483563 + 40037 * t + 5 * t * t + 29) ^ Int.toNat 5 % 2147483629)) _ _ _
            generalize hz : (c % 2147483563 + 40037 * t + 5 * t * t + 29) ^ Int.toNat 5 % 2147483629 = z
            have z0 : 0 ≤ z := by
              rw [← hz]
              exact Int.emod_nonneg _ (by decide)
            have z1 : z < 2147483629 := by
              rw [← hz]
              exact Int.emod_lt_of_pos _ (by decide)
            have y0 : 0 ≤ z * (2 * t + 53) := Int.mul_nonneg z0 (by omega)
            have y1 : z * (2 * t + 53) ≤ 2147483629 * 2000053 := Int.mul_le_mul (by omega) (by omega) (by omega) (by decide)
            -- the second
            refine ⟨_, rfl, _, rfl, _, _, rfl, rfl, .inl ⟨by decide, by decide⟩, _, _, rfl, rfl, _, _, rfl, rfl, .inl ⟨by omega, by omega⟩, _, rfl, _, _, rfl, rfl, .inl ⟨by decide, by decide⟩, _, _, rfl, rfl, _, _, rfl, rfl,
              _, _, rfl, rfl, ⟨by decide, by decide, ?_⟩, .inl ⟨_, rfl, _, _, rfl, rfl, (by show (0 : Int) < 2147483587; decide), ?_⟩⟩
            · show (z * (2 * t + 53) + 30047 * t + 11).natAbs < 2 ^ 64
              omega
            · refine ⟨_, rfl, _, _, rfl, rfl, ⟨by decide, by decide⟩, .inl ⟨_, rfl, _, rfl, _, _, rfl, rfl, by omega, ?_⟩⟩
              exact k _ (t + 1) _ (Int.emod_nonneg _ (by omega)) (Int.emod_lt_of_pos _ (by omega)) (by omega) (Int.le_refl _) ⟨l, _, hp4, hl4⟩ bt4
end
end L2.M3
set_option maxRecDepth 100000
set_option maxHeartbeats 4000000
set_option exponentiation.threshold 4000
namespace L2.M3
open PySem PySem.Spec PyProof.Rows L2 Mx L2.Mb Evl Mv TL
/-! ### what is told can be shown -/
theorem readW_eq (ws : List Str) : readW ws = if lendL.contains (Txt.partition (ws.headD "") "/").1 && letL.contains (Txt.partition (ws.headD "") "/").2.2 then
      (if ws[(if decide (ws[1]? = some ("turns" : Str)) = true then (2 : Nat) else 1)]? = some ("rests" : Str) then match (ws[(if decide (ws[1]? = some ("turns" : Str)) = true then (2 : Nat) else 1) + 1]?).bind numS with
        | none => .wrong (((if decide (ws[1]? = some ("turns" : Str)) = true then (2 : Nat) else 1 : Nat) : Int) + 1)
        | some n => if (if decide (ws[1]? = some ("turns" : Str)) = true then (2 : Nat) else 1) + 2 < ws.length then .wrong (((if decide (ws[1]? = some ("turns" : Str)) = true then (2 : Nat) else 1 : Nat) : Int) + 2) else .kind ⟨(Txt.partition (ws.headD "") "/").1, (Txt.partition (ws.headD "") "/").2.2, decide (ws[1]? = some ("turns" : Str)), some n⟩
      else if (if decide (ws[1]? = some ("turns" : Str)) = true then (2 : Nat) else 1) < ws.length then .wrong ((if decide (ws[1]? = some ("turns" : Str)) = true then (2 : Nat) else 1 : Nat) : Int) else .kind ⟨(Txt.partition (ws.headD "") "/").1, (Txt.partition (ws.headD "") "/").2.2, decide (ws[1]? = some ("turns" : Str)), none⟩)
    else .wrong 0 := by
  unfold readW
  rfl
theorem read_bounds (ws : List Str) : (∀ kd, readW ws = .kind kd → kd.ok = true) ∧ ∀ n, readW ws = .wrong n → 0 ≤ n ∧ n ≤ (ws.length : Int) + 3 := by
  have e := readW_eq ws
  generalize Txt.partition (ws.headD "") "/" = p at e
  generalize decide (ws[1]? = some ("turns" : Str)) = tu at e
  have h2 : (if tu = true then (2 : Nat) else 1) ≤ 2 := by split <;> omega
  generalize (if tu = true then (2 : Nat) else 1) = i at e h2
  by_cases c : (lendL.contains p.1 && letL.contains p.2.2) = true
  · rw [if_pos c] at e
    obtain ⟨c1, c2⟩ := Bool.and_eq_true_iff.mp c
    by_cases r : ws[i]? = some ("rests" : Str)
    · have hlt := (List.getElem?_eq_some_iff.mp r).1
      rw [if_pos r] at e
      generalize hr : (ws[i + 1]?).bind numS = rr at e
      cases rr with
      | none =>
        have e2 : readW ws = .wrong ((i : Int) + 1) := e
        rw [e2]
        exact ⟨fun kd z => (by cases z), fun n z => (by cases z; omega)⟩
      | some m =>
        have hm : inRest m = true := by
          cases hx : ws[i + 1]? with
          | none =>
            rw [hx] at hr
            cases hr
          | some x =>
            rw [hx] at hr
            exact numS_ok hr
        by_cases l : i + 2 < ws.length
        · have e2 : readW ws = .wrong ((i : Int) + 2) := e.trans (if_pos l)
          rw [e2]
          exact ⟨fun kd z => (by cases z), fun n z => (by cases z; omega)⟩
        · have e2 : readW ws = .kind ⟨p.1, p.2.2, tu, some m⟩ := e.trans (if_neg l)
          rw [e2]
          refine ⟨fun kd z => ?_, fun n z => (by cases z)⟩
          cases z
          unfold Kd.ok
          rw [c1, c2]
          exact hm
    · rw [if_neg r] at e
      by_cases l : i < ws.length
      · rw [e, if_pos l]
        exact ⟨fun kd z => (by cases z), fun n z => (by cases z; omega)⟩
      · rw [e, if_neg l]
        refine ⟨fun kd z => ?_, fun n z => (by cases z)⟩
        cases z
        unfold Kd.ok
        rw [c1, c2]
        rfl
  · rw [e, if_neg c]
    exact ⟨fun kd z => (by cases z), fun n z => (by cases z; omega)⟩
theorem nat_len {n : Int} (h0 : 0 ≤ n) (h1 : n ≤ 1000000) : ((toString n : String) : Str).length ≤ 7 := by
  obtain ⟨m, rfl⟩ := Int.eq_ofNat_of_zero_le h0
  rw [len_tl, tl_num]
  exact numL_len (by decide) (by omega)
theorem nat_log {n : Int} (h0 : 0 ≤ n) (h1 : n ≤ 1000000) : n.natAbs.log2 < 1920 := by
  by_cases hz : n.natAbs = 0
  · rw [hz]
    decide
  · exact (Nat.log2_lt hz).mpr (Nat.lt_of_lt_of_le (show n.natAbs < 2 ^ 20 by omega) (Nat.pow_le_pow_right (by decide) (by decide)))
theorem okD_of {d : PyData} (h1 : d.shown.length ≤ 100000) (h2 : d.showable = true) (h3 : d.depth ≤ 60) : okD d = true := by
  unfold okD
  rw [h2, decide_eq_true h3, decide_eq_true (Nat.le_trans h1 (show 100000 ≤ sizeLine by decide))]
  rfl
theorem word_len : (∀ x ∈ lendL, (reprText x).length ≤ 10) ∧ (∀ x ∈ letL, (reprText x).length ≤ 10) ∧ (reprText "wrong").length ≤ 10 ∧ (reprText "kind").length ≤ 10 := by decide +kernel
theorem due_ok {t : Str} (hl : t.length ≤ 40000) (hok : PyData.strOk t = true) : okD (resD (readW (wsOf t))) = true := by
  obtain ⟨_, _, _, s4⟩ := split_facts hl hok
  obtain ⟨b1, b2⟩ := read_bounds (wsOf t)
  obtain ⟨w1, w2, w3, w4⟩ := word_len
  cases hr : readW (wsOf t) with
  | wrong n =>
    obtain ⟨n0, n1⟩ := b2 n hr
    have nl := nat_len n0 (by omega)
    refine okD_of ?_ ?_ ?_
    · have z := tupleText_len_le (PyData.shownAll [.str "wrong", .int n])
      simp only [resD, PyData.shown]
      refine Nat.le_trans z ?_
      simp only [PyData.shownAll, PyData.shown, List.map_cons, List.map_nil, List.sum_cons, List.sum_nil, List.length_cons, List.length_nil]
      omega
    · simp [resD, PyData.showable, PyData.showableAll, nat_log n0 (by omega)]
    · simp [resD, PyData.depth, PyData.depthAll]
  | kind k =>
    have hk := b1 k hr
    unfold Kd.ok at hk
    simp only [Bool.and_eq_true] at hk
    obtain ⟨k1, k2, k3⟩ := hk
    have l1 := w1 _ (List.contains_iff_mem.mp k1)
    have l2 := w2 _ (List.contains_iff_mem.mp k2)
    have nl : ((match k.re with | some n => PyData.int n | none => PyData.none) : PyData).shown.length ≤ 10 ∧ ((match k.re with | some n => PyData.int n | none => PyData.none) : PyData).showable = true ∧ ((match k.re with | some n => PyData.int n | none => PyData.none) : PyData).depth = 0 := by
      cases hre : k.re with
      | none => exact ⟨by decide +kernel, rfl, rfl⟩
      | some n =>
        rw [hre] at k3
        have k4 : inRest n = true := k3
        refine ⟨?_, ?_, by simp [PyData.depth]⟩
        · have z := num_len k4
          simp only [PyData.shown]
          omega
        · simp [PyData.showable, num_log k4]
    obtain ⟨n1, n2, n3⟩ := nl
    generalize hd : ((match k.re with | some n => PyData.int n | none => PyData.none) : PyData) = d at n1 n2 n3
    have er : resD (.kind k) = .tuple [.str "kind", .list [.str k.le, .str k.lt, .bool k.tu, d]] := by
      rw [← hd]
      rfl
    rw [er]
    have lb : (PyData.bool k.tu).shown.length ≤ 5 := by cases k.tu <;> decide +kernel
    refine okD_of ?_ ?_ ?_
    · have z := tupleText_len_le (PyData.shownAll [.str "kind", .list [.str k.le, .str k.lt, .bool k.tu, d]])
      have y := listText_len_le (PyData.shownAll [.str k.le, .str k.lt, .bool k.tu, d])
      rw [show (PyData.tuple [.str "kind", .list [.str k.le, .str k.lt, .bool k.tu, d]]).shown = tupleText (PyData.shownAll [.str "kind", .list [.str k.le, .str k.lt, .bool k.tu, d]]) from by simp only [PyData.shown]]
      refine Nat.le_trans z ?_
      simp only [PyData.shownAll, List.map_cons, List.map_nil, List.sum_cons, List.sum_nil, List.length_cons, List.length_nil] at y ⊢
      rw [show (PyData.list [.str k.le, .str k.lt, .bool k.tu, d]).shown = listText (PyData.shownAll [.str k.le, .str k.lt, .bool k.tu, d]) from by simp only [PyData.shown]]
      simp only [PyData.shownAll]
      have s1 : (PyData.str "kind").shown.length ≤ 10 := w4
      have s2 : (PyData.str k.le).shown.length ≤ 10 := l1
      have s3 : (PyData.str k.lt).shown.length ≤ 10 := l2
      omega
    · simp [PyData.showable, PyData.showableAll, n2]
    · simp [PyData.depth, PyData.depthAll, n3]
end L2.M3
set_option maxRecDepth 100000
set_option maxHeartbeats 4000000
namespace L2.M3
open PySem PySem.Spec PyProof.Rows L2 Mx L2.Mb Evl Mv TL
section
variable {P : Program} {w : World} {K : W.Frag} {mg : Str → Option Value} {base : Heap} {f : Addr} {fd : FuncData}
/-- what is drawn from: a new pen over the script -/
def spBegin (K : W.Frag) : Sp := fun vs H Q _ => ∃ (a : Addr) (ns : List Int), vs = [.ref a] ∧ SqL K H a (ns.map V.int) ∧ ns.length ≤ 63 ∧ ∀ p n2 H1, n2.length ≤ 63 → PenAt H1 p n2 0 → Ex H H1 → Q (.ref p) H1
theorem ok_begin (B : Bt mg) (F : FnP K "_law_begin" s_law_begin f fd) : FnOk P w K mg base CX0 1 f fd p_law_begin (spBegin K) := by
  refine F.ok sc_law_begin (fun vs H Q E h => ?_) (fun cdv A outer s H vs Q E hr h => ?_)
  · obtain ⟨a, ns, rfl, _⟩ := h
    rfl
  · obtain ⟨a, ns, rfl, hS, hn, k⟩ := h
    refine ⟨_, PSs.nox (pss_one (ps_ret (pe_lst (pa_cons (pe_callTy call_list_of (by rfl) B.list (by decide +kernel) (pa_cons (pe_slice sl_list (pv 0) po_none (po_some pe_int)) pa_nil)) (pa_cons pe_int (pa_cons pe_int pa_nil)))))), ?_⟩
    obtain ⟨n2, e2⟩ : ∃ n2 : List Int, cutV (ns.map V.int) none (some 63) = n2.map V.int ∧ n2.length ≤ 63 := by
      refine ⟨(ns.drop (HT.sIx (ns.map V.int).length 0 none)).take (HT.sIx (ns.map V.int).length (ns.map V.int).length (some 63) - HT.sIx (ns.map V.int).length 0 none), ?_, ?_⟩
      · unfold cutV
        rw [← List.map_drop, ← List.map_take]
      · rw [List.length_take, List.length_drop]
        omega
    refine ⟨_, rfl, 63, rfl, a, _, rfl, hS, fun p1 h1 => ⟨p1, _, rfl, .inl (SqL.of upd_same), fun p2 h2 => ⟨(by show 3 ≤ sizeLine; decide), fun p3 h3 => ?_⟩⟩⟩
    have n32 : p2 ≠ p3 := fun z => by
      rw [← z, upd_same] at h3
      cases h3
    refine k p3 n2 _ e2.2 ⟨p2, 0, upd_same, ?_⟩ (((Ex.new h1).trans (Ex.new h2)).trans (Ex.new h3))
    rw [upd_ne n32, upd_same, e2.1]
end
end L2.M3
set_option maxRecDepth 100000
set_option maxHeartbeats 4000000
namespace L2.M3
open PySem PySem.Spec PyProof.Rows L2 Mx L2.Mb Evl Mv TL
/-- a kind's words, one by one -/
def wordL (k : Kd) : List Str := [k.le ++ "/" ++ k.lt] ++ (if k.tu = true then (["turns"] : List Str) else []) ++ (match k.re with
  | some n => ["rests", (toString n : Str)]
  | none => [])
theorem pen_mono {H H' : Hp} {p : Addr} {ns : List Int} {t : Int} (e : Ex H H') (h : PenAt H p ns t) : PenAt H' p ns t := by
  obtain ⟨l, g, h1, h2⟩ := h
  exact ⟨l, g, e _ _ h1, e _ _ h2⟩
theorem but_ex {H H' : Hp} {p : Addr} (e : Ex H H') : But p H H' := fun c o _ h => e c o h
theorem But.trans {H H1 H2 : Hp} {p : Addr} (a : But p H H1) (b : But p H1 H2) : But p H H2 := fun c o hc h => b c o hc (a c o hc h)
def spWL : Sp := fun vs H Q _ => ∃ (p : Addr) (ns : List Int) (t : Int), vs = [.ref p] ∧ PenAt H p ns t ∧ ns.length ≤ 63 ∧ 0 ≤ t ∧ t ≤ 900000 ∧
  ∀ (kd : Kd) (l : Addr) (t' : Int) (H' : Hp), kd.ok = true → t ≤ t' → t' ≤ t + 6 → PenAt H' p ns t' → But p H H' → H l = none → H' l = some (.lst ((wordL kd).map V.str)) → Q (.ref l) H'
theorem at3 {a b c : Str} {d : Int} (h0 : 0 ≤ d) (h1 : d < 3) : ∃ x, (x = a ∨ x = b ∨ x = c) ∧ atI [V.str a, V.str b, V.str c] d = some (.str x) := by
  rcases (show d = 0 ∨ d = 1 ∨ d = 2 by omega) with rfl | rfl | rfl
  · exact ⟨a, .inl rfl, atI_nat (j := 0) rfl⟩
  · exact ⟨b, .inr (.inl rfl), atI_nat (j := 1) rfl⟩
  · exact ⟨c, .inr (.inr rfl), atI_nat (j := 2) rfl⟩
section
variable {P : Program} {w : World} {K : W.Frag} {mg : Str → Option Value} {base : Heap} {f fT : Addr} {fd dT : FuncData}
theorem ok_wordL (B : Bt mg) (D : Fn0 P w K mg base "_law_take" 1 fT dT p_law_take spTake) (F : FnP K "_law_words" s_law_words f fd) : FnOk P w K mg base CX0 2 f fd p_law_words spWL := by
  refine F.ok sc_law_words (fun vs H Q E h => ?_) (fun cdv A outer s H vs Q E hr h => ?_)
  · obtain ⟨p, ns, t, rfl, _⟩ := h
    rfl
  · obtain ⟨p, ns, t, rfl, pen, hn, t0, t1, k⟩ := h
    have nd := sc_law_words.nd
    refine ⟨_, PSs.nox (pss_cons (ps_set (i := 1) nd rfl (Or.inl rfl) (pe_lst (pa_cons (pe_op op_add_str (pe_op op_add_str (pe_ix ix_list (pe_lst (pa_cons pe_str (pa_cons pe_str (pa_cons pe_str pa_nil)))) (pe_call D.ok hr (by rfl) D.m D.k D.b .nil pass0 (pa_cons (pv 0) (pa_cons pe_int pa_nil))) (fun _ _ => rfl)) pe_str)
        (pe_ix ix_list (pe_lst (pa_cons pe_str (pa_cons pe_str (pa_cons pe_str pa_nil)))) (pe_call D.ok hr (by rfl) D.m D.k D.b .nil pass0 (pa_cons (pv 0) (pa_cons pe_int pa_nil))) (fun _ _ => rfl))) pa_nil)))
      (Evl.pss_cut (ps_if (pt_cmpR op_eq (pe_call D.ok hr (by rfl) D.m D.k D.b .nil pass0 (pa_cons (pv 0) (pa_cons pe_int pa_nil))) pe_int (nomark _)) (pss_one (ps_expr (pe_bm PySem.F.plainAttrs_list PySem.F.slot_list_append PySem.F.type_list_append mt_append (pv 1) (pa_cons pe_str pa_nil)))) pss_nil)
      (Evl.pss_cut (ps_if (pt_cmpR op_eq (pe_call D.ok hr (by rfl) D.m D.k D.b .nil pass0 (pa_cons (pv 0) (pa_cons pe_int pa_nil))) pe_int (nomark _))
          (pss_cons (ps_set (i := 2) nd rfl (Or.inl rfl) (pe_ix ix_list (pe_lst (pa_cons pe_int (pa_cons pe_int (pa_cons (pe_op op_pow pe_int pe_int) (pa_cons (pe_op op_add pe_int (pe_call D.ok hr (by rfl) D.m D.k D.b .nil pass0 (pa_cons (pv 0) (pa_cons (pe_op op_sub (pe_op op_pow pe_int pe_int) pe_int) pa_nil)))) pa_nil)))))
            (pe_call D.ok hr (by rfl) D.m D.k D.b .nil pass0 (pa_cons (pv 0) (pa_cons pe_int pa_nil))) (fun _ _ => rfl)))
          (pss_one (ps_set (i := 1) nd rfl (Or.inl rfl) (pe_op op_cat (pv 1) (pe_lst (pa_cons pe_str (pa_cons (pe_callTy call_str_int (by rfl) B.str (by decide +kernel) (pa_cons (pv 2) pa_nil)) pa_nil))))))) pss_nil)
      (pss_one (ps_ret (pv 1)))))), ?_⟩
    have sl : ("/" : Str).length = 1 := by decide +kernel
    -- the first word
    refine ⟨(by show 3 ≤ sizeLine; decide), fun q1 n1 => ⟨_, rfl, p, 3, ns, t, rfl, pen_mono (Ex.new n1) pen, hn, t0, by omega, by decide, by decide, fun d u H1 d0 d1 u0 u1 pen1 but1 => ?_⟩⟩
    obtain ⟨x, hx, ax⟩ := at3 (a := "one") (b := "far") (c := "both") d0 d1
    have np1 : q1 ≠ p := fun z => by
      obtain ⟨_, _, hp, _⟩ := pen
      rw [z, hp] at n1
      cases n1
    refine ⟨q1, _, d, .str x, rfl, rfl, SqL.of (but1 q1 _ np1 upd_same), ax, ?_⟩
    have x4 : x.length ≤ 4 := by rcases hx with rfl | rfl | rfl <;> decide +kernel
    have x5 : (x ++ "/").length = x.length + 1 := by rw [len_tl, tl_append, List.length_append, ← len_tl, ← len_tl, sl]
    refine ⟨_, _, rfl, rfl, sz_of (by omega), (by show 3 ≤ sizeLine; decide), fun q2 n2 => ⟨_, rfl, p, 3, ns, u, rfl, pen_mono (Ex.new n2) pen1, hn, by omega, by omega, by decide, by decide, fun d2 u2 H2 e0 e1 v0 v1 pen2 but2 => ?_⟩⟩
    obtain ⟨y, hy, ay⟩ := at3 (a := "any") (b := "far") (c := "both") e0 e1
    have np2 : q2 ≠ p := fun z => by
      obtain ⟨_, _, hp, _⟩ := pen1
      rw [z, hp] at n2
      cases n2
    have y4 : y.length ≤ 4 := by rcases hy with rfl | rfl | rfl <;> decide +kernel
    refine ⟨q2, _, d2, .str y, rfl, rfl, SqL.of (but2 q2 _ np2 upd_same), ay, _, _, rfl, rfl, sz_of (by omega), (by show 1 ≤ sizeLine; decide), fun l nl => ?_⟩
    have b2 : But p H H2 := ((but_ex (Ex.new n1)).trans but1).trans ((but_ex (Ex.new n2)).trans but2)
    have nlp : l ≠ p := fun z => by
      obtain ⟨_, _, hp, _⟩ := pen2
      rw [z, hp] at nl
      cases nl
    have nH : H l = none := by
      cases h : H l with
      | none => rfl
      | some o =>
        have q := b2 l o nlp h
        rw [nl] at q
        cases q
    have butl : ∀ {H9 : Hp} {o : HO}, But p H H9 → But p H (upd H9 l o) := fun {H9 o} h c u hc e => by
      rw [upd_ne (ne_of_none e nH)]
      exact h c u hc e
    have penl : ∀ {H9 : Hp} {o : HO} {v : Int} {s0 : Str} {ss : List Str}, H9 l = some (.lst ((s0 :: ss).map V.str)) → PenAt H9 p ns v → PenAt (upd H9 l o) p ns v := fun {H9 o v s0 ss} hl9 ⟨c, g, h1, h2⟩ => by
      refine ⟨c, g, by rw [upd_ne (Ne.symm nlp)]; exact h1, ?_⟩
      have hc : c ≠ l := fun z => by
        rw [z, hl9] at h2
        have q := HO.lst.inj (Option.some.inj h2)
        cases ns with
        | nil => cases q
        | cons a r =>
          have q2 := List.head_eq_of_cons_eq q
          cases q2
      rw [upd_ne hc]
      exact h2
    refine q_cut (M := fun σ' H' => ∃ (tu : Bool) (t2 : Int), σ' = [some (.ref p), some (.ref l), none] ∧ PenAt H' p ns t2 ∧ t ≤ t2 ∧ t2 ≤ t + 3 ∧ But p H H' ∧ H' l = some (.lst (([x ++ "/" ++ y] ++ (if tu = true then (["turns"] : List Str) else [])).map V.str))) ?_ ?_
    · refine ⟨_, rfl, p, 2, ns, u2, rfl, pen_mono (Ex.new nl) pen2, hn, by omega, by omega, by decide, by decide, fun d3 u3 H4 f0 f1 g0 g1 pen4 but4 => ⟨rfl, _, rfl, ?_⟩⟩
      have hl4 : H4 l = some (.lst (([x ++ "/" ++ y] : List Str).map V.str)) := but4 l _ nlp upd_same
      have b4 : But p H H4 := (butl (o := .lst (([x ++ "/" ++ y] : List Str).map V.str)) b2).trans but4
      refine ifB (fun _ => ?_) (fun _ => ?_)
      · refine s_app hl4 (ev_var rfl) ev_c (by show 1 < 100000; decide) fun H5 e5 => ⟨true, u3, rfl, penl (e5 _ _ hl4) (pen_mono e5 pen4), by omega, by omega, butl (b4.trans (but_ex e5)), upd_same⟩
      · exact ⟨false, u3, rfl, pen4, by omega, by omega, b4, hl4⟩
    rintro σ' H4 ⟨tu, t2, rfl, pen4, ta, tb, b4, hl4⟩
    have okl : lendL.contains x = true := by rcases hx with rfl | rfl | rfl <;> decide +kernel
    have okt : letL.contains y = true := by rcases hy with rfl | rfl | rfl <;> decide +kernel
    refine q_cut (M := fun σ' H' => ∃ (kd : Kd) (l2 : Addr) (t2 : Int) (z : Option V), σ' = [some (.ref p), some (.ref l2), z] ∧ PenAt H' p ns t2 ∧ t ≤ t2 ∧ t2 ≤ t + 6 ∧ But p H H' ∧ kd.ok = true ∧ H l2 = none ∧ H' l2 = some (.lst ((wordL kd).map V.str))) ?_ ?_
    · refine ⟨_, rfl, p, 2, ns, t2, rfl, pen4, hn, by omega, by omega, by decide, by decide, fun d5 u5 H5 f0 f1 g0 g1 pen5 but5 => ⟨rfl, _, rfl, ?_⟩⟩
      have hl5 := but5 l _ nlp hl4
      have b5 := b4.trans but5
      refine ifB (fun _ => ?_) (fun _ => ?_)
      · refine ⟨_, _, rfl, rfl, ⟨by decide, by decide, by decide⟩, _, rfl, _, _, rfl, rfl, ⟨by decide, by decide, by decide⟩, _, _, rfl, rfl, p, 999999, ns, u5, rfl, pen5, hn, by omega, by omega, by decide, by decide, fun d6 u6 H6 p0 p1 r0 r1 pen6 but6 => ?_⟩
        refine ⟨_, _, rfl, rfl, (by show 4 ≤ sizeLine; decide), fun q4 n4 => ?_⟩
        refine ⟨_, rfl, p, 4, ns, u6, rfl, pen_mono (Ex.new n4) pen6, hn, by omega, by omega, by decide, by decide, fun d7 u7 H7 z0 z1 v2 v3 pen7 but7 => ?_⟩
        have np4 : q4 ≠ p := fun z => by
          obtain ⟨_, _, hp, _⟩ := pen6
          rw [z, hp] at n4
          cases n4
        obtain ⟨r, hr7, ar⟩ : ∃ r, inRest r = true ∧ atI [V.int 2, V.int 10, V.int (10 ^ Int.toNat 6), V.int (2 + d6)] d7 = some (.int r) := by
          rcases (show d7 = 0 ∨ d7 = 1 ∨ d7 = 2 ∨ d7 = 3 by omega) with rfl | rfl | rfl | rfl
          · exact ⟨2, by decide, atI_nat (j := 0) rfl⟩
          · exact ⟨10, by decide, atI_nat (j := 1) rfl⟩
          · exact ⟨10 ^ Int.toNat 6, by decide +kernel, atI_nat (j := 2) rfl⟩
          · refine ⟨2 + d6, ?_, atI_nat (j := 3) rfl⟩
            unfold inRest
            rw [decide_eq_true (show 2 ≤ 2 + d6 by omega), decide_eq_true (show 2 + d6 ≤ 1000000 by omega)]
            rfl
        have hl6 := but6 l _ nlp hl5
        have b7 : But p H H7 := ((b5.trans but6).trans (but_ex (Ex.new n4))).trans but7
        have hl7 : H7 l = some (.lst (([x ++ "/" ++ y] ++ (if tu = true then (["turns"] : List Str) else [])).map V.str)) := but7 l _ nlp (by
          rw [upd_ne (ne_of_none hl6 n4)]
          exact hl6)
        refine ⟨q4, _, d7, .int r, rfl, rfl, SqL.of (but7 q4 _ np4 upd_same), ar, ?_⟩
        refine ⟨_, rfl, _, rfl, r, rfl, num_log hr7, (by show 2 ≤ sizeLine; decide), fun q6 n6 => ⟨l, q6, ([x ++ "/" ++ y] ++ (if tu = true then (["turns"] : List Str) else [])).map V.str, _, rfl, rfl, ?_, upd_same, ?_, fun q7 n7 => ⟨⟨x, y, tu, some r⟩, q7, u7, some (.int r), rfl, pen_mono (Ex.new n7) (pen_mono (Ex.new n6) pen7), by omega, by omega, (b7.trans (but_ex (Ex.new n6))).trans (but_ex (Ex.new n7)), ?_, ?_, ?_⟩⟩⟩
        · rw [upd_ne (ne_of_none hl7 n6)]
          exact hl7
        · refine sz_of ?_
          cases tu <;> simp
        · unfold Kd.ok
          rw [okl, okt]
          exact hr7
        · cases h : H q7 with
          | none => rfl
          | some o =>
            obtain ⟨cc, gg, hp, _⟩ := pen7
            have hq : q7 ≠ p := (ne_of_none ((Ex.new n6) _ _ hp) n7).symm
            exact absurd rfl (ne_of_none ((Ex.new n6) _ _ (b7 q7 o hq h)) n7)
        · exact upd_same.trans (congrArg (fun z => some (HO.lst z)) (by unfold wordL; simp))
      · refine ⟨⟨x, y, tu, none⟩, l, u5, none, rfl, pen5, by omega, by omega, b5, ?_, nH, ?_⟩
        · unfold Kd.ok
          rw [okl, okt]
          rfl
        · unfold wordL
          rw [List.append_nil]
          exact hl5
    rintro σ' H6 ⟨kd, l2, t3, z, rfl, pen6, tc, td, b6, hk, nH2, hl6⟩
    exact ⟨_, rfl, k kd l2 t3 H6 hk tc td pen6 b6 nH2 hl6⟩
end
end L2.M3
set_option maxRecDepth 100000
set_option maxHeartbeats 4000000
namespace L2.M3
open PySem PySem.Spec PyProof.Rows L2 Mx L2.Mb Evl Mv TL
/-! ### a kind's words, joined, are read as the kind -/
theorem app_assoc3 (a b c : Str) : a ++ b ++ c = a ++ (b ++ c) := ext_tl (by rw [tl_append, tl_append, tl_append, tl_append, List.append_assoc])
theorem wordL_join (kd : Kd) : Txt.join " " (wordL kd) = kd.text := by
  have hr : ("rests " : Str) = "rests" ++ " " := by decide +kernel
  unfold Kd.text Kd.words wordL
  rw [join_eq, join_eq]
  cases kd.tu <;> cases kd.re with
  | none => rfl
  | some n =>
    rw [hr]
    generalize kd.le ++ "/" ++ kd.lt = a
    generalize (toString n : Str) = b
    refine ext_tl ?_
    simp only [List.append_nil, List.nil_append, List.cons_append, if_true, if_false, Bool.false_eq_true, reduceIte, tl_join, List.map_cons, List.map_nil, joinL, tl_append, List.append_assoc]
theorem wordL_ne (kd : Kd) : wordL kd ≠ [] := by
  unfold wordL
  simp
theorem numL_head : ∀ n : Nat, 1 ≤ n → (numL n).headD 0 ≠ 48 := fun n => by
  induction n using Nat.strongRecOn with
  | _ n ih =>
    intro h1
    by_cases h : n < 10
    · rw [numL_lt h]
      show 48 + n ≠ 48
      omega
    · have h2 := ih (n / 10) (by omega) (by omega)
      rw [numL_step (by omega)]
      cases hx : numL (n / 10) with
      | nil => exact absurd hx (numL_ne _)
      | cons c r =>
        rw [hx] at h2
        exact h2
theorem numS_num {n : Int} (h : inRest n = true) : numS (toString n : Str) = some n := by
  have h0 := h
  unfold inRest at h
  simp only [Bool.and_eq_true, decide_eq_true_eq] at h
  have l7 := num_len h0
  obtain ⟨m, rfl⟩ := Int.eq_ofNat_of_zero_le (show 0 ≤ n by omega)
  have ht : tl ((toString (m : Int) : String) : Str) = numL m := tl_num m
  have hv : numOf ((toString (m : Int) : String) : Str) = (m : Int) := by
    unfold numOf
    rw [ht, numL_val]
  have hd : digs ((toString (m : Int) : String) : Str) = true := by
    unfold digs
    rw [ht]
    refine List.all_eq_true.mpr fun c hc => ?_
    have z := numL_digits m c hc
    unfold digC
    simp only [Bool.and_eq_true, decide_eq_true_eq]
    exact z
  have l1 : 1 ≤ ((toString (m : Int) : String) : Str).length := by
    rw [len_tl, ht]
    exact List.length_pos_iff.mpr (numL_ne m)
  have hh : decide ((tl ((toString (m : Int) : String) : Str)).headD 0 = 48) = false := by
    rw [ht]
    exact decide_eq_false (numL_head m (by omega))
  unfold numS
  rw [hd, hv, hh, h0, decide_eq_true l1, decide_eq_true l7, Bool.and_false]
  rfl
theorem wordL_free {kd : Kd} (hk : kd.ok = true) : ∀ p ∈ wordL kd, 32 ∉ tl p := by
  unfold Kd.ok at hk
  simp only [Bool.and_eq_true] at hk
  obtain ⟨k1, k2, k3⟩ := hk
  intro p hp
  unfold wordL at hp
  rcases List.mem_append.mp hp with hp | hp
  · rcases List.mem_append.mp hp with hp | hp
    · rw [List.mem_singleton.mp hp]
      rcases mem_lend k1 with e | e | e <;> rcases mem_let k2 with e2 | e2 | e2 <;> rw [e, e2] <;> decide +kernel
    · revert hp
      cases kd.tu with
      | true =>
        intro hp
        rw [List.mem_singleton.mp hp]
        decide +kernel
      | false =>
        intro hp
        cases hp
  · revert hp
    cases hre : kd.re with
    | none =>
      intro hp
      cases hp
    | some n =>
      intro hp
      rw [hre] at k3
      have k4 : inRest n = true := k3
      unfold inRest at k4
      simp only [Bool.and_eq_true, decide_eq_true_eq] at k4
      rcases List.mem_cons.mp hp with e | hp
      · rw [e]
        decide +kernel
      · rw [List.mem_singleton.mp hp]
        obtain ⟨m, rfl⟩ := Int.eq_ofNat_of_zero_le (show 0 ≤ n by omega)
        rw [tl_num]
        exact numL_free (by omega)
theorem ws_text {kd : Kd} (hk : kd.ok = true) : wsOf kd.text = wordL kd := by
  rw [← wordL_join]
  exact split_join (y := " ") (s := 32) (S := []) (by decide +kernel) (by decide +kernel) (wordL_ne kd) (wordL_free hk)
theorem readW_text {kd : Kd} (hk : kd.ok = true) : readW (wsOf kd.text) = .kind kd := by
  rw [ws_text hk, readW_eq]
  have hk0 := hk
  unfold Kd.ok at hk
  simp only [Bool.and_eq_true] at hk
  obtain ⟨k1, k2, k3⟩ := hk
  have hh : (wordL kd).headD "" = kd.le ++ "/" ++ kd.lt := by
    unfold wordL
    rfl
  have hs : 47 ∉ tl kd.le := by
    rcases mem_lend k1 with e | e | e <;> rw [e] <;> decide +kernel
  have hp : Txt.partition (kd.le ++ "/" ++ kd.lt) "/" = (kd.le, ("/" : Str), kd.lt) := partition_app (y := "/") (s := 47) (S := []) (by decide +kernel) hs
  rw [hh, hp]
  have tr : ¬ (some ("rests" : Str) = some ("turns" : Str)) := by decide +kernel
  obtain ⟨le, lt, tu, re⟩ := kd
  show (if lendL.contains le && letL.contains lt then _ else _) = _
  rw [if_pos (by rw [show lendL.contains le = true from k1, show letL.contains lt = true from k2]; rfl)]
  cases tu <;> cases re with
  | none => simp [wordL]
  | some n =>
    have hn := numS_num (show inRest n = true from k3)
    have hn2 : numS (Str.ofString n.repr) = some n := hn
    simp [wordL, tr, hn, hn2]
theorem text_ok {kd : Kd} (hk : kd.ok = true) : PyData.strOk kd.text = true := by
  rw [strOk_tl, ← wordL_join, join_eq, tl_join]
  have h : ∀ (parts : List (List Nat)), (∀ p ∈ parts, ∀ c ∈ p, c < 0x110000) → ∀ c ∈ joinL (tl " ") parts, c < 0x110000 := fun parts => by
    induction parts with
    | nil =>
      intro _ c hc
      cases hc
    | cons p r ih =>
      intro hp c hc
      cases r with
      | nil => exact hp p List.mem_cons_self c hc
      | cons q r =>
        rcases List.mem_append.mp hc with hc | hc
        · exact hp p List.mem_cons_self c hc
        · rcases List.mem_append.mp hc with hc | hc
          · have e : tl (" " : Str) = [32] := by decide +kernel
            rw [e] at hc
            rw [List.mem_singleton.mp hc]
            decide
          · exact ih (fun x hx => hp x (List.mem_cons_of_mem _ hx)) c hc
  refine h _ fun p hp c hc => ?_
  obtain ⟨x, hx, rfl⟩ := List.mem_map.mp hp
  unfold Kd.ok at hk
  simp only [Bool.and_eq_true] at hk
  obtain ⟨k1, k2, k3⟩ := hk
  have hb : ∀ {z : Str}, (tl z).all (fun c => decide (c < 0x110000)) = true → ∀ c ∈ tl z, c < 0x110000 := fun {z} h c hc => of_decide_eq_true (List.all_eq_true.mp h c hc)
  unfold wordL at hx
  rcases List.mem_append.mp hx with hx | hx
  · rcases List.mem_append.mp hx with hx | hx
    · rw [List.mem_singleton.mp hx] at hc
      revert c
      refine hb ?_
      rcases mem_lend k1 with e | e | e <;> rcases mem_let k2 with e2 | e2 | e2 <;> rw [e, e2] <;> decide +kernel
    · revert hx
      cases kd.tu with
      | true =>
        intro hx
        rw [List.mem_singleton.mp hx] at hc
        revert c
        refine hb ?_
        decide +kernel
      | false =>
        intro hx
        cases hx
  · revert hx
    cases hre : kd.re with
    | none =>
      intro hx
      cases hx
    | some n =>
      intro hx
      rw [hre] at k3
      have k4 : inRest n = true := k3
      unfold inRest at k4
      simp only [Bool.and_eq_true, decide_eq_true_eq] at k4
      rcases List.mem_cons.mp hx with e | hx
      · rw [e] at hc
        revert c
        refine hb ?_
        decide +kernel
      · rw [List.mem_singleton.mp hx] at hc
        obtain ⟨m, rfl⟩ := Int.eq_ofNat_of_zero_le (show 0 ≤ n by omega)
        rw [tl_num] at hc
        have z := numL_digits m c hc
        omega
/-! ### texts of some words, joined -/
def okW (n : Nat) (ws : List Str) : Prop := ws.length ≤ n ∧ ∀ x ∈ ws, x.length ≤ 5000 ∧ PyData.strOk x = true
theorem sum_le {m : Nat} : ∀ ws : List Str, (∀ x ∈ ws, x.length ≤ m) → (ws.map (·.length)).sum ≤ ws.length * m
  | [], _ => by simp
  | x :: r, h => by
    have ih := sum_le r fun y hy => h y (List.mem_cons_of_mem _ hy)
    have h1 := h x List.mem_cons_self
    simp only [List.map_cons, List.sum_cons, List.length_cons, Nat.succ_mul]
    omega
theorem okW_sum {n : Nat} {ws : List Str} (h : okW n ws) (hn : n ≤ 7) : (ws.map (·.length)).sum + ws.length * (" " : Str).length ≤ 40000 := by
  have s1 : (" " : Str).length = 1 := by decide +kernel
  have h1 := sum_le ws fun x hx => (h.2 x hx).1
  have h2 := h.1
  have h3 : ws.length * 5000 ≤ 7 * 5000 := Nat.mul_le_mul_right _ (by omega)
  rw [s1]
  omega
theorem okW_len {n : Nat} {ws : List Str} (h : okW n ws) (hn : n ≤ 7) : (Txt.join " " ws).length ≤ 40000 := by
  rw [join_eq]
  exact Nat.le_trans (join_len _ _) (okW_sum h hn)
theorem okW_str {n : Nat} {ws : List Str} (h : okW n ws) : PyData.strOk (Txt.join " " ws) = true := by
  rw [strOk_tl, join_eq, tl_join]
  have hj : ∀ (parts : List (List Nat)), (∀ p ∈ parts, ∀ c ∈ p, c < 0x110000) → ∀ c ∈ joinL (tl " ") parts, c < 0x110000 := fun parts => by
    induction parts with
    | nil =>
      intro _ c hc
      cases hc
    | cons p r ih =>
      intro hp c hc
      cases r with
      | nil => exact hp p List.mem_cons_self c hc
      | cons q r =>
        rcases List.mem_append.mp hc with hc | hc
        · exact hp p List.mem_cons_self c hc
        · rcases List.mem_append.mp hc with hc | hc
          · have e : tl (" " : Str) = [32] := by decide +kernel
            rw [e] at hc
            rw [List.mem_singleton.mp hc]
            decide
          · exact ih (fun x hx => hp x (List.mem_cons_of_mem _ hx)) c hc
  refine hj _ fun p hp c hc => ?_
  obtain ⟨x, hx, rfl⟩ := List.mem_map.mp hp
  exact (strOk_tl x).mp (h.2 x hx).2 c hc
theorem wordL_ok {kd : Kd} (hk : kd.ok = true) : okW 4 (wordL kd) := by
  have t1 := text_ok hk
  have t2 := text_len hk
  rw [← wordL_join] at t1 t2
  obtain ⟨le, lt, tu, re⟩ := kd
  refine ⟨by unfold wordL; cases tu <;> cases re <;> simp, fun x hx => ⟨?_, ?_⟩⟩
  · have hm : ∀ (ws : List Str), ∀ x ∈ ws, x.length ≤ (Txt.join " " ws).length := fun ws => by
      rw [join_eq]
      induction ws with
      | nil =>
        intro x hx
        cases hx
      | cons y r ih =>
        intro x hx
        cases r with
        | nil =>
          rw [List.mem_singleton.mp hx]
          exact Nat.le_refl _
        | cons z r =>
          show x.length ≤ (y ++ " " ++ Str.join " " (z :: r)).length
          rw [len_tl (y ++ " " ++ Str.join " " (z :: r)), tl_append, tl_append, List.length_append, List.length_append, ← len_tl, ← len_tl, ← len_tl]
          rcases List.mem_cons.mp hx with e | hx
          · rw [e]
            omega
          · have q := ih x hx
            omega
    have q := hm _ x hx
    omega
  · rw [strOk_tl]
    intro c hc
    rw [strOk_tl, join_eq, tl_join] at t1
    refine t1 c ?_
    have hm : ∀ (ps : List (List Nat)), ∀ p ∈ ps, c ∈ p → c ∈ joinL (tl (" " : Str)) ps := fun ps => by
      induction ps with
      | nil =>
        intro x hx
        cases hx
      | cons y r ih =>
        intro x hx hcx
        cases r with
        | nil =>
          rw [List.mem_singleton.mp hx] at hcx
          exact hcx
        | cons z r =>
          rcases List.mem_cons.mp hx with e | hx
          · rw [e] at hcx
            exact List.mem_append_left _ hcx
          · exact List.mem_append_right _ (List.mem_append_right _ (ih x hx hcx))
    exact hm _ (tl x) (List.mem_map.mpr ⟨x, hx, rfl⟩) hc
end L2.M3
set_option maxRecDepth 100000
set_option maxHeartbeats 4000000
namespace L2.M3
open PySem PySem.Spec PyProof.Rows L2 Mx L2.Mb Evl Mv TL
/-! ### a text times a number -/
@[irreducible] def repS (n : Nat) (z : Str) : Str := ⟨(List.replicate n z.cps).foldl (· ++ ·) #[]⟩
theorem foldl_app (a : Array Nat) : ∀ (n : Nat) (acc : Array Nat), ((List.replicate n a).foldl (· ++ ·) acc).toList = acc.toList ++ (List.replicate n a.toList).flatten
  | 0, acc => by simp
  | n + 1, acc => by
    rw [List.replicate_succ, List.foldl_cons, foldl_app a n, List.replicate_succ, List.flatten_cons, Array.toList_append, List.append_assoc]
theorem tl_rep (n : Nat) (z : Str) : tl (repS n z) = (List.replicate n (tl z)).flatten := by
  unfold repS
  exact (foldl_app z.cps n #[]).trans (List.nil_append _)
theorem rep_len {n : Nat} {z : Str} (h : z.length = 1) : (repS n z).length = n := by
  rw [len_tl, tl_rep, List.length_flatten, List.map_replicate, List.sum_replicate_nat, ← len_tl, h, Nat.mul_one]
theorem rep_ok {n : Nat} {z : Str} (h : PyData.strOk z = true) : PyData.strOk (repS n z) = true := by
  rw [strOk_tl] at h ⊢
  intro c hc
  rw [tl_rep] at hc
  obtain ⟨l, hl, hc⟩ := List.mem_flatten.mp hc
  rw [List.eq_of_mem_replicate hl] at hc
  exact h c hc
def rMulS : R2 := fun x y H Q => ∃ (z : Str) (n : Nat), x = .str z ∧ y = .int (n : Int) ∧ z.length = 1 ∧ 2 ≤ n ∧ n ≤ 10000 ∧ Q (.str (repS n z)) H
theorem op_mulS {X : Cx} : OpR X (binaryOp .Mult) rMulS := by
  intro pins s σ H x y v u Q I rx ry h
  obtain ⟨z, n, rfl, rfl, hz, h2, h3, q⟩ := h
  obtain ⟨t, rfl⟩ := rx
  obtain ⟨t', rfl⟩ := ry
  have s5 : (100000 : Nat) ≤ sizeLine := by decide
  refine PySem.P.mul_str ?_ (fun _ _ => ?_) (fun _ _ => ?_) ?_
  · rw [decide_eq_false (by omega), decide_eq_false (by omega)]
    rfl
  · rw [hz]
    have q1 : (1 : Int) ≤ (2 ^ 63 - 1) / (n : Int) := (Int.le_ediv_iff_mul_le (by omega)).mpr (by omega)
    omega
  · rw [hz]
    unfold Builtin.Str.tooLong
    rw [decide_eq_false_iff_not]
    simp only [Int.toNat_natCast]
    omega
  · rw [if_neg (by omega), if_neg (by
      rw [hz]
      simp
      omega)]
    have e : (⟨(List.replicate ((n : Int)).toNat z.cps).foldl (· ++ ·) #[]⟩ : Str) = repS n z := by
      unfold repS
      rw [Int.toNat_natCast]
    rw [e]
    exact ⟨by rw [rep_len hz]; omega, .str (repS n z), H, I.tok _, ⟨_, rfl⟩, q⟩
theorem rv_mulS {H : Hp} {z : Str} {n : Nat} {i : Int} (hi : (n : Int) = i) (hz : z.length = 1) (h2 : 2 ≤ n) (h3 : n ≤ 10000) : RV rMulS (.str z) (.int i) H (.str (repS n z)) := fun H1 _ _ q => ⟨z, n, rfl, by rw [hi], hz, h2, h3, q H1 (Ex.refl H1)⟩
/-! ### lists put together -/
section
variable {K : W.Frag} {σ : L2.St} {H : Hp} {ta tb : TE}
theorem el_cat {p : Addr} {xs ys : List V} (h1 : Ev ta σ H (.ref p)) (hp : H p = some (.lst xs)) (h2 : EvL tb σ H ys) (hz : xs.length + ys.length ≤ 100000) : EvL (tOp rCat ta tb) σ H (xs ++ ys) := fun H1 e Q q => h1 H1 e _ fun H2 e2 => h2 H2 (e.trans e2) _ fun r H3 nr e3 hr =>
  ⟨p, r, xs, ys, rfl, rfl, e3 _ _ (e2 _ _ (e _ _ hp)), hr, sz_of hz, fun s hs => q s _ (fresh_back (e2.trans e3) hs) ((e2.trans e3).trans (Ex.new hs)) upd_same⟩
theorem el_catLL {xs ys : List V} (h1 : EvL ta σ H xs) (h2 : EvL tb σ H ys) (hz : xs.length + ys.length ≤ 100000) : EvL (tOp rCat ta tb) σ H (xs ++ ys) := fun H1 e Q q => h1 H1 e _ fun p H2 np e2 hp => h2 H2 (e.trans e2) _ fun r H3 nr e3 hr =>
  ⟨p, r, xs, ys, rfl, rfl, e3 _ _ hp, hr, sz_of hz, fun s hs => q s _ (fresh_back (e2.trans e3) hs) ((e2.trans e3).trans (Ex.new hs)) upd_same⟩
end
/-! ### some other word -/
def oth1 : List Str := ["one/any", "both/far", "far/one", "any/one", "one", "one/", "/any", "one/any/any", "One/any", "one/any\n"]
def oth2 : List Str := ["turns", "rests", "turn", "Rests", "rests30", "", "\n", "-", "2", "1", "0", "02", "1000000", "+3"]
def oth3 : List Str := ["1000001", "-2", "2.0", "1_0", "10 000", repS 5000 "9", "2" ++ repS 4400 "0", "999999", "rests\n", "any"]
abbrev okX (x : Str) : Prop := x.length ≤ 5000 ∧ PyData.strOk x = true
theorem oth_ok : ∀ x ∈ oth1 ++ oth2 ++ oth3, okX x := by
  have h1 : ∀ x ∈ oth1, okX x := by decide +kernel
  have h2 : ∀ x ∈ oth2, okX x := by decide +kernel
  intro x hx
  rcases List.mem_append.mp hx with hx | hx
  · rcases List.mem_append.mp hx with hx | hx
    · exact h1 x hx
    · exact h2 x hx
  · unfold oth3 at hx
    simp only [List.mem_cons, List.not_mem_nil, or_false] at hx
    rcases hx with rfl | rfl | rfl | rfl | rfl | rfl | rfl | rfl | rfl | rfl
    · decide +kernel
    · decide +kernel
    · decide +kernel
    · decide +kernel
    · decide +kernel
    · exact ⟨Nat.le_of_eq (rep_len (by decide +kernel)), rep_ok (by decide +kernel)⟩
    · refine ⟨?_, (strOk_tl _).mpr fun c hc => ?_⟩
      · have e := rep_len (n := 4400) (z := "0") (by decide +kernel)
        have s1 : ("2" : Str).length = 1 := by decide +kernel
        rw [len_tl, tl_append, List.length_append, ← len_tl, ← len_tl, e, s1]
        decide
      · rw [tl_append] at hc
        rcases List.mem_append.mp hc with hc | hc
        · have e : tl ("2" : Str) = [50] := by decide +kernel
          rw [e] at hc
          rw [List.mem_singleton.mp hc]
          decide
        · exact (strOk_tl _).mp (rep_ok (z := "0") (by decide +kernel)) c hc
    · decide +kernel
    · decide +kernel
    · decide +kernel
theorem atI_mem {ws : List Str} {d : Int} (h0 : 0 ≤ d) (h1 : d < (ws.length : Int)) : ∃ x ∈ ws, atI (ws.map V.str) d = some (.str x) := by
  obtain ⟨j, rfl⟩ := Int.eq_ofNat_of_zero_le h0
  have hj : j < ws.length := by omega
  exact ⟨ws[j], List.getElem_mem hj, atI_nat (j := j) (by rw [List.getElem?_map, List.getElem?_eq_getElem hj]; rfl)⟩
def spOther : Sp := fun vs H Q _ => ∃ (p : Addr) (ns : List Int) (t : Int), vs = [.ref p] ∧ PenAt H p ns t ∧ ns.length ≤ 63 ∧ 0 ≤ t ∧ t ≤ 900000 ∧
  ∀ (x : Str) (t' : Int) (H' : Hp), okX x → t ≤ t' → t' ≤ t + 1 → PenAt H' p ns t' → But p H H' → Q (.str x) H'
section
variable {P : Program} {w : World} {K : W.Frag} {mg : Str → Option Value} {base : Heap} {f fT : Addr} {fd dT : FuncData}
theorem ok_other (B : Bt mg) (D : Fn0 P w K mg base "_law_take" 1 fT dT p_law_take spTake) (F : FnP K "_law_other" s_law_other f fd) : FnOk P w K mg base CX0 2 f fd p_law_other spOther := by
  refine F.ok sc_law_other (fun vs H Q E h => ?_) (fun cdv A outer s H vs Q E hr h => ?_)
  · obtain ⟨p, ns, t, rfl, _⟩ := h
    rfl
  · obtain ⟨p, ns, t, rfl, pen, hn, t0, t1, k⟩ := h
    have nd := sc_law_other.nd
    refine ⟨_, PSs.nox (pss_cons (ps_set (i := 1) nd rfl (Or.inl rfl) (pe_lst (pa_cons pe_str (pa_cons pe_str (pa_cons pe_str (pa_cons pe_str (pa_cons pe_str (pa_cons pe_str (pa_cons pe_str (pa_cons pe_str (pa_cons pe_str (pa_cons pe_str pa_nil))))))))))))
      (pss_cons (ps_set (i := 1) nd rfl (Or.inl rfl) (pe_op op_cat (pv 1) (pe_lst (pa_cons pe_str (pa_cons pe_str (pa_cons pe_str (pa_cons pe_str (pa_cons pe_str (pa_cons pe_str (pa_cons pe_str (pa_cons pe_str (pa_cons pe_str (pa_cons pe_str (pa_cons pe_str (pa_cons pe_str (pa_cons pe_str (pa_cons pe_str pa_nil)))))))))))))))))
      (pss_cons (ps_set (i := 1) nd rfl (Or.inl rfl) (pe_op op_cat (pv 1) (pe_lst (pa_cons pe_str (pa_cons pe_str (pa_cons pe_str (pa_cons pe_str (pa_cons pe_str (pa_cons (pe_op op_mulS pe_str pe_int) (pa_cons (pe_op op_add_str pe_str (pe_op op_mulS pe_str pe_int)) (pa_cons pe_str (pa_cons pe_str (pa_cons pe_str pa_nil)))))))))))))
      (pss_one (ps_ret (pe_ix ix_list (pv 1) (pe_call D.ok hr (by rfl) D.m D.k D.b .nil pass0 (pa_cons (pv 0) (pa_cons (pe_callB call_len_seq (by rfl) B.len (by decide +kernel) (pa_cons (pv 1) pa_nil)) pa_nil))) (fun _ _ => rfl))))))), ?_⟩
    refine q_asgL (xs := oth1.map V.str) (el_lst (ea_cons ev_c (ea_cons ev_c (ea_cons ev_c (ea_cons ev_c (ea_cons ev_c (ea_cons ev_c (ea_cons ev_c (ea_cons ev_c (ea_cons ev_c (ea_cons ev_c ea_nil)))))))))) (by show 10 ≤ 100000; decide)) fun l1 H1 _ e1 h1 => ?_
    refine q_asgL (xs := oth1.map V.str ++ oth2.map V.str) (el_cat (ev_var rfl) h1 (el_lst (ea_cons ev_c (ea_cons ev_c (ea_cons ev_c (ea_cons ev_c (ea_cons ev_c (ea_cons ev_c (ea_cons ev_c (ea_cons ev_c (ea_cons ev_c (ea_cons ev_c (ea_cons ev_c (ea_cons ev_c (ea_cons ev_c (ea_cons ev_c ea_nil)))))))))))))) (by show 14 ≤ 100000; decide)) (by show 24 ≤ 100000; decide)) fun l2 H2 _ e2 h2 => ?_
    refine q_asgL (xs := (oth1.map V.str ++ oth2.map V.str) ++ oth3.map V.str) (el_cat (ev_var rfl) h2 (el_lst (ea_cons ev_c (ea_cons ev_c (ea_cons ev_c (ea_cons ev_c (ea_cons ev_c (ea_cons (ev_op ev_c ev_c (rv_mulS (n := 5000) rfl (by decide +kernel) (by decide) (by decide))) (ea_cons (ev_op ev_c (ev_op ev_c ev_c (rv_mulS (n := 4400) rfl (by decide +kernel) (by decide) (by decide))) (rv_catS (by rw [rep_len (by decide +kernel)]; decide +kernel))) (ea_cons ev_c (ea_cons ev_c (ea_cons ev_c ea_nil)))))))))) (by show 10 ≤ 100000; decide)) (by show 34 ≤ 100000; decide)) fun l3 H3 nl3 e3 h3 => ?_
    rw [← List.map_append, ← List.map_append] at h3
    have hlen : (oth1 ++ oth2 ++ oth3).length = 34 := rfl
    have hok := oth_ok
    generalize hL : oth1 ++ oth2 ++ oth3 = L at h3 hlen hok
    have e03 := (e1.trans e2).trans e3
    have pen3 := pen_mono e03 pen
    have nlp : l3 ≠ p := fun z => by
      obtain ⟨_, _, hp, _⟩ := pen_mono (e1.trans e2) pen
      rw [z, hp] at nl3
      cases nl3
    refine ⟨_, rfl, _, rfl, _, rfl, l3, _, rfl, .inl (sq_of h3), ?_⟩
    refine ⟨p, ((L.map V.str).length : Int), ns, t, rfl, pen3, hn, t0, by omega, by rw [List.length_map, hlen]; decide, by rw [List.length_map, hlen]; decide, fun d u H4 d0 d1 u0 u1 pen4 but4 => ?_⟩
    rw [List.length_map] at d1
    obtain ⟨x, hx, ax⟩ := atI_mem d0 d1
    exact ⟨l3, _, d, .str x, rfl, rfl, sq_of (but4 l3 _ nlp h3), ax, k x u H4 (hok x hx) u0 u1 pen4 ((but_ex e03).trans but4)⟩
end
end L2.M3
set_option maxRecDepth 100000
set_option maxHeartbeats 4000000
namespace L2.M3
open PySem PySem.Spec PyProof.Rows L2 Mx L2.Mb Evl Mv TL
/-! ### words cut, doubled, turned about -/
theorem take_min {α : Type} (l : List α) (k : Nat) : l.take (min k l.length) = l.take k := by
  rw [List.take_eq_take_iff]
  omega
theorem cut_hd {ws : List Str} {i : Int} {k : Nat} (h : i = (k : Int)) : cutV (ws.map V.str) none (some i) = (ws.take k).map V.str := by
  subst h
  unfold cutV
  rw [HT.sIx_none, HT.sIx_nat, List.drop_zero, Nat.sub_zero, take_min, List.map_take]
theorem cut_tl {ws : List Str} {i : Int} {k : Nat} (h : i = (k : Int)) : cutV (ws.map V.str) (some i) none = (ws.drop k).map V.str := by
  subst h
  unfold cutV
  rw [HT.sIx_none, HT.sIx_nat, List.map_drop]
  by_cases hk : k ≤ (ws.map V.str).length
  · rw [Nat.min_eq_left hk, List.take_of_length_le (by rw [List.length_drop]; omega)]
  · rw [Nat.min_eq_right (by omega), List.drop_eq_nil_of_le (Nat.le_refl _), List.drop_eq_nil_of_le (by omega), List.take_nil]
theorem cut_mid {ws : List Str} {i j : Int} {a k : Nat} (h1 : i = (a : Int)) (h2 : j = ((a + k : Nat) : Int)) (ha : a ≤ ws.length) : cutV (ws.map V.str) (some i) (some j) = ((ws.drop a).take k).map V.str := by
  subst h1 h2
  unfold cutV
  have hm : min a (ws.map V.str).length = a := Nat.min_eq_left (by rw [List.length_map]; exact ha)
  rw [HT.sIx_nat, HT.sIx_nat, List.map_take, List.map_drop, hm, List.take_eq_take_iff, List.length_drop, List.length_map]
  omega
theorem okW_of {n m : Nat} {ws us : List Str} (h : okW n ws) (hm : ∀ x ∈ us, x ∈ ws ∨ okX x) (hl : us.length ≤ m) : okW m us := ⟨hl, fun x hx => (hm x hx).elim (h.2 x) id⟩
section
variable {K : W.Frag} {σ : L2.St} {H : Hp} {te ta tb : TE} {tl th : TO}
theorem el_cutS {l : Addr} {ws us : List Str} {lo hi : Option Int} (h : Ev te σ H (.ref l)) (hl : H l = some (.lst (ws.map V.str))) (h1 : EvO tl σ H lo) (h2 : EvO th σ H hi) (e : cutV (ws.map V.str) lo hi = us.map V.str) : EvL (tSl (rSlL K) te tl th) σ H (us.map V.str) := by
  rw [← e]
  exact el_sl h h1 h2 (sq_of hl)
theorem el_twice {us : List Str} (h : EvL ta σ H (us.map V.str)) (hz : us.length ≤ 100) : EvL (tOp rRep ta (tC (.int 2))) σ H ((us ++ us).map V.str) := fun H1 e Q q => h H1 e _ fun p H2 np e2 hp =>
  ⟨p, 2, us.map V.str, rfl, rfl, hp, by decide, by decide, sz_of (by rw [List.length_map]; show us.length * 2 ≤ 100000; omega), fun s hs => q s _ (fresh_back e2 hs) (e2.trans (Ex.new hs)) (upd_same.trans (congrArg (fun z => some (HO.lst z)) (by
    show (List.replicate 2 (us.map V.str)).flatten = _
    simp)))⟩
theorem el_back {us : List Str} (h : EvL te σ H (us.map V.str)) : EvL (tRevL K te) σ H (us.reverse.map V.str) := fun H1 e Q q => h H1 e _ fun p H2 np e2 hp =>
  ⟨p, _, rfl, sq_of hp, fun s hs => q s _ (fresh_back e2 hs) (e2.trans (Ex.new hs)) (upd_same.trans (congrArg (fun z => some (HO.lst z)) (by rw [List.map_reverse])))⟩
theorem el_catS {us vs : List Str} (h1 : EvL ta σ H (us.map V.str)) (h2 : EvL tb σ H (vs.map V.str)) (hz : us.length + vs.length ≤ 100000) : EvL (tOp rCat ta tb) σ H ((us ++ vs).map V.str) := by
  rw [List.map_append]
  exact el_catLL h1 h2 (by rw [List.length_map, List.length_map]; exact hz)
end
theorem pen_ne {H : Hp} {p l : Addr} {ns : List Int} {t : Int} {ws : List Str} (h : PenAt H p ns t) (hl : H l = some (.lst (ws.map V.str))) : l ≠ p := fun z => by
  obtain ⟨a, g, h1, _⟩ := h
  rw [z, h1] at hl
  have q := HO.lst.inj (Option.some.inj hl)
  cases ws with
  | nil => cases q
  | cons a r =>
    have q2 := List.head_eq_of_cons_eq q
    cases q2
def spBent : Sp := fun vs H Q _ => ∃ (p l : Addr) (ns : List Int) (t : Int) (ws : List Str) (n : Nat), vs = [.ref p, .ref l] ∧ PenAt H p ns t ∧ ns.length ≤ 63 ∧ 0 ≤ t ∧ t ≤ 800000 ∧ H l = some (.lst (ws.map V.str)) ∧ okW n ws ∧ n ≤ 6 ∧
  ∀ (us : List Str) (l2 : Addr) (t' : Int) (H' : Hp), okW (n + 1) us → t ≤ t' → t' ≤ t + 3 → PenAt H' p ns t' → But p H H' → H l2 = none → H' l2 = some (.lst (us.map V.str)) → Q (.ref l2) H'
section
variable {P : Program} {w : World} {K : W.Frag} {mg : Str → Option Value} {base : Heap} {f fT fO : Addr} {fd dT dO : FuncData}
theorem ok_bent (B : Bt mg) (D : Fn0 P w K mg base "_law_take" 1 fT dT p_law_take spTake) (O : Fn0 P w K mg base "_law_other" 2 fO dO p_law_other spOther) (F : FnP K "_law_bent" s_law_bent f fd) : FnOk P w K mg base CX0 3 f fd p_law_bent spBent := by
  refine F.ok sc_law_bent (fun vs H Q E h => ?_) (fun cdv A outer s H vs Q E hr h => ?_)
  · obtain ⟨p, l, ns, t, ws, n, rfl, _⟩ := h
    rfl
  · obtain ⟨p, l, ns, t, ws, n, rfl, pen, hn, t0, t1, hl, hw, n6, k⟩ := h
    have nd := sc_law_bent.nd
    have hr1 := hr.mono (show 1 ≤ 2 by decide)
    refine ⟨_, PSs.nox (pss_cons (ps_set (i := 2) nd rfl (Or.inl rfl) (pe_call D.ok hr1 (by rfl) D.m D.k D.b .nil pass0 (pa_cons (pv 0) (pa_cons pe_int pa_nil))))
      (pss_cons (ps_set (i := 3) nd rfl (Or.inl rfl) (pe_call D.ok hr1 (by rfl) D.m D.k D.b .nil pass0 (pa_cons (pv 0) (pa_cons (pe_op op_add (pe_callB call_len_seq (by rfl) B.len (by decide +kernel) (pa_cons (pv 1) pa_nil)) pe_int) pa_nil))))
      (pss_cons (ps_if (pt_cmpR op_eq (pv 2) pe_int (nomark _)) (pss_one (ps_ret (pe_op op_cat (pe_slice sl_list (pv 1) po_none (po_some (pv 3))) (pe_slice sl_list (pv 1) (po_some (pe_op op_add (pv 3) pe_int)) po_none)))) pss_nil)
      (pss_cons (ps_if (pt_cmpR op_lt (pv 2) pe_int (nomark _)) (pss_one (ps_ret (pe_op op_cat (pe_op op_cat (pe_slice sl_list (pv 1) po_none (po_some (pv 3))) (pe_lst (pa_cons (pe_call O.ok hr (by rfl) O.m O.k O.b .nil pass0 (pa_cons (pv 0) pa_nil)) pa_nil))) (pe_slice sl_list (pv 1) (po_some (pe_op op_sub (pe_op op_add (pv 3) (pv 2)) pe_int)) po_none)))) pss_nil)
      (pss_cons (ps_if (pt_cmpR op_eq (pv 2) pe_int (nomark _)) (pss_one (ps_ret (pe_op op_cat (pe_op op_cat (pe_slice sl_list (pv 1) po_none (po_some (pv 3))) (pe_op op_rep (pe_slice sl_list (pv 1) (po_some (pv 3)) (po_some (pe_op op_add (pv 3) pe_int))) pe_int)) (pe_slice sl_list (pv 1) (po_some (pe_op op_add (pv 3) pe_int)) po_none)))) pss_nil)
      (pss_cons (ps_if (pt_cmpR op_eq (pv 2) pe_int (nomark _)) (pss_one (ps_ret (pe_op op_cat (pe_op op_cat (pe_slice sl_list (pv 1) po_none (po_some (pv 3))) (pe_revL (pe_slice sl_list (pv 1) (po_some (pv 3)) (po_some (pe_op op_add (pv 3) pe_int))))) (pe_slice sl_list (pv 1) (po_some (pe_op op_add (pv 3) pe_int)) po_none)))) pss_nil)
      (pss_one (ps_ret (pe_op op_cat (pe_op op_cat (pe_slice sl_list (pv 1) po_none (po_some (pv 3))) (pe_lst (pa_cons pe_str pa_nil))) (pe_slice sl_list (pv 1) (po_some (pv 3)) po_none)))))))))), ?_⟩
    have wl := hw.1
    refine ⟨_, rfl, p, 6, ns, t, rfl, pen, hn, t0, by omega, by decide, by decide, fun d u H1 d0 d1 u0 u1 pen1 but1 => ?_⟩
    have hl1 := but1 l _ (pen_ne pen hl) hl
    refine ⟨_, rfl, _, rfl, l, _, rfl, .inl (sq_of hl1), _, _, rfl, rfl, p, _, ns, u, rfl, pen1, hn, by omega, by omega, by rw [List.length_map]; omega, by rw [List.length_map]; omega, fun e v H2 e0 e1 v0 v1 pen2 but2 => ?_⟩
    rw [List.length_map] at e1
    have hl2 := but2 l _ (pen_ne pen1 hl1) hl1
    have b2 : But p H H2 := But.trans but1 but2
    obtain ⟨a, rfl⟩ := Int.eq_ofNat_of_zero_le e0
    have ha : a ≤ ws.length := by omega
    have fin : ∀ {us : List Str} {l2 : Addr} {H' : Hp}, okW (n + 1) us → H2 l2 = none → Ex H2 H' → H' l2 = some (.lst (us.map V.str)) → Q (.ref l2) H' := fun {us l2 H'} h1 h2 h3 h4 => k us l2 v H' h1 (by omega) (by omega) (pen_mono h3 pen2) (b2.trans (but_ex h3)) (by
      cases h : H l2 with
      | none => rfl
      | some o =>
        by_cases hp : l2 = p
        · obtain ⟨_, _, hq, _⟩ := pen2
          rw [hp, hq] at h2
          cases h2
        · rw [b2 l2 o hp h] at h2
          cases h2) h4
    have mt : ∀ {x : Str} {i : Nat}, x ∈ ws.take i → x ∈ ws ∨ okX x := fun h => .inl (List.mem_of_mem_take h)
    have md : ∀ {x : Str} {i : Nat}, x ∈ ws.drop i → x ∈ ws ∨ okX x := fun h => .inl (List.mem_of_mem_drop h)
    refine q_when (b := decide (V.int d = V.int 0)) (et_test (ev_op (ev_var rfl) ev_c (rv_eq rfl))) (fun c1 H3 e3 => ?_) (fun c1 H3 e3 => ?_)
    · refine s_retL (el_catS (el_cutS (ev_var rfl) (e3 _ _ hl2) eo_none (eo_some (ev_var rfl)) (cut_hd (k := a) rfl)) (el_cutS (ev_var rfl) (e3 _ _ hl2) (eo_some (ev_op (ev_var rfl) ev_c rv_int)) eo_none (cut_tl (k := a + 1) rfl)) (by simp; omega)) fun r H4 nr e4 hr4 => ?_
      refine fin (okW_of hw (fun x hx => (List.mem_append.mp hx).elim mt md) (by simp; omega)) (fresh_back e3 nr) (e3.trans e4) hr4
    have dn0 : d ≠ 0 := fun z => by
      rw [z] at c1
      revert c1
      decide
    refine q_when (b := decide (d < 3)) (et_test (ev_op (ev_var rfl) ev_c rv_int)) (fun c2 H4 e4 => ?_) (fun c2 H4 e4 => ?_)
    · have d3 : d < 3 := of_decide_eq_true c2
      have e24 := e3.trans e4
      have hl4 := e24 _ _ hl2
      have pen4 := pen_mono e24 pen2
      refine (el_cutS (K := K) (σ := [some (.ref p), some (.ref l), some (.int d), some (.int (a : Int))]) (te := tVar 1) (tl := tNoPart) (th := tPart (tVar 3)) (ev_var rfl) hl4 eo_none (eo_some (ev_var rfl)) (cut_hd (k := a) rfl)) H4 (Ex.refl H4) _ fun q1 H5 n1 e5 hq1 => ?_
      have pen5 := pen_mono e5 pen4
      refine ⟨_, rfl, p, ns, v, rfl, pen5, hn, by omega, by omega, fun x y H6 hx y0 y1 pen6 but6 => ⟨(by show 1 ≤ sizeLine; decide), fun q2 n2 => ?_⟩⟩
      have hq6 := but6 q1 _ (pen_ne pen5 hq1) hq1
      have hl6 := but6 l _ (pen_ne pen5 (e5 _ _ hl4)) (e5 _ _ hl4)
      refine ⟨q1, q2, _, _, rfl, rfl, by rw [upd_ne (ne_of_none hq6 n2)]; exact hq6, upd_same, sz_of (by simp; omega), fun q3 n3 => ?_⟩
      have e67 : Ex H6 (upd H6 q2 (.lst [.str x])) := Ex.new n2
      have e78 : Ex (upd H6 q2 (.lst [.str x])) (upd (upd H6 q2 (.lst [.str x])) q3 (.lst ((ws.take a).map V.str ++ [.str x]))) := Ex.new n3
      refine (el_cutS (K := K) (σ := [some (.ref p), some (.ref l), some (.int d), some (.int (a : Int))]) (te := tVar 1) (tl := tPart (tOp (rI0 fun i j => .int (i - j)) (tOp (rI0 fun i j => .int (i + j)) (tVar 3) (tVar 2)) (tC (.int 1)))) (th := tNoPart) (ev_var rfl) ((e67.trans e78) _ _ hl6) (eo_some (ev_op (ev_op (ev_var rfl) (ev_var rfl) rv_int) ev_c rv_int)) eo_none (cut_tl (k := (a + d.toNat) - 1) (by omega))) _ (Ex.refl _) _ fun q4 H9 n4 e9 hq4 => ?_
      refine ⟨q3, q4, _, _, rfl, rfl, e9 _ _ upd_same, hq4, sz_of (by simp; omega), fun q5 n5 => ?_⟩
      have e69 := (e67.trans e78).trans e9
      have b6 : But p H H6 := ((b2.trans (but_ex e24)).trans (but_ex e5)).trans but6
      refine k (ws.take a ++ [x] ++ ws.drop (a + d.toNat - 1)) q5 y _ (okW_of hw (fun z hz => ?_) (by simp; omega)) (by omega) (by omega) (pen_mono (e69.trans (Ex.new n5)) pen6) (b6.trans (but_ex (e69.trans (Ex.new n5)))) ?_ (upd_same.trans (by simp))
      · rcases List.mem_append.mp hz with hz | hz
        · rcases List.mem_append.mp hz with hz | hz
          · exact mt hz
          · exact .inr (by rw [List.mem_singleton.mp hz]; exact hx)
        · exact md hz
      · have n56 : H6 q5 = none := fresh_back e69 n5
        cases h : H q5 with
        | none => rfl
        | some o =>
          by_cases hp : q5 = p
          · obtain ⟨_, _, hq, _⟩ := pen6
            rw [hp, hq] at n56
            cases n56
          · rw [b6 q5 o hp h] at n56
            cases n56
    have e24 := e3.trans e4
    have hl4 := e24 _ _ hl2
    refine q_when (b := decide (V.int d = V.int 3)) (et_test (ev_op (ev_var rfl) ev_c (rv_eq rfl))) (fun c3 H5 e5 => ?_) (fun c3 H5 e5 => ?_)
    · have hl5 := e5 _ _ hl4
      refine s_retL (el_catS (el_catS (el_cutS (ev_var rfl) hl5 eo_none (eo_some (ev_var rfl)) (cut_hd (k := a) rfl)) (el_twice (el_cutS (ev_var rfl) hl5 (eo_some (ev_var rfl)) (eo_some (ev_op (ev_var rfl) ev_c rv_int)) (cut_mid (a := a) (k := 1) rfl rfl ha)) (by simp; omega)) (by simp; omega))
        (el_cutS (ev_var rfl) hl5 (eo_some (ev_op (ev_var rfl) ev_c rv_int)) eo_none (cut_tl (k := a + 1) rfl)) (by simp; omega)) fun r H6 nr e6 hr6 => ?_
      refine fin (okW_of hw (fun x hx => ?_) (by simp; omega)) (fresh_back (e24.trans e5) nr) ((e24.trans e5).trans e6) hr6
      rcases List.mem_append.mp hx with hx | hx
      · rcases List.mem_append.mp hx with hx | hx
        · exact mt hx
        · rcases List.mem_append.mp hx with hx | hx
          · exact md (List.mem_of_mem_take hx)
          · exact md (List.mem_of_mem_take hx)
      · exact md hx
    have hl5 := e5 _ _ hl4
    have e25 := e24.trans e5
    refine q_when (b := decide (V.int d = V.int 4)) (et_test (ev_op (ev_var rfl) ev_c (rv_eq rfl))) (fun c4 H6 e6 => ?_) (fun c4 H6 e6 => ?_)
    · have hl6 := e6 _ _ hl5
      refine s_retL (el_catS (el_catS (el_cutS (ev_var rfl) hl6 eo_none (eo_some (ev_var rfl)) (cut_hd (k := a) rfl)) (el_back (el_cutS (ev_var rfl) hl6 (eo_some (ev_var rfl)) (eo_some (ev_op (ev_var rfl) ev_c rv_int)) (cut_mid (a := a) (k := 2) rfl rfl ha))) (by simp; omega))
        (el_cutS (ev_var rfl) hl6 (eo_some (ev_op (ev_var rfl) ev_c rv_int)) eo_none (cut_tl (k := a + 2) rfl)) (by simp; omega)) fun r H7 nr e7 hr7 => ?_
      refine fin (okW_of hw (fun x hx => ?_) (by simp; omega)) (fresh_back (e25.trans e6) nr) ((e25.trans e6).trans e7) hr7
      rcases List.mem_append.mp hx with hx | hx
      · rcases List.mem_append.mp hx with hx | hx
        · exact mt hx
        · exact md (List.mem_of_mem_take (List.mem_reverse.mp hx))
      · exact md hx
    have hl6 := e6 _ _ hl5
    refine s_retL (el_catS (el_catS (el_cutS (ev_var rfl) hl6 eo_none (eo_some (ev_var rfl)) (cut_hd (k := a) rfl)) (vs := [""]) (el_lst (ea_cons ev_c ea_nil) (by show 1 ≤ 100000; decide)) (by simp; omega))
      (el_cutS (ev_var rfl) hl6 (eo_some (ev_var rfl)) eo_none (cut_tl (k := a) rfl)) (by simp; omega)) fun r H7 nr e7 hr7 => ?_
    refine fin (okW_of hw (fun x hx => ?_) (by simp; omega)) (fresh_back (e25.trans e6) nr) ((e25.trans e6).trans e7) hr7
    rcases List.mem_append.mp hx with hx | hx
    · rcases List.mem_append.mp hx with hx | hx
      · exact mt hx
      · exact .inr (by rw [List.mem_singleton.mp hx]; decide +kernel)
    · exact md hx
end
end L2.M3
set_option maxRecDepth 100000
set_option maxHeartbeats 4000000
namespace L2.M3
open PySem PySem.Spec PyProof.Rows L2 Mx L2.Mb Evl Mv TL LamX
/-! ### repr of a list of texts -/
theorem passF {X : Cx} : Passes (L2.CX X.prog X.w) X (fun _ _ _ => False) := fun _ _ _ _ _ _ _ h => by
  obtain ⟨_, _, _, _, _, _, _, _, _, _, _, _, hE⟩ := h
  exact hE.elim
theorem dq_strs {K : W.Frag} {H : Hp} : ∀ us : List Str, DqAll K H (us.map V.str) (us.map PyData.str)
  | [] => .nil
  | x :: r => .cons (.str x) (dq_strs r)
theorem leaves_strs : ∀ us : List Str, (∀ x ∈ us, PyData.strOk x = true) → PyData.leavesShortAll 8 (us.map PyData.str) = true
  | [], _ => by simp [PyData.leavesShortAll]
  | x :: r, h => by
    have ih := leaves_strs r fun y hy => h y (List.mem_cons_of_mem _ hy)
    have h1 := (strOk_tl x).mp (h x List.mem_cons_self)
    have h2 : (x.cps.toList.all fun c => decide (c < 16 ^ 8)) = true := List.all_eq_true.mpr fun c hc => decide_eq_true (Nat.lt_trans (h1 c hc) (by decide))
    simp only [List.map_cons, PyData.leavesShortAll, PyData.leavesShort, h2, ih, Bool.and_self]
theorem weight_strs {m : Nat} : ∀ us : List Str, (∀ x ∈ us, x.length ≤ m) → PyData.weightAll (us.map PyData.str) ≤ us.length * (m + 1)
  | [], _ => by simp [PyData.weightAll]
  | x :: r, h => by
    have ih := weight_strs r fun y hy => h y (List.mem_cons_of_mem _ hy)
    have h1 : x.cps.size ≤ m := h x List.mem_cons_self
    simp only [List.map_cons, PyData.weightAll, PyData.weight, List.length_cons, Nat.succ_mul]
    omega
theorem showable_strs : ∀ us : List Str, PyData.showableAll (us.map PyData.str) = true
  | [] => by simp [PyData.showableAll]
  | x :: r => by simp [PyData.showableAll, PyData.showable, showable_strs r]
theorem depth_strs : ∀ us : List Str, PyData.depthAll (us.map PyData.str) = 0
  | [] => by simp [PyData.depthAll]
  | x :: r => by simp [PyData.depthAll, PyData.depth, depth_strs r]
theorem okD_strs {us : List Str} (h1 : us.length ≤ 10) (h2 : ∀ x ∈ us, x.length ≤ 40000 ∧ PyData.strOk x = true) : okD (.list (us.map PyData.str)) = true := by
  have w := weight_strs us fun x hx => (h2 x hx).1
  have w2 : us.length * 40001 ≤ 10 * 40001 := Nat.mul_le_mul_right _ h1
  have s := PyData.shown_fits (B := 8) (by decide) (by decide) (d := .list (us.map PyData.str)) (by simp only [PyData.leavesShort]; exact leaves_strs us fun x hx => (h2 x hx).2) (by simp only [PyData.weight]; omega)
  unfold okD
  rw [decide_eq_true s]
  simp [PyData.showable, showable_strs, PyData.depth, depth_strs]
section
variable {K : W.Frag} {σ : L2.St} {H : Hp} {te : TE} {C CE a : Addr} {kd : Kd} {g : Kd → Str}
theorem ev_reprL {us : List Str} (h : EvL te σ H (us.map V.str)) (h1 : us.length ≤ 10) (h2 : ∀ x ∈ us, x.length ≤ 40000 ∧ PyData.strOk x = true) : Ev (tCB (rRepr K) (tCons te tNil)) σ H (.str (PyData.list (us.map PyData.str)).shown) := fun H1 e Q q =>
  h H1 e _ fun p H2 _ e2 hp => ⟨p, _, rfl, .lst (sq_of hp) (dq_strs us), okD_strs h1 h2, q H2 e2⟩
theorem ev_own (h : Ev te σ H (.ref a)) (ha : KAt C H a kd) (hk : kd.ok = true) : Ev (tCB (rOwn C (spText C g)) (tCons te tNil)) σ H (.str (g kd)) := ev_cb (ea_cons h ea_nil) fun H1 e Q q => by
  obtain ⟨dx, hd⟩ := ha
  exact ⟨a, dx, _, rfl, e _ _ hd, a, kd, rfl, hk, ⟨dx, e _ _ hd⟩, fun H2 e2 => ⟨⟨_, rfl⟩, q H2 e2⟩⟩
/-- Kind.read(the text of a kind) == that kind -/
theorem ev_readEq {tb : TE} (h : Ev te σ H (.str kd.text)) (hb : Ev tb σ H (.ref a)) (ha : KAt C H a kd) (hk : kd.ok = true) : Ev (tOp (rEqG (DIns C (sameK C))) (ClX.tCMeth C (spRead K C CE) (fun _ _ _ => False) (tC (.ref C)) (tCons te tNil)) tb) σ H (.bl true) := fun H1 e Q q =>
  ⟨rfl, h H1 e _ fun H2 e2 => ⟨.str kd.text, rfl, .inl ⟨kd.text, rfl, Nat.le_trans (text_len hk) (by decide), text_ok hk, fun kd' hk' b H3 e3 hb3 => by
    rw [readW_text hk] at hk'
    cases hk'
    refine hb H3 ((e.trans e2).trans e3) _ fun H4 e4 => ⟨?_, fun H5 e5 => q H5 (((e2.trans e3).trans e4).trans e5)⟩
    have ha4 := ha.mono (((e.trans e2).trans e3).trans e4)
    have hb4 := hb3.mono e4
    obtain ⟨dx, h1⟩ := hb4
    obtain ⟨dy, h2⟩ := ha4
    exact ⟨b, a, dx, dy, _, _, rfl, rfl, h1, h2, kd, hk, ⟨dx, h1⟩, ⟨dy, h2⟩⟩, fun n hn => by
    rw [readW_text hk] at hn
    cases hn⟩⟩⟩
end
theorem q_make {σ : L2.St} {H : Hp} {ta tk : TA} {C : Addr} {gV : List V → List V → List V} {E : XK} {kd : Kd} {i : Nat} {tz : TS} {D : Ends} (hg : ∀ a b c d e : V, gV [a, b, c] [d, e] = [a, b, c, d, e]) (h1 : EvA ta σ H [.str kd.le, .str kd.lt]) (h2 : EvA tk σ H [.bl kd.tu, optV kd.re])
    (ok : kd.ok = true) (k : ∀ a H2, Ex H H2 → KAt C H2 a kd → tz D (σ.set i (some (.ref a))) H2) : tSeq (tAsg (tMakeK C 2 2 (spInit C) gV E ta tk) (gName i)) tz D σ H := e_make (E := E) hg h1 h2 ok H (Ex.refl H) (fun v H2 => tz D (σ.set i (some v)) H2) fun a H2 e2 ha => k a H2 e2 ha
/-- str, repr, == of a kind -/
structure KS (P : Program) (w : World) (K : W.Frag) (mg : Str → Option Value) (base : Heap) (C : Addr) (fS fR fQ : Addr) (dS dR dQ : FuncData) : Prop where
  s1 : FnOk P w K mg base CX0 1 fS dS ["self"] (spText C Kd.text)
  s2 : W.findIn K (.ref C) "__str__" = some (some (.ref fS))
  s3 : W.isFn K (.ref fS) = true
  s4 : Binds K dS ["self"] []
  r1 : FnOk P w K mg base CX0 4 fR dR ["self"] (spText C fun k => "Kind(" ++ k.text ++ ")")
  r2 : W.findIn K (.ref C) "__repr__" = some (some (.ref fR))
  r3 : W.isFn K (.ref fR) = true
  r4 : Binds K dR ["self"] []
  q1 : FnOk P w K mg base CX0 4 fQ dQ ["self", "other"] (spEq (sameK C))
  q2 : W.findIn K (.ref C) "__eq__" = some (some (.ref fQ))
  q3 : W.isFn K (.ref fQ) = true
  q4 : Binds K dQ ["self", "other"] []
/-- a kind's words are shown right -/
def spShown : Sp := fun vs H Q _ => ∃ (l : Addr) (kd : Kd), vs = [.ref l] ∧ kd.ok = true ∧ H l = some (.lst ((wordL kd).map V.str)) ∧ ∀ H', Ex H H' → Q (.bl true) H'
section
variable {P : Program} {w : World} {K : W.Frag} {mg : Str → Option Value} {base : Heap} {f : Addr} {fd : FuncData}
theorem ok_shown {C CE aL aT pR gR fU fK fS fR fQ : Addr} {mc : Value} {dR dU dK dS dO dQ : FuncData} {g : List Value → List Value → List Value} {gV : List V → List V → List V} {oc dV kV doc pm cdv ct : Value} {an od : Option Addr} {osl : Array (Option Value)}
    (B : Bt mg) (T : KF K mg C mc aL aT) (R : RF P w K mg base C CE mc pR gR dR) (M : KM P w K mg base C fK dK g gV) (S : KS P w K mg base C fS fR fQ dS dO dQ) (sys : SysD K)
    (DU : FnOk P w K mg base CX0 3 fU dU ["_law_shown"] spDue) (mU : mg "_law_due" = some (.ref fU)) (kU : W.keepIn K (.ref fU) = true) (bU : Binds K dU ["_law_shown"] [])
    (lk : K.lookup f = some ⟨oc, od, .func (W.fnOf "_law_shown_right" "_law_shown_right" (defArgs s_law_shown_right) (defBody s_law_shown_right) (defScope s_law_shown_right) dV kV doc pm an cdv ct), osl⟩) (hcd : W.codeIn K cdv "_law_shown_right" = true) :
    FnG P w K mg base CX0 8 f (W.fnOf "_law_shown_right" "_law_shown_right" (defArgs s_law_shown_right) (defBody s_law_shown_right) (defScope s_law_shown_right) dV kV doc pm an cdv ct) p_law_shown_right spShown := by
  refine fng_of lk hcd sc_law_shown_right (fun vs H Q E h => ?_) (fun A outer s H vs Q E gd hr h => ?_)
  · obtain ⟨l, kd, rfl, _⟩ := h
    rfl
  · obtain ⟨l, kd, rfl, hk, hl, k⟩ := h
    have nd := sc_law_shown_right.nd
    have hun := hr.units
    refine ⟨_, PSs.nox (pss_cons (ps_set (i := 1) nd rfl (Or.inl rfl) (pe_join pe_str (pv 0)))
      (pss_cons (ps_set (i := 2) nd rfl (Or.inl rfl) (pe_call DU (hr.mono (by decide)) (by rfl) mU kU bU .nil pass0 (pa_cons (pv 1) pa_nil)))
      (pss_cons (ps_set (i := 3) nd rfl (Or.inl rfl) (pe_ix ix_tup (pv 2) pe_int (fun _ _ => rfl)))
      (pss_cons (ps_set (i := 4) nd rfl (Or.inl rfl) (pe_makeK M.made M.ok (hr.mono (by decide)) (by rfl) T.m M.kb pass0 (pa_cons (pe_ix ix_list (pv 3) pe_int (fun _ _ => rfl)) (pa_cons (pe_ix ix_list (pv 3) pe_int (fun _ _ => rfl)) pa_nil)) (pk_cons (pe_ix ix_list (pv 3) pe_int (fun _ _ => rfl)) (pk_cons (pe_ix ix_list (pv 3) pe_int (fun _ _ => rfl)) pk_nil))))
      (pss_cons (ps_if (pt_cmpR op_ne (pe_callB (call_repr gd sys hun) (by rfl) B.repr (by decide +kernel) (pa_cons (pe_lst (pa_cons (pe_callTy (call_strO S.s1 S.s2 S.s3 S.s4 pass0 (hr.mono (by decide))) (by rfl) B.str (by decide +kernel) (pa_cons (pv 4) pa_nil)) (pa_cons (pe_callB (call_reprO S.r1 S.r2 S.r3 S.r4 pass0 (hr.mono (by decide))) (by rfl) B.repr (by decide +kernel) (pa_cons (pv 4) pa_nil)) (pa_cons (pe_callTy (call_strO S.s1 S.s2 S.s3 S.s4 pass0 (hr.mono (by decide))) (by rfl) B.str (by decide +kernel) (pa_cons (pv 4) pa_nil)) pa_nil)))) pa_nil))
          (pe_callB (call_repr gd sys hun) (by rfl) B.repr (by decide +kernel) (pa_cons (pe_lst (pa_cons (pv 1) (pa_cons (pe_op op_add_str (pe_op op_add_str pe_str (pv 1)) pe_str) (pa_cons (pv 1) pa_nil)))) pa_nil)) (nomark _)) (pss_one (ps_ret pe_bl)) pss_nil)
      (pss_one (ps_ret (pe_and (pe_cmpR (op_eqG (rcG_ins S.q1 S.q2 S.q3 S.q4 (E := fun _ _ _ => False) pass0) (hr.mono (by decide))) (ClX.pe_cmeth (E := fun _ _ _ => False) (pe_glob (v := .ref C) (by rfl) T.m rfl) T.rd R.cm (R.ok.raw R.b .nil) (hr.mono (by decide)) passF (pa_cons (pe_callTy (call_strO S.s1 S.s2 S.s3 S.s4 pass0 (hr.mono (by decide))) (by rfl) B.str (by decide +kernel) (pa_cons (pv 4) pa_nil)) pa_nil)) (pv 4) (nomark _))
        (pe_one (pe_cmpR (op_eqG (rcG_ins S.q1 S.q2 S.q3 S.q4 (E := fun _ _ _ => False) pass0) (hr.mono (by decide))) (ClX.pe_cmeth (E := fun _ _ _ => False) (pe_glob (v := .ref C) (by rfl) T.m rfl) T.rd R.cm (R.ok.raw R.b .nil) (hr.mono (by decide)) passF (pa_cons (pv 1) pa_nil)) (pv 4) (nomark _)))))))))))  , ?_⟩
    have hW := wordL_ok hk
    have tlen : kd.text.length ≤ 40000 := Nat.le_trans (text_len hk) (by decide)
    have tok := text_ok hk
    refine q_asg (v := .str kd.text) (ev_is (ev_join (a := " ") (ys := wordL kd) ev_c (ev_var rfl) rfl (sq_of hl) (Nat.le_trans (okW_sum hW (by decide)) (by decide))) (by rw [wordL_join])) fun H1 e1 => ?_
    refine ⟨_, rfl, kd.text, rfl, tlen, tok, fun p H2 e2 hp => ?_⟩
    rw [readW_text hk] at hp
    obtain ⟨q, hq, hp⟩ := hp
    refine q_asg (v := .ref q) (ev_op (ev_var rfl) ev_c (rv_ixT (v := .ref q) (st_of hp) (atI_nat (j := 1) rfl))) fun H3 e3 => ?_
    have hq3 := sq_of (K := K) (e3 _ _ hq)
    refine q_make (C := C) M.gv (ea_cons (ev_op (ev_var rfl) ev_c (rv_ixL (v := .str kd.le) hq3 (atI_nat (j := 0) rfl))) (ea_cons (ev_op (ev_var rfl) ev_c (rv_ixL (v := .str kd.lt) hq3 (atI_nat (j := 1) rfl))) ea_nil))
      (ea_cons (ev_op (ev_var rfl) ev_c (rv_ixL (v := .bl kd.tu) hq3 (atI_nat (j := 2) rfl))) (ea_cons (ev_op (ev_var rfl) ev_c (rv_ixL (v := optV kd.re) hq3 (atI_nat (j := 3) rfl))) ea_nil)) hk fun a H4 e4 ha => ?_
    have s5 : ("Kind(" : Str).length = 5 := by decide +kernel
    have s1 : (")" : Str).length = 1 := by decide +kernel
    have t100 := text_len hk
    have l5 : ("Kind(" ++ kd.text).length = 5 + kd.text.length := by
      rw [len_tl, tl_append, List.length_append, ← len_tl, ← len_tl, s5]
    have l6 : ("Kind(" ++ kd.text ++ ")").length = 6 + kd.text.length := by
      rw [len_tl, tl_append, List.length_append, ← len_tl, ← len_tl, l5, s1]
      omega
    have o6 : PyData.strOk ("Kind(" ++ kd.text ++ ")") = true := by
      rw [strOk_tl]
      intro c hc
      rw [tl_append, tl_append] at hc
      have c1 : ∀ c ∈ tl ("Kind(" : Str), c < 0x110000 := (strOk_tl _).mp (by decide +kernel)
      have c2 : ∀ c ∈ tl (")" : Str), c < 0x110000 := (strOk_tl _).mp (by decide +kernel)
      rcases List.mem_append.mp hc with hc | hc
      · rcases List.mem_append.mp hc with hc | hc
        · exact c1 c hc
        · exact (strOk_tl _).mp tok c hc
      · exact c2 c hc
    have hall : ∀ x ∈ [kd.text, "Kind(" ++ kd.text ++ ")", kd.text], x.length ≤ 40000 ∧ PyData.strOk x = true := fun x hx => by
      simp only [List.mem_cons, List.not_mem_nil, or_false] at hx
      rcases hx with rfl | rfl | rfl
      · exact ⟨tlen, tok⟩
      · exact ⟨by omega, o6⟩
      · exact ⟨tlen, tok⟩
    refine q_when (b := false) (et_test (ev_is (ev_op (ev_reprL (us := [kd.text, "Kind(" ++ kd.text ++ ")", kd.text]) (el_lst (ea_cons (ev_own (ev_var rfl) ha hk) (ea_cons (ev_own (ev_var rfl) ha hk) (ea_cons (ev_own (ev_var rfl) ha hk) ea_nil))) (by show 3 ≤ 100000; decide)) (by show 3 ≤ 10; decide) hall)
      (ev_reprL (us := [kd.text, "Kind(" ++ kd.text ++ ")", kd.text]) (el_lst (ea_cons (ev_var rfl) (ea_cons (ev_op (ev_op ev_c (ev_var rfl) (rv_catS (by omega))) ev_c (rv_catS (by omega))) (ea_cons (ev_var rfl) ea_nil))) (by show 3 ≤ 100000; decide)) (by show 3 ≤ 10; decide) hall) (rv_ne rfl)) (by rw [decide_eq_true rfl]; rfl))) (fun z => by cases z) (fun _ H5 e5 => ?_)
    have ha5 := ha.mono e5
    exact s_ret (v := .bl true) (ev_andV (a := true) (b := true) (ev_readEq (ev_own (ev_var rfl) ha5 hk) (ev_var rfl) ha5 hk) (fun _ => ev_readEq (ev_var rfl) (ev_var rfl) ha5 hk)) fun H6 e6 => k H6 (((((e1.trans e2).trans e3).trans e4).trans e5).trans e6)
end
end L2.M3
set_option maxRecDepth 100000
set_option maxHeartbeats 4000000
namespace L2.M3
open PySem PySem.Spec PyProof.Rows L2 Mx L2.Mb Evl Mv TL LamX
/-! ### the law -/
theorem tabs_but {H H' : Hp} {p : Addr} {ns : List Int} {t : Int} {Tt : List (Addr × Str)} (pen : PenAt H p ns t) (b : But p H H') (T : Tabs Tt H) : Tabs Tt H' := fun q hq => by
  obtain ⟨l, g, hp, _⟩ := pen
  obtain ⟨ps, h1, h2, h3⟩ := T q hq
  refine ⟨ps, b _ _ (fun z => ?_) h1, h2, fun pos cv hc => ?_⟩
  · rw [z, hp] at h1
    cases h1
  · obtain ⟨c, e1, e2⟩ := h3 pos cv hc
    refine ⟨c, e1, b _ _ (fun z => ?_) e2⟩
    rw [z, hp] at e2
    cases e2
theorem lst_extn {H H' : Hp} {l : Addr} {xs : List V} (e : ExtN H H') (h : H l = some (.lst xs)) : H' l = some (.lst xs) := e l _ h fun ps z => by cases z
theorem pen_extn {H H' : Hp} {p : Addr} {ns : List Int} {t : Int} (e : ExtN H H') (h : PenAt H p ns t) : PenAt H' p ns t := by
  obtain ⟨l, g, h1, h2⟩ := h
  exact ⟨l, g, lst_extn e h1, lst_extn e h2⟩
/-- a value that is no text -/
inductive OddV (H : Hp) : V → Prop
  | non : OddV H .non
  | bl (b : Bool) : OddV H (.bl b)
  | int (n : Int) : OddV H (.int n)
  | lst {a : Addr} {xs : List V} : H a = some (.lst xs) → OddV H (.ref a)
  | tup {a : Addr} {xs : List V} : H a = some (.tup xs) → OddV H (.ref a)
  | dct {a : Addr} {kvs : List (Key × V)} : H a = some (.dK kvs) → OddV H (.ref a)
theorem odd_extn {H H' : Hp} {x : V} (e : ExtN H H') (h : OddV H x) : OddV H' x := by
  cases h with
  | non => exact .non
  | bl b => exact .bl b
  | int n => exact .int n
  | lst h => exact .lst (e _ _ h fun ps z => by cases z)
  | tup h => exact .tup (e _ _ h fun ps z => by cases z)
  | dct h => exact .dct (e _ _ h fun ps z => by cases z)
theorem odd_but {H H' : Hp} {x : V} {p : Addr} {ns : List Int} {t : Int} (e : Ex H H') (h : OddV H x) : OddV H' x := odd_extn (ex_extn e) h
theorem odd_ty {K : W.Frag} {H : Hp} {x : V} (h : OddV H x) : ∃ ty, (∀ H', Ex H H' → TyX K H' x ty) ∧ W.kitOne K ty (.type "str") = some false := by
  cases h with
  | non => exact ⟨_, fun _ _ => .base .non, kit_ty (a := "NoneType") (b := "str") (r := false) (by decide +kernel)⟩
  | bl b => exact ⟨_, fun _ _ => .base (.bl b), kit_ty (a := "bool") (b := "str") (r := false) (by decide +kernel)⟩
  | int n => exact ⟨_, fun _ _ => .base (.int n), kit_ty (a := "int") (b := "str") (r := false) (by decide +kernel)⟩
  | lst h => exact ⟨_, fun _ e => .base (.lst (e _ _ h)), kit_ty (a := "list") (b := "str") (r := false) (by decide +kernel)⟩
  | tup h => exact ⟨_, fun _ e => .base (.tup (e _ _ h)), kit_ty (a := "tuple") (b := "str") (r := false) (by decide +kernel)⟩
  | dct h => exact ⟨_, fun _ e => .base (.dK (e _ _ h)), kit_ty (a := "dict") (b := "str") (r := false) (by decide +kernel)⟩
theorem tt3_odd {K : W.Frag} {C CE : Addr} {x : V} {H : Hp} {Q : VK} (hx : OddV H x) (q : ∀ p H1, Ex H H1 → H1 p = some (.tup [.str "wrong", .int 0]) → Q (.ref p) H1) : TT3 C CE (fun E H' Q' => spRead K C CE [.ref C, x] H' Q' E) H Q := fun E' Q' hE hQ => by
  obtain ⟨ty, h1, h2⟩ := odd_ty (K := K) hx
  exact ⟨x, rfl, .inr ⟨ty, h1, h2, fun d H3 e3 hd => hE d 0 H3 hd fun p H4 e4 hp => q p H4 (e3.trans e4) hp⟩⟩
/-- a def for its callers, where no repr is under way -/
structure FgD (P : Program) (w : World) (K : W.Frag) (mg : Str → Option Value) (base : Heap) (x : Str) (k : Nat) (f : Addr) (fd : FuncData) (ps : List Str) (sp : Sp) : Prop where
  ok : FnG P w K mg base CX0 k f fd ps sp
  m : mg x = some (.ref f)
  k : W.keepIn K (.ref f) = true
  b : Binds K fd ps []
def spLaw (K : W.Frag) (Tt : List (Addr × Str)) : Sp := fun vs H Q _ => ∃ (a : Addr) (ns : List Int), vs = [.ref a] ∧ SqL K H a (ns.map V.int) ∧ ns.length ≤ 63 ∧ Tabs Tt H ∧ ∀ H', Q (.bl true) H'
def wrong0 : PyData := .tuple [.str "wrong", .int 0]
theorem wrong0_same : PyData.eqv wrong0 wrong0 = true := by decide +kernel
theorem wrong0_shaped : SeqAt.shaped wrong0 = true := by decide +kernel
theorem dp_wrong0 {K : W.Frag} {H : Hp} {p : Addr} (h : H p = some (.tup [.str "wrong", .int 0])) : Dp K H (.ref p) wrong0 := .tup (st_of h) (.cons (.str _) (.cons (.int _) .nil))
section
variable {P : Program} {w : World} {K : W.Frag} {mg : Str → Option Value} {base : Heap} {f : Addr} {fd : FuncData}
theorem ok_law {C CE fE cM cS cO cC cK cP aL aT pR gR fT c Pt fB fW fN fH fA fG : Addr} {mc : Value} {dE dR dT dB dW dN dH dA dG : FuncData} {Tt : List (Addr × Str)} {oc dV kV doc pm ct : Value} {an od : Option Addr} {osl : Array (Option Value)}
    (B : Bt mg) (T : KF K mg C mc aL aT) (XE : XT P w K mg base CE fE dE) (Z : TF K mg CE cM cS cO cC cK cP) (R : RF P w K mg base C CE mc pR gR dR) (D : TD K mg fT dT)
    (pL : KP P w K mg base C "lends" fun k => .str k.le) (pT : KP P w K mg base C "lets" fun k => .str k.lt) (pU : KP P w K mg base C "turns" fun k => .bl k.tu) (pQ : KP P w K mg base C "rests" fun k => optV k.re)
    (DB : Fn0 P w K mg base "_law_begin" 1 fB dB p_law_begin (spBegin K)) (DT : Fn0 P w K mg base "_law_take" 1 fA dA p_law_take spTake) (DW : Fn0 P w K mg base "_law_words" 2 fW dW p_law_words spWL) (DN : Fn0 P w K mg base "_law_bent" 3 fN dN p_law_bent spBent)
    (DR : FgD P w K mg base "_law_read_right" 8 fG dG p_law_read_right (spRR Tt)) (DS : FgD P w K mg base "_law_shown_right" 8 fH dH p_law_shown_right spShown)
    (TB : TabB base mg c Pt) (hmT : (Pt, ("law.<locals>.<lambda>" : Str)) ∈ Tt) (hu : ∀ p ∈ Tt, p.1 = Pt → p.2 = ("law.<locals>.<lambda>" : Str))
    (lk : K.lookup f = some ⟨oc, od, .func (W.fnOf "law" "law" (defArgs s_law) (defBody s_law) (defScope s_law) dV kV doc pm an (.ref c) ct), osl⟩) (hcd : W.codeIn K (.ref c) "law" = true) :
    FnG P w K mg base CX0 9 f (W.fnOf "law" "law" (defArgs s_law) (defBody s_law) (defScope s_law) dV kV doc pm an (.ref c) ct) p_law (spLaw K Tt) := by
  refine fng_of lk hcd sc_law (fun vs H Q E h => ?_) (fun A outer s H vs Q E gd hr h => ?_)
  · obtain ⟨a, ns, rfl, _⟩ := h
    rfl
  · obtain ⟨a, ns, rfl, hS, hn, hT, k⟩ := h
    have nd := sc_law.nd
    have hun := hr.units
    refine ⟨_, PSs.nox (pss_cons (ps_set (i := 1) nd rfl (Or.inl rfl) (pe_call DB.ok (hr.mono (by decide)) (by rfl) DB.m DB.k DB.b .nil pass0 (pa_cons (pv 0) pa_nil)))
      (pss_cons (ps_for PassesOwn.never rfl (pi_range1 (by rfl) B.range (pa_cons pe_int pa_nil)) (pg_name (i := 2) nd rfl (Or.inl rfl))
        (pss_cons (ps_set (i := 3) nd rfl (Or.inl rfl) (pe_call DW.ok (hr.mono (by decide)) (by rfl) DW.m DW.k DW.b .nil pass0 (pa_cons (pv 1) pa_nil)))
        (pss_cons (ps_if (pw_or (pt_not (pt_val (pe_callG gd DS.ok hr (by rfl) DS.m DS.k DS.b .nil pass0 (pa_cons (pv 3) pa_nil)))) (pw_or1 (pt_not (pt_val (pe_callG gd DR.ok hr (by rfl) DR.m DR.k DR.b .nil pass0 (pa_cons (pe_join pe_str (pv 3)) pa_nil)))))).pt (pss_one (ps_ret pe_bl)) pss_nil)
        (pss_cons (ps_set (i := 4) nd rfl (Or.inl rfl) (pe_call DN.ok (hr.mono (by decide)) (by rfl) DN.m DN.k DN.b .nil pass0 (pa_cons (pv 1) (pa_cons (pv 3) pa_nil))))
        (pss_cons (ps_if (pw_or (pt_not (pt_val (pe_callG gd DR.ok hr (by rfl) DR.m DR.k DR.b .nil pass0 (pa_cons (pe_join pe_str (pv 4)) pa_nil)))) (pw_or1 (pt_not (pt_val (pe_callG gd DR.ok hr (by rfl) DR.m DR.k DR.b .nil pass0 (pa_cons (pe_join pe_str (pe_call DN.ok (hr.mono (by decide)) (by rfl) DN.m DN.k DN.b .nil pass0 (pa_cons (pv 1) (pa_cons (pv 4) pa_nil)))) pa_nil)))))).pt (pss_one (ps_ret pe_bl)) pss_nil)
        (pss_cons (ps_set (i := 5) nd rfl (Or.inr rfl) (pe_ix ix_list (pe_lst (pa_cons pe_non (pa_cons pe_bl (pa_cons pe_int (pa_cons (pe_lst pa_nil) (pa_cons pe_dnewK (pa_cons (pe_tup (pa_cons pe_str pa_nil)) (pa_cons (pe_lst (pa_cons pe_str pa_nil)) (pa_cons (pe_op op_pow pe_int pe_int) pa_nil)))))))))
          (pe_call DT.ok (hr.mono (by decide)) (by rfl) DT.m DT.k DT.b .nil pass0 (pa_cons (pv 1) (pa_cons pe_int pa_nil))) (fun _ _ => rfl)))
        (pss_one (ps_if (pt_cmpR (op_neD hun) (pe_told B T XE Z D pL pT pU pQ TB rfl hmT hu (hr.mono (by decide)) (lamS_by (sc := defScope s_law) (by decide +kernel)) (by rfl) (fun _ _ _ _ _ => by rfl) (by rfl)
          (fun A outer s H E f c' hr2 => ClX.pe_cmeth (pe_glob (v := .ref C) (by rfl) T.m rfl) T.rd R.cm (R.ok.raw R.b .nil) hr2 (passes_call (takes_of rfl rfl rfl rfl) (fun _ _ _ _ h => h)) (pa_cons (pe_var (i := 5) rfl (.inr (.inr rfl))) pa_nil))) (pe_tup (pa_cons pe_str (pa_cons pe_int pa_nil))) (nomark _)) (pss_one (ps_ret pe_bl)) pss_nil))))))))
      (pss_cons (ps_if (pw_or (pt_not (pt_val (pe_callG gd DR.ok hr (by rfl) DR.m DR.k DR.b .nil pass0 (pa_cons pe_str pa_nil)))) (pw_or1 (pt_not (pt_val (pe_callG gd DR.ok hr (by rfl) DR.m DR.k DR.b .nil pass0 (pa_cons pe_str pa_nil)))))).pt (pss_one (ps_ret pe_bl)) pss_nil)
      (pss_one (ps_ret (pe_and (pe_callG gd DR.ok hr (by rfl) DR.m DR.k DR.b .nil pass0 (pa_cons pe_str pa_nil)) (pe_one (pe_callG gd DR.ok hr (by rfl) DR.m DR.k DR.b .nil pass0 (pa_cons pe_str pa_nil)))))))))
      , ?_⟩
    refine ⟨_, rfl, a, ns, rfl, hS, hn, fun p n2 H1 hn2 pen1 e1 => ?_⟩
    have T1 := hT.ext e1
    refine ⟨8, rfl, by decide, by decide, for_range (lo := 0) (n := 8) (fun i σ' H' => ∃ (t : Int) (x2 x3 x4 x5 : Option V), σ' = [some (.ref a), some (.ref p), x2, x3, x4, x5] ∧ PenAt H' p n2 t ∧ 0 ≤ t ∧ t ≤ 20 * (i : Int) ∧ Tabs Tt H')
      ⟨0, none, none, none, none, rfl, pen1, by decide, by decide, T1⟩ ?_ ?_⟩
    · rintro i σ' H2 hi ⟨t, x2, x3, x4, x5, rfl, pen2, t0, t1, T2⟩
      -- the words
      refine ⟨_, rfl, p, n2, t, rfl, pen2, hn2, t0, by omega, fun kd l t3 H3 hk u0 u1 pen3 but3 nl hl => ?_⟩
      have T3 := tabs_but pen2 but3 T2
      -- shown right
      refine ⟨_, rfl, l, kd, rfl, hk, hl, fun H4 e4 => ⟨true, rfl, ?_⟩⟩
      have hl4 := e4 _ _ hl
      have hW := wordL_ok hk
      -- read right
      refine ⟨⟨_, rfl⟩, _, rfl, _, _, wordL kd, rfl, rfl, .inl (sq_of hl4), Nat.le_trans (okW_sum hW (by decide)) (by decide), ?_⟩
      refine ⟨_, rfl, okW_len hW (by decide), okW_str hW, T3.ext e4, fun H6 n6 T6 => ⟨true, rfl, ?_⟩⟩
      have n36 : ExtN H3 H6 := (ex_extn e4).trans n6
      have pen6 := pen_extn n36 pen3
      have hl6 := lst_extn n36 hl
      -- the words bent
      refine ⟨_, rfl, _, rfl, p, l, n2, t3, wordL kd, 4, rfl, pen6, hn2, by omega, by omega, hl6, hW, by decide, fun us l2 t7 H7 hU v0 v1 pen7 but7 nl2 hl7 => ?_⟩
      have T7 := tabs_but pen6 but7 T6
      refine ⟨⟨_, rfl⟩, _, rfl, _, _, us, rfl, rfl, .inl (sq_of hl7), Nat.le_trans (okW_sum hU (by decide)) (by decide), ?_⟩
      refine ⟨_, rfl, okW_len hU (by decide), okW_str hU, T7, fun H9 n9 T9 => ⟨true, rfl, ?_⟩⟩
      have n79 : ExtN H7 H9 := n9
      have pen9 := pen_extn n79 pen7
      have hl9 := lst_extn n79 hl7
      -- bent twice
      refine ⟨⟨_, rfl⟩, _, rfl, _, rfl, p, l2, n2, t7, us, 5, rfl, pen9, hn2, by omega, by omega, hl9, hU, by decide, fun ws l3 ta Ha hX w0 w1 penA butA nl3 hlA => ?_⟩
      have TA := tabs_but pen9 butA T9
      refine ⟨_, _, ws, rfl, rfl, .inl (sq_of hlA), Nat.le_trans (okW_sum hX (by decide)) (by decide), ?_⟩
      refine ⟨_, rfl, okW_len hX (by decide), okW_str hX, TA, fun Hb nb Tb => ⟨true, rfl, ?_⟩⟩
      have penb := pen_extn nb penA
      -- a value that is no text
      refine ⟨Nat.zero_le _, fun q1 z1 => fun q2 z2 => ⟨(by show 1 ≤ sizeLine; decide), fun q3 z3 => ⟨(by show 1 ≤ sizeLine; decide), fun q4 z4 => ?_⟩⟩⟩
      refine ⟨_, _, rfl, rfl, ⟨by decide, by decide, by decide⟩, (by show 8 ≤ sizeLine; decide), fun q5 z5 => ?_⟩
      have E1 := Ex.new (o := HO.lst []) z1
      have E2 := Ex.new (o := HO.dK []) z2
      have E3 := Ex.new (o := HO.tup [.str "one/any"]) z3
      have E4 := Ex.new (o := HO.lst [.str "one/any"]) z4
      have E5 := Ex.new (o := HO.lst [.non, .bl true, .int 0, .ref q1, .ref q2, .ref q3, .ref q4, .int (10 ^ Int.toNat 59)]) z5
      have E15 := (((E1.trans E2).trans E3).trans E4).trans E5
      have pen5 := pen_mono E15 penb
      have nep : ∀ {G : Hp} {q : Addr}, Ex Hb G → G q = none → q ≠ p := fun {G q} e z y => by
        obtain ⟨_, _, h1, _⟩ := pen_mono e penb
        rw [y, h1] at z
        cases z
      refine ⟨_, rfl, p, 8, n2, ta, rfl, pen5, hn2, by omega, by omega, by decide, by decide, fun d tb Hd d0 d1 y0 y1 pend butd => ?_⟩
      have Td := tabs_but pen5 butd (Tb.ext E15)
      have g1 := butd q1 _ (nep (Ex.refl _) z1) ((((E2.trans E3).trans E4).trans E5) _ _ upd_same)
      have g2 := butd q2 _ (nep E1 z2) (((E3.trans E4).trans E5) _ _ upd_same)
      have g3 := butd q3 _ (nep (E1.trans E2) z3) ((E4.trans E5) _ _ upd_same)
      have g4 := butd q4 _ (nep ((E1.trans E2).trans E3) z4) (E5 _ _ upd_same)
      have g5 := butd q5 _ (nep (((E1.trans E2).trans E3).trans E4) z5) upd_same
      obtain ⟨x, hx, ax⟩ : ∃ x, OddV Hd x ∧ atI [V.non, .bl true, .int 0, .ref q1, .ref q2, .ref q3, .ref q4, .int (10 ^ Int.toNat 59)] d = some x := by
        rcases (show d = 0 ∨ d = 1 ∨ d = 2 ∨ d = 3 ∨ d = 4 ∨ d = 5 ∨ d = 6 ∨ d = 7 by omega) with rfl | rfl | rfl | rfl | rfl | rfl | rfl | rfl
        · exact ⟨_, .non, atI_nat (j := 0) rfl⟩
        · exact ⟨_, .bl true, atI_nat (j := 1) rfl⟩
        · exact ⟨_, .int 0, atI_nat (j := 2) rfl⟩
        · exact ⟨_, .lst g1, atI_nat (j := 3) rfl⟩
        · exact ⟨_, .dct g2, atI_nat (j := 4) rfl⟩
        · exact ⟨_, .tup g3, atI_nat (j := 5) rfl⟩
        · exact ⟨_, .lst g4, atI_nat (j := 6) rfl⟩
        · exact ⟨_, .int _, atI_nat (j := 7) rfl⟩
      refine ⟨q5, _, d, x, rfl, rfl, sq_of g5, ax, ?_⟩
      refine ⟨Td, fun He ne Te => ?_⟩
      refine tt3_imp (tt3_odd (K := K) (odd_extn ne hx) fun p3 Hf ef hp3 => ?_) (fun E Q' z => ⟨rfl, _, rfl, z⟩)
      refine ⟨(by show 2 ≤ sizeLine; decide), fun q6 z6 => ?_⟩
      refine ⟨wrong0, wrong0, dp_wrong0 ((Ex.new z6) _ _ hp3), dp_wrong0 upd_same, wrong0_shaped, wrong0_shaped, ?_⟩
      rw [wrong0_same]
      exact ⟨false, rfl, tb, _, _, _, _, rfl, pen_mono (Ex.new z6) (pen_mono ef (pen_extn ne pend)), by omega, by omega, (Te.ext ef).ext (Ex.new z6)⟩
    · rintro σ' H2 ⟨t, x2, x3, x4, x5, rfl, pen2, t0, t1, T2⟩
      refine ⟨_, rfl, by decide +kernel, by decide +kernel, T2, fun H3 n3 T3 => ⟨true, rfl, ?_⟩⟩
      refine ⟨_, rfl, by decide +kernel, by decide +kernel, T3, fun H4 n4 T4 => ⟨true, rfl, ?_⟩⟩
      refine ⟨_, rfl, by decide +kernel, by decide +kernel, T4, fun H5 n5 T5 => ⟨true, rfl, ?_⟩⟩
      exact ⟨_, rfl, by decide +kernel, by decide +kernel, T5, fun H6 n6 T6 => k H6⟩
end
end L2.M3
set_option maxRecDepth 100000
set_option maxHeartbeats 4000000
namespace L2.M3
open PySem PySem.Spec PyProof.Rows L2 Mx L2.Mb Evl Mv TL LamX
/-! ### what is looked at behind the top -/
abbrev KA (K : W.Frag) : Addr := He.ga K "Kind"
abbrev kA (K : W.Frag) (m : Str) : Addr := He.ma K (He.ga K "Kind") m
abbrev XA (K : W.Frag) : Addr := He.ga K "InvalidText"
abbrev XI (K : W.Frag) : Addr := He.ma K (He.ga K "InvalidText") "__init__"
def isB (a b : Option Bool) : Bool := decide (a = b)
/-- what a property, a classmethod holds -/
def rcA (K : W.Frag) (p : Addr) (t : String) : Addr := match W.recIn K p t with
  | some (.ref g :: _) => g
  | _ => 0
def rcB (K : W.Frag) (p : Addr) (t : String) : Bool := match W.recIn K p t with
  | some (.ref _ :: _) => true
  | _ => false
theorem rcB_ok {K : W.Frag} {p : Addr} {t : String} (h : rcB K p t = true) : ∃ rest, W.recIn K p t = some (.ref (rcA K p t) :: rest) := by
  unfold rcB at h
  split at h
  · rename_i g rest e
    refine ⟨rest, ?_⟩
    unfold rcA
    rw [e]
  · cases h
abbrev pgA (K : W.Frag) (m : Str) : Addr := rcA K (kA K m) "property"
def prB (K : W.Frag) (m : Str) : Bool := He.eqO (W.findIn K (.ref (KA K)) m) (some (some (.ref (kA K m)))) && (He.eqO (W.specialIn K (.ref (kA K m)) "__get__") (some (some (.builtin "property.__get__"))) && (isB (W.takesIn K (.ref (kA K m))) (some true) && rcB K (kA K m) "property"))
theorem prB_ok {K : W.Frag} {m : Str} (h : prB K m = true) : PropOf K (KA K) m (kA K m) (pgA K m) := by
  obtain ⟨h1, h⟩ := He.ba h
  obtain ⟨h2, h⟩ := He.ba h
  obtain ⟨h3, h4⟩ := He.ba h
  exact ⟨He.eqO_ok h1, He.eqO_ok h2, of_decide_eq_true h3, rcB_ok h4⟩
abbrev cmA (K : W.Frag) (m : Str) : Addr := rcA K (kA K m) "classmethod"
def cmB (K : W.Frag) (m : Str) : Bool := (match W.findCls K (.ref (KA K)) (.type "type") m with
  | some (.get (.builtin n) (.ref p) .none (.ref c)) => decide (n = "classmethod.__get__") && (decide (p = kA K m) && decide (c = KA K))
  | _ => false) && (rcB K (kA K m) "classmethod" && W.fnIn K (cmA K m))
theorem cmB_ok {K : W.Frag} {m : Str} (h : cmB K m = true) : ClX.CMet K (KA K) (.type "type") m (kA K m) (cmA K m) := by
  obtain ⟨h1, h⟩ := He.ba h
  obtain ⟨h2, h3⟩ := He.ba h
  split at h1
  · rename_i n p c e
    obtain ⟨q1, q⟩ := He.ba h1
    obtain ⟨q2, q3⟩ := He.ba q
    rw [of_decide_eq_true q1, of_decide_eq_true q2, of_decide_eq_true q3] at e
    exact ⟨e, rcB_ok h2, h3⟩
  · cases h1
def tpB (K : W.Frag) (a : Addr) (vs : List V) : Bool := match K.lookup a with
  | some ⟨.type c, _, .seq its _, _⟩ => decide (c = "tuple") && (decide (its.size ≤ sizeLine) && He.relAll vs its.toList)
  | _ => false
theorem tpB_ok {K : W.Frag} {a : Addr} {vs : List V} (h : tpB K a vs = true) (H : Hp) : SqT K H a vs := by
  unfold tpB at h
  split at h
  · rename_i c d its n sl e
    obtain ⟨h1, h⟩ := He.ba h
    obtain ⟨h2, h3⟩ := He.ba h
    exact .inr ⟨_, its, n, e, congrArg Value.type (of_decide_eq_true h1), rfl, of_decide_eq_true h2, He.relAll_ok h3⟩
  · cases h
def cvB (K : W.Frag) (f : Str) : Bool := match W.findCls K (.ref (KA K)) (.type "type") f with
  | some (.val (.ref b)) => decide (b = kA K f)
  | _ => false
theorem cvB_ok {K : W.Frag} {f : Str} (h : cvB K f = true) : ClX.CVal K (KA K) (.type "type") f (.ref (kA K f)) (.ref (kA K f)) := by
  unfold cvB at h
  split at h
  · rename_i b e
    rw [of_decide_eq_true h] at e
    exact ⟨e, rfl⟩
  · cases h
def crB (K : W.Frag) : Bool := W.readsIn K (KA K) (.type "type") && He.eqO (W.specialIn K (.ref (KA K)) "__getattribute__") (some (some (.builtin "type.__getattribute__")))
theorem crB_ok {K : W.Frag} (h : crB K = true) : ClX.CRead K (KA K) (.type "type") := by
  obtain ⟨h1, h2⟩ := He.ba h
  exact ⟨h1, He.eqO_ok h2⟩
def inB (K : W.Frag) : Bool := He.eqO (W.findIn K (.ref (KA K)) "__class__") (some (some (.builtin "object.__class__"))) && (isB (W.mroIn K (KA K) (.type "object")) (some true) && isB (W.kitOne K (.ref (KA K)) (.ref (KA K))) (some true))
def tfB (K : W.Frag) : Bool := isB (W.exmAny K (.ref (XA K)) [.ref (He.ga K "MeetError"), .ref (He.ga K "NoStation"), .ref (He.ga K "TooMany")]) (some true) && (isB (W.kitOne K (.ref (XA K)) (.ref (XA K))) (some true) &&
  (isB (W.kitOne K (.ref (XA K)) (.ref (He.ga K "MeetError"))) (some true) && isB (W.kitAny K (.ref (XA K)) [.ref (He.ga K "Clash"), .ref (He.ga K "InvalidKind"), .ref (He.ga K "InvalidPart"), .ref (He.ga K "NoStation"), .ref (He.ga K "TooMany")]) (some false)))
/-- the error class -/
def excB (K : W.Frag) (C : Addr) (b : EB) : Bool := match K.lookup C with
  | some ⟨.type t, _, .cls cd, sl⟩ => (match cd.mro, sl.toList with
    | .ref c :: r, [_, _, _, _, some (.builtin n), _] => decide (t = "type") && (decide (c = C) && (decide (n = b.new) && (!cd.hasDel && (cd.hasDict && own b r))))
    | _, _ => false)
  | _ => false
theorem excB_ok {K : W.Frag} {C : Addr} {b : EB} (z : excB K C b = true) :
    ∃ nm q N bs bm sn sub ab col dd k0 k1 k2 k3 k5, K.lookup C = some (excClassObj nm q C N bs bm true sn sub ab col dd k0 k1 k2 k3 k5 b.new) ∧ own b bm = true := by
  unfold excB at z
  split at z
  · rename_i t dd cd sl lk
    split at z
    · rename_i c r x0 x1 x2 x3 n x5 em es
      simp only [Bool.and_eq_true, decide_eq_true_eq, Bool.not_eq_true'] at z
      obtain ⟨rfl, rfl, rfl, hd, hh, ho⟩ := z
      obtain ⟨a1, a2, a3, a4, a5, a6, a7, a8, a9, a10, a11⟩ := cd
      simp only at em hd hh
      subst em hd hh
      obtain ⟨l⟩ := sl
      simp only at es
      subst es
      exact ⟨a1, a5, a4, a2, r, a7, a8, a9, a10, dd, x0, x1, x2, x3, x5, lk, ho⟩
    · cases z
  · cases z
def ecB (K : W.Frag) : Bool := excB K (XA K) .val && (He.eqO (W.findIn K (.ref (XA K)) "__setattr__") (some (some (.builtin "object.__setattr__"))) && (He.eqO (W.findIn K (.ref (XA K)) "__getattribute__") (some (some (.builtin "BaseException.__getattribute__"))) &&
    (He.eqO (W.findIn K (.ref (XA K)) "__getattr__") (some none) && (He.eqO (W.findIn K (.ref (XA K)) "__class__") (some (some (.builtin "object.__class__"))) && (isB (W.instIn K (.ref (XA K)) (.type "type")) (some true) &&
      (W.keepIn K (.ref (XA K)) && (He.eqO (W.findIn K (.ref (XA K)) "__init__") (some (some (.ref (XI K)))) && (decide (W.typeIn K (.ref (XI K)) = some (.type "function")) &&
        (He.eqO (W.specialIn K (.builtin "object.__class__") "__get__") (some (some (.builtin "getset_descriptor.__get__"))) && (isB (W.takesIn K (.builtin "object.__class__")) (some true) &&
          (decide (W.typeIn K (.ref (XA K)) = some (.type "type")) && (He.eqO (W.findIn K (.ref (XA K)) "line") (some none) && He.eqO (W.findIn K (.ref (XA K)) "word") (some none)))))))))))))
theorem ecB_ok {K : W.Frag} (z : ecB K = true) : EC K (XA K) (XI K) .val ∧ W.typeIn K (.ref (XA K)) = some (.type "type") ∧ W.findIn K (.ref (XA K)) "line" = some none ∧ W.findIn K (.ref (XA K)) "word" = some none := by
  obtain ⟨z1, z⟩ := He.ba z
  obtain ⟨z2, z⟩ := He.ba z
  obtain ⟨z3, z⟩ := He.ba z
  obtain ⟨z4, z⟩ := He.ba z
  obtain ⟨z5, z⟩ := He.ba z
  obtain ⟨z6, z⟩ := He.ba z
  obtain ⟨z7, z⟩ := He.ba z
  obtain ⟨z8, z⟩ := He.ba z
  obtain ⟨z9, z⟩ := He.ba z
  obtain ⟨za, z⟩ := He.ba z
  obtain ⟨zb, z⟩ := He.ba z
  obtain ⟨zc, z⟩ := He.ba z
  obtain ⟨zd, ze⟩ := He.ba z
  exact ⟨⟨excB_ok z1, He.eqO_ok z2, He.eqO_ok z3, He.eqO_ok z4, He.eqO_ok z5, of_decide_eq_true z6, z7, He.eqO_ok z8, of_decide_eq_true z9, He.eqO_ok za, of_decide_eq_true zb⟩, of_decide_eq_true zc, He.eqO_ok zd, He.eqO_ok ze⟩
def sysB (K : W.Frag) : Bool := match K.lookup sysModules with
  | some o => decide (o.cls = .type "dict")
  | none => false
theorem sysB_ok {K : W.Frag} (z : sysB K = true) : SysD K := by
  unfold sysB at z
  split at z
  · rename_i o e
    exact ⟨o, e, of_decide_eq_true z⟩
  · cases z
abbrev looseD : List (Str × He.Dv) := [("both", .int 0), ("far", .int 1), ("one", .int 2), ("any", .int 2)]
/-! ### functions by their address -/
structure DefA where
  name : Str
  qual : Str
  st : Stmt
  at_ : W.Frag → Addr
abbrev FnY : Type := Option (Str × Str × Arguments × FuncBody × Scope × Addr × List (Str × Addr) × Addr)
def fnA (K : W.Frag) (a : Addr) : FnY := (K.lookup a).bind fun o => match o.data with
  | .func u => some (u.name, u.qualname, u.params, u.body, u.scope, u.globals, u.closure, u.builtins)
  | _ => none
def DefA.want (d : DefA) : FnY := some (d.name, d.qual, defArgs d.st, .stmts (defBody d.st), defScope d.st, mainGlobals, [], builtinsNs)
def okA (K : W.Frag) (a : Addr) (q : Str) : Bool := W.keepIn K (.ref a) && (K.lookup a).any fun o => match o.data with
  | .func u => W.codeIn K u.code q && (He.dflB K u.defaults [] && He.kwdB K u.kwdefaults [])
  | _ => false
theorem fnA_ok {K : W.Frag} {d : DefA} (e : fnA K (d.at_ K) = d.want) (c : okA K (d.at_ K) d.qual = true) : ∃ fd, FunD K d.name d.qual (defArgs d.st) (defBody d.st) (defScope d.st) [] [] (d.at_ K) fd := by
  obtain ⟨kp, c⟩ := He.ba c
  unfold fnA at e
  cases hl : K.lookup (d.at_ K) with
  | none =>
    rw [hl] at c
    cases c
  | some o =>
    obtain ⟨oc, od, dt, sl⟩ := o
    rw [hl] at c e
    cases dt with
    | func u =>
      have c2 : (W.codeIn K u.code d.qual && (He.dflB K u.defaults [] && He.kwdB K u.kwdefaults [])) = true := c
      obtain ⟨u1, u2, u3, u4, u5, u6, u7, u8, u9, u10, u11, u12, u13, u14, u15⟩ := u
      have e2 : (u1, u2, u3, u4, u5, u6, u7, u15) = (d.name, d.qual, defArgs d.st, FuncBody.stmts (defBody d.st), defScope d.st, mainGlobals, ([] : List (Str × Addr)), builtinsNs) := Option.some.inj e
      simp only [Prod.mk.injEq] at e2
      obtain ⟨r1, r2, r3, r4, r5, r6, r7, r8⟩ := e2
      subst r1 r2 r3 r4 r5 r6 r7 r8
      obtain ⟨k1, k2⟩ := He.ba c2
      obtain ⟨k3, k4⟩ := He.ba k2
      exact ⟨_, ⟨oc, od, u8, u9, u10, u11, u12, u13, u14, sl, rfl, hl, k1, He.dflB_ok k3, He.kwdB_ok k4⟩, kp⟩
    | _ => cases c
abbrev fnY : List DefA := [⟨"lends", "Kind.lends", s_Kind_lends, fun K => pgA K "lends"⟩, ⟨"lets", "Kind.lets", s_Kind_lets, fun K => pgA K "lets"⟩, ⟨"turns", "Kind.turns", s_Kind_turns, fun K => pgA K "turns"⟩,
  ⟨"rests", "Kind.rests", s_Kind_rests, fun K => pgA K "rests"⟩, ⟨"read", "Kind.read", s_Kind_read, fun K => cmA K "read"⟩]
/-! ### the facts by names -/
def tD (x : Str) (i : Nat) : He.DefD := { at_ := (x, none), name := x, qual := x, params := defArgs (top i), body := defBody (top i), scope := defScope (top i) }
def mD (x m : Str) (st : Stmt) (kw : List (Str × He.Dv)) : He.DefD := { at_ := (x, some m), name := m, qual := x ++ "." ++ m, params := defArgs st, body := defBody st, scope := defScope st, kwd := kw }
abbrev fnZ : List He.DefD := [tD "is_integer" 1, tD "number_of" 12, tD "_ranks" 18, tD "kind_of_words" 20, tD "_law_begin" 22, tD "_law_take" 23, tD "_law_words" 24, tD "_law_other" 25, tD "_law_bent" 26, tD "_law_is_rest" 27, tD "_law_due" 28, tD "_law_told" 29, tD "_law_read_right" 30, tD "_law_shown_right" 31, tD "law" 32, mD "Kind" "__init__" s_Kind_init [("turns", .bl false), ("rests", .non)], mD "Kind" "__str__" s_Kind_str [], mD "Kind" "__repr__" s_Kind_repr [], mD "Kind" "__eq__" s_Kind_eq [], mD "InvalidText" "__init__" s_InvalidText_init []]
abbrev faZ : List He.Fa := [.glo "Kind", .glo "MeetError", .glo "InvalidKind", .glo "InvalidPart", .glo "Clash", .glo "InvalidText", .glo "NoStation", .glo "TooMany", .glo "LOOSE", .glo "is_integer", .glo "number_of", .glo "_ranks", .glo "kind_of_words", .glo "_law_begin", .glo "_law_take", .glo "_law_words", .glo "_law_other", .glo "_law_bent", .glo "_law_is_rest", .glo "_law_due", .glo "_law_told", .glo "_law_read_right", .glo "_law_shown_right", .glo "law", .free "KeyError", .free "NotImplemented", .free "OverflowError", .free "ValueError", .free "abs", .free "all", .free "bool", .free "classmethod", .free "int", .free "isinstance", .free "len", .free "list", .free "max", .free "min", .free "property", .free "range", .free "repr", .free "str", .free "zip", .int "LEAST_REST" 2, .int "MOST_REST" 1000000, .str "DIGITS" digitsT, .cls "Kind", .noat "Kind" "_lends", .noat "Kind" "_lets", .noat "Kind" "_turns", .noat "Kind" "_rests", .mkr "Kind", .keep "Kind", .meth "Kind" "__str__", .meth "Kind" "__repr__", .meth "Kind" "__eq__"]
abbrev tsZ : List He.Tab := [((fun K => He.ga K "LOOSE"), ["both", "far", "one", "any"])]
abbrev rrD : He.Defn := ("_law_read_right", none)
abbrev lwD : He.Defn := ("law", none)
abbrev tfZ : List He.Defn := [rrD, lwD]
def bitsB (K : W.Frag) : List Bool := [sysB K, prB K "lends", prB K "lets", prB K "turns", prB K "rests", cmB K "read", cvB K "LENDS", cvB K "LETS", tpB K (kA K "LENDS") (lendL.map V.str), tpB K (kA K "LETS") (letL.map V.str), crB K, inB K, tfB K, ecB K,
  He.valsB K (He.ga K "LOOSE") looseD, decide ((He.cT K rrD).2 ≠ (He.cT K lwD).2), fnY.all fun d => okA K (d.at_ K) d.qual]
def allB (K : W.Frag) : Bool := (bitsB K).all id
theorem bit {K : W.Frag} (h : allB K = true) (i : Nat) {b : Bool} (e : (bitsB K)[i]? = some b) : b = true := List.all_eq_true.mp h b (List.mem_of_getElem? e)
/-! ### the hook -/
def frY (n : Nat) (g : Addr → Option Obj) : W.Frag := He.frT g (sysModules :: cStatics :: He.asD g n)
abbrev AlY : Type := He.AlT × Bool × List FnY
def obY (n : Nat) (g : Addr → Option Obj) : AlY := (He.obsT faZ fnZ tsZ (frY n g), allB (frY n g) && He.tabsB g tfZ (frY n g), fnY.map fun d => fnA (frY n g) (d.at_ (frY n g)))
structure SaysY (w : World) (h : Heap) (K : W.Frag) : Prop where
  t : He.SaysT faZ fnZ tsZ w K
  more : allB K = true
  fs : (fnY.map fun d => fnA K (d.at_ K)) = fnY.map DefA.want
  hd : ∀ p ∈ tfZ, W.codeHdIn K (He.cT K p).1 (He.cT K p).2 = true
  out : ∀ p ∈ tfZ, K.lookup (He.cT K p).2 = none
  bare : ∀ p ∈ tfZ, Bare h (He.cT K p).2
theorem SaysY.d {w : World} {h : Heap} {K : W.Frag} (c : SaysY w h K) : He.SaysD faZ fnZ K := c.t.d
theorem saysY_of {n : Nat} {w : World} {h : Heap} (e : obY n h.get? = (He.valT fnZ tsZ w, true, fnY.map DefA.want)) : SaysY w h (frY n h.get?) := by
  obtain ⟨m1, m2⟩ := He.ba (show (allB (frY n h.get?) && He.tabsB h.get? tfZ (frY n h.get?)) = true from congrArg (fun z : AlY => z.2.1) e)
  have tab : ∀ p ∈ tfZ, ∃ o, h.get? (He.cT (frY n h.get?) p).2 = some o ∧ He.emptyTab o = true := fun p hp => by
    obtain ⟨_, y⟩ := He.ba (List.all_eq_true.mp m2 p hp)
    split at y
    · rename_i o q
      exact ⟨o, q, y⟩
    · cases y
  refine { t := congrArg (fun z : AlY => z.1) e, more := m1, fs := congrArg (fun z : AlY => z.2.2) e, hd := fun p hp => (He.ba (List.all_eq_true.mp m2 p hp)).1, out := fun p hp => ?_, bare := fun p hp => ?_ }
  · obtain ⟨o, q, y⟩ := tab p hp
    exact He.frT_none q y
  · obtain ⟨o, q, y⟩ := tab p hp
    unfold Bare
    rw [q, He.emptyTab_eq y]
def hookY (n : Nat) : W.Hook where
  α := AlY
  obs := fun s => obY n s.heap.get?
  val := fun w => (He.valT fnZ tsZ w, true, fnY.map DefA.want)
  says := fun w h => ∃ K : W.Frag, K.In h ∧ SaysY w h K
  of := fun _ _ e => ⟨_, He.frT_in, saysY_of e⟩
  keeps := fun _ _ _ z k => z.elim fun K y => ⟨K, W.Frag.In.keeps y.1 k, { t := y.2.t, more := y.2.more, fs := y.2.fs, hd := y.2.hd, out := y.2.out, bare := fun p hp => k _ _ (y.2.bare p hp) }⟩
abbrev lvl : Nat := 6
abbrev hkY : W.Hook := hookY lvl
def eyeY (s : W.SharedT) : AlY := obY lvl (HandSHeadRun.getT s)
theorem eyeY_eq (s : W.SharedT) : eyeY s = hkY.obs s.abs := by
  have e : HandSHeadRun.getT s = s.abs.heap.get? := funext fun a => HandSHeadRun.getT_eq s a
  show obY lvl (HandSHeadRun.getT s) = obY lvl s.abs.heap.get?
  rw [e]
/-! ### all together -/
abbrev TtOf (K : W.Frag) : List (Addr × Str) := [((He.cT K rrD).2, "_law_read_right.<locals>.<lambda>"), ((He.cT K lwD).2, "law.<locals>.<lambda>")]
section
variable {P : Program} {w : World} {K : W.Frag} {h : Heap} {mg : Str → Option Value} {f : Addr}
theorem bt_of (X : K.In h) (G : h.Ns mainGlobals mg) (c : SaysY w h K) : Bt mg where
  KeyError := He.free_ok X G (c.d.fact 24 rfl)
  NotImplemented := He.free_ok X G (c.d.fact 25 rfl)
  OverflowError := He.free_ok X G (c.d.fact 26 rfl)
  ValueError := He.free_ok X G (c.d.fact 27 rfl)
  abs := He.free_ok X G (c.d.fact 28 rfl)
  all := He.free_ok X G (c.d.fact 29 rfl)
  bool := He.free_ok X G (c.d.fact 30 rfl)
  classmethod := He.free_ok X G (c.d.fact 31 rfl)
  int := He.free_ok X G (c.d.fact 32 rfl)
  isinstance := He.free_ok X G (c.d.fact 33 rfl)
  len := He.free_ok X G (c.d.fact 34 rfl)
  list := He.free_ok X G (c.d.fact 35 rfl)
  max := He.free_ok X G (c.d.fact 36 rfl)
  min := He.free_ok X G (c.d.fact 37 rfl)
  property := He.free_ok X G (c.d.fact 38 rfl)
  range := He.free_ok X G (c.d.fact 39 rfl)
  repr := He.free_ok X G (c.d.fact 40 rfl)
  str := He.free_ok X G (c.d.fact 41 rfl)
  zip := He.free_ok X G (c.d.fact 42 rfl)
theorem glo_at (X : K.In h) (G : h.Ns mainGlobals mg) (c : He.SaysD faZ fnZ K) (i : Nat) {x : Str} (e : faZ[i]? = some (.glo x)) : mg x = some (.ref (He.ga K x)) := He.glo_ok X G (c.fact i e)
theorem facts (X : K.In h) (G : h.Ns mainGlobals mg) (hfa : mg "law" = some (.ref f)) (c : SaysY w h K) :
    ∃ fd : FuncData, (∀ (s : Shared) (v : Value), BindsTo s fd ⟨[v], []⟩ [("_law_script", v)]) ∧ ∀ base : Heap, K.In base → base.Ns mainGlobals mg → (∀ p ∈ tfZ.map (He.cT K), TabB base mg p.1 p.2) → FnG P w K mg base CX0 9 f fd ["_law_script"] (spLaw K (TtOf K)) := by
  obtain ⟨dis_integer, Fis_integer⟩ := c.t.d.def_ 0 (d := tD "is_integer" 1) rfl
  have bis_integer : Binds K dis_integer p_is_integer [] := Fis_integer.bindsN fun _ _ _ _ _ _ us hl => match us, hl with | [_, _, _], _ => rfl
  have mis_integer : mg "is_integer" = some (.ref (He.ga K "is_integer")) := glo_at X G c.t.d 9 rfl
  obtain ⟨dnumber_of, Fnumber_of⟩ := c.t.d.def_ 1 (d := tD "number_of" 12) rfl
  have bnumber_of : Binds K dnumber_of p_number_of [] := Fnumber_of.bindsN fun _ _ _ _ _ _ us hl => match us, hl with | [_, _, _], _ => rfl
  have mnumber_of : mg "number_of" = some (.ref (He.ga K "number_of")) := glo_at X G c.t.d 10 rfl
  obtain ⟨dranks, Franks⟩ := c.t.d.def_ 2 (d := tD "_ranks" 18) rfl
  have branks : Binds K dranks p_ranks [] := Franks.bindsN fun _ _ _ _ _ _ us hl => match us, hl with | [_], _ => rfl
  have mranks : mg "_ranks" = some (.ref (He.ga K "_ranks")) := glo_at X G c.t.d 11 rfl
  obtain ⟨dkind_of_words, Fkind_of_words⟩ := c.t.d.def_ 3 (d := tD "kind_of_words" 20) rfl
  have bkind_of_words : Binds K dkind_of_words p_kind_of_words [] := Fkind_of_words.bindsN fun _ _ _ _ _ _ us hl => match us, hl with | [_, _, _], _ => rfl
  have mkind_of_words : mg "kind_of_words" = some (.ref (He.ga K "kind_of_words")) := glo_at X G c.t.d 12 rfl
  obtain ⟨dl_begin, Fl_begin⟩ := c.t.d.def_ 4 (d := tD "_law_begin" 22) rfl
  have bl_begin : Binds K dl_begin p_law_begin [] := Fl_begin.bindsN fun _ _ _ _ _ _ us hl => match us, hl with | [_], _ => rfl
  have ml_begin : mg "_law_begin" = some (.ref (He.ga K "_law_begin")) := glo_at X G c.t.d 13 rfl
  obtain ⟨dl_take, Fl_take⟩ := c.t.d.def_ 5 (d := tD "_law_take" 23) rfl
  have bl_take : Binds K dl_take p_law_take [] := Fl_take.bindsN fun _ _ _ _ _ _ us hl => match us, hl with | [_, _], _ => rfl
  have ml_take : mg "_law_take" = some (.ref (He.ga K "_law_take")) := glo_at X G c.t.d 14 rfl
  obtain ⟨dl_words, Fl_words⟩ := c.t.d.def_ 6 (d := tD "_law_words" 24) rfl
  have bl_words : Binds K dl_words p_law_words [] := Fl_words.bindsN fun _ _ _ _ _ _ us hl => match us, hl with | [_], _ => rfl
  have ml_words : mg "_law_words" = some (.ref (He.ga K "_law_words")) := glo_at X G c.t.d 15 rfl
  obtain ⟨dl_other, Fl_other⟩ := c.t.d.def_ 7 (d := tD "_law_other" 25) rfl
  have bl_other : Binds K dl_other p_law_other [] := Fl_other.bindsN fun _ _ _ _ _ _ us hl => match us, hl with | [_], _ => rfl
  have ml_other : mg "_law_other" = some (.ref (He.ga K "_law_other")) := glo_at X G c.t.d 16 rfl
  obtain ⟨dl_bent, Fl_bent⟩ := c.t.d.def_ 8 (d := tD "_law_bent" 26) rfl
  have bl_bent : Binds K dl_bent p_law_bent [] := Fl_bent.bindsN fun _ _ _ _ _ _ us hl => match us, hl with | [_, _], _ => rfl
  have ml_bent : mg "_law_bent" = some (.ref (He.ga K "_law_bent")) := glo_at X G c.t.d 17 rfl
  obtain ⟨dl_is_rest, Fl_is_rest⟩ := c.t.d.def_ 9 (d := tD "_law_is_rest" 27) rfl
  have bl_is_rest : Binds K dl_is_rest p_law_is_rest [] := Fl_is_rest.bindsN fun _ _ _ _ _ _ us hl => match us, hl with | [_], _ => rfl
  have ml_is_rest : mg "_law_is_rest" = some (.ref (He.ga K "_law_is_rest")) := glo_at X G c.t.d 18 rfl
  obtain ⟨dl_due, Fl_due⟩ := c.t.d.def_ 10 (d := tD "_law_due" 28) rfl
  have bl_due : Binds K dl_due p_law_due [] := Fl_due.bindsN fun _ _ _ _ _ _ us hl => match us, hl with | [_], _ => rfl
  have ml_due : mg "_law_due" = some (.ref (He.ga K "_law_due")) := glo_at X G c.t.d 19 rfl
  obtain ⟨dl_told, Fl_told⟩ := c.t.d.def_ 11 (d := tD "_law_told" 29) rfl
  have bl_told : Binds K dl_told p_law_told [] := Fl_told.bindsN fun _ _ _ _ _ _ us hl => match us, hl with | [_], _ => rfl
  have ml_told : mg "_law_told" = some (.ref (He.ga K "_law_told")) := glo_at X G c.t.d 20 rfl
  obtain ⟨dl_read_right, Fl_read_right⟩ := c.t.d.def_ 12 (d := tD "_law_read_right" 30) rfl
  have bl_read_right : Binds K dl_read_right p_law_read_right [] := Fl_read_right.bindsN fun _ _ _ _ _ _ us hl => match us, hl with | [_], _ => rfl
  have ml_read_right : mg "_law_read_right" = some (.ref (He.ga K "_law_read_right")) := glo_at X G c.t.d 21 rfl
  obtain ⟨dl_shown_right, Fl_shown_right⟩ := c.t.d.def_ 13 (d := tD "_law_shown_right" 31) rfl
  have bl_shown_right : Binds K dl_shown_right p_law_shown_right [] := Fl_shown_right.bindsN fun _ _ _ _ _ _ us hl => match us, hl with | [_], _ => rfl
  have ml_shown_right : mg "_law_shown_right" = some (.ref (He.ga K "_law_shown_right")) := glo_at X G c.t.d 22 rfl
  obtain ⟨dlaw, Flaw⟩ := c.t.d.def_ 14 (d := tD "law" 32) rfl
  have blaw : Binds K dlaw p_law [] := Flaw.bindsN fun _ _ _ _ _ _ us hl => match us, hl with | [_], _ => rfl
  have mlaw : mg "law" = some (.ref (He.ga K "law")) := glo_at X G c.t.d 23 rfl
  obtain ⟨dinit, Finit⟩ := c.t.d.def_ 15 (d := mD "Kind" "__init__" s_Kind_init [("turns", .bl false), ("rests", .non)]) rfl
  obtain ⟨dstr, Fstr⟩ := c.t.d.def_ 16 (d := mD "Kind" "__str__" s_Kind_str []) rfl
  have bstr : Binds K dstr ["self"] [] := Fstr.bindsN fun _ _ _ _ _ _ us hl => match us, hl with | [_], _ => rfl
  obtain ⟨drepr, Frepr⟩ := c.t.d.def_ 17 (d := mD "Kind" "__repr__" s_Kind_repr []) rfl
  have brepr : Binds K drepr ["self"] [] := Frepr.bindsN fun _ _ _ _ _ _ us hl => match us, hl with | [_], _ => rfl
  obtain ⟨deq, Feq⟩ := c.t.d.def_ 18 (d := mD "Kind" "__eq__" s_Kind_eq []) rfl
  have beq : Binds K deq ["self", "other"] [] := Feq.bindsN fun _ _ _ _ _ _ us hl => match us, hl with | [_, _], _ => rfl
  obtain ⟨dxi, Fxi⟩ := c.t.d.def_ 19 (d := mD "InvalidText" "__init__" s_InvalidText_init []) rfl
  have bxi : Binds K dxi ["self", "line", "word"] [] := Fxi.bindsN fun _ _ _ _ _ _ us hl => match us, hl with | [_, _, _], _ => rfl
  cases hfa.symm.trans mlaw
  have bl := FunD.bindsA (ps := ["_law_script"]) Flaw fun _ _ _ _ _ _ us hl => match us, hl with | [_], _ => rfl
  refine ⟨dlaw, fun s v => bl s [v] rfl, fun base KB NB hTB => ?_⟩
  have B := bt_of X G c
  have q := c.more
  have sys : SysD K := sysB_ok (bit q 0 rfl)
  obtain ⟨t1, c1⟩ := He.int_ok X G (c.d.fact 43 rfl)
  obtain ⟨t2, c2⟩ := He.int_ok X G (c.d.fact 44 rfl)
  obtain ⟨t3, c3⟩ := He.str_ok X G (c.d.fact 45 rfl)
  have T : KF K mg (KA K) (.type "type") (kA K "LENDS") (kA K "LETS") := ⟨glo_at X G c.d 0 rfl, He.cls_ok (c.d.fact 46 rfl), He.noat_ok (c.d.fact 47 rfl), He.noat_ok (c.d.fact 48 rfl), He.noat_ok (c.d.fact 49 rfl),
    He.noat_ok (c.d.fact 50 rfl), crB_ok (bit q 10 rfl), cvB_ok (bit q 6 rfl), cvB_ok (bit q 7 rfl), fun H => tpB_ok (bit q 8 rfl) H, fun H => tpB_ok (bit q 9 rfl) H, He.keep_ok (c.d.fact 52 rfl)⟩
  -- the package's functions
  have Di : Fn0 P w K mg base "is_integer" 1 _ dis_integer p_is_integer spInt := ⟨ok_is_integer B Fis_integer, mis_integer, Fis_integer.kp, bis_integer⟩
  have Dn : Fn0 P w K mg base "number_of" 1 _ dnumber_of p_number_of spNum := ⟨ok_number_of B c3 Fnumber_of, mnumber_of, Fnumber_of.kp, bnumber_of⟩
  have okI : FnOk P w K mg base CX0 2 (kA K "__init__") dinit ["self", "lends", "lets", "turns", "rests"] (spInit (KA K)) := ok_init B T c1 c2 Di Finit
  obtain ⟨mv, kb⟩ := FunD.kbinds0 (ps := ["self", "lends", "lets", "turns", "rests"]) Finit 3 ["turns", "rests"] [] (fun {_} us _ ws => us ++ ws) (by intro z; cases z) (fun _ hq => by cases hq) (fun r1 _ r2 => r1.append r2) (fun D doc pm an cdv ct us mv ws l1 l2 l3 => by
    match us, l1, mv, l2, ws, l3 with
    | [_, _, _], _, [], _, [_, _], _ => exact rfl)
  have M : KM P w K mg base (KA K) (kA K "__init__") dinit _ _ := ⟨He.mkr_ok (c.d.fact 51 rfl), okI, kb, fun _ _ _ _ _ => rfl⟩
  obtain ⟨ec, ety, eno, eno2⟩ := ecB_ok (bit q 13 rfl)
  have XE : XT P w K mg base (XA K) (XI K) dxi := ⟨ec, ety, glo_at X G c.d 5 rfl, ok_xi Fxi ec eno eno2, bxi, eno, eno2⟩
  have okW : FnOk P w K mg base (L2.CX P w) 4 _ dkind_of_words p_kind_of_words (spWords (KA K) (XA K)) := ok_words B T XE M c1 c2 Dn Fkind_of_words
  have getD : ∀ (i : Nat) {d : DefA}, fnY[i]? = some d → ∃ fd, FunD K d.name d.qual (defArgs d.st) (defBody d.st) (defScope d.st) [] [] (d.at_ K) fd := fun i {d} e => by
    have z : (fnY.map fun d => fnA K (d.at_ K))[i]? = (fnY.map DefA.want)[i]? := by rw [c.fs]
    rw [List.getElem?_map, List.getElem?_map, e] at z
    exact fnA_ok (Option.some.inj z) (List.all_eq_true.mp (bit q 16 rfl) d (List.mem_of_getElem? e))
  obtain ⟨dg0, Fg0⟩ := getD 0 rfl
  obtain ⟨dg1, Fg1⟩ := getD 1 rfl
  obtain ⟨dg2, Fg2⟩ := getD 2 rfl
  obtain ⟨dg3, Fg3⟩ := getD 3 rfl
  obtain ⟨dg4, Fg4⟩ := getD 4 rfl
  have pL : KP P w K mg base (KA K) "lends" fun k => .str k.le := ⟨_, _, dg0, prB_ok (bit q 1 rfl), ok_lends T Fg0, Fg0.bindsN fun _ _ _ _ _ _ us hl => match us, hl with | [_], _ => rfl⟩
  have pT : KP P w K mg base (KA K) "lets" fun k => .str k.lt := ⟨_, _, dg1, prB_ok (bit q 2 rfl), ok_lets T Fg1, Fg1.bindsN fun _ _ _ _ _ _ us hl => match us, hl with | [_], _ => rfl⟩
  have pU : KP P w K mg base (KA K) "turns" fun k => .bl k.tu := ⟨_, _, dg2, prB_ok (bit q 3 rfl), ok_turns T Fg2, Fg2.bindsN fun _ _ _ _ _ _ us hl => match us, hl with | [_], _ => rfl⟩
  have pQ : KP P w K mg base (KA K) "rests" fun k => optV k.re := ⟨_, _, dg3, prB_ok (bit q 4 rfl), ok_rests T Fg3, Fg3.bindsN fun _ _ _ _ _ _ us hl => match us, hl with | [_], _ => rfl⟩
  have okR : FnOk P w K mg base (L2.CX P w) 5 (cmA K "read") dg4 ["cls", "text"] (spRead K (KA K) (XA K)) := ok_read B XE okW mkind_of_words Fkind_of_words.kp bkind_of_words Fg4
  have R : RF P w K mg base (KA K) (XA K) (.type "type") (kA K "read") (cmA K "read") dg4 := ⟨cmB_ok (bit q 5 rfl), okR, (Fg4.bindsN fun _ _ _ _ _ _ us hl => match us, hl with | [_, _], _ => rfl), by
    obtain ⟨oc, od, dV, kV, doc, pm, an, cdv, ct, osl, rfl, lk, hcd, hD, hK⟩ := Fg4.ex
    rcases hD with ⟨_, rfl⟩ | ⟨z, _⟩
    · exact ⟨fun s a ws _ hl => match ws, hl with | [_], _ => .of_eq rfl, fun r => r⟩
    · exact absurd rfl z⟩
  obtain ⟨es, n, kd⟩ := c.t.tab 0 rfl
  have L : LO w K mg (He.ga K "LOOSE") es n := ⟨glo_at X G c.d 8 rfl, kd, fun x hx => by
    have v := bit q 14 rfl
    simp only [List.mem_cons, List.not_mem_nil, or_false] at hx
    rcases hx with rfl | rfl | rfl | rfl
    · obtain ⟨u, e, t, rfl⟩ := He.valsB_ok v (q := ("both", .int 0)) (by simp)
      exact ⟨t, e⟩
    · obtain ⟨u, e, t, rfl⟩ := He.valsB_ok v (q := ("far", .int 1)) (by simp)
      exact ⟨t, e⟩
    · obtain ⟨u, e, t, rfl⟩ := He.valsB_ok v (q := ("one", .int 2)) (by simp)
      exact ⟨t, e⟩
    · obtain ⟨u, e, t, rfl⟩ := He.valsB_ok v (q := ("any", .int 2)) (by simp)
      exact ⟨t, e⟩⟩
  have Dr : Fn0 P w K mg base "_ranks" 3 _ dranks p_ranks (spRanks (KA K)) := ⟨ok_ranks B T L c2 pL pT pU pQ Franks, mranks, Franks.kp, branks⟩
  obtain ⟨i1, i2⟩ := He.ba (bit q 11 (b := inB K) rfl)
  obtain ⟨i3, i4⟩ := He.ba i2
  have IC : C8.InsC K (KA K) := ⟨T.cl, He.eqO_ok i1, ec.gs, ec.tk, of_decide_eq_true i3, of_decide_eq_true i4⟩
  obtain ⟨s1, s2, s3⟩ := He.meth_ok (c.d.fact 53 rfl)
  obtain ⟨r1, r2, r3⟩ := He.meth_ok (c.d.fact 54 rfl)
  obtain ⟨e1, e2, e3⟩ := He.meth_ok (c.d.fact 55 rfl)
  have okS : FnOk P w K mg base CX0 1 (kA K "__str__") dstr ["self"] (spText (KA K) Kd.text) := ok_str B T Fstr
  have S : KS P w K mg base (KA K) (kA K "__str__") (kA K "__repr__") (kA K "__eq__") dstr drepr deq := ⟨okS, s1, s2, bstr, ok_repr B okS s1 s2 bstr Frepr, r1, r2, brepr, ok_eq B T IC Dr Feq, e1, e2, beq⟩
  obtain ⟨f1, f⟩ := He.ba (bit q 12 (b := tfB K) rfl)
  obtain ⟨f2, f⟩ := He.ba f
  obtain ⟨f3, f4⟩ := He.ba f
  have Z : TF K mg (XA K) (He.ga K "MeetError") (He.ga K "NoStation") (He.ga K "TooMany") (He.ga K "Clash") (He.ga K "InvalidKind") (He.ga K "InvalidPart") := ⟨glo_at X G c.d 1 rfl, glo_at X G c.d 6 rfl, glo_at X G c.d 7 rfl, glo_at X G c.d 4 rfl,
    glo_at X G c.d 2 rfl, glo_at X G c.d 3 rfl, of_decide_eq_true f1, of_decide_eq_true f2, of_decide_eq_true f3, of_decide_eq_true f4⟩
  -- the law's own functions
  have D : TD K mg (He.ga K "_law_told") dl_told := ⟨Fl_told, ml_told, bl_told⟩
  have DB : Fn0 P w K mg base "_law_begin" 1 _ dl_begin p_law_begin (spBegin K) := ⟨ok_begin B Fl_begin, ml_begin, Fl_begin.kp, bl_begin⟩
  have DT : Fn0 P w K mg base "_law_take" 1 _ dl_take p_law_take spTake := ⟨ok_take B Fl_take, ml_take, Fl_take.kp, bl_take⟩
  have DW : Fn0 P w K mg base "_law_words" 2 _ dl_words p_law_words spWL := ⟨ok_wordL B DT Fl_words, ml_words, Fl_words.kp, bl_words⟩
  have DO : Fn0 P w K mg base "_law_other" 2 _ dl_other p_law_other spOther := ⟨ok_other B DT Fl_other, ml_other, Fl_other.kp, bl_other⟩
  have DN : Fn0 P w K mg base "_law_bent" 3 _ dl_bent p_law_bent spBent := ⟨ok_bent B DT DO Fl_bent, ml_bent, Fl_bent.kp, bl_bent⟩
  have DI : Fn0 P w K mg base "_law_is_rest" 1 _ dl_is_rest p_law_is_rest spIsRest := ⟨ok_is_rest B Fl_is_rest, ml_is_rest, Fl_is_rest.kp, bl_is_rest⟩
  have DU : FnOk P w K mg base CX0 3 (He.ga K "_law_due") dl_due ["_law_shown"] spDue := ok_due B DI Fl_due
  have dist : (He.cT K rrD).2 ≠ (He.cT K lwD).2 := of_decide_eq_true (bit q 15 rfl)
  have DS : FgD P w K mg base "_law_shown_right" 8 (He.ga K "_law_shown_right") dl_shown_right p_law_shown_right spShown := by
    have kp := Fl_shown_right.kp
    obtain ⟨oc, od, dV, kV, doc, pm, an, cdv, ct, osl, rfl, lk, hcd, _, _⟩ := Fl_shown_right.ex
    exact ⟨ok_shown B T R M S sys DU ml_due Fl_due.kp bl_due lk hcd, ml_shown_right, kp, bl_shown_right⟩
  have DR : FgD P w K mg base "_law_read_right" 8 (He.ga K "_law_read_right") dl_read_right p_law_read_right (spRR (TtOf K)) := by
    have kp := Fl_read_right.kp
    obtain ⟨oc, od, dV, kV, doc, pm, an, cdv, ct, osl, rfl, lk, hcd, _, _⟩ := Fl_read_right.ex
    obtain ⟨cc, rfl⟩ := He.codeIn_ref hcd
    have ce : He.codeOf K rrD = cc := He.codeOf_eq lk rfl
    have tb := hTB (He.cT K rrD) (List.mem_map.mpr ⟨rrD, by simp, rfl⟩)
    rw [show (He.cT K rrD).1 = cc from ce] at tb
    exact ⟨ok_read_right B T XE Z R D pL pT pU pQ sys (fun t hl ho => due_ok hl ho) DU ml_due Fl_due.kp bl_due tb (by simp) (fun p hp e => by
      simp only [List.mem_cons, List.not_mem_nil, or_false] at hp
      rcases hp with rfl | rfl
      · rfl
      · exact absurd e.symm dist) lk hcd, ml_read_right, kp, bl_read_right⟩
  obtain ⟨oc, od, dV, kV, doc, pm, an, cdv, ct, osl, rfl, lk, hcd, _, _⟩ := Flaw.ex
  obtain ⟨cc, rfl⟩ := He.codeIn_ref hcd
  have ce : He.codeOf K lwD = cc := He.codeOf_eq lk rfl
  have tb := hTB (He.cT K lwD) (List.mem_map.mpr ⟨lwD, by simp, rfl⟩)
  rw [show (He.cT K lwD).1 = cc from ce] at tb
  exact ok_law B T XE Z R D pL pT pU pQ DB DT DW DN DR DS tb (by simp) (fun p hp e => by
    simp only [List.mem_cons, List.not_mem_nil, or_false] at hp
    rcases hp with rfl | rfl
    · exact absurd e dist
    · rfl) lk hcd
end
end L2.M3
set_option maxRecDepth 100000
set_option maxHeartbeats 0
namespace L2.M3
open PySem PySem.Spec PyProof.Rows Mx Evl
abbrev RY : W.OpenRow := W.OpenLaw.row PySem.Challenge.rw_meetbehind_k03_kinds_as_texts
abbrev looseY : List Str := ["is_integer", "MeetError", "InvalidKind", "InvalidPart", "Clash", "InvalidText", "NoStation", "TooMany", "DIGITS", "number_of", "LEAST_REST", "MOST_REST", "LOOSE", "Kind", "_ranks", "_kind_of_ranks", "kind_of_words", "_law_begin", "_law_take", "_law_words", "_law_other", "_law_bent", "_law_is_rest", "_law_due", "_law_told", "_law_read_right", "_law_shown_right"]
theorem run_f (w : World) : HandSHeadRun.RunEq RY (W.view RY.prog [32]) hkY eyeY 8000 looseY (w.withFollow "special-get-raises" false) := by
  intro os
  kernel_rfl
theorem run_t (w : World) : HandSHeadRun.RunEq RY (W.view RY.prog [32]) hkY eyeY 8000 looseY (w.withFollow "special-get-raises" true) := by
  intro os
  kernel_rfl
end L2.M3
set_option maxRecDepth 100000
set_option maxHeartbeats 0
namespace L2.M3
open PySem PySem.Spec PyProof.Rows L2 Mx L2.Mb Evl Mv TL LamX
theorem run (w : World) : HandSHeadRun.RunEq RY (W.view RY.prog [32]) hkY eyeY 8000 looseY w := W.byRow2 "special-get-raises" (P := fun w => HandSHeadRun.RunEq RY (W.view RY.prog [32]) hkY eyeY 8000 looseY w) run_f run_t w
theorem law_at {P : Program} {w : World} {mg : Str → Option Value} {h : Heap} {f : Addr} (Y : hkY.says w h) (G : h.Ns mainGlobals mg) (hmg : mg "law" = some (.ref f)) :
    ∃ (K : W.Frag) (fd : FuncData) (sp : Sp) (cs : List (Addr × Addr)), K.In h ∧ (∀ p ∈ cs, Bare h p.2) ∧ (∀ p ∈ cs, K.lookup p.2 = none) ∧ (∀ p ∈ cs, W.CodeHd h p.1 p.2) ∧ (∀ (s : Shared) (u : Value), BindsTo s fd ⟨[u], []⟩ [("_law_script", u)]) ∧
      (∀ (H : Hp) (a : Addr) (ns : List Int), ns.length ≤ 63 → (∀ p ∈ cs, H p.2 = some (.tbl #[])) → SqL K H a (ns.map V.int) → sp [.ref a] H (fun v _ => v = .bl true) fun _ _ _ => False) ∧
      ∀ base : Heap, K.In base → base.Ns mainGlobals mg → (∀ p ∈ cs, TabB base mg p.1 p.2) → FnG P w K mg base CX0 9 f fd ["_law_script"] sp := by
  obtain ⟨K, KX, c⟩ := Y
  obtain ⟨fd, hb, hF⟩ := facts (P := P) (w := w) KX G hmg c
  refine ⟨K, fd, spLaw K (TtOf K), tfZ.map (He.cT K), KX, fun p hp => ?_, fun p hp => ?_, fun p hp => ?_, hb, fun H a ns hl hT hS => ⟨a, ns, rfl, hS, hl, fun p hp => ?_, fun _ => rfl⟩, hF⟩
  · obtain ⟨d, hd, rfl⟩ := List.mem_map.mp hp
    exact c.bare d hd
  · obtain ⟨d, hd, rfl⟩ := List.mem_map.mp hp
    exact c.out d hd
  · obtain ⟨d, hd, rfl⟩ := List.mem_map.mp hp
    exact W.codeHd_of_K KX (c.hd d hd)
  · simp only [List.mem_cons, List.not_mem_nil, or_false] at hp
    rcases hp with rfl | rfl
    · exact TabS.nil (hT _ (List.mem_map.mpr ⟨rrD, by simp, rfl⟩))
    · exact TabS.nil (hT _ (List.mem_map.mpr ⟨lwD, by simp, rfl⟩))
end L2.M3
open PySem PySem.W PySem.Calls PyProof.Rows
theorem PySem.Challenge.cw_meetbehind_k03_kinds_as_texts_holds : PySem.Challenge.rw_meetbehind_k03_kinds_as_texts.Holds := by
  w_on; o_law
  refine HandSHeadRun.head_any (r := L2.M3.RY) (q := view L2.M3.RY.prog [32]) (H := L2.M3.hkY) (ob := L2.M3.eyeY) (M := 8000) (loose := L2.M3.looseY) (d := HandSHeadRun.topDef L2.M3.RY.prog 32) (kwd := []) L2.M3.eyeY_eq
    (by kernel_rfl) (fun s => by kernel_rfl) L2.M3.run (by kernel_rfl) (by kernel_rfl) (by kernel_rfl) (by rfl) (by first | assumption | decide +kernel) (by decide +kernel) ⟨rfl, rfl, rfl, rfl, rfl, by decide +kernel⟩ ?hw ?hc
  case hw => w_witness2
  case hc =>
    refine L2.Mb.walkT (l := PySem.Challenge.rw_meetbehind_k03_kinds_as_texts) (n := 63) (k := 9) (x := "_law_script") (CX := L2.CX0) rfl (by decide) (by kernel_rfl) ⟨rfl, by decide, by decide⟩ ?F (fun _ _ _ _ z => z)
    intro w mg fa h Y G hmg0
    have hmg : mg ("law" : PySem.Str) = some (.ref fa) := by
      have e : (HandSHeadRun.topDef (OpenLaw.row PySem.Challenge.rw_meetbehind_k03_kinds_as_texts).prog 32).name = ("law" : PySem.Str) := by kernel_rfl
      rw [← e]
      exact hmg0
    exact L2.M3.law_at (P := (PySem.Challenge.rw_meetbehind_k03_kinds_as_texts).prog) Y G hmg
