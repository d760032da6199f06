import PyProof.Rows.All
import Wide.All
import OpenK.AllK
import Wide.FinOn
import HandS.ForExc
import HandS.ExcInit
import HandS.ExcIs
import KE.KExcIs
import HandS.Defaults
import HandS.IsInst
import HandS.MakeKwOnly
import HandS.HeadEnd
import HandS.Dict
import HandS.ForMost
import HandS.HeadHook2
import PySem.Challenge.RW_meetbehind_k26_errors_of_all_classes
import HandS.Evl
import PyProof.ReprLen
import HandS.Head0
import HandS.Head1
import HandS.Head2
import HandS.HeadHook1
set_option Elab.async false
set_option linter.all false
set_option maxRecDepth 100000
set_option maxHeartbeats 4000000
namespace Mx
open PySem PySem.Spec PyProof.Rows PySem.F

/-! exception bases -/
/-- the built-in classes over which the package's errors stand -/
inductive EB where | val | key | ind | look | run | over
  deriving DecidableEq
/-- the class whose maker serves -/
def EB.nm : EB → String
  | .val => "ValueError" | .key => "LookupError" | .ind => "IndexError" | .look => "LookupError"
  | .run => "RuntimeError" | .over => "OverflowError"
def EB.new : EB → String
  | .val => "ValueError.__new__" | .key => "LookupError.__new__" | .ind => "IndexError.__new__"
  | .look => "LookupError.__new__" | .run => "RuntimeError.__new__" | .over => "OverflowError.__new__"
def EB.ini : EB → String
  | .val => "ValueError.__init__" | .key => "LookupError.__init__" | .ind => "IndexError.__init__"
  | .look => "LookupError.__init__" | .run => "RuntimeError.__init__" | .over => "OverflowError.__init__"
def EB.names : EB → List String
  | .val => ["ValueError", "Exception", "BaseException", "object"]
  | .key => ["KeyError", "LookupError", "Exception", "BaseException", "object"]
  | .ind => ["IndexError", "LookupError", "Exception", "BaseException", "object"]
  | .look => ["LookupError", "Exception", "BaseException", "object"]
  | .run => ["RuntimeError", "Exception", "BaseException", "object"]
  | .over => ["OverflowError", "ArithmeticError", "Exception", "BaseException", "object"]
def EB.tl (b : EB) : List Value := b.names.map Value.type
def EB.mk : EB → EB
  | .key => .look
  | b => b
theorem EB.facts : ∀ b : EB, ExcBaseFacts b.nm b.new b.ini b.mk.tl
  | .val => excBase_ValueError
  | .key => excBase_LookupError
  | .ind => excBase_IndexError
  | .look => excBase_LookupError
  | .run => excBase_RuntimeError
  | .over => excBase_OverflowError
theorem EB.pass (self : Value) : ∀ b : EB, refuseLoop self "__setattr__" b.tl = pure ()
  | .val => by kernel_rfl
  | .key => by kernel_rfl
  | .ind => by kernel_rfl
  | .look => by kernel_rfl
  | .run => by kernel_rfl
  | .over => by kernel_rfl
theorem EB.obj (b : EB) : b.tl.contains (.type "object") = true := by cases b <;> decide +kernel
theorem EB.hasB (b : EB) : b.tl.contains (.type b.nm) = true := by cases b <;> decide +kernel
theorem EB.noA (b : EB) : b.tl.contains (.type "AttributeError") = false := by cases b <;> decide +kernel
theorem EB.noN (b : EB) : b.tl.contains (.type "NameError") = false := by cases b <;> decide +kernel
theorem EB.bas (b : EB) : b.tl.contains (.type "BaseException") = true := by cases b <;> decide +kernel
/-- own classes, then the built-in ones -/
def own (b : EB) : List Value → Bool
  | .ref _ :: r => own b r
  | l => l == b.tl
theorem own_cases {b : EB} {l : List Value} (h : own b l = true) : (∃ c r, l = .ref c :: r ∧ own b r = true) ∨ l = b.tl := by
  unfold own at h
  split at h
  · exact .inl ⟨_, _, rfl, h⟩
  · exact .inr (eq_of_beq h)
theorem own_has {b : EB} (X : String) : ∀ l : List Value, own b l = true → l.contains (.type X) = b.tl.contains (.type X)
  | [], h => by
    rcases own_cases h with ⟨c, r, e, _⟩ | e
    · cases e
    · rw [e]
  | a :: l, h => by
    rcases own_cases h with ⟨c, r, e, k⟩ | e
    · obtain ⟨rfl, rfl⟩ := List.cons.inj e
      have ih := own_has X l k
      rw [List.contains_cons, ih]
      rfl
    · rw [e]
theorem own_pass {b : EB} (self : Value) : ∀ l : List Value, own b l = true → refuseLoop self "__setattr__" l = pure ()
  | [], h => by
    rcases own_cases h with ⟨c, r, e, _⟩ | e
    · cases e
    · rw [e]
      exact EB.pass self b
  | a :: l, h => by
    rcases own_cases h with ⟨c, r, e, k⟩ | e
    · obtain ⟨rfl, rfl⟩ := List.cons.inj e
      rw [refuseLoop_ref]
      exact own_pass self l k
    · rw [e]
      exact EB.pass self b
theorem own_ne {b : EB} {l : List Value} (h : own b l = true) : l.isEmpty = false := by
  cases l with
  | nil =>
    rcases own_cases h with ⟨c, r, e, _⟩ | e
    · cases e
    · cases b <;> cases e
  | cons => rfl
section
variable {M : Model} {A : Around} {E : Value → Shared → Prop} {hp : Heap} {gs : Array GenState} {dr : Drawn} {tk : Nat} {os : OsState}
variable {nm q : Str} {C N : Addr} {bs bm : List Value} {hdct : Bool} {sn : List Str} {sub : List Value} {ab : Bool} {col : Option Bool} {dd : Option Addr} {k0 k1 k2 k3 k5 : Option Value}
theorem chk_new {b : EB} (hb : own b bm = true) {rest : List Value} {kw : List (Str × Value)} {Q : Unit → Shared → Prop}
    (hC : hp.get? C = some (excClassObj nm q C N bs bm hdct sn sub ab col dd k0 k1 k2 k3 k5 b.new)) (hq : Q () ⟨hp, gs, dr, tk, os⟩) :
    wpAny M A (checkBuiltinCall b.new ⟨.ref C :: rest, kw⟩) Q E ⟨hp, gs, dr, tk, os⟩ := by
  have F := b.facts
  have mB : (Value.ref C :: bm).contains (.type b.nm) = true := by rw [List.contains_cons, own_has _ _ hb, b.hasB, Bool.or_true]
  have st := F.noStar
  simp only [checkBuiltinCall, F.newKind, F.newSplit, F.newRow]
  repeat (first
    | refine wpAny_loadPart_at hC ?_
    | (refine wpAny_isSubtype_exc hC ?_; rw [mB])
    | refine wpAny_staticBase_exc hC ?_
    | refine wpAny_madeBy_exc hC ?_
    | simp only [bne_self_eq_false, Bool.false_eq_true, if_false]
    | wp_step)
  exact hq
end
section
variable {prog : Program} {w : World} {A : Around} {E : Value → Shared → Prop} {R : Result → Shared → Prop} {hp : Heap} {gs : Array GenState} {dr : Drawn} {tk : Nat} {os : OsState}
variable {nm q : Str} {C N : Addr} {bs bm : List Value} {hdct : Bool} {sn : List Str} {sub : List Value} {ab : Bool} {col : Option Bool} {dd : Option Addr} {k0 k1 k2 k3 k5 : Option Value}
/-- an exception that is not yet set up -/
abbrev rawX (C t : Addr) : Obj := { cls := .ref C, data := .fields #[.ref t, .none, .none, .none, .bool false, .none] }
abbrev tupO (us : List Value) : Obj := { cls := .type "tuple", data := .seq us.toArray }
theorem run_new {b : EB} (hb : own b bm = true) {rest : List Value} {kw : List (Str × Value)} (hr : rest.length ≤ sizeLine)
    (hC : hp.get? C = some (excClassObj nm q C N bs bm hdct sn sub ab col dd k0 k1 k2 k3 k5 b.new))
    (hq : R (.ok (.ret (.ref (hp.objs.size + 1)))) ⟨(hp.push (tupO rest)).push (rawX C hp.objs.size), gs, dr, tk, os⟩) :
    codeAny (model prog w) A (.builtin b.new ⟨.ref C :: rest, kw⟩) R ⟨hp, gs, dr, tk, os⟩ := by
  have F := b.facts
  have fe := F.ends
  have m1 : (Value.ref C :: bm).contains (.type b.nm) = true := by rw [List.contains_cons, own_has _ _ hb, b.hasB, Bool.or_true]
  have m2 : (Value.ref C :: bm).contains (.type "AttributeError") = false := by rw [List.contains_cons, own_has _ _ hb, b.noA]; rfl
  have m3 : (Value.ref C :: bm).contains (.type "NameError") = false := by rw [List.contains_cons, own_has _ _ hb, b.noN]; rfl
  refine codeAny_builtinAt F.entry ?_
  unfold Builtin.«BaseException.__new__»
  refine PySem.wpAt_bind ?_
  show PySem.wpAt _ _ _ (stack >>= _) _ _ _
  refine PySem.wpAt_bind (PySem.wpAt_stack fun p1 p2 => PySem.wpAt_of_wpAny ?_)
  wp_walk
  refine PySem.wpAt_of_wpAny ?_
  rw [F.owner]
  repeat (first
    | with_reducible refine wpAny_madeHere_exc F.canon hC ?_
    | with_reducible refine wpAny_loadPart_at hC ?_
    | (with_reducible refine wpAny_isSubtype_exc hC ?_; first | rw [m1] | rw [m2] | rw [m3])
    | wp_step)
  show R _ _
  rw [Heap.size_push]
  exact hq
/-- what comes back from the setting up -/
def BackX (e : Addr) (R : Result → Shared → Prop) : Result → Shared → Prop := fun r s => match r with
  | .ok (.ret v) => v = .none ∧ R (.ok (.ret (.ref e))) s
  | .ok _ => False
  | .error x => R (.error x) s
theorem run_typecall {b : EB} (hb : own b bm = true) {rest : List Value} {kw : List (Str × Value)} (hr : rest.length ≤ sizeLine) {fI : Addr} {Q : Fin → Shared → Prop}
    (hC : hp.get? C = some (excClassObj nm q C N bs bm hdct sn sub ab col dd k0 k1 k2 k3 k5 b.new))
    (hi : W.Looks (model prog w) hp (typeLookup (.ref C) "__init__") (some (.ref fI)))
    (hbd : ∀ self, W.Looks (model prog w) hp (bindSpecial (.ref fI) self) (.ref fI, [self]))
    (hq : codeAny (model prog w) A (.call (.ref fI) ⟨.ref (hp.objs.size + 1) :: rest, kw⟩)
      (fun r s' => match r with
        | .ok (.ret v) => v = .none ∧ Q (.done (.ret (.ref (hp.objs.size + 1)))) s'
        | .ok _ => False
        | .error x => E x s') ⟨(hp.push (tupO rest)).push (rawX C hp.objs.size), gs, dr, tk, os⟩) :
    wpAny (model prog w) A (Builtin.«type.__call__» ⟨.ref C :: rest, kw⟩) Q E ⟨hp, gs, dr, tk, os⟩ := by
  have F := b.facts
  repeat (first
    | with_reducible refine wpAny_loadPart_at hC ?_
    | with_reducible refine wpAny_madeBy_exc hC ?_
    | wp_step)
  refine codeAny_call_builtin_code (Code.quiet_builtin _ F.quiet) (chk_new hb hC ?_)
  refine run_new hb hr hC ?_
  show wpAny _ _ _ _ _ _
  have kp : ∀ c o, hp.get? c = some o → ((hp.push (tupO rest)).push (rawX C hp.objs.size)).get? c = some o :=
    fun c o e => Heap.get?_push_of_some _ (Heap.get?_push_of_some _ e)
  have hC2 := kp _ _ hC
  have ge : ((hp.push (tupO rest)).push (rawX C hp.objs.size)).get? (hp.objs.size + 1) = some (rawX C hp.objs.size) := by heap_get
  have mC : (Value.ref C :: bm).contains (.ref C) = true := by simp
  have j1 := hi.keeps kp
  have j2 := (hbd (.ref (hp.objs.size + 1))).keeps kp
  unfold isInstance
  repeat (first
    | with_reducible refine wpAny_loadPart_at ge ?_
    | (with_reducible refine wpAny_isSubtype_exc hC2 ?_; rw [mC])
    | wp_step)
  show wpAny _ _ (typeLookup (.ref C) _) _ _ _
  refine j1.at ?_
  refine wpAny_holding (wpAny_bind (j2.at ?_))
  refine wpAny_bind (wpAny_call (codeAny_mono hq fun r s' z => ?_))
  rcases r with x | (v | _ | _ | _) <;> first | exact z | exact z.elim | skip
  obtain ⟨ev, z⟩ := z
  subst ev
  first
    | exact wpAny_pure (wpAny_pure z)
    | (wp_walk; exact z)
theorem run_class {b : EB} (hb : own b bm = true) {rest : List Value} {kw : List (Str × Value)} (hr : rest.length ≤ sizeLine) {fI : Addr}
    (hC : hp.get? C = some (excClassObj nm q C N bs bm hdct sn sub ab col dd k0 k1 k2 k3 k5 b.new))
    (hi : W.Looks (model prog w) hp (typeLookup (.ref C) "__init__") (some (.ref fI)))
    (hbd : ∀ self, W.Looks (model prog w) hp (bindSpecial (.ref fI) self) (.ref fI, [self]))
    (hty : W.Looks (model prog w) hp (isInstance (.ref C) (.type "type")) true)
    (hq : codeAny (model prog w) (A.under (.builtin "type.__call__" ⟨.ref C :: rest, kw⟩)) (.call (.ref fI) ⟨.ref (hp.objs.size + 1) :: rest, kw⟩) (BackX (hp.objs.size + 1) R)
      ⟨(hp.push (tupO rest)).push (rawX C hp.objs.size), gs, dr, tk, os⟩) :
    codeAny (model prog w) A (.call (.ref C) ⟨rest, kw⟩) R ⟨hp, gs, dr, tk, os⟩ := by
  have f1 := tc_lookup
  have f2 := tc_bind (.ref C)
  have hTy : (⟨hp, gs, dr, tk, os⟩ : Shared).TypeIs (.ref C) "type" := ⟨_, hC, rfl⟩
  refine codeAny_of_tree ?_
  show wpAny _ _ (callAny (.ref C) _) _ _ _
  repeat (any_goals (first | assumption | with_reducible refine wpAny_loadPart_at hC ?_ | wp_step))
  refine ⟨rfl, ?_⟩
  refine codeAny_call_builtin_at (Code.quiet_builtin _ (by decide +kernel)) entry_typeCall
    (W.check_slot tc_kind tc_split hty (W.tc_args _ _ _) (run_typecall hb hr hC hi hbd ?_))
  refine codeAny_mono hq fun r s' z => ?_
  rcases r with x | (v | _ | _ | _) <;> exact z
end

/-! ### self.f = v -/
section
open Builtin Builtin.ObjectAttr PySem.W
variable {prog : Program} {w : World} {A : Around} {E : Value → Shared → Prop} {R : Result → Shared → Prop} {hp : Heap} {gs : Array GenState} {dr : Drawn} {tk : Nat} {os : OsState}
/-- the first field: the exception's dict is laid -/
theorem put_first {b : EB} {K : Frag} {f : Str} {u : Tok} {v : Value} {x C : Addr} {fv : Array Value} {cd : ClassData} (X : K.In hp)
    (hx : hp.get? x = some { cls := .ref C, data := .fields fv }) (hcd : clsIn K C = some cd) (hm : own b cd.mro = true) (hh : cd.hasDict = true) (ha : findIn K (.ref C) f = some none)
    (hq : ∀ h' tk' dx, (∀ c o, c ≠ x → hp.get? c = some o → h'.get? c = some o) → hp.objs.size ≤ dx → dx ≠ x →
      h'.get? x = some { cls := .ref C, dict := some dx, data := .fields fv } → h'.Ns1 dx (fun y => if y = f then some v else none) → R (.ok (.ret .none)) ⟨h', gs, dr, tk', os⟩) :
    codeAny (model prog w) A (.call (.builtin "object.__setattr__") ⟨[.ref x, .str f u, v], []⟩) R ⟨hp, gs, dr, tk, os⟩ := by
  have SF := F.store_object
  have I : InstAt hp x { cls := .ref C, data := .fields fv } C none := ⟨hx, rfl, rfl, trivial⟩
  have isob : cd.mro.contains (.type "object") = true := (own_has "object" _ hm).trans b.obj
  have ns := own_ne hm
  have xz : x ≠ hp.objs.size := Nat.ne_of_lt (Heap.lt_size hx)
  have Ls : Looks (model prog w) hp (isInstance (.ref x) (.type "object")) true :=
    I.type.andThen (looks_mroIn X (by unfold mroIn; rw [hcd, Option.bind_some, if_neg (by rw [ns]; decide), isob]))
  refine codeAny_call_builtin SF.slot.plain SF.entry
    (@check_slot (model prog w) _ _ ⟨hp, gs, dr, tk, os⟩ "object.__setattr__" "object" "__setattr__" (.ref x) [.str f u, v] [] _ SF.kind SF.split Ls (SF.args (.ref x) (.str f u) v) ?_)
  have Lm : Looks (model prog w) hp (mroOf (.ref C)) cd.mro := (looks_clsIn X hcd).andThen .now
  have Lt : Looks (model prog w) hp (storeTaker? none) none := .now
  have Lc : Looks (model prog w) hp (classData C) cd := looks_clsIn X hcd
  rw [osa_eq, refuse_eq]
  refine wpAny_bind (wpAny_bind (I.type.at (wpAny_bind (Lm.at ?_))))
  rw [own_pass _ _ hm]
  refine wpAny_pure (wpAny_bind (I.type.at (wpAny_bind ((looks_findIn X ha).at (wpAny_bind (Lt.at ?_))))))
  show wpAny _ _ (storeInOwnDict (.ref x) (.ref C) (.str f u) f v false) _ _ _
  obtain ⟨c1, c2, c3, c4, c5, c6, c7, c8, c9, c10, c11⟩ := cd
  dsimp only at hh
  subst hh
  unfold storeInOwnDict ownDictForStores
  repeat (first
    | with_reducible refine HandSPX.store_in_new ?_ ?_
    | with_reducible refine wpAny_loadPart_at hx ?_
    | with_reducible refine Lc.at ?_
    | wp_step)
  · exact ⟨_, #[], _, (Heap.get?_update_ne _ _ _ _ xz.symm).trans (Heap.get?_push_at rfl rfl), rfl, fun e he => absurd he (by simp), fun _ => rfl⟩
  · intro h' tk' hn' hs
    have hx1 : (hp.push { cls := .type "dict", data := .dict #[] }).get? x = some { cls := .ref C, data := .fields fv } := Heap.get?_push_of_some _ hx
    refine hq h' tk' hp.objs.size (fun c o hc ho => ?_) (Nat.le_refl _) xz.symm ?_ hn'
    · exact (hs.2 c (Nat.ne_of_lt (Heap.lt_size ho))).trans ((Heap.get?_update_ne _ _ _ _ hc).trans (Heap.get?_push_of_some _ ho))
    · exact (hs.2 x xz).trans (Heap.get?_update_self _ hx1 rfl)
/-- a further field -/
theorem put_more {b : EB} {K : Frag} {f : Str} {u : Tok} {v : Value} {x C dx : Addr} {fv : Array Value} {cd : ClassData} {m0 : Str → Option Value} {nl : List Str} (X : K.In hp)
    (hx : hp.get? x = some { cls := .ref C, dict := some dx, data := .fields fv }) (hns : hp.Ns1 dx m0) (hw : Within m0 nl) (hz : nl.length ≤ 1000)
    (hcd : clsIn K C = some cd) (hm : own b cd.mro = true) (hh : cd.hasDict = true) (ha : findIn K (.ref C) f = some none)
    (hq : ∀ h' tk', (∀ c o, c ≠ dx → hp.get? c = some o → h'.get? c = some o) → h'.Ns1 dx (fun y => if y = f then some v else m0 y) → R (.ok (.ret .none)) ⟨h', gs, dr, tk', os⟩) :
    codeAny (model prog w) A (.call (.builtin "object.__setattr__") ⟨[.ref x, .str f u, v], []⟩) R ⟨hp, gs, dr, tk, os⟩ := by
  have SF := F.store_object
  obtain ⟨oD, esD, epD, hoD, hdD, _⟩ := hns.count hw
  have I : InstAt hp x { cls := .ref C, dict := some dx, data := .fields fv } C (some oD) := ⟨hx, rfl, rfl, hoD⟩
  have isob : cd.mro.contains (.type "object") = true := (own_has "object" _ hm).trans b.obj
  have ns := own_ne hm
  have Ls : Looks (model prog w) hp (isInstance (.ref x) (.type "object")) true :=
    I.type.andThen (looks_mroIn X (by unfold mroIn; rw [hcd, Option.bind_some, if_neg (by rw [ns]; decide), isob]))
  refine codeAny_call_builtin SF.slot.plain SF.entry
    (@check_slot (model prog w) _ _ ⟨hp, gs, dr, tk, os⟩ "object.__setattr__" "object" "__setattr__" (.ref x) [.str f u, v] [] _ SF.kind SF.split Ls (SF.args (.ref x) (.str f u) v) ?_)
  have Lm : Looks (model prog w) hp (mroOf (.ref C)) cd.mro := (looks_clsIn X hcd).andThen .now
  have Lt : Looks (model prog w) hp (storeTaker? none) none := .now
  have Lc : Looks (model prog w) hp (classData C) cd := looks_clsIn X hcd
  rw [osa_eq, refuse_eq]
  refine wpAny_bind (wpAny_bind (I.type.at (wpAny_bind (Lm.at ?_))))
  rw [own_pass _ _ hm]
  refine wpAny_pure (wpAny_bind (I.type.at (wpAny_bind ((looks_findIn X ha).at (wpAny_bind (Lt.at ?_))))))
  show wpAny _ _ (storeInOwnDict (.ref x) (.ref C) (.str f u) f v false) _ _ _
  obtain ⟨c1, c2, c3, c4, c5, c6, c7, c8, c9, c10, c11⟩ := cd
  dsimp only at hh
  subst hh
  unfold storeInOwnDict ownDictForStores
  repeat (first
    | with_reducible refine OEX.store_in_old hns hw hz ?_
    | with_reducible refine wpAny_loadPart_at hx ?_
    | with_reducible refine Lc.at ?_
    | wp_step)
  intro h' tk' hn' hs
  exact hq h' tk' (fun c o hc ho => (hs.2 c hc).trans ho) hn'
end
end Mx
set_option maxRecDepth 100000
set_option maxHeartbeats 4000000
namespace L2.Mb
open PySem PySem.Spec PyProof.Rows Mx

/-- the own exception class at C over b, its setting up at fI -/
structure EC (K : W.Frag) (C fI : Addr) (b : EB) : Prop where
  cls : ∃ nm q N bs bm sn sub ab col dd k0 k1 k2 k3 k5, K.lookup C = some (excClassObj nm q C N bs bm true sn sub ab col dd k0 k1 k2 k3 k5 b.new) ∧ own b bm = true
  sa : W.findIn K (.ref C) "__setattr__" = some (some (.builtin "object.__setattr__"))
  ga : W.findIn K (.ref C) "__getattribute__" = some (some (.builtin "BaseException.__getattribute__"))
  gg : W.findIn K (.ref C) "__getattr__" = some none
  cl : W.findIn K (.ref C) "__class__" = some (some (.builtin "object.__class__"))
  ins : W.instIn K (.ref C) (.type "type") = some true
  kp : W.keepIn K (.ref C) = true
  ini : W.findIn K (.ref C) "__init__" = some (some (.ref fI))
  tfn : W.typeIn K (.ref fI) = some (.type "function")
  gs : W.specialIn K (.builtin "object.__class__") "__get__" = some (some (.builtin "getset_descriptor.__get__"))
  tk : W.takesIn K (.builtin "object.__class__") = some true
section
variable {K : W.Frag} {C fI : Addr} {b : EB}
theorem EC.cd (T : EC K C fI b) : ∃ cd, W.clsIn K C = some cd ∧ own b cd.mro = true ∧ cd.hasDict = true := by
  obtain ⟨nm, q, N, bs, bm, sn, sub, ab, col, dd, k0, k1, k2, k3, k5, hC, hb⟩ := T.cls
  refine ⟨{ name := nm, bases := bs, mro := .ref C :: bm, ns := N, qualname := q, hasDict := true, slotNames := sn, subclasses := sub, abstract := ab, collection := col, hasDel := false }, ?_, hb, rfl⟩
  unfold W.clsIn
  rw [hC]
  all_goals rfl
theorem EC.mro (T : EC K C fI b) (X : String) : W.mroIn K C (.type X) = some (b.tl.contains (.type X)) := by
  obtain ⟨cd, e, m, _⟩ := T.cd
  unfold W.mroIn
  rw [e, Option.bind_some, if_neg (by rw [own_ne m]; decide), own_has _ _ m]
theorem EC.base (T : EC K C fI b) : W.subIn K (.ref C) (.type "BaseException") = some true := by
  show W.mroIn K C (.type "BaseException") = some true
  rw [T.mro, b.bas]
theorem EC.isob (T : EC K C fI b) : W.mroIn K C (.type "object") = some true := by rw [T.mro, b.obj]
theorem EC.isc (T : EC K C fI b) : (W.clsIn K C).isSome = true := by
  obtain ⟨cd, e, _⟩ := T.cd
  rw [e]
  rfl
theorem EC.hd (T : EC K C fI b) : W.hasDictIn K C = true := by
  obtain ⟨cd, e, _, h⟩ := T.cd
  unfold W.hasDictIn
  rw [e]
  exact h
end
section
variable {X : Cx} {pins : List (Addr × Obj)} {σ : St} {H : Hp} {s : Shared} {C fI : Addr} {b : EB}
/-- C(..), the arguments reckoned -/
theorem run_mkX {CX : CXT} {k : Nat} {fd : FuncData} {ps : List Str} {sp : Sp} {Q : VK} {us ws : List Value} {vs : List V} {kw : List (Str × Value)} (T : EC X.K C fI b) (F : FnOk X.prog X.w X.K X.mg X.base CX k fI fd ps sp)
    (hr : Room (k + 1) X.A) (hx : Passes CX X (fun _ _ _ => False)) (I : Inv X pins σ H s) (hus : us.length ≤ sizeLine) (rv : Vals vs ws)
    (hto : ∀ (a : Addr) (s' : Shared), X.K.In s'.heap → BindsTo s' fd ⟨.ref a :: us, kw⟩ (ps.zip (.ref a :: ws)))
    (h : ∀ a, H a = none → sp (.ref a :: vs) (upd H a (exo a C none)) (fun v H2 => v = .non ∧ Q (.ref a) H2) (fun _ _ _ => False)) :
    wpAny (model X.prog X.w) X.A (call (.ref C) us kw) (EP X pins σ Q) X.xe s := by
  obtain ⟨nm, q, N, bs, bm, sn, sub, ab, col, dd, k0, k1, k2, k3, k5, hC, hb⟩ := T.cls
  obtain ⟨hp, g, dr, tk, os⟩ := s
  have hsz : hp.objs.size ≤ hp.objs.size + 1 := Nat.le_succ _
  have hn : H (hp.objs.size + 1) = none := I.hok.fresh hsz
  have kk : ∀ c o, hp.get? c = some o → ((hp.push (tupO us)).push (rawX C hp.objs.size)).get? c = some o := fun c o e => Heap.get?_push_of_some _ (Heap.get?_push_of_some _ e)
  have ge : ((hp.push (tupO us)).push (rawX C hp.objs.size)).get? (hp.objs.size + 1) = some (rawX C hp.objs.size) := by heap_get
  have I2 : Inv X pins σ (upd H (hp.objs.size + 1) (exo (hp.objs.size + 1) C none)) ⟨(hp.push (tupO us)).push (rawX C hp.objs.size), g, dr, tk, os⟩ :=
    I.laid (t' := tk) (a := hp.objs.size + 1) (o := exo (hp.objs.size + 1) C none) (h' := (hp.push (tupO us)).push (rawX C hp.objs.size)) kk hsz (exo_ok ge)
  refine wpAny_call (run_class hb hus (I.kIn _ _ hC) (W.looks_findIn I.kIn T.ini) (fun self => W.bind_fn I.kIn self T.tfn) (W.looks_instIn I.kIn T.ins)
    (codeAny_mono (F.run _ X.stack _ _ ⟨Value.ref (hp.objs.size + 1) :: us, kw⟩ (Value.ref (hp.objs.size + 1) :: ws) (V.ref (hp.objs.size + 1) :: vs) _ (fun _ _ _ => False) (hr.make C us kw) (I2.env0.make C us kw)
      (hto _ _ I2.kIn) (.cons rfl rv) (h _ hn)) fun r s' hq' => ?_))
  cases r with
  | error er => exact (hx pins σ _ _ er s' I2 hq')
  | ok fl =>
    cases fl with
    | ret u =>
      obtain ⟨v, H', I3, r3, ev, q3⟩ := I2.after hq'
      subst ev
      exact ⟨r3, ⟨V.ref (hp.objs.size + 1), H', I3, rfl, q3⟩⟩
    | next => exact False.elim hq'
    | brk => exact False.elim hq'
    | cont => exact False.elim hq'
end

/-! ### readings and rules -/
/-- the error of the class at C stands at a, with these fields -/
def XAt (H : Hp) (a C : Addr) (fs : List (Str × V)) : Prop := ∃ d, H a = some (exo a C (some d)) ∧ H d = some (exd d fs)
def tMkX (C : Addr) (sp : Sp) (ta : TA) : TE := fun σ H Q => ta σ H fun vs H1 => vs.length ≤ 1000 ∧
  ∀ a, H1 a = none → sp (.ref a :: vs) (upd H1 a (exo a C none)) (fun v H2 => v = .non ∧ Q (.ref a) H2) (fun _ _ _ => False)
def tMkXK (C : Addr) (sp : Sp) (n : Nat) (gV : List V → List V) (ta : TA) : TE := fun σ H Q => ta σ H fun vs H1 => vs.length = n ∧
  ∀ a, H1 a = none → sp (.ref a :: gV vs) (upd H1 a (exo a C none)) (fun v H2 => v = .non ∧ Q (.ref a) H2) (fun _ _ _ => False)
/-- how keywords alone bind -/
structure KwB (K : W.Frag) (fd : FuncData) (ps ks : List Str) (g : List Value → List Value) (gV : List V → List V) : Prop where
  to : ∀ (s : Shared) (a : Addr) (ws : List Value), K.In s.heap → ws.length = ks.length → BindsTo s fd ⟨[.ref a], ks.zip ws⟩ (ps.zip (.ref a :: g ws))
  rel : ∀ {zs : List V} {ws : List Value}, Vals zs ws → Vals (gV zs) (g ws)
section
variable {X : Cx} {CX : CXT} {k : Nat} {fI C : Addr} {b : EB} {fd : FuncData} {ps ks : List Str} {sp : Sp} {x f : Str} {p p' pos : Pos} {e o : Expr} {es : List Expr} {kws : List Keyword} {t tk : TA} {te to : TE} {g : List Value → List Value} {gV : List V → List V}
theorem pe_mkX (T : EC X.K C fI b) (F : FnOk X.prog X.w X.K X.mg X.base CX k fI fd ps sp) (hr : Room (k + 1) X.A) (hb : Binds X.K fd ps []) (hx : Passes CX X (fun _ _ _ => False)) (hg : Gl X x) (hm : X.mg x = some (.ref C)) (ha : PA X (e :: es) t)
    (hdb : (x == ("__debug__" : Str)) = false := by decide) (he : starEach (e :: es) X.env = (false, eval e X.env) :: starEach es X.env := by rfl) (hpl : (backTo pos (starEach es X.env)).any (·.1) = false := by rfl) :
    PE X (.Call (.Name x p) (e :: es) [] pos) (tMkX C sp t) := by
  refine ⟨fun pins s σ H Q I h => ?_⟩
  refine wpAny_Call_Name_kw (ld_glob I hg hm ?_ hdb)
  refine W.callWith_K (h₀ := X.base) I.ok.mod.kin T.kp (thn (ha.run pos pins s σ H _ I h) fun us s1 ⟨vs, H1, I1, r, hl, q⟩ => ⟨I1.kIn, ?_⟩) he hpl
  have hus : us.length ≤ sizeLine := by
    rw [← r.length, sizeLine_eq]
    omega
  have hn : (V.ref (s1.heap.objs.size + 1) :: vs).length = ps.length := F.len _ _ _ _ (q (s1.heap.objs.size + 1) (I1.hok.fresh (Nat.le_succ _)))
  refine run_mkX T F hr hx I1 hus r (fun a s' K' => ?_) q
  have z := hb s' (Value.ref a :: us) K' (by
    have r1 := r.length
    rw [List.length_cons] at hn
    rw [List.append_nil, List.length_cons]
    omega)
  rwa [List.append_nil] at z
theorem pe_mkXK (T : EC X.K C fI b) (F : FnOk X.prog X.w X.K X.mg X.base CX k fI fd ps sp) (hr : Room (k + 1) X.A) (hb : KwB X.K fd ps ks g gV) (hx : Passes CX X (fun _ _ _ => False)) (hg : Gl X x) (hm : X.mg x = some (.ref C)) (hkw : PK X kws tk)
    (hall : (backToKw pos (keywordEach kws X.env)).all (·.1.isSome) = true := by rfl) (hks : (backToKw pos (keywordEach kws X.env)).filterMap (·.1) = ks := by rfl) (hdb : (x == ("__debug__" : Str)) = false := by decide)
    (hpl : ((backTo pos (starEach [] X.env)).any (·.1) || (backToKw pos (keywordEach kws X.env)).any (·.1.isNone)) = false := by rfl) :
    PE X (.Call (.Name x p) [] kws pos) (tMkXK C sp ks.length gV tk) := by
  refine ⟨fun pins s σ H Q I h => ?_⟩
  refine wpAny_Call_Name_kw (ld_glob I hg hm ?_ hdb)
  refine W.callWith_KW0 (h₀ := X.base) I.ok.mod.kin T.kp hall ?_ hpl
  refine thn (hkw.run pos pins s σ H _ I h) fun ws s2 ⟨zs, H2, I2, rz, l2, q2⟩ => ⟨I2.kIn, ?_⟩
  rw [hks]
  exact run_mkX (us := []) T F hr hx I2 (Nat.zero_le _) (hb.rel rz) (fun a s' K' => hb.to s' a ws K' (rz.length.symm.trans l2)) q2
/-- self.f = e in an __init__ of such a class -/
def tPutX (K : W.Frag) (f : Str) (to te : TE) : TS := fun D σ H => te σ H fun y H1 => to σ H1 fun x H2 => ∃ (a C fI : Addr) (b : EB), x = .ref a ∧ EC K C fI b ∧ W.findIn K (.ref C) f = some none ∧
  ((H2 a = some (exo a C none) ∧ ∀ dx, H2 dx = none → dx ≠ a → D.nx σ (upd (upd H2 dx (exd dx [(f, y)])) a (exo a C (some dx)))) ∨
    ∃ (dx : Addr) (fs : List (Str × V)), H2 a = some (exo a C (some dx)) ∧ H2 dx = some (exd dx fs) ∧ fs.length ≤ 900 ∧ D.nx σ (upd H2 dx (exd dx ((f, y) :: fs))))
section
variable {pins : List (Addr × Obj)} {σ : St} {H : Hp} {s : Shared} {a dx : Addr} {y : V} {u : Value} {fs : List (Str × V)} {Q : Unit → Shared → Prop} {E : Value → Shared → Prop} {A : Around}
theorem putX_first (T : EC X.K C fI b) (I : Inv X pins σ H s) (e : H a = some (exo a C none)) (hno : W.findIn X.K (.ref C) f = some none) (ry : RelV y u)
    (h : ∀ dx s', H dx = none → dx ≠ a → Inv X pins σ (upd (upd H dx (exd dx [(f, y)])) a (exo a C (some dx))) s' → Q () s') : wpAny (model X.prog X.w) A (setAttr (.ref a) f u) Q E s := by
  obtain ⟨cd, hcl, hm, hd⟩ := T.cd
  obtain ⟨t1, ho⟩ := exo_at I.hok e
  obtain ⟨hp, g, d, t, os⟩ := s
  refine W.set_plain I.kIn (ox := { cls := .ref C, dict := none, data := .fields #[.ref t1, .none, .none, .none, .bool false, .none] }) (od := none) ⟨ho, rfl, rfl, trivial⟩ T.sa ?_
  refine put_first I.kIn ho hcl hm hd hno (fun h' tk' dx k dn dne hx hn => ?_)
  have hnd : H dx = none := I.hok.fresh dn
  have nd : ∀ {c : Addr} {o : Obj}, hp.get? c = some o → c ≠ dx := fun {c o} q => Nat.ne_of_lt (Nat.lt_of_lt_of_le (Heap.lt_size q) dn)
  have na : ∀ {c : Addr}, H c = none → c ≠ a := fun {c} n z => by
    rw [z, e] at n
    cases n
  have U : Un X.fs [] H (upd (upd H dx (exd dx [(f, y)])) a (exo a C (some dx))) hp h' := {
    keep := fun c o q n _ _ => k c o (na n) q
    slot := fun c o q n _ _ => ⟨o.slots, k c o (na n) q⟩
    free := fun c o q n _ => by
      rw [upd_ne (na n), upd_ne (nd q)]
      exact n
    there := fun c o q _ => by
      by_cases hc : c = a
      · exact ⟨_, by rw [hc]; exact hx⟩
      · exact ⟨o, k c o hc q⟩
    tups := fun c xs q => by
      rw [upd_ne (at_ne e q exo_tup), upd_ne (ne_of_none q hnd)]
      exact q
    frzs := fun c o v q => by
      rw [upd_ne (at_ne e q exo_frz), upd_ne (ne_of_none q hnd)]
      exact q
    tbls := fun c ps q => ⟨#[], by rw [upd_ne (at_ne e q exo_tbl), upd_ne (ne_of_none q hnd), q]; simp⟩ }
  refine h dx _ hnd dne (I.un (t' := tk') U fun c o q => ?_)
  by_cases hc : c = a
  · subst hc
    rw [upd_same] at q
    cases q
    exact exo_ok hx
  · rw [upd_ne hc] at q
    by_cases hd : c = dx
    · subst hd
      rw [upd_same] at q
      cases q
      exact exd_ok hn (relO_put (fs := []) ry fun g => True.intro)
    · rw [upd_ne hd] at q
      refine (I.hok c o q).stay (fun c2 v hc2 z => k c2 v ?_ z) (fun c2 hc2 => ?_) (fun c2 xs hc2 => ?_)
      · rcases hc2 with z2 | z2
        · rw [z2]
          exact hc
        · exact at_ne e z2 exo_own
      · rw [upd_ne (at_ne e hc2 exo_own), upd_ne (ne_of_none hc2 hnd)]
        exact hc2
      · rw [upd_ne (at_ne e hc2 exo_tup), upd_ne (ne_of_none hc2 hnd)]
        exact hc2
theorem putX_more (T : EC X.K C fI b) (I : Inv X pins σ H s) (e : H a = some (exo a C (some dx))) (ed : H dx = some (exd dx fs)) (hl : fs.length ≤ 900) (hno : W.findIn X.K (.ref C) f = some none) (ry : RelV y u)
    (h : ∀ s', Inv X pins σ (upd H dx (exd dx ((f, y) :: fs))) s' → Q () s') : wpAny (model X.prog X.w) A (setAttr (.ref a) f u) Q E s := by
  obtain ⟨cd, hcl, hm, hd⟩ := T.cd
  obtain ⟨t1, ho⟩ := exo_at I.hok e
  obtain ⟨mA, hns, rel⟩ := exd_at I.hok ed
  have hw := within_of rel
  obtain ⟨hp, g, d, t, os⟩ := s
  obtain ⟨oD, _, _, hoD, _, _⟩ := hns.count hw
  refine W.set_plain I.kIn (ox := { cls := .ref C, dict := some dx, data := .fields #[.ref t1, .none, .none, .none, .bool false, .none] }) (od := some oD) ⟨ho, rfl, rfl, hoD⟩ T.sa ?_
  refine put_more I.kIn ho hns hw (by rw [List.length_map]; omega) hcl hm hd hno (fun h' tk' k hn => ?_)
  obtain ⟨o1, _, _, e1, _⟩ := id hn
  exact h _ (I.write (t' := tk') (x := dx) (e := dx) (o := exd dx ((f, y) :: fs)) (by rw [ed]; exact True.intro) (.inl rfl) k ⟨o1, e1⟩ (exd_ok hn (relO_put ry rel)))
end
theorem ps_putX (ho : PE X o to) (he : PE X e te) (hs : swapsWith e (some (.Attribute o f p')) pos.line X.env = pure false := by rfl) : PS X (.Assign [.Attribute o f p'] e pos) (tPutX X.K f to te) := by
  refine ⟨fun pins s σ H D I h => ?_⟩
  refine plainObj_wpAny_Assign_Attribute (thn (he.run pins s σ H _ I h) fun v s1 ⟨y, H1, I1, r1, q1⟩ => thn (ho.run pins s1 σ H1 _ I1 q1) fun u s2 ⟨x, H2, I2, r2, a, C, fI, b, ex, T, hno, q⟩ => ?_) hs
  subst ex
  obtain rfl : u = Value.ref a := r2
  rcases q with ⟨ea, q⟩ | ⟨dx, fs, ea, ed, hl, q⟩
  · exact putX_first T I2 ea hno r1 fun dx s' n ne J => ⟨σ, _, J, q dx n ne⟩
  · exact putX_more T I2 ea ed hl hno r1 fun s' J => ⟨σ, _, J, q⟩
theorem xat_inst {pins : List (Addr × Obj)} {σ : St} {H : Hp} {s : Shared} {a : Addr} {fs : List (Str × V)} (I : Inv X pins σ H s) (h : XAt H a C fs) :
    ∃ (ox od : Obj) (d : Addr) (mA : Str → Option Value), W.InstAt s.heap a ox C (some od) ∧ s.heap.get? d = some od ∧ s.heap.Ns1 d mA ∧ ∀ g, RelO (fs.lookup g) (mA g) := by
  obtain ⟨d, e1, e2⟩ := h
  obtain ⟨t1, ho⟩ := exo_at I.hok e1
  obtain ⟨mA, hns, rel⟩ := exd_at I.hok e2
  obtain ⟨oD, _, _, hoD, _, _⟩ := hns.count (within_of rel)
  exact ⟨_, oD, d, mA, ⟨ho, rfl, rfl, hoD⟩, hoD, hns, rel⟩
/-- isinstance(e, c), e an error that is held as a value -/
def rIsX (K : W.Frag) : List V → Hp → VK → Prop := fun xs H Q => ∃ (a C fI : Addr) (b : EB) (fs : List (Str × V)) (c : V) (u : Value) (r : Bool), xs = [.ref a, c] ∧ XAt H a C fs ∧ EC K C fI b ∧ ClsV c u ∧ W.kitOne K (.ref C) u = some r ∧ Q (.bl r) H
theorem call_isX : CallR X (.builtin "isinstance") (rIsX X.K) := by
  intro pins s σ H xs us Q I r h
  obtain ⟨a, C, fI, b, fs, c, u, z, rfl, hx, T, k, e, q⟩ := h
  obtain ⟨u1, u2, rfl, r1, r2⟩ := vals2 r
  cases (show u1 = Value.ref a from r1)
  have e2 := k.eq r2
  subst e2
  obtain ⟨ox, od, d, mA, J, _⟩ := xat_inst I hx
  exact W.kia_one (W.kitx_exc T.isc T.ga T.gg T.base T.cl T.gs T.tk T.isob) I.kIn J e (fun z => nomatch z) fun tk => ⟨.bl z, H, I.tok tk, rfl, q⟩
/-- e.f, e an error that is held as a value -/
def tGetX (K : W.Frag) (f : Str) (te : TE) : TE := fun σ H Q => te σ H fun x H1 => ∃ (a C fI : Addr) (b : EB) (fs : List (Str × V)) (v : V), x = .ref a ∧ XAt H1 a C fs ∧ EC K C fI b ∧ W.findIn K (.ref C) f = some none ∧ fs.lookup f = some v ∧ Q v H1
theorem pe_getX (he : PE X e te) (hb : attributeBase e f X.env (eval e X.env) = eval e X.env := by rfl) : PE X (.Attribute e f pos) (tGetX X.K f te) := by
  refine ⟨fun pins s σ H Q I h => ?_⟩
  refine attr_of hb (thn (he.run pins s σ H _ I h) fun u s1 hh => ?_)
  obtain ⟨x, H1, I1, rx, a, C, fI, b, fs, v, ex, hx, T, hno, l, q⟩ := hh
  subst ex
  obtain rfl : u = Value.ref a := rx
  obtain ⟨ox, od, d, mA, J, hd, hns, hr⟩ := xat_inst I1 hx
  obtain ⟨od2, ho, hl⟩ := lookIn_ns hns
  rw [hd] at ho
  cases ho
  obtain ⟨u, hu, ru⟩ := RelO.some_of (v := v) (o := mA f) (by rw [← l]; exact hr f)
  exact HandSPX.exc_get I1.kIn J T.ga T.gg T.base (W.findObj_own T.hd hno rfl (by rw [hl, hu])) (handed_of ru) ⟨v, H1, I1.tok _, ru, q⟩
end
end L2.Mb
set_option maxRecDepth 100000
set_option maxHeartbeats 4000000
namespace L2.Mb
open PySem PySem.Spec PyProof.Rows Mx
/-! ### promises where no repr is under way -/
/-- no repr of a container runs around -/
abbrev Gd (A : Around) : Prop := A.guards = some []
theorem gd_deeper {A : Around} {env : Env} (h : Gd A) : Gd (A.deeper env) := h
structure FnG (P : Program) (w : World) (K : W.Frag) (mg : Str → Option Value) (base : Heap) (CX : CXT) (k : Nat) (f : Addr) (fd : FuncData) (ps : List Str) (sp : Sp) : Prop where
  len : ∀ vs H Q E, sp vs H Q E → vs.length = ps.length
  run : ∀ (A : Around) (outer : List Env) (s : Shared) (H : Hp) (args : Args) (us : List Value) (vs : List V) (Q : VK) (E : XK), Gd A → Room k A → Env0 P w K mg base A outer s H →
    BindsTo s fd args (ps.zip us) → Vals vs us → sp vs H Q E → codeAny (model P w) A (.call (.ref f) args) (CR CX outer P w H s Q E) s
section
variable {P : Program} {w : World} {K : W.Frag} {mg : Str → Option Value} {base : Heap} {CX : CXT} {k : Nat} {f : Addr} {fd : FuncData} {ps : List Str} {sp : Sp}
theorem FnG.of (F : FnOk P w K mg base CX k f fd ps sp) : FnG P w K mg base CX k f fd ps sp :=
  ⟨F.len, fun A outer s H args us vs Q E _ hr e hb hv hs => F.run A outer s H args us vs Q E hr e hb hv hs⟩
theorem FnG.mono {j : Nat} (F : FnG P w K mg base CX j f fd ps sp) (h : j ≤ k) : FnG P w K mg base CX k f fd ps sp :=
  ⟨F.len, fun A outer s H args us vs Q E hg hr => F.run A outer s H args us vs Q E hg (hr.mono h)⟩
theorem FnG.imp {sp' : Sp} (F : FnG P w K mg base CX k f fd ps sp) (h : ∀ vs H Q E, sp' vs H Q E → sp vs H Q E) : FnG P w K mg base CX k f fd ps sp' :=
  ⟨fun vs H Q E q => F.len vs H Q E (h _ _ _ _ q), fun A outer s H args us vs Q E hg hr he hb hv hs => F.run A outer s H args us vs Q E hg hr he hb hv (h _ _ _ _ hs)⟩
end
/-- a def by its body -/
theorem fng_of {CX : CXT} {P : Program} {w : World} {K : W.Frag} {mg : Str → Option Value} {base : Heap} {k : Nat} {f : Addr} {name qual : Str} {params : Arguments} {body : List Stmt} {scope : Scope} {dV kV doc pm cdv ct oc : Value} {an od : Option Addr}
    {osl : Array (Option Value)} {N ps : List Str} {sp : Sp} (lk : K.lookup f = some ⟨oc, od, .func (W.fnOf name qual params body scope dV kV doc pm an cdv ct), osl⟩) (hcd : W.codeIn K cdv qual = true) (S : FnScope N ps scope)
    (len : ∀ vs H Q E, sp vs H Q E → vs.length = ps.length)
    (hbody : ∀ (A : Around) (outer : List Env) (s : Shared) (H : Hp) (vs : List V) (Q : VK) (E : XK), Gd (A.deeper (envOfC qual scope s.heap.objs.size f cdv)) → Room k (A.deeper (envOfC qual scope s.heap.objs.size f cdv)) → sp vs H Q E →
      ∃ t, PSs (cxOf CX P w K mg base N qual scope f cdv A outer s H E) body t ∧ t { nx := fun _ H' => Q .non H', rt := Q } (start N vs) H) :
    FnG P w K mg base CX (k + 1) f (W.fnOf name qual params body scope dV kV doc pm an cdv ct) ps sp := by
  refine ⟨len, fun A outer s H args us vs Q E gd hr e0 hb r hsp => ?_⟩
  have hl := len _ _ _ _ hsp
  have kept : ∀ c o, base.get? c = some o → s.heap.get? c = some o := fun c o e => (e0.bs c o e).1
  have KX : K.In s.heap := e0.mod.kin.keeps kept
  have lim : s.heap.NoLimit := e0.mod.nolimit.keeps kept
  have kinds : ∀ y ∈ ps.zip us, scope.names.lookup y.1 = some .local ∨ (scope.names.lookup y.1 = some .cell ∧ ((cellsFrom (s.heap.objs.size + 1) scope.names []).lookup y.1).isSome = true) := fun ⟨n, v⟩ hy => by
    cases S.par n (List.of_mem_zip hy).1 with
    | inl q => exact .inl q
    | inr q => exact .inr ⟨q, W.cellsFrom_some _ _ _ (.inl q)⟩
  refine codeAny_call_function hr.depth (KX _ _ lk) rfl S.co S.gen rfl (W.codeRec_of KX hcd) (hb _ _ _ _ ?_)
  refine wpAny_newFunctionEnv_cells S.kind kinds fun env he s1 x => ?_
  subst he
  refine ⟨lim.keeps x.toInCall.keep, codeAny_func ?_⟩
  obtain ⟨t, ht, hq⟩ := hbody A outer s H vs Q E (gd_deeper gd) (hr.deeper _) hsp
  have I := inv_start (CX := CX) (E := E) S hr.hd e0 hl r x
  have back : ∀ {σ' : L2.St} {H' : Hp} {v : V} {u : Value} {s' : Shared}, Inv (cxOf CX P w K mg base N qual scope f cdv A outer s H E) [] σ' H' s' → RelV v u → Q v H' → CE outer P w H s Q u s' :=
    fun {σ' H' v u s'} J rv q => ⟨v, H', J.os, J.bare, J.base, J.hok, rv, q⟩
  refine wpAny_mono (ht.run [] s1 (start N vs) H _ I hq) (fun fl s' hs => ?_) fun e s' hs => hs
  cases fl with
  | ret u =>
    obtain ⟨v, σ', H', J, rv, q⟩ := hs
    exact back J rv q
  | next =>
    obtain ⟨σ', H', J, q⟩ := hs
    exact back (v := V.non) (u := Value.none) J rfl q
  | brk => exact (hs.elim fun _ z => z.elim fun _ z => z.elim fun _ z => False.elim z)
  | cont => exact (hs.elim fun _ z => z.elim fun _ z => z.elim fun _ z => False.elim z)
theorem fund_okG {P : Program} {w : World} {K : W.Frag} {mg : Str → Option Value} {base : Heap} {x qual : Str} {params : Arguments} {body : List Stmt} {scope : Scope} {dvs : List V} {kws : List (Str × V)} {f : Addr} {fd : FuncData} {CX : CXT} {N ps : List Str} {k : Nat} {sp : Sp}
    (F : FunD K x qual params body scope dvs kws f fd) (S : FnScope N ps scope) (len : ∀ vs H Q E, sp vs H Q E → vs.length = ps.length)
    (hbody : ∀ (cdv : Value) (A : Around) (outer : List Env) (s : Shared) (H : Hp) (vs : List V) (Q : VK) (E : XK), Gd (A.deeper (envOfC qual scope s.heap.objs.size f cdv)) → Room k (A.deeper (envOfC qual scope s.heap.objs.size f cdv)) → sp vs H Q E →
      ∃ t, PSs (cxOf CX P w K mg base N qual scope f cdv A outer s H E) body t ∧ t { nx := fun _ H' => Q .non H', rt := Q } (start N vs) H) : FnG P w K mg base CX (k + 1) f fd ps sp := by
  obtain ⟨oc, od, dV, kV, doc, pm, an, cdv, ct, osl, rfl, lk, hcd, _, _⟩ := F.ex
  exact fng_of lk hcd S len fun A outer s H vs Q E hg hr hsp => hbody cdv A outer s H vs Q E hg hr hsp
/-! ### calls -/
section
variable {X : Cx} {CX : CXT} {k : Nat} {f C : Addr} {fd : FuncData} {ps : List Str} {sp : Sp} {dvs : List V} {ds : List Value} {E : XK} {x m : Str} {p pos apos : Pos} {e o : Expr} {es : List Expr} {ta : TE} {t : TA}
theorem run_fnG {pins : List (Addr × Obj)} {σ : L2.St} {H : Hp} {s : Shared} {Q : VK} {us : List Value} {vs : List V} (gd : Gd X.A) (F : FnG X.prog X.w X.K X.mg X.base CX k f fd ps sp) (hr : Room k X.A) (hb : Binds X.K fd ps ds) (hd : Vals dvs ds) (hx : Passes CX X E)
    (I : Inv X pins σ H s) (r : Vals vs us) (h : sp (vs ++ dvs) H Q E) : wpAny (model X.prog X.w) X.A (call (.ref f) us) (EP X pins σ Q) X.xe s := by
  have r2 : Vals (vs ++ dvs) (us ++ ds) := r.append hd
  have hl : (us ++ ds).length = ps.length := by
    rw [← r2.length]
    exact F.len _ _ _ _ h
  refine wpAny_call (codeAny_mono (F.run X.A X.stack s H ⟨us, []⟩ (us ++ ds) (vs ++ dvs) Q E gd hr I.env0 (hb s us I.kIn hl) r2 h) fun r s' hq => ?_)
  cases r with
  | error er => exact (hx pins σ H s er s' I hq)
  | ok fl =>
    cases fl with
    | ret u => exact (I.after hq)
    | next => exact (False.elim hq)
    | brk => exact (False.elim hq)
    | cont => exact (False.elim hq)
theorem pe_callG (gd : Gd X.A) (F : FnG X.prog X.w X.K X.mg X.base CX k f fd ps sp) (hr : Room k X.A) (hg : Gl X x) (hm : X.mg x = some (.ref f)) (hk : W.keepIn X.K (.ref f) = true) (hb : Binds X.K fd ps ds) (hd : Vals dvs ds) (hx : Passes CX X E)
    (ha : PA X (e :: es) t) (hdb : (x == ("__debug__" : Str)) = false := by decide) (he : starEach (e :: es) X.env = (false, eval e X.env) :: starEach es X.env := by rfl) (hpl : (backTo pos (starEach es X.env)).any (·.1) = false := by rfl) :
    PE X (.Call (.Name x p) (e :: es) [] pos) (tCall sp dvs E t) :=
  ⟨fun pins s σ H Q I h => wpAny_Call_Name_kw (ld_glob I hg hm
    (W.callWith_K (h₀ := X.base) I.ok.mod.kin hk (thn (ha.run pos pins s σ H _ I h) fun us s1 ⟨vs, H1, I1, r, q⟩ => ⟨I1.kIn, run_fnG gd F hr hb hd hx I1 r q⟩) he hpl) hdb)⟩
theorem pe_callG0 (gd : Gd X.A) (F : FnG X.prog X.w X.K X.mg X.base CX k f fd ps sp) (hr : Room k X.A) (hg : Gl X x) (hm : X.mg x = some (.ref f)) (hk : W.keepIn X.K (.ref f) = true) (hb : Binds X.K fd ps ds) (hd : Vals dvs ds) (hx : Passes CX X E)
    (hdb : (x == ("__debug__" : Str)) = false := by decide) : PE X (.Call (.Name x p) [] [] pos) (tCall sp dvs E tNil) :=
  ⟨fun pins s σ H Q I h => wpAny_Call_Name_kw (ld_glob I hg hm (W.callWith_K0 I.kIn hk (run_fnG (us := []) gd F hr hb hd hx I .nil h)) hdb)⟩
end
/-! ### data: what a value says, dicts too -/
def keyD : Key → PyData
  | .inl i => .int i
  | .inr x => .str x
mutual
inductive Dq (K : W.Frag) (H : Hp) : V → PyData → Prop
  | non : Dq K H .non .none
  | bl (b : Bool) : Dq K H (.bl b) (.bool b)
  | int (i : Int) : Dq K H (.int i) (.int i)
  | str (x : Str) : Dq K H (.str x) (.str x)
  | lst {a : Addr} {xs : List V} {ds : List PyData} : SqL K H a xs → DqAll K H xs ds → Dq K H (.ref a) (.list ds)
  | tup {a : Addr} {xs : List V} {ds : List PyData} : SqT K H a xs → DqAll K H xs ds → Dq K H (.ref a) (.tuple ds)
  | dct {a : Addr} {ks : List Key} {xs : List V} {ds : List PyData} : H a = some (.dK (ks.zip xs)) → ks.length = xs.length → DqAll K H xs ds → Dq K H (.ref a) (.dict ((ks.map keyD).zip ds))
inductive DqAll (K : W.Frag) (H : Hp) : List V → List PyData → Prop
  | nil : DqAll K H [] []
  | cons {v : V} {vs : List V} {d : PyData} {ds : List PyData} : Dq K H v d → DqAll K H vs ds → DqAll K H (v :: vs) (d :: ds)
end

/-- the interpreter's table of modules is written down, and it is a dict -/
def SysD (K : W.Frag) : Prop := ∃ o, K.lookup sysModules = some o ∧ o.cls = .type "dict"
theorem keys_read {prog : Program} {w : World} {h : Heap} : ∀ {es : List DictEntry} {ks : List Key} {us : List Value}, ks.length = us.length → PySem.Pairs (mixKind prog w) es (ks.zip us) →
    ReadsAll h (es.map (·.key)) (ks.map keyD) [] ∧ es.map (·.val) = us
  | [], ks, us, l, p => by
    cases ks with
    | nil =>
      cases us with
      | nil => exact ⟨.nil, rfl⟩
      | cons _ _ => cases l
    | cons _ _ =>
      cases us with
      | nil => cases l
      | cons _ _ => cases p
  | e :: es, ks, us, l, p => by
    cases ks with
    | nil =>
      cases us with
      | nil => cases p
      | cons _ _ => cases l
    | cons k ks =>
      cases us with
      | nil => cases l
      | cons u us =>
        cases p with
        | cons h1 h2 h3 =>
          obtain ⟨r1, r2⟩ := keys_read (h := h) (Nat.succ.inj l) h3
          refine ⟨?_, ?_⟩
          · rcases keyIs_shape (show keyIs k e.key = true from h1) with ⟨i, t, e1, e2⟩ | ⟨x, t, e1, e2⟩
            · have q : ReadsAll h (e.key :: es.map (·.key)) (keyD k :: ks.map keyD) ([] ++ []) := by
                rw [e1, e2]
                exact .cons (.int i t) r1
              exact q
            · have q : ReadsAll h (e.key :: es.map (·.key)) (keyD k :: ks.map keyD) ([] ++ []) := by
                rw [e1, e2]
                exact .cons (.str x t) r1
              exact q
          · show e.val :: es.map (·.val) = u :: us
            rw [r2, show e.val = u from h2]
theorem kv_split : ∀ {ks : List Key} {xs : List V} {vs : List (Key × Value)}, ks.length = xs.length → KV (ks.zip xs) vs → ∃ us, us.length = xs.length ∧ vs = ks.zip us ∧ Vals xs us
  | [], [], _, _, h => by
    cases h
    exact ⟨[], rfl, rfl, .nil⟩
  | [], _ :: _, _, l, _ => by cases l
  | _ :: _, [], _, l, _ => by cases l
  | k :: ks, x :: xs, vs, l, h => by
    cases h with
    | @cons p q _ qs h1 h2 =>
      obtain ⟨us, e1, e2, e3⟩ := kv_split (Nat.succ.inj l) h2
      obtain ⟨qk, qv⟩ := q
      obtain ⟨a1, a2⟩ := h1
      refine ⟨qv :: us, congrArg Nat.succ e1, ?_, .cons a2 e3⟩
      rw [e2]
      have a1' : k = qk := a1
      rw [a1']
      rfl
section
variable {X : Cx} {pins : List (Addr × Obj)} {σ : L2.St} {H : Hp} {s : Shared}
theorem Dq.reads (sd : SysD X.K) (I : Inv X pins σ H s) {v : V} {d : PyData} (h : Dq X.K H v d) : ∀ u, RelV v u → ∃ as, Reads s.heap u d as ∧ sysModules ∉ as := by
  refine Dq.rec (motive_1 := fun v d _ => ∀ u, RelV v u → ∃ as, Reads s.heap u d as ∧ sysModules ∉ as)
    (motive_2 := fun vs ds _ => ds.length = vs.length ∧ ∀ us, Vals vs us → ∃ as, ReadsAll s.heap us ds as ∧ sysModules ∉ as) ?_ ?_ ?_ ?_ ?_ ?_ ?_ ?_ ?_ h
  · intro u r
    cases r
    exact ⟨_, .none, fun z => nomatch z⟩
  · intro b u r
    cases r
    exact ⟨_, .bool b, fun z => nomatch z⟩
  · intro i u r
    obtain ⟨t, rfl⟩ := r
    exact ⟨_, .int i t, fun z => nomatch z⟩
  · intro x u r
    obtain ⟨t, rfl⟩ := r
    exact ⟨_, .str x t, fun z => nomatch z⟩
  · intro a xs ds hs _ ih u r
    cases r
    obtain ⟨its, rv, ⟨o, n, ho, hc, _, hd⟩, _⟩ := I.list hs
    obtain ⟨as, hr, hn⟩ := ih.2 its rv
    refine ⟨_, .list ho hc hd hr, fun z => ?_⟩
    rcases List.mem_cons.mp z with z | z
    · obtain ⟨o2, q1, q2⟩ := sd
      have q3 := I.kIn _ _ q1
      rw [z, ho] at q3
      have q4 : o = o2 := Option.some.inj q3
      rw [← q4, hc] at q2
      exact absurd (Value.type.inj q2) (by decide)
    · exact hn z
  · intro a xs ds hs _ ih u r
    cases r
    obtain ⟨its, rv, ⟨o, ho, hc, n, hd⟩, _⟩ := I.tuple hs
    obtain ⟨as, hr, hn⟩ := ih.2 its rv
    exact ⟨_, .tuple ho hc hd hr, hn⟩
  · intro a ks xs ds ha hl _ ih u r
    cases r
    obtain ⟨el, hrs⟩ := ih
    obtain ⟨_, ya, vs, ra, o, es, ep, ho, hex, hd, _, hp, _⟩ := (show ObjOk X.prog X.w H s.heap a (.dK (ks.zip xs)) from I.hok a _ ha)
    obtain ⟨us, l1, e1, rv⟩ := kv_split hl ra
    subst e1
    have lk : ks.length = us.length := hl.trans l1.symm
    obtain ⟨k1, k2⟩ := keys_read (h := s.heap) lk hp
    obtain ⟨as, hr, hn⟩ := hrs us rv
    have m1 : (ks.map keyD).length = ds.length := by rw [List.length_map, hl, el]
    refine ⟨a :: [] ++ as, ?_, fun z => ?_⟩
    · refine .dict ho hex.1 hd ?_ ?_
      · rw [show ((ks.map keyD).zip ds).map (·.1) = ks.map keyD from List.map_fst_zip (Nat.le_of_eq m1)]
        exact k1
      · rw [show ((ks.map keyD).zip ds).map (·.2) = ds from List.map_snd_zip (Nat.le_of_eq m1.symm), k2]
        exact hr
    · rcases List.mem_cons.mp z with z | z
      · rw [← z] at ya
        simp at ya
      · exact hn z
  · exact ⟨rfl, fun us r => by
      cases r
      exact ⟨_, .nil, fun z => nomatch z⟩⟩
  · intro v vs d ds _ _ ih1 ih2
    refine ⟨congrArg Nat.succ ih2.1, fun us r => ?_⟩
    cases r with
    | cons r1 r2 =>
      obtain ⟨as, q1, n1⟩ := ih1 _ r1
      obtain ⟨bs, q2, n2⟩ := ih2.2 _ r2
      exact ⟨_, .cons q1 q2, fun z => (List.mem_append.mp z).elim n1 n2⟩
end
/-- what can be shown: short enough, no huge ints, at most 60 deep -/
def okD (d : PyData) : Bool := d.showable && (decide (d.depth ≤ 60) && decide (d.shown.length ≤ sizeLine))
section
variable {X : Cx}
/-- repr(x), x a list, a tuple or a dict of data -/
def rRepr (K : W.Frag) : List V → Hp → VK → Prop := fun xs H Q => ∃ (a : Addr) (d : PyData), xs = [.ref a] ∧ Dq K H (.ref a) d ∧ okD d = true ∧ Q (.str d.shown) H
theorem call_repr (gd : Gd X.A) (sd : SysD X.K) (hu : X.A.units + 64 < cLine) : CallR X (.builtin "repr") (rRepr X.K) := by
  intro pins s σ H xs us Q I r h
  obtain ⟨a, d, rfl, hd, ok, q⟩ := h
  obtain ⟨o1, o2⟩ := Bool.and_eq_true_iff.mp ok
  obtain ⟨o3, o4⟩ := Bool.and_eq_true_iff.mp o2
  have dp : d.depth ≤ 60 := of_decide_eq_true o3
  cases r with
  | cons r1 r2 =>
    cases r2
    obtain ⟨as, hr, hn⟩ := hd.reads sd I _ r1
    cases r1
    exact repr_of_reads' hr o1 (fun _ => hn) gd (by omega) (fun _ _ e => e) (fun h' u tk k => ⟨.str d.shown, H, I.kept (t' := tk) k, ⟨u, rfl⟩, q⟩) (of_decide_eq_true o4)
end
end L2.Mb
set_option maxRecDepth 100000
set_option maxHeartbeats 4000000
namespace L2.Mb
open PySem PySem.Spec PyProof.Rows Mx
section
variable {P : Program} {w : World} {K : W.Frag} {mg mb : Str → Option Value} {CX : CXT} {k : Nat} {fa a : Addr} {fd : FuncData} {x : Str} {sp : Sp} {s1 : Shared} {vs : List Value} {ns : List Int}
/-- what the law's call leaves -/
abbrev LawEnd (s1 : Shared) : Result → Shared → Prop := fun r s' => r = .ok (.ret (.bool true)) ∧ OldK s1.heap s'.heap ∧ s'.os = s1.os ∧ AllBare s'.gens
theorem lawG_core {H : Hp} {V0 : Array Value} (KX : K.In s1.heap) (hns : s1.heap.Ns mainGlobals mg) (hb : s1.heap.Ns builtinsNs mb) (hbb : ∀ x : Str, x ≠ "__name__" → mb x = bootBuiltins x) (hlim : s1.heap.NoLimit) (hg : s1.gens = #[])
    (hr : Room k callerA) (F : ∀ base : Heap, K.In base → base.Ns mainGlobals mg → FnG P w K mg base CX k fa fd [x] sp) (hbind : ∀ (s : Shared) (u : Value), BindsTo s fd ⟨[u], []⟩ [(x, u)])
    (ha : s1.heap.get? a = some { cls := .type "list", data := .seq V0 }) (hO : Only H) (hok : HOk P w H s1.heap) (hA : ∀ c, c ≠ a → H c = none) (hK : H a ≠ none → K.lookup a = none)
    (hsp : sp [.ref a] H (fun v _ => v = .bl true) fun _ _ _ => False) (hCX : ∀ e s', CX [] H s1 (fun _ _ _ => False) e s' → False) :
    codeAny (model P w) callerA (.call (.ref fa) ⟨[.ref a], []⟩) (LawEnd s1) s1 := by
  have keepD : ∀ {c : Addr} {o : Obj} {es : Array DictEntry} {ep : Nat}, s1.heap.get? c = some o → o.data = .dict es ep → H c = none := fun {c o es ep} e d => by
    by_cases q : c = a
    · rw [q, ha] at e
      cases e
      cases d
    · exact hA c q
  have nsH : ∀ {c : Addr} {m : Str → Option Value}, s1.heap.Ns c m → (hidT s1.heap H).Ns c m := fun {c m} z => by
    obtain ⟨o, es, ep, e, d, r⟩ := z
    exact ⟨o, es, ep, hidT_get e (keepD e d), d, r⟩
  have KH : K.In (hidT s1.heap H) := fun c o e => by
    refine hidT_get (KX c o e) ?_
    by_cases q : c = a
    · cases z : H c with
      | none => rfl
      | some u =>
        have y := hK (by rw [← q, z]; exact fun t => nomatch t)
        rw [q, y] at e
        cases e
    · exact hA c q
  obtain ⟨mc, l1, l2⟩ := hlim
  have M : Mod K mg (hidT s1.heap H) := { kin := KH, glob := nsH hns, blt := ⟨mb, nsH hb, hbb⟩, nolimit := ⟨mc, nsH l1, l2⟩ }
  have e0 : Env0 P w K mg (hidT s1.heap H) callerA [] s1 H := ⟨rfl, M, fun c o e => of_hidT e, Nat.le_of_eq (hidT_size _ _), trivial, (fun c hc => absurd (show c ∈ ([] : List Addr) from hc) (by simp)), hok, .of_eq hg⟩
  have run := (F _ KH (nsH hns)).run callerA [] s1 H ⟨[.ref a], []⟩ [.ref a] [.ref a] _ _ rfl hr e0 (hbind s1 (.ref a)) (.cons rfl .nil) hsp
  refine codeAny_mono run fun r s' h => ?_
  cases r with
  | error e => exact ((hCX e s' h).elim)
  | ok fl =>
    cases fl with
    | next => exact (False.elim h)
    | brk => exact (False.elim h)
    | cont => exact (False.elim h)
    | ret u =>
      obtain ⟨v, H', os, bare, un, hok', rv, q⟩ := h
      have q' : v = .bl true := q
      subst q'
      obtain rfl : u = Value.bool true := rv
      refine ⟨rfl, OldK.of_keep fun c o e => ?_, os, bare⟩
      cases z : H c with
      | none => exact un.keep c o e z (fun y => absurd (show c ∈ ([] : List Addr) from y) (by simp)) (by simp)
      | some u =>
        rcases hO c with y | ⟨ob, xs, y⟩
        · rw [z] at y
          cases y
        · obtain ⟨e1, _⟩ := hok c _ y
          obtain ⟨e2, _⟩ := hok' c _ (un.frzs c ob _ y)
          rw [e] at e1
          cases e1
          exact e2
theorem lawG_call (KX : K.In s1.heap) (hns : s1.heap.Ns mainGlobals mg) (hb : s1.heap.Ns builtinsNs mb) (hbb : ∀ x : Str, x ≠ "__name__" → mb x = bootBuiltins x) (hlim : s1.heap.NoLimit) (hg : s1.gens = #[])
    (ha : s1.heap.get? a = some { cls := .type "list", data := .seq vs.toArray }) (hi : IntsAre vs ns) (hl : ns.length ≤ sizeLine) (hr : Room k callerA)
    (F : ∀ base : Heap, K.In base → base.Ns mainGlobals mg → FnG P w K mg base CX k fa fd [x] sp) (hbind : ∀ (s : Shared) (u : Value), BindsTo s fd ⟨[u], []⟩ [(x, u)])
    (hsp : ∀ H : Hp, Only H → SqL K H a (ns.map V.int) → sp [.ref a] H (fun v _ => v = .bl true) fun _ _ _ => False) (hCX : ∀ H e s', CX [] H s1 (fun _ _ _ => False) e s' → False) :
    codeAny (model P w) callerA (.call (.ref fa) ⟨[.ref a], []⟩) (LawEnd s1) s1 := by
  have rv := vals_ints hi
  have hlen := hi.length
  cases hk : K.lookup a with
  | some o =>
    have e := KX a o hk
    rw [ha] at e
    cases e
    have hO : Only (fun _ => none) := fun _ => .inl rfl
    have hS : SqL K (fun _ => none) a (ns.map V.int) := .inr ⟨_, vs.toArray, _, hk, rfl, rfl, rfl, by rw [List.size_toArray, hlen]; exact hl, by simpa using rv⟩
    exact lawG_core KX hns hb hbb hlim hg hr F hbind ha hO (fun c u z => by cases (show (none : Option HO) = some u from z)) (fun _ _ => rfl) (fun z => absurd rfl z) (hsp _ hO hS) (hCX _)
  | none =>
    let H : Hp := fun c => if c = a then some (.frz { cls := .type "list", data := .seq vs.toArray } (.lst (ns.map V.int))) else none
    have Ha : H a = some (.frz { cls := .type "list", data := .seq vs.toArray } (.lst (ns.map V.int))) := if_pos rfl
    have Hn : ∀ c, c ≠ a → H c = none := fun c hc => if_neg hc
    have hO : Only H := fun c => by
      by_cases hc : c = a
      · exact .inr ⟨_, _, by rw [hc]; exact Ha⟩
      · exact .inl (Hn c hc)
    have hS : SqL K H a (ns.map V.int) := .inl (.inr ⟨_, Ha⟩)
    refine lawG_core KX hns hb hbb hlim hg hr F hbind ha hO (fun c u z => ?_) Hn (fun _ => hk) (hsp _ hO hS) (hCX _)
    by_cases hc : c = a
    · rw [hc, Ha] at z
      cases z
      rw [hc]
      exact ⟨ha, by rw [List.length_map]; exact hl, vs, _, rv, ha⟩
    · rw [Hn c hc] at z
      cases z
end
/-- the law's end over a head that reads facts -/
theorem walkG {l : W.OpenLaw} {n k : Nat} {q : Program} {loose : List Str} {XP : (Str → Option Value) → Heap → Prop} {YP : World → Heap → Prop} {d : DefRec} {CX : CXT} {x : Str}
    (hn : l.most = some n) (hn2 : n ≤ sizeLine) (hdf : d.params.defaults = []) (hr : Room k callerA)
    (F : ∀ (w : World) (mg : Str → Option Value) (fa : Addr) (h : Heap), YP w h → h.Ns mainGlobals mg → mg d.name = some (.ref fa) →
      ∃ (K : W.Frag) (fd : FuncData) (sp : Sp), K.In h ∧ (∀ (s : Shared) (u : Value), BindsTo s fd ⟨[u], []⟩ [(x, u)]) ∧
        (∀ (H : Hp) (a : Addr) (ns : List Int), ns.length ≤ n → Only H → SqL K H a (ns.map V.int) → sp [.ref a] H (fun v _ => v = .bl true) fun _ _ _ => False) ∧
        ∀ base : Heap, K.In base → base.Ns mainGlobals mg → FnG l.prog w K mg base CX k fa fd [x] sp)
    (hCX : ∀ (H : Hp) (s : Shared) (e : Value) (s' : Shared), CX [] H s (fun _ _ _ => False) e s' → False) :
    W.WalkO q loose XP YP l.row.toRowW d [] (fun f vs => PySem.call f vs) := by
  refine Att.attach_call hn hdf fun w s0 s1 mg mb fa o pm cd doc a vs ns G Y ho hd hcd hmg hobj hints hlen hg => ?_
  obtain ⟨K, fd, sp, KX, hb, hsp, hF⟩ := F w mg fa _ Y G.T.g hmg
  exact lawG_call KX G.T.g G.T.b G.T.builtins G.T.nolimit hg hobj hints (Nat.le_trans hlen hn2) hr hF hb (fun H hO hS => hsp H a ns hlen hO hS) fun H e s' => hCX H s1 e s'
end L2.Mb
set_option maxRecDepth 100000
set_option maxHeartbeats 4000000
namespace L2.Mb
open PySem PySem.Spec PyProof.Rows Mx
def top (i : Nat) : Stmt := PySem.Challenge.pw_meetbehind_k26_errors_of_all_classes.main.body.getD i (.Pass ⟨0, 0, 0, 0⟩)
abbrev FnP (K : W.Frag) (x : Str) (st : Stmt) (f : Addr) (fd : FuncData) : Prop := FunD K x x (defArgs st) (defBody st) (defScope st) [] [] f fd
/-- the built-in names that nobody has taken -/
structure Bt (mg : Str → Option Value) : Prop where
  abs : mg "abs" = none
  int : mg "int" = none
  list : mg "list" = none
  isinstance : mg "isinstance" = none
  repr : mg "repr" = none
  len : mg "len" = none
  range : mg "range" = none
  ValueError : mg "ValueError" = none
  KeyError : mg "KeyError" = none
  IndexError : mg "IndexError" = none
  LookupError : mg "LookupError" = none
  RuntimeError : mg "RuntimeError" = none
  OverflowError : mg "OverflowError" = none
abbrev s_law_pen : Stmt := top 25
abbrev n_law_pen : List Str := ["_law_script"]
abbrev p_law_pen : List Str := ["_law_script"]
theorem sc_law_pen : FnScope n_law_pen p_law_pen (defScope s_law_pen) := ⟨rfl, rfl, rfl, by decide +kernel, rfl, by decide +kernel, by decide +kernel⟩
abbrev s_law_draw : Stmt := top 26
abbrev n_law_draw : List Str := ["_law_pen_here", "_law_many", "_law_digit", "_law_turn", "_law_cell", "_law_great", "_law_mash"]
abbrev p_law_draw : List Str := ["_law_pen_here", "_law_many"]
theorem sc_law_draw : FnScope n_law_draw p_law_draw (defScope s_law_draw) := ⟨rfl, rfl, rfl, by decide +kernel, rfl, by decide +kernel, by decide +kernel⟩
abbrev s_law_odd : Stmt := top 27
abbrev n_law_odd : List Str := ["_law_pen_here", "_law_odd_here"]
abbrev p_law_odd : List Str := ["_law_pen_here"]
theorem sc_law_odd : FnScope n_law_odd p_law_odd (defScope s_law_odd) := ⟨rfl, rfl, rfl, by decide +kernel, rfl, by decide +kernel, by decide +kernel⟩
abbrev s_law_made : Stmt := top 28
abbrev n_law_made : List Str := ["_law_one", "_law_two", "_law_made_here"]
abbrev p_law_made : List Str := ["_law_one", "_law_two"]
theorem sc_law_made : FnScope n_law_made p_law_made (defScope s_law_made) := ⟨rfl, rfl, rfl, by decide +kernel, rfl, by decide +kernel, by decide +kernel⟩
abbrev s_law_named : Stmt := top 29
abbrev n_law_named : List Str := ["_law_one", "_law_two", "_law_made_here"]
abbrev p_law_named : List Str := ["_law_one", "_law_two"]
theorem sc_law_named : FnScope n_law_named p_law_named (defScope s_law_named) := ⟨rfl, rfl, rfl, by decide +kernel, rfl, by decide +kernel, by decide +kernel⟩
abbrev s_law_fields : Stmt := top 30
abbrev n_law_fields : List Str := ["_law_e", "_law_told"]
abbrev p_law_fields : List Str := ["_law_e"]
theorem sc_law_fields : FnScope n_law_fields p_law_fields (defScope s_law_fields) := ⟨rfl, rfl, rfl, by decide +kernel, rfl, by decide +kernel, by decide +kernel⟩
abbrev s_law_classes : Stmt := top 31
abbrev n_law_classes : List Str := ["_law_e", "_law_told"]
abbrev p_law_classes : List Str := ["_law_e"]
theorem sc_law_classes : FnScope n_law_classes p_law_classes (defScope s_law_classes) := ⟨rfl, rfl, rfl, by decide +kernel, rfl, by decide +kernel, by decide +kernel⟩
abbrev s_law_bases : Stmt := top 32
abbrev n_law_bases : List Str := ["_law_e", "_law_told", "_law_one"]
abbrev p_law_bases : List Str := ["_law_e"]
theorem sc_law_bases : FnScope n_law_bases p_law_bases (defScope s_law_bases) := ⟨rfl, rfl, rfl, by decide +kernel, rfl, by decide +kernel, by decide +kernel⟩
abbrev slaw : Stmt := top 33
abbrev nlaw : List Str := ["_law_script", "_law_pen_here", "_law_due", "_law_turn", "_law_one", "_law_two", "_law_some", "_law_named_here", "_law_k", "_law_j"]
abbrev plaw : List Str := ["_law_script"]
theorem sclaw : FnScope nlaw plaw (defScope slaw) := ⟨rfl, rfl, rfl, by decide +kernel, rfl, by decide +kernel, by decide +kernel⟩
end L2.Mb
set_option maxRecDepth 100000
set_option maxHeartbeats 4000000
namespace L2.Mb
open PySem PySem.Spec PyProof.Rows Mx
/-- the pen at p: its list of cells, the next cell's index, the rest of a great cell -/
def PenAt (H : Hp) (p : Addr) (ns : List Int) (t : Int) : Prop := ∃ (l : Addr) (g : Int), H p = some (.lst [.ref l, .int t, .int g]) ∧ H l = some (.lst (ns.map V.int))
/-- all but p stands as it stood -/
def But (p : Addr) (H H' : Hp) : Prop := ∀ c o, c ≠ p → H c = some o → H' c = some o
def spDraw : Sp := fun vs H Q _ => ∃ (p : Addr) (m : Int) (ns : List Int) (t : Int), vs = [.ref p, .int m] ∧ PenAt H p ns t ∧ ns.length ≤ 63 ∧ 0 ≤ t ∧ t ≤ 1000000 ∧ 1 ≤ m ∧ m ≤ 1000000 ∧
  ∀ (d t' : Int) (H' : Hp), 0 ≤ d → d < m → t ≤ t' → t' ≤ t + 1 → PenAt H' p ns t' → But p H H' → Q (.int d) H'
theorem pow_bd {x : Int} {n : Nat} (k : Nat) (h : x.natAbs ≤ n) : (x ^ k).natAbs ≤ n ^ k := by
  rw [Int.natAbs_pow]
  exact Nat.pow_le_pow_left h k
theorem dp_ints {K : W.Frag} {H : Hp} : ∀ ns : List Int, DpAll K H (ns.map V.int) (ns.map PyData.int)
  | [] => .nil
  | n :: r => .cons (.int n) (dp_ints r)
theorem ints_lay : ∀ ns : List Int, PyData.canLayAll0 (ns.map PyData.int) = true ∧ PyData.depthAll (ns.map PyData.int) = 0
  | [] => ⟨by simp [PyData.canLayAll0], by simp [PyData.depthAll]⟩
  | n :: r => by
    obtain ⟨h1, h2⟩ := ints_lay r
    refine ⟨?_, ?_⟩
    · simp only [List.map_cons, PyData.canLayAll0, PyData.canLay0, h1, Bool.and_self]
    · simp only [List.map_cons, PyData.depthAll, PyData.depth, h2, Nat.max_self]
theorem ints_shaped (ns : List Int) : SeqAt.shaped (.list (ns.map PyData.int)) = true := by
  obtain ⟨h1, h2⟩ := ints_lay ns
  show (PyData.canLay0 (.list (ns.map PyData.int)) && decide (PyData.depth (.list (ns.map PyData.int)) ≤ 64)) = true
  simp only [PyData.canLay0, PyData.depth, h1, h2]
  decide
theorem ifB {c : Bool} {X Y : Prop} (h1 : c = true → X) (h2 : c = false → Y) : if c = true then X else Y := by
  cases c with
  | true => exact (h1 rfl)
  | false => exact (h2 rfl)
section
variable {P : Program} {w : World} {K : W.Frag} {mg : Str → Option Value} {base : Heap} {f : Addr} {fd : FuncData}
theorem ok_draw (B : Bt mg) (F : FnP K "_law_draw" s_law_draw f fd) : FnOk P w K mg base CX0 1 f fd p_law_draw spDraw := by
  refine F.ok sc_law_draw (fun vs H Q E h => ?_) (fun cdv A outer s H vs Q E hr h => ?_)
  · obtain ⟨p, m, ns, t, rfl, _⟩ := h
    rfl
  · obtain ⟨p, m, ns, t, rfl, ⟨l, g, hp, hl⟩, hn, t0, t1, m0, m1, k⟩ := h
    have hu := hr.units
    refine ⟨_, PSs.nox (pss_cons (ps_if (pt_cmpR op_gt (pe_ix ix_list (pv 0) pe_int (fun _ _ => rfl)) pe_int (nomark _)) (pss_cons (ps_set (i := 2) sc_law_draw.nd rfl (Or.inl rfl) (pe_op op_mod (pe_callTy call_int1 (by rfl) B.int (by decide +kernel) (pa_cons (pe_ix ix_list (pv 0) pe_int (fun _ _ => rfl)) pa_nil)) (pv 1)))
      (pss_cons (ps_asg (pe_op op_fdiv (pe_ix ix_list (pv 0) pe_int (fun _ _ => rfl)) (pv 1)) (pg_sub (pv 0) pe_int set_list))
      (pss_one (ps_ret (pv 2))))) pss_nil)
    (pss_cons (ps_set (i := 3) sc_law_draw.nd rfl (Or.inl rfl) (pe_ix ix_list (pv 0) pe_int (fun _ _ => rfl)))
    (pss_cons (ps_asg (pe_op op_add (pv 3) pe_int) (pg_sub (pv 0) pe_int set_list))
    (pss_cons (ps_set (i := 4) sc_law_draw.nd rfl (Or.inl rfl) (pe_op op_add (pe_op op_mul pe_int (pv 3)) pe_int))
    (Evl.pss_cut (ps_if (pt_cmpR (op_neD hu) (pe_ix ix_list (pv 0) pe_int (fun _ _ => rfl)) (pe_lst pa_nil) (nomark _)) (pss_one (ps_set (i := 4) sc_law_draw.nd rfl (Or.inl rfl) (pe_ix ix_list (pe_ix ix_list (pv 0) pe_int (fun _ _ => rfl)) (pe_op op_mod (pv 3) (pe_callB call_len_seq (by rfl) B.len (by decide +kernel) (pa_cons (pe_ix ix_list (pv 0) pe_int (fun _ _ => rfl)) pa_nil))) (fun _ _ => rfl)))) pss_nil)
    (Evl.pss_cut (ps_if ((pw_and (pt_cmpR op_lt (pv 3) (pe_callB call_len_seq (by rfl) B.len (by decide +kernel) (pa_cons (pe_ix ix_list (pv 0) pe_int (fun _ _ => rfl)) pa_nil)) (nomark _)) (pw_and1 (pt_cmpR op_ge (pe_callB call_abs (by rfl) B.abs (by decide +kernel) (pa_cons (pv 4) pa_nil)) (pe_op op_pow pe_int pe_int) (nomark _))))).pt (pss_cons (ps_set (i := 5) sc_law_draw.nd rfl (Or.inl rfl) (pe_op op_add (pe_op op_mul pe_int (pe_op op_sub (pe_callB call_abs (by rfl) B.abs (by decide +kernel) (pa_cons (pv 4) pa_nil)) (pe_op op_pow pe_int pe_int))) (pe_callTy call_int1 (by rfl) B.int (by decide +kernel) (pa_cons (pe_cmpR op_lt (pv 4) pe_int (nomark _)) pa_nil))))
      (pss_cons (ps_asg (pe_op op_fdiv (pv 5) (pv 1)) (pg_sub (pv 0) pe_int set_list))
      (pss_one (ps_ret (pe_op op_mod (pe_callTy call_int1 (by rfl) B.int (by decide +kernel) (pa_cons (pv 5) pa_nil)) (pv 1)))))) pss_nil)
    (pss_cons (ps_set (i := 6) sc_law_draw.nd rfl (Or.inl rfl) (pe_op op_mod (pe_op op_pow (pe_op op_add (pe_op op_add (pe_op op_add (pe_op op_mod (pe_callTy call_int1 (by rfl) B.int (by decide +kernel) (pa_cons (pv 4) pa_nil)) pe_int) (pe_op op_mul (pe_op op_mul pe_int (pv 3)) (pv 3))) (pe_op op_mul pe_int (pv 3))) pe_int) pe_int) pe_int))
    (pss_cons (ps_set (i := 6) sc_law_draw.nd rfl (Or.inl rfl) (pe_op op_mod (pe_op op_pow (pe_op op_add (pe_op op_add (pe_op op_mul (pv 6) (pe_op op_add (pe_op op_mul pe_int (pv 3)) pe_int)) (pe_op op_mul pe_int (pv 3))) pe_int) pe_int) pe_int))
    (pss_one (ps_ret (pe_op op_mod (pe_callTy call_int1 (by rfl) B.int (by decide +kernel) (pa_cons (pe_op op_fdiv (pv 6) pe_int) pa_nil)) (pv 1)))))))))))), ?_⟩
    have npl : p ≠ l := by
      intro e
      rw [e, hl] at hp
      cases ns with
      | nil => simp at hp
      | cons a r => simp at hp
    -- if pen[2] > 0
    refine ⟨_, rfl, p, _, _, _, rfl, rfl, SqL.of hp, atI_nat (j := 2) rfl, _, _, rfl, rfl, _, rfl, ?_⟩
    refine ite2 (fun _ => ?_) (fun _ => ?_)
    · refine ⟨_, rfl, p, _, _, _, rfl, rfl, SqL.of hp, atI_nat (j := 2) rfl, .inl ⟨g, rfl, _, rfl, _, _, rfl, rfl, by omega, ?_⟩⟩
      refine ⟨_, rfl, p, _, _, _, rfl, rfl, SqL.of hp, atI_nat (j := 2) rfl, _, rfl, _, _, rfl, rfl, ⟨by omega, by omega⟩, ?_⟩
      refine ⟨_, rfl, p, _, _, 2, rfl, rfl, hp, rfl, ?_⟩
      refine ⟨_, rfl, ?_⟩
      refine k _ t _ (Int.emod_nonneg _ (by omega)) (Int.emod_lt_of_pos _ (by omega)) (Int.le_refl _) (by omega) ⟨l, _, upd_same, ?_⟩ (fun c o hc e => by rw [upd_ne hc]; exact e)
      rw [upd_ne npl.symm]
      exact hl
    · refine ⟨_, rfl, p, _, _, _, rfl, rfl, SqL.of hp, atI_nat (j := 1) rfl, ?_⟩
      refine ⟨_, rfl, _, _, rfl, rfl, _, rfl, p, _, _, 1, rfl, rfl, hp, rfl, ?_⟩
      refine ⟨_, rfl, _, _, rfl, rfl, .inl ⟨by decide, by decide⟩, _, _, rfl, rfl, ?_⟩
      have hp1 : (upd H p (.lst [.ref l, .int (t + 1), .int g])) p = some (.lst [.ref l, .int (t + 1), .int g]) := upd_same
      have hl1 : (upd H p (.lst [.ref l, .int (t + 1), .int g])) l = some (.lst (ns.map V.int)) := by
        rw [upd_ne npl.symm]
        exact hl
      refine ⟨fun σ' H' => ∃ c : Int, σ' = [some (.ref p), some (.int m), none, some (.int t), some (.int c), none, none] ∧ H' p = some (.lst [.ref l, .int (t + 1), .int g]) ∧ H' l = some (.lst (ns.map V.int)) ∧ But p H H', ?_, ?_⟩
      · -- if pen[0] != []
        refine ⟨_, rfl, p, _, _, _, rfl, rfl, SqL.of hp1, atI_nat (j := 0) rfl, Nat.zero_le _, fun q hq => ?_⟩
        have nq : ∀ {c : Addr} {o : HO}, (upd H p (.lst [.ref l, .int (t + 1), .int g])) c = some o → c ≠ q := fun e => ne_of_none e hq
        have hp2 : (upd (upd H p (.lst [.ref l, .int (t + 1), .int g])) q (.lst [])) p = some (.lst [.ref l, .int (t + 1), .int g]) := by
          rw [upd_ne (nq hp1)]
          exact hp1
        have hl2 : (upd (upd H p (.lst [.ref l, .int (t + 1), .int g])) q (.lst [])) l = some (.lst (ns.map V.int)) := by
          rw [upd_ne (nq hl1)]
          exact hl1
        have bt2 : But p H (upd (upd H p (.lst [.ref l, .int (t + 1), .int g])) q (.lst [])) := fun c o hc e => by
          have e1 : (upd H p (.lst [.ref l, .int (t + 1), .int g])) c = some o := by
            rw [upd_ne hc]
            exact e
          rw [upd_ne (nq e1)]
          exact e1
        refine ⟨_, _, .lst (SqL.of hl2) (dp_ints ns), .lst (SqL.of upd_same) .nil, ints_shaped ns, rfl, _, rfl, ?_⟩
        cases hns : ns with
        | nil =>
          refine ifB (fun z => ?_) (fun _ => ?_)
          · simp [PyData.eqv, PyData.eqvAll] at z
          · rw [hns] at hl2
            exact ⟨_, rfl, hp2, hl2, bt2⟩
        | cons a r =>
          refine ifB (fun _ => ?_) (fun z => ?_)
          · have lp : (0 : Int) < ((ns.map V.int).length : Int) := by
              rw [hns]
              simp
              try omega
            have ix0 := Int.emod_nonneg t (show ((ns.map V.int).length : Int) ≠ 0 by omega)
            have ix1 := Int.emod_lt_of_pos t lp
            obtain ⟨j, hj⟩ := Int.eq_ofNat_of_zero_le ix0
            have hjl : j < ns.length := by
              rw [List.length_map] at hj ix1
              omega
            obtain ⟨c, hc⟩ : ∃ c, ns[j]? = some c := ⟨ns[j], List.getElem?_eq_getElem hjl⟩
            refine ⟨_, rfl, p, _, _, _, rfl, rfl, SqL.of hp2, atI_nat (j := 0) rfl, _, rfl, _, rfl, p, _, _, _, rfl, rfl, SqL.of hp2, atI_nat (j := 0) rfl, l, _, rfl, .inl (SqL.of hl2), _, _, rfl, rfl, lp, ?_⟩
            refine ⟨l, _, _, .int c, rfl, rfl, SqL.of hl2, ?_, ?_⟩
            · rw [hj]
              exact atI_nat (by rw [List.getElem?_map, hc]; rfl)
            · rw [hns] at hl2
              exact ⟨_, rfl, hp2, hl2, bt2⟩
          · simp [PyData.eqv, PyData.eqvAll] at z
      · rintro σ' H' ⟨c, rfl, hp3, hl3, bt3⟩
        -- if turn < len(pen[0]) and abs(cell) >= 10 ** 18
        refine ⟨fun σ'' H'' => σ'' = [some (.ref p), some (.int m), none, some (.int t), some (.int c), none, none] ∧ H'' p = some (.lst [.ref l, .int (t + 1), .int g]) ∧ H'' l = some (.lst (ns.map V.int)) ∧ But p H H'', ?_, ?_⟩
        · refine ⟨_, rfl, _, rfl, p, _, _, _, rfl, rfl, SqL.of hp3, atI_nat (j := 0) rfl, l, _, rfl, .inl (SqL.of hl3), _, _, rfl, rfl, _, rfl, ?_⟩
          refine ite2 (fun _ => ?_) (fun _ => ?_)
          · refine ⟨_, rfl, c, rfl, _, _, rfl, rfl, ⟨by decide, by decide, by decide⟩, _, _, rfl, rfl, _, rfl, ?_⟩
            refine ite2 (fun _ => ?_) (fun _ => ?_)
            · refine ⟨_, rfl, c, rfl, _, _, rfl, rfl, ⟨by decide, by decide, by decide⟩, _, _, rfl, rfl, _, _, rfl, rfl, .inl ⟨by decide, by decide⟩, ?_⟩
              refine ⟨_, rfl, _, _, rfl, rfl, .inr ⟨_, rfl, _, _, rfl, rfl, ?_⟩⟩
              refine ⟨_, rfl, _, rfl, _, _, rfl, rfl, ⟨by omega, by omega⟩, _, rfl, p, _, _, 2, rfl, rfl, hp3, rfl, ?_⟩
              refine ⟨_, rfl, .inl ⟨_, rfl, _, rfl, _, _, rfl, rfl, by omega, ?_⟩⟩
              refine k _ (t + 1) _ (Int.emod_nonneg _ (by omega)) (Int.emod_lt_of_pos _ (by omega)) (by omega) (Int.le_refl _) ⟨l, _, upd_same, ?_⟩ (fun c o hc e => by rw [upd_ne hc]; exact bt3 c o hc e)
              rw [upd_ne npl.symm]
              exact hl3
            · exact ⟨rfl, hp3, hl3, bt3⟩
          · exact ⟨rfl, hp3, hl3, bt3⟩
        · rintro σ'' H'' ⟨rfl, hp4, hl4, bt4⟩
          have q0 := Int.emod_nonneg c (show (2147483477 : Int) ≠ 0 by decide)
          have q1 := Int.emod_lt_of_pos c (show (0 : Int) < 2147483477 by decide)
          have tt0 : 0 ≤ t * t := Int.mul_nonneg t0 t0
          have tt1 : t * t ≤ 1000000 * 1000000 := Int.mul_le_mul t1 t1 t0 (by decide)
          have te : 30011 * t * t = 30011 * (t * t) := Int.mul_assoc _ _ _
          -- the first mash
          refine ⟨_, rfl, .inl ⟨c, rfl, _, _, rfl, rfl, (by show (0 : Int) < 2147483477; decide), _, rfl, _, _, rfl, rfl, .inl ⟨by decide, by decide⟩, _, rfl, _, _, rfl, rfl, .inr ⟨by omega, by omega⟩, _, _, rfl, rfl,
            _, rfl, _, _, rfl, rfl, .inl ⟨by decide, by decide⟩, _, _, rfl, rfl, _, _, rfl, rfl, _, _, rfl, rfl, ⟨by decide, by decide, ?_⟩, _, _, rfl, rfl, (by show (0 : Int) < 2147483647; decide), ?_⟩⟩
          · show (c % 2147483477 + 30011 * t * t + 20011 * t + 7).natAbs < 2 ^ 64
            rw [te]
            omega
          · show gName 6 (V.int ((c % 2147483477 + 30011 * t * t + 20011 * t + 7) ^ Int.toNat 3 % 2147483647)) _ _ _
            generalize hz : (c % 2147483477 + 30011 * t * t + 20011 * t + 7) ^ Int.toNat 3 % 2147483647 = z
            have z0 : 0 ≤ z := by
              rw [← hz]
              exact Int.emod_nonneg _ (by decide)
            have z1 : z < 2147483647 := by
              rw [← hz]
              exact Int.emod_lt_of_pos _ (by decide)
            have y0 : 0 ≤ z * (2 * t + 15) := Int.mul_nonneg z0 (by omega)
            have y1 : z * (2 * t + 15) ≤ 2147483647 * 2000015 := Int.mul_le_mul (by omega) (by omega) (by omega) (by decide)
            -- the second
            refine ⟨_, rfl, _, rfl, _, _, rfl, rfl, .inl ⟨by decide, by decide⟩, _, _, rfl, rfl, _, _, rfl, rfl, .inl ⟨by omega, by omega⟩, _, rfl, _, _, rfl, rfl, .inl ⟨by decide, by decide⟩, _, _, rfl, rfl, _, _, rfl, rfl,
              _, _, rfl, rfl, ⟨by decide, by decide, ?_⟩, _, _, rfl, rfl, (by show (0 : Int) < 2147483563; decide), ?_⟩
            · show (z * (2 * t + 15) + 50021 * t + 3).natAbs < 2 ^ 64
              omega
            · refine ⟨_, rfl, _, _, rfl, rfl, ⟨by decide, by decide⟩, .inl ⟨_, rfl, _, rfl, _, _, rfl, rfl, by omega, ?_⟩⟩
              exact k _ (t + 1) _ (Int.emod_nonneg _ (by omega)) (Int.emod_lt_of_pos _ (by omega)) (by omega) (Int.le_refl _) ⟨l, _, hp4, hl4⟩ bt4
end
end L2.Mb
set_option maxRecDepth 100000
set_option maxHeartbeats 4000000
namespace L2.Mb
open PySem PySem.Spec PyProof.Rows Mx Evl
/-- the values that a field may be given, as data -/
def odds : List PyData := [.none, .bool true, .bool false, .int 0, .int 1, .int (-7), .int (10 ^ 40), .str "", .str "a", .str "it's", .tuple [], .tuple [.int 1, .str "x"], .list [], .list [.none],
  .dict [], .dict [(.str "a", .list [.int 1])], .tuple [.str "own", .int 3]]
def spOdd (K : W.Frag) : Sp := fun vs H Q _ => ∃ (p : Addr) (ns : List Int) (t : Int), vs = [.ref p] ∧ PenAt H p ns t ∧ ns.length ≤ 63 ∧ 0 ≤ t ∧ t ≤ 1000000 ∧
  ∀ (v : V) (d : PyData) (t' : Int) (H' : Hp), d ∈ odds → (∀ H2, But p H' H2 → Dq K H2 v d) → t ≤ t' → t' ≤ t + 1 → PenAt H' p ns t' → But p H H' → Q v H'
/-- what a caller is handed of draw -/
structure Fn1 (P : Program) (w : World) (K : W.Frag) (mg : Str → Option Value) (base : Heap) (x : Str) (k : Nat) (f : Addr) (fd : FuncData) (ps : List Str) (sp : Sp) : Prop where
  ok : FnG P w K mg base CX0 k f fd ps sp
  m : mg x = some (.ref f)
  k : W.keepIn K (.ref f) = true
  b : Binds K fd ps []
theorem at_new {H : Hp} {p q : Addr} {o : HO} (_ : (upd H p o) q = none) : (upd H p o) p = some o := upd_same
theorem new_at {H : Hp} {p : Addr} {o : HO} (_ : H p = none) : (upd H p o) p = some o := upd_same
theorem over {H : Hp} {a b : Addr} {o6 o7 o8 : HO} (n : (upd H a o6) b = none) : (upd (upd (upd H a o6) b o7) a o8) b = some o7 := (upd_ne (ne_of_none (at_new n) n).symm).trans upd_same
theorem far_of {H5 H7 : Hp} {a6 c : Addr} {o o6 : HO} (n6 : H5 a6 = none) (e : Ex H5 H7) (h : H5 c = some o) : upd H7 a6 o6 c = some o := (upd_ne (ne_of_none h n6)).trans (e c _ h)
section
variable {P : Program} {w : World} {K : W.Frag} {mg : Str → Option Value} {base : Heap} {f fD : Addr} {fd fdD : FuncData}
theorem ok_odd (B : Bt mg) (F : FnP K "_law_odd" s_law_odd f fd) (D_law_draw : Fn1 P w K mg base "_law_draw" 1 fD fdD p_law_draw spDraw) : FnG P w K mg base CX0 2 f fd p_law_odd (spOdd K) := by
  refine fund_okG F sc_law_odd (fun vs H Q E h => ?_) (fun cdv A outer s H vs Q E gd hr h => ?_)
  · obtain ⟨p, ns, t, rfl, _⟩ := h
    rfl
  · obtain ⟨p, ns, t, rfl, ⟨l, g, hp, hl⟩, hn, t0, t1, k⟩ := h
    refine ⟨_, PSs.nox (pss_cons (ps_set (i := 1) sc_law_odd.nd rfl (Or.inl rfl) (pe_lst (pa_cons pe_non (pa_cons pe_bl (pa_cons pe_bl (pa_cons pe_int (pa_cons pe_int (pa_cons (pe_un un_neg pe_int) (pa_cons (pe_op op_pow pe_int pe_int) (pa_cons pe_str (pa_cons pe_str (pa_cons pe_str (pa_cons (pe_tup pa_nil) (pa_cons (pe_tup (pa_cons pe_int (pa_cons pe_str pa_nil))) (pa_cons (pe_lst pa_nil) (pa_cons (pe_lst (pa_cons pe_non pa_nil)) (pa_cons pe_dnewK (pa_cons (pe_disp (pps_cons pe_str (pe_lst (pa_cons pe_int pa_nil)) pps_nil) (by rfl) (by rfl) (by simp) (by decide)) (pa_cons (pe_tup (pa_cons pe_str (pa_cons pe_int pa_nil))) pa_nil)))))))))))))))))))
    (pss_one (ps_ret (pe_ix ix_list (pv 1) (pe_callG gd D_law_draw.ok (hr.mono (by decide)) rfl D_law_draw.m D_law_draw.k D_law_draw.b .nil pass0 (pa_cons (pv 0) (pa_cons pe_int pa_nil))) (fun _ _ => rfl))))), ?_⟩
    refine ⟨7, rfl, _, _, rfl, rfl, ⟨by decide, by decide, by decide⟩, (by decide), fun a1 n1 => ⟨(by decide), fun a2 n2 => ⟨(by decide), fun a3 n3 => ⟨(by decide), fun a4 n4 => fun a5 n5 => fun a6 n6 => ⟨(by decide), fun a7 n7 => ?_⟩⟩⟩⟩⟩
    have e1 : Ex H _ := Ex.new (o := .tup []) n1
    have e2 := Ex.new (o := .tup [.int 1, .str "x"]) n2
    have e3 := Ex.new (o := .lst []) n3
    have e4 := Ex.new (o := .lst [.non]) n4
    have e5 := Ex.new (o := .dK []) n5
    have e6 := Ex.new (o := .dK []) n6
    have e7 := Ex.new (o := .lst [.int 1]) n7
    have g6 := e7 a6 _ upd_same
    refine ⟨g6, [(.inr "a", .ref a7)], rfl, (by show 1 ≤ 15; decide), (by decide), fun a8 n8 => ⟨(by show 17 ≤ sizeLine; decide), fun a9 n9 => ?_⟩⟩
    have e15 := (((e1.trans e2).trans e3).trans e4).trans e5
    have e67 := e6.trans e7
    have x1 := far_of (o6 := .dK (mergeK [] [(.inr "a", .ref a7)])) n6 e67 ((((e2.trans e3).trans e4).trans e5) a1 _ upd_same)
    have x2 := far_of (o6 := .dK (mergeK [] [(.inr "a", .ref a7)])) n6 e67 (((e3.trans e4).trans e5) a2 _ upd_same)
    have x3 := far_of (o6 := .dK (mergeK [] [(.inr "a", .ref a7)])) n6 e67 ((e4.trans e5) a3 _ upd_same)
    have x4 := far_of (o6 := .dK (mergeK [] [(.inr "a", .ref a7)])) n6 e67 (e5 a4 _ upd_same)
    have x5 := far_of (o6 := .dK (mergeK [] [(.inr "a", .ref a7)])) n6 e67 (at_new n6)
    have x7 := over (o7 := .lst [.int 1]) (o8 := .dK (mergeK [] [(.inr "a", .ref a7)])) n7
    have x6 := at_new n8
    have xp := far_of (o6 := .dK (mergeK [] [(.inr "a", .ref a7)])) n6 e67 (e15 p _ hp)
    have xl := far_of (o6 := .dK (mergeK [] [(.inr "a", .ref a7)])) n6 e67 (e15 l _ hl)
    have xa : ∀ c o, H c = some o → _ := fun c o h => far_of (o6 := .dK (mergeK [] [(.inr "a", .ref a7)])) n6 e67 (e15 c o h)
    have e8 := Ex.new (o := .tup [.str "own", .int 3]) n8
    have e9 := Ex.new (o := .lst [.non, .bl true, .bl false, .int 0, .int 1, .int (-7), .int (10 ^ 40), .str "", .str "a", .str "it's", .ref a1, .ref a2, .ref a3, .ref a4, .ref a5, .ref a6, .ref a8]) n9
    have e89 := e8.trans e9
    have y1 := e89 _ _ x1
    have y2 := e89 _ _ x2
    have y3 := e89 _ _ x3
    have y4 := e89 _ _ x4
    have y5 := e89 _ _ x5
    have y6 := e89 _ _ x6
    have y7 := e89 _ _ x7
    have y8 := e9 a8 _ upd_same
    have y9 := new_at (o := .lst [.non, .bl true, .bl false, .int 0, .int 1, .int (-7), .int (10 ^ 40), .str "", .str "a", .str "it's", .ref a1, .ref a2, .ref a3, .ref a4, .ref a5, .ref a6, .ref a8]) n9
    have yp := e89 _ _ xp
    have yl := e89 _ _ xl
    have ya := fun c o h => e89 c o (xa c o h)
    -- the fresh ones are none of the pen's
    have q1 : p ≠ a1 := ne_of_none hp n1
    have q2 : p ≠ a2 := ne_of_none (e1 p _ hp) n2
    have q3 : p ≠ a3 := ne_of_none ((e1.trans e2) p _ hp) n3
    have q4 : p ≠ a4 := ne_of_none (((e1.trans e2).trans e3) p _ hp) n4
    have q5 : p ≠ a5 := ne_of_none ((((e1.trans e2).trans e3).trans e4) p _ hp) n5
    have q6 : p ≠ a6 := ne_of_none (e15 p _ hp) n6
    have q7 : p ≠ a7 := ne_of_none ((e15.trans e6) p _ hp) n7
    have q8 : p ≠ a8 := ne_of_none xp n8
    have q9 : p ≠ a9 := ne_of_none (e8 _ _ xp) n9
    refine ⟨_, rfl, _, rfl, p, 17, ns, t, rfl, ⟨l, g, yp, yl⟩, hn, t0, t1, by decide, by decide, fun d t' H' d0 d1 s0 s1 pen but => ?_⟩
    obtain ⟨j, rfl⟩ := Int.eq_ofNat_of_zero_le d0
    have hj : j < 17 := by omega
    have bb : But p H H' := fun c o hc h => but c o hc (ya c o h)
    have z9 := but a9 _ q9.symm y9
    have fin : ∀ (v : V) (d : PyData), [V.non, .bl true, .bl false, .int 0, .int 1, .int (-7), .int (10 ^ 40), .str "", .str "a", .str "it's", .ref a1, .ref a2, .ref a3, .ref a4, .ref a5, .ref a6, .ref a8][j]? = some v → d ∈ odds → (∀ H2, But p H' H2 → Dq K H2 v d) → _ := fun v d hv hd hq =>
      show rIxL K (.ref a9) (.int (j : Int)) H' Q from ⟨a9, _, _, v, rfl, rfl, SqL.of z9, atI_nat hv, k v d t' H' hd hq s0 s1 pen bb⟩
    have z1 := fun H2 (b2 : But p H' H2) => b2 a1 _ q1.symm (but a1 _ q1.symm y1)
    have z2 := fun H2 (b2 : But p H' H2) => b2 a2 _ q2.symm (but a2 _ q2.symm y2)
    have z3 := fun H2 (b2 : But p H' H2) => b2 a3 _ q3.symm (but a3 _ q3.symm y3)
    have z4 := fun H2 (b2 : But p H' H2) => b2 a4 _ q4.symm (but a4 _ q4.symm y4)
    have z5 := fun H2 (b2 : But p H' H2) => b2 a5 _ q5.symm (but a5 _ q5.symm y5)
    have z6 := fun H2 (b2 : But p H' H2) => b2 a6 _ q6.symm (but a6 _ q6.symm y6)
    have z7 := fun H2 (b2 : But p H' H2) => b2 a7 _ q7.symm (but a7 _ q7.symm y7)
    have z8 := fun H2 (b2 : But p H' H2) => b2 a8 _ q8.symm (but a8 _ q8.symm y8)
    rcases (show j = 0 ∨ j = 1 ∨ j = 2 ∨ j = 3 ∨ j = 4 ∨ j = 5 ∨ j = 6 ∨ j = 7 ∨ j = 8 ∨ j = 9 ∨ j = 10 ∨ j = 11 ∨ j = 12 ∨ j = 13 ∨ j = 14 ∨ j = 15 ∨ j = 16 by omega) with
      rfl | rfl | rfl | rfl | rfl | rfl | rfl | rfl | rfl | rfl | rfl | rfl | rfl | rfl | rfl | rfl | rfl
    · exact fin _ _ rfl (List.mem_of_getElem? (i := 0) rfl) (fun H2 b2 => Dq.non)
    · exact fin _ _ rfl (List.mem_of_getElem? (i := 1) rfl) (fun H2 b2 => (Dq.bl true))
    · exact fin _ _ rfl (List.mem_of_getElem? (i := 2) rfl) (fun H2 b2 => (Dq.bl false))
    · exact fin _ _ rfl (List.mem_of_getElem? (i := 3) rfl) (fun H2 b2 => (Dq.int 0))
    · exact fin _ _ rfl (List.mem_of_getElem? (i := 4) rfl) (fun H2 b2 => (Dq.int 1))
    · exact fin _ _ rfl (List.mem_of_getElem? (i := 5) rfl) (fun H2 b2 => (Dq.int (-7)))
    · exact fin _ _ rfl (List.mem_of_getElem? (i := 6) rfl) (fun H2 b2 => (Dq.int (10 ^ 40)))
    · exact fin _ _ rfl (List.mem_of_getElem? (i := 7) rfl) (fun H2 b2 => (Dq.str ""))
    · exact fin _ _ rfl (List.mem_of_getElem? (i := 8) rfl) (fun H2 b2 => (Dq.str "a"))
    · exact fin _ _ rfl (List.mem_of_getElem? (i := 9) rfl) (fun H2 b2 => (Dq.str "it's"))
    · exact fin _ _ rfl (List.mem_of_getElem? (i := 10) rfl) (fun H2 b2 => (Dq.tup (SqT.of (z1 H2 b2)) .nil))
    · exact fin _ _ rfl (List.mem_of_getElem? (i := 11) rfl) (fun H2 b2 => (Dq.tup (SqT.of (z2 H2 b2)) (.cons (.int 1) (.cons (.str "x") .nil))))
    · exact fin _ _ rfl (List.mem_of_getElem? (i := 12) rfl) (fun H2 b2 => (Dq.lst (SqL.of (z3 H2 b2)) .nil))
    · exact fin _ _ rfl (List.mem_of_getElem? (i := 13) rfl) (fun H2 b2 => (Dq.lst (SqL.of (z4 H2 b2)) (.cons .non .nil)))
    · exact fin _ _ rfl (List.mem_of_getElem? (i := 14) rfl) (fun H2 b2 => (Dq.dct (ks := []) (xs := []) (z5 H2 b2) rfl .nil))
    · exact fin _ _ rfl (List.mem_of_getElem? (i := 15) rfl) (fun H2 b2 => (Dq.dct (ks := [.inr "a"]) (xs := [.ref a7]) (z6 H2 b2) rfl (.cons (.lst (SqL.of (z7 H2 b2)) (.cons (.int 1) .nil)) .nil)))
    · exact fin _ _ rfl (List.mem_of_getElem? (i := 16) rfl) (fun H2 b2 => (Dq.tup (SqT.of (z8 H2 b2)) (.cons (.str "own") (.cons (.int 3) .nil))))
end
end L2.Mb
set_option maxRecDepth 100000
namespace L2.Mb
open PySem PySem.Spec PyProof.Rows Mx Evl
theorem odds_short : ∀ d ∈ odds, (d.shown.length ≤ 100 ∧ d.showable = true) ∧ d.depth ≤ 4 := by decide +kernel
theorem all_rep (d : PyData) (hs : d.showable = true) : ∀ n, PyData.showableAll (List.replicate n d) = true
  | 0 => by simp [PyData.showableAll]
  | n + 1 => by simp [List.replicate_succ, PyData.showableAll, hs, all_rep d hs n]
theorem dep_rep (d : PyData) {m : Nat} (h : d.depth ≤ m) : ∀ n, PyData.depthAll (List.replicate n d) ≤ m
  | 0 => by simp [PyData.depthAll]
  | n + 1 => by
    have ih := dep_rep d h n
    simp only [List.replicate_succ, PyData.depthAll]
    omega
theorem len_rep (d : PyData) {m : Nat} (h : d.shown.length ≤ m) (n : Nat) : ((PyData.shownAll (List.replicate n d)).map (·.length)).sum ≤ n * m ∧ (PyData.shownAll (List.replicate n d)).length = n := by
  induction n with
  | zero => simp [PyData.shownAll]
  | succ n ih =>
    obtain ⟨i1, i2⟩ := ih
    rw [List.replicate_succ]
    simp only [PyData.shownAll, List.map_cons, List.sum_cons, List.length_cons, i2]
    refine ⟨?_, trivial⟩
    rw [Nat.succ_mul]
    omega
/-- a list of one thing again and again can be shown -/
theorem ok_rep {d : PyData} {m k : Nat} (h1 : d.shown.length ≤ m) (h2 : d.showable = true) (h3 : d.depth ≤ k) (n : Nat) :
    (PyData.list (List.replicate n d)).shown.length ≤ n * m + 2 * n + 3 ∧ (PyData.list (List.replicate n d)).showable = true ∧ (PyData.list (List.replicate n d)).depth ≤ k + 1 := by
  obtain ⟨l1, l2⟩ := len_rep d h1 n
  refine ⟨?_, ?_, ?_⟩
  · have z := listText_len_le (PyData.shownAll (List.replicate n d))
    simp only [PyData.shown]
    omega
  · simp only [PyData.showable]
    exact all_rep d h2 n
  · have z := dep_rep d h3 n
    simp only [PyData.depth]
    omega
theorem okD_mk {d : PyData} (h1 : d.shown.length ≤ 100000) (h2 : d.showable = true) (h3 : d.depth ≤ 60) : okD d = true := by
  unfold okD
  rw [h2, decide_eq_true h3, decide_eq_true (Nat.le_trans h1 (show 100000 ≤ sizeLine by decide))]
  rfl
theorem odds_ok : ∀ d ∈ odds, okD (.list [.list (List.replicate 22 d), .list (List.replicate 22 d)]) = true ∧ okD (.list [d, d]) = true := fun d hd => by
  obtain ⟨⟨a1, a2⟩, a3⟩ := odds_short d hd
  obtain ⟨b1, b2, b3⟩ := ok_rep a1 a2 a3 22
  obtain ⟨c1, c2, c3⟩ := ok_rep b1 b2 b3 2
  obtain ⟨e1, e2, e3⟩ := ok_rep a1 a2 a3 2
  exact ⟨okD_mk (Nat.le_trans c1 (by decide)) c2 (Nat.le_trans c3 (by decide)), okD_mk (Nat.le_trans e1 (by decide)) e2 (Nat.le_trans e3 (by decide))⟩
end L2.Mb
set_option maxRecDepth 100000
set_option maxHeartbeats 4000000
namespace L2.Mb
open PySem PySem.Spec PyProof.Rows Mx Evl
/-- __init__(self, f): self.f = f -/
def spI1 (C : Addr) (f : Str) : Sp := fun vs H Q _ => ∃ (a : Addr) (v : V), vs = [.ref a, v] ∧ H a = some (exo a C none) ∧ ∀ dx, H dx = none → dx ≠ a → Q .non (upd (upd H dx (exd dx [(f, v)])) a (exo a C (some dx)))
def spI2 (C : Addr) (f g : Str) : Sp := fun vs H Q _ => ∃ (a : Addr) (v u : V), vs = [.ref a, v, u] ∧ H a = some (exo a C none) ∧
  ∀ dx, H dx = none → dx ≠ a → Q .non (upd (upd (upd H dx (exd dx [(f, v)])) a (exo a C (some dx))) dx (exd dx [(g, u), (f, v)]))
abbrev FnI (K : W.Frag) (q : Str) (st : Stmt) (f : Addr) (fd : FuncData) : Prop := FunD K "__init__" q (defArgs st) (defBody st) (defScope st) [] [] f fd
/-- a class of one field, as a caller sees it -/
structure XC (P : Program) (w : World) (K : W.Frag) (mg : Str → Option Value) (base : Heap) (x : Str) (b : EB) (f : Str) (C fI : Addr) (fd : FuncData) : Prop where
  ec : EC K C fI b
  ok : FnOk P w K mg base CX0 1 fI fd ["self", f] (spI1 C f)
  bi : Binds K fd ["self", f] []
  kw : KwB K fd ["self", f] [f] id id
  m : mg x = some (.ref C)
  no : W.findIn K (.ref C) f = some none
structure XC2 (P : Program) (w : World) (K : W.Frag) (mg : Str → Option Value) (base : Heap) (x : Str) (b : EB) (f g : Str) (C fI : Addr) (fd : FuncData) : Prop where
  ec : EC K C fI b
  ok : FnOk P w K mg base CX0 1 fI fd ["self", f, g] (spI2 C f g)
  bi : Binds K fd ["self", f, g] []
  kw : KwB K fd ["self", f, g] [g, f] List.reverse List.reverse
  m : mg x = some (.ref C)
  no : W.findIn K (.ref C) f = some none
  no2 : W.findIn K (.ref C) g = some none
theorem Vals.rev {xs : List V} {us : List Value} (r : Vals xs us) : Vals xs.reverse us.reverse := by
  induction r with
  | nil => exact .nil
  | cons h t ih =>
    rw [List.reverse_cons, List.reverse_cons]
    exact ih.append (.cons h .nil)
section
variable {P : Program} {w : World} {K : W.Frag} {mg : Str → Option Value} {base : Heap} {C f : Addr} {fd : FuncData}
abbrev sI_InvalidKind : Stmt := inClass (top 2) 0
theorem scI_InvalidKind : FnScope ["self", "place"] ["self", "place"] (defScope sI_InvalidKind) := ⟨rfl, rfl, rfl, by decide +kernel, rfl, by decide +kernel, by decide +kernel⟩
theorem xc_InvalidKind (F : FnI K "InvalidKind.__init__" sI_InvalidKind f fd) (T : EC K C f .val) (no : W.findIn K (.ref C) "place" = some none) (m : mg "InvalidKind" = some (.ref C)) : XC P w K mg base "InvalidKind" .val "place" C f fd where
  ec := T
  ok := by
    refine F.ok scI_InvalidKind (fun vs H Q E h => ?_) (fun cdv A outer s H vs Q E hr h => ?_)
    · obtain ⟨a, v, rfl, _⟩ := h
      rfl
    · obtain ⟨a, v, rfl, ha, k⟩ := h
      refine ⟨_, PSs.nox (pss_one (ps_putX (pv 0) (pv 1))), ?_⟩
      exact ⟨v, rfl, _, rfl, a, C, f, .val, rfl, T, no, .inl ⟨ha, k⟩⟩
  bi := F.bindsN fun _ _ _ _ _ _ us hl => match us, hl with | [_, _], _ => rfl
  kw := by
    obtain ⟨oc, od, dV, kV, doc, pm, an, cdv, ct, osl, rfl, lk, hcd, hD, hK⟩ := F.ex
    rcases hD with ⟨_, rfl⟩ | ⟨z, _⟩
    · exact ⟨fun s a ws _ hl => match ws, hl with | [_], _ => .of_eq rfl, fun r => r⟩
    · exact absurd rfl z
  m := m
  no := no
abbrev sI_InvalidPart : Stmt := inClass (top 3) 0
theorem scI_InvalidPart : FnScope ["self", "index"] ["self", "index"] (defScope sI_InvalidPart) := ⟨rfl, rfl, rfl, by decide +kernel, rfl, by decide +kernel, by decide +kernel⟩
theorem xc_InvalidPart (F : FnI K "InvalidPart.__init__" sI_InvalidPart f fd) (T : EC K C f .val) (no : W.findIn K (.ref C) "index" = some none) (m : mg "InvalidPart" = some (.ref C)) : XC P w K mg base "InvalidPart" .val "index" C f fd where
  ec := T
  ok := by
    refine F.ok scI_InvalidPart (fun vs H Q E h => ?_) (fun cdv A outer s H vs Q E hr h => ?_)
    · obtain ⟨a, v, rfl, _⟩ := h
      rfl
    · obtain ⟨a, v, rfl, ha, k⟩ := h
      refine ⟨_, PSs.nox (pss_one (ps_putX (pv 0) (pv 1))), ?_⟩
      exact ⟨v, rfl, _, rfl, a, C, f, .val, rfl, T, no, .inl ⟨ha, k⟩⟩
  bi := F.bindsN fun _ _ _ _ _ _ us hl => match us, hl with | [_, _], _ => rfl
  kw := by
    obtain ⟨oc, od, dV, kV, doc, pm, an, cdv, ct, osl, rfl, lk, hcd, hD, hK⟩ := F.ex
    rcases hD with ⟨_, rfl⟩ | ⟨z, _⟩
    · exact ⟨fun s a ws _ hl => match ws, hl with | [_], _ => .of_eq rfl, fun r => r⟩
    · exact absurd rfl z
  m := m
  no := no
abbrev sI_NoRealm : Stmt := inClass (top 4) 0
theorem scI_NoRealm : FnScope ["self", "index"] ["self", "index"] (defScope sI_NoRealm) := ⟨rfl, rfl, rfl, by decide +kernel, rfl, by decide +kernel, by decide +kernel⟩
theorem xc_NoRealm (F : FnI K "NoRealm.__init__" sI_NoRealm f fd) (T : EC K C f .val) (no : W.findIn K (.ref C) "index" = some none) (m : mg "NoRealm" = some (.ref C)) : XC P w K mg base "NoRealm" .val "index" C f fd where
  ec := T
  ok := by
    refine F.ok scI_NoRealm (fun vs H Q E h => ?_) (fun cdv A outer s H vs Q E hr h => ?_)
    · obtain ⟨a, v, rfl, _⟩ := h
      rfl
    · obtain ⟨a, v, rfl, ha, k⟩ := h
      refine ⟨_, PSs.nox (pss_one (ps_putX (pv 0) (pv 1))), ?_⟩
      exact ⟨v, rfl, _, rfl, a, C, f, .val, rfl, T, no, .inl ⟨ha, k⟩⟩
  bi := F.bindsN fun _ _ _ _ _ _ us hl => match us, hl with | [_, _], _ => rfl
  kw := by
    obtain ⟨oc, od, dV, kV, doc, pm, an, cdv, ct, osl, rfl, lk, hcd, hD, hK⟩ := F.ex
    rcases hD with ⟨_, rfl⟩ | ⟨z, _⟩
    · exact ⟨fun s a ws _ hl => match ws, hl with | [_], _ => .of_eq rfl, fun r => r⟩
    · exact absurd rfl z
  m := m
  no := no
abbrev sI_Taken : Stmt := inClass (top 5) 0
theorem scI_Taken : FnScope ["self", "index"] ["self", "index"] (defScope sI_Taken) := ⟨rfl, rfl, rfl, by decide +kernel, rfl, by decide +kernel, by decide +kernel⟩
theorem xc_Taken (F : FnI K "Taken.__init__" sI_Taken f fd) (T : EC K C f .val) (no : W.findIn K (.ref C) "index" = some none) (m : mg "Taken" = some (.ref C)) : XC P w K mg base "Taken" .val "index" C f fd where
  ec := T
  ok := by
    refine F.ok scI_Taken (fun vs H Q E h => ?_) (fun cdv A outer s H vs Q E hr h => ?_)
    · obtain ⟨a, v, rfl, _⟩ := h
      rfl
    · obtain ⟨a, v, rfl, ha, k⟩ := h
      refine ⟨_, PSs.nox (pss_one (ps_putX (pv 0) (pv 1))), ?_⟩
      exact ⟨v, rfl, _, rfl, a, C, f, .val, rfl, T, no, .inl ⟨ha, k⟩⟩
  bi := F.bindsN fun _ _ _ _ _ _ us hl => match us, hl with | [_, _], _ => rfl
  kw := by
    obtain ⟨oc, od, dV, kV, doc, pm, an, cdv, ct, osl, rfl, lk, hcd, hD, hK⟩ := F.ex
    rcases hD with ⟨_, rfl⟩ | ⟨z, _⟩
    · exact ⟨fun s a ws _ hl => match ws, hl with | [_], _ => .of_eq rfl, fun r => r⟩
    · exact absurd rfl z
  m := m
  no := no
abbrev sI_TooDeep : Stmt := inClass (top 6) 0
theorem scI_TooDeep : FnScope ["self", "index"] ["self", "index"] (defScope sI_TooDeep) := ⟨rfl, rfl, rfl, by decide +kernel, rfl, by decide +kernel, by decide +kernel⟩
theorem xc_TooDeep (F : FnI K "TooDeep.__init__" sI_TooDeep f fd) (T : EC K C f .val) (no : W.findIn K (.ref C) "index" = some none) (m : mg "TooDeep" = some (.ref C)) : XC P w K mg base "TooDeep" .val "index" C f fd where
  ec := T
  ok := by
    refine F.ok scI_TooDeep (fun vs H Q E h => ?_) (fun cdv A outer s H vs Q E hr h => ?_)
    · obtain ⟨a, v, rfl, _⟩ := h
      rfl
    · obtain ⟨a, v, rfl, ha, k⟩ := h
      refine ⟨_, PSs.nox (pss_one (ps_putX (pv 0) (pv 1))), ?_⟩
      exact ⟨v, rfl, _, rfl, a, C, f, .val, rfl, T, no, .inl ⟨ha, k⟩⟩
  bi := F.bindsN fun _ _ _ _ _ _ us hl => match us, hl with | [_, _], _ => rfl
  kw := by
    obtain ⟨oc, od, dV, kV, doc, pm, an, cdv, ct, osl, rfl, lk, hcd, hD, hK⟩ := F.ex
    rcases hD with ⟨_, rfl⟩ | ⟨z, _⟩
    · exact ⟨fun s a ws _ hl => match ws, hl with | [_], _ => .of_eq rfl, fun r => r⟩
    · exact absurd rfl z
  m := m
  no := no
abbrev sI_Needed : Stmt := inClass (top 7) 0
theorem scI_Needed : FnScope ["self", "name"] ["self", "name"] (defScope sI_Needed) := ⟨rfl, rfl, rfl, by decide +kernel, rfl, by decide +kernel, by decide +kernel⟩
theorem xc_Needed (F : FnI K "Needed.__init__" sI_Needed f fd) (T : EC K C f .val) (no : W.findIn K (.ref C) "name" = some none) (m : mg "Needed" = some (.ref C)) : XC P w K mg base "Needed" .val "name" C f fd where
  ec := T
  ok := by
    refine F.ok scI_Needed (fun vs H Q E h => ?_) (fun cdv A outer s H vs Q E hr h => ?_)
    · obtain ⟨a, v, rfl, _⟩ := h
      rfl
    · obtain ⟨a, v, rfl, ha, k⟩ := h
      refine ⟨_, PSs.nox (pss_one (ps_putX (pv 0) (pv 1))), ?_⟩
      exact ⟨v, rfl, _, rfl, a, C, f, .val, rfl, T, no, .inl ⟨ha, k⟩⟩
  bi := F.bindsN fun _ _ _ _ _ _ us hl => match us, hl with | [_, _], _ => rfl
  kw := by
    obtain ⟨oc, od, dV, kV, doc, pm, an, cdv, ct, osl, rfl, lk, hcd, hD, hK⟩ := F.ex
    rcases hD with ⟨_, rfl⟩ | ⟨z, _⟩
    · exact ⟨fun s a ws _ hl => match ws, hl with | [_], _ => .of_eq rfl, fun r => r⟩
    · exact absurd rfl z
  m := m
  no := no
abbrev sI_InvalidTarget : Stmt := inClass (top 8) 0
theorem scI_InvalidTarget : FnScope ["self", "target"] ["self", "target"] (defScope sI_InvalidTarget) := ⟨rfl, rfl, rfl, by decide +kernel, rfl, by decide +kernel, by decide +kernel⟩
theorem xc_InvalidTarget (F : FnI K "InvalidTarget.__init__" sI_InvalidTarget f fd) (T : EC K C f .val) (no : W.findIn K (.ref C) "target" = some none) (m : mg "InvalidTarget" = some (.ref C)) : XC P w K mg base "InvalidTarget" .val "target" C f fd where
  ec := T
  ok := by
    refine F.ok scI_InvalidTarget (fun vs H Q E h => ?_) (fun cdv A outer s H vs Q E hr h => ?_)
    · obtain ⟨a, v, rfl, _⟩ := h
      rfl
    · obtain ⟨a, v, rfl, ha, k⟩ := h
      refine ⟨_, PSs.nox (pss_one (ps_putX (pv 0) (pv 1))), ?_⟩
      exact ⟨v, rfl, _, rfl, a, C, f, .val, rfl, T, no, .inl ⟨ha, k⟩⟩
  bi := F.bindsN fun _ _ _ _ _ _ us hl => match us, hl with | [_, _], _ => rfl
  kw := by
    obtain ⟨oc, od, dV, kV, doc, pm, an, cdv, ct, osl, rfl, lk, hcd, hD, hK⟩ := F.ex
    rcases hD with ⟨_, rfl⟩ | ⟨z, _⟩
    · exact ⟨fun s a ws _ hl => match ws, hl with | [_], _ => .of_eq rfl, fun r => r⟩
    · exact absurd rfl z
  m := m
  no := no
abbrev sI_InvalidPort : Stmt := inClass (top 9) 0
theorem scI_InvalidPort : FnScope ["self", "port"] ["self", "port"] (defScope sI_InvalidPort) := ⟨rfl, rfl, rfl, by decide +kernel, rfl, by decide +kernel, by decide +kernel⟩
theorem xc_InvalidPort (F : FnI K "InvalidPort.__init__" sI_InvalidPort f fd) (T : EC K C f .val) (no : W.findIn K (.ref C) "port" = some none) (m : mg "InvalidPort" = some (.ref C)) : XC P w K mg base "InvalidPort" .val "port" C f fd where
  ec := T
  ok := by
    refine F.ok scI_InvalidPort (fun vs H Q E h => ?_) (fun cdv A outer s H vs Q E hr h => ?_)
    · obtain ⟨a, v, rfl, _⟩ := h
      rfl
    · obtain ⟨a, v, rfl, ha, k⟩ := h
      refine ⟨_, PSs.nox (pss_one (ps_putX (pv 0) (pv 1))), ?_⟩
      exact ⟨v, rfl, _, rfl, a, C, f, .val, rfl, T, no, .inl ⟨ha, k⟩⟩
  bi := F.bindsN fun _ _ _ _ _ _ us hl => match us, hl with | [_, _], _ => rfl
  kw := by
    obtain ⟨oc, od, dV, kV, doc, pm, an, cdv, ct, osl, rfl, lk, hcd, hD, hK⟩ := F.ex
    rcases hD with ⟨_, rfl⟩ | ⟨z, _⟩
    · exact ⟨fun s a ws _ hl => match ws, hl with | [_], _ => .of_eq rfl, fun r => r⟩
    · exact absurd rfl z
  m := m
  no := no
abbrev sI_InvalidName : Stmt := inClass (top 10) 0
theorem scI_InvalidName : FnScope ["self", "name"] ["self", "name"] (defScope sI_InvalidName) := ⟨rfl, rfl, rfl, by decide +kernel, rfl, by decide +kernel, by decide +kernel⟩
theorem xc_InvalidName (F : FnI K "InvalidName.__init__" sI_InvalidName f fd) (T : EC K C f .val) (no : W.findIn K (.ref C) "name" = some none) (m : mg "InvalidName" = some (.ref C)) : XC P w K mg base "InvalidName" .val "name" C f fd where
  ec := T
  ok := by
    refine F.ok scI_InvalidName (fun vs H Q E h => ?_) (fun cdv A outer s H vs Q E hr h => ?_)
    · obtain ⟨a, v, rfl, _⟩ := h
      rfl
    · obtain ⟨a, v, rfl, ha, k⟩ := h
      refine ⟨_, PSs.nox (pss_one (ps_putX (pv 0) (pv 1))), ?_⟩
      exact ⟨v, rfl, _, rfl, a, C, f, .val, rfl, T, no, .inl ⟨ha, k⟩⟩
  bi := F.bindsN fun _ _ _ _ _ _ us hl => match us, hl with | [_, _], _ => rfl
  kw := by
    obtain ⟨oc, od, dV, kV, doc, pm, an, cdv, ct, osl, rfl, lk, hcd, hD, hK⟩ := F.ex
    rcases hD with ⟨_, rfl⟩ | ⟨z, _⟩
    · exact ⟨fun s a ws _ hl => match ws, hl with | [_], _ => .of_eq rfl, fun r => r⟩
    · exact absurd rfl z
  m := m
  no := no
abbrev sI_InvalidTime : Stmt := inClass (top 11) 0
theorem scI_InvalidTime : FnScope ["self", "time"] ["self", "time"] (defScope sI_InvalidTime) := ⟨rfl, rfl, rfl, by decide +kernel, rfl, by decide +kernel, by decide +kernel⟩
theorem xc_InvalidTime (F : FnI K "InvalidTime.__init__" sI_InvalidTime f fd) (T : EC K C f .val) (no : W.findIn K (.ref C) "time" = some none) (m : mg "InvalidTime" = some (.ref C)) : XC P w K mg base "InvalidTime" .val "time" C f fd where
  ec := T
  ok := by
    refine F.ok scI_InvalidTime (fun vs H Q E h => ?_) (fun cdv A outer s H vs Q E hr h => ?_)
    · obtain ⟨a, v, rfl, _⟩ := h
      rfl
    · obtain ⟨a, v, rfl, ha, k⟩ := h
      refine ⟨_, PSs.nox (pss_one (ps_putX (pv 0) (pv 1))), ?_⟩
      exact ⟨v, rfl, _, rfl, a, C, f, .val, rfl, T, no, .inl ⟨ha, k⟩⟩
  bi := F.bindsN fun _ _ _ _ _ _ us hl => match us, hl with | [_, _], _ => rfl
  kw := by
    obtain ⟨oc, od, dV, kV, doc, pm, an, cdv, ct, osl, rfl, lk, hcd, hD, hK⟩ := F.ex
    rcases hD with ⟨_, rfl⟩ | ⟨z, _⟩
    · exact ⟨fun s a ws _ hl => match ws, hl with | [_], _ => .of_eq rfl, fun r => r⟩
    · exact absurd rfl z
  m := m
  no := no
abbrev sI_Clash : Stmt := inClass (top 12) 0
theorem scI_Clash : FnScope ["self", "number"] ["self", "number"] (defScope sI_Clash) := ⟨rfl, rfl, rfl, by decide +kernel, rfl, by decide +kernel, by decide +kernel⟩
theorem xc_Clash (F : FnI K "Clash.__init__" sI_Clash f fd) (T : EC K C f .val) (no : W.findIn K (.ref C) "number" = some none) (m : mg "Clash" = some (.ref C)) : XC P w K mg base "Clash" .val "number" C f fd where
  ec := T
  ok := by
    refine F.ok scI_Clash (fun vs H Q E h => ?_) (fun cdv A outer s H vs Q E hr h => ?_)
    · obtain ⟨a, v, rfl, _⟩ := h
      rfl
    · obtain ⟨a, v, rfl, ha, k⟩ := h
      refine ⟨_, PSs.nox (pss_one (ps_putX (pv 0) (pv 1))), ?_⟩
      exact ⟨v, rfl, _, rfl, a, C, f, .val, rfl, T, no, .inl ⟨ha, k⟩⟩
  bi := F.bindsN fun _ _ _ _ _ _ us hl => match us, hl with | [_, _], _ => rfl
  kw := by
    obtain ⟨oc, od, dV, kV, doc, pm, an, cdv, ct, osl, rfl, lk, hcd, hD, hK⟩ := F.ex
    rcases hD with ⟨_, rfl⟩ | ⟨z, _⟩
    · exact ⟨fun s a ws _ hl => match ws, hl with | [_], _ => .of_eq rfl, fun r => r⟩
    · exact absurd rfl z
  m := m
  no := no
abbrev sI_InvalidQuestion : Stmt := inClass (top 13) 0
theorem scI_InvalidQuestion : FnScope ["self", "question"] ["self", "question"] (defScope sI_InvalidQuestion) := ⟨rfl, rfl, rfl, by decide +kernel, rfl, by decide +kernel, by decide +kernel⟩
theorem xc_InvalidQuestion (F : FnI K "InvalidQuestion.__init__" sI_InvalidQuestion f fd) (T : EC K C f .val) (no : W.findIn K (.ref C) "question" = some none) (m : mg "InvalidQuestion" = some (.ref C)) : XC P w K mg base "InvalidQuestion" .val "question" C f fd where
  ec := T
  ok := by
    refine F.ok scI_InvalidQuestion (fun vs H Q E h => ?_) (fun cdv A outer s H vs Q E hr h => ?_)
    · obtain ⟨a, v, rfl, _⟩ := h
      rfl
    · obtain ⟨a, v, rfl, ha, k⟩ := h
      refine ⟨_, PSs.nox (pss_one (ps_putX (pv 0) (pv 1))), ?_⟩
      exact ⟨v, rfl, _, rfl, a, C, f, .val, rfl, T, no, .inl ⟨ha, k⟩⟩
  bi := F.bindsN fun _ _ _ _ _ _ us hl => match us, hl with | [_, _], _ => rfl
  kw := by
    obtain ⟨oc, od, dV, kV, doc, pm, an, cdv, ct, osl, rfl, lk, hcd, hD, hK⟩ := F.ex
    rcases hD with ⟨_, rfl⟩ | ⟨z, _⟩
    · exact ⟨fun s a ws _ hl => match ws, hl with | [_], _ => .of_eq rfl, fun r => r⟩
    · exact absurd rfl z
  m := m
  no := no
abbrev sI_InvalidEvent : Stmt := inClass (top 14) 0
theorem scI_InvalidEvent : FnScope ["self", "event"] ["self", "event"] (defScope sI_InvalidEvent) := ⟨rfl, rfl, rfl, by decide +kernel, rfl, by decide +kernel, by decide +kernel⟩
theorem xc_InvalidEvent (F : FnI K "InvalidEvent.__init__" sI_InvalidEvent f fd) (T : EC K C f .val) (no : W.findIn K (.ref C) "event" = some none) (m : mg "InvalidEvent" = some (.ref C)) : XC P w K mg base "InvalidEvent" .val "event" C f fd where
  ec := T
  ok := by
    refine F.ok scI_InvalidEvent (fun vs H Q E h => ?_) (fun cdv A outer s H vs Q E hr h => ?_)
    · obtain ⟨a, v, rfl, _⟩ := h
      rfl
    · obtain ⟨a, v, rfl, ha, k⟩ := h
      refine ⟨_, PSs.nox (pss_one (ps_putX (pv 0) (pv 1))), ?_⟩
      exact ⟨v, rfl, _, rfl, a, C, f, .val, rfl, T, no, .inl ⟨ha, k⟩⟩
  bi := F.bindsN fun _ _ _ _ _ _ us hl => match us, hl with | [_, _], _ => rfl
  kw := by
    obtain ⟨oc, od, dV, kV, doc, pm, an, cdv, ct, osl, rfl, lk, hcd, hD, hK⟩ := F.ex
    rcases hD with ⟨_, rfl⟩ | ⟨z, _⟩
    · exact ⟨fun s a ws _ hl => match ws, hl with | [_], _ => .of_eq rfl, fun r => r⟩
    · exact absurd rfl z
  m := m
  no := no
abbrev sI_InvalidText : Stmt := inClass (top 15) 0
theorem scI_InvalidText : FnScope ["self", "line", "word"] ["self", "line", "word"] (defScope sI_InvalidText) := ⟨rfl, rfl, rfl, by decide +kernel, rfl, by decide +kernel, by decide +kernel⟩
theorem xc_InvalidText (F : FnI K "InvalidText.__init__" sI_InvalidText f fd) (T : EC K C f .val) (no : W.findIn K (.ref C) "line" = some none) (no2 : W.findIn K (.ref C) "word" = some none) (m : mg "InvalidText" = some (.ref C)) : XC2 P w K mg base "InvalidText" .val "line" "word" C f fd where
  ec := T
  ok := by
    refine F.ok scI_InvalidText (fun vs H Q E h => ?_) (fun cdv A outer s H vs Q E hr h => ?_)
    · obtain ⟨a, v, u, rfl, _⟩ := h
      rfl
    · obtain ⟨a, v, u, rfl, ha, k⟩ := h
      refine ⟨_, PSs.nox (pss_cons (ps_putX (pv 0) (pv 1)) (pss_one (ps_putX (pv 0) (pv 2)))), ?_⟩
      refine ⟨v, rfl, _, rfl, a, C, f, .val, rfl, T, no, .inl ⟨ha, fun dx hd ne => ?_⟩⟩
      exact ⟨u, rfl, _, rfl, a, C, f, .val, rfl, T, no2, .inr ⟨dx, [("line", v)], upd_same, (by rw [upd_ne ne]; exact upd_same), (by show 1 ≤ 900; decide), k dx hd ne⟩⟩
  bi := F.bindsN fun _ _ _ _ _ _ us hl => match us, hl with | [_, _, _], _ => rfl
  kw := by
    obtain ⟨oc, od, dV, kV, doc, pm, an, cdv, ct, osl, rfl, lk, hcd, hD, hK⟩ := F.ex
    rcases hD with ⟨_, rfl⟩ | ⟨z, _⟩
    · exact ⟨fun s a ws _ hl => match ws, hl with | [_, _], _ => .of_eq rfl, fun r => Vals.rev r⟩
    · exact absurd rfl z
  m := m
  no := no
  no2 := no2
abbrev sI_UnknownCommand : Stmt := inClass (top 16) 0
theorem scI_UnknownCommand : FnScope ["self", "command"] ["self", "command"] (defScope sI_UnknownCommand) := ⟨rfl, rfl, rfl, by decide +kernel, rfl, by decide +kernel, by decide +kernel⟩
theorem xc_UnknownCommand (F : FnI K "UnknownCommand.__init__" sI_UnknownCommand f fd) (T : EC K C f .val) (no : W.findIn K (.ref C) "command" = some none) (m : mg "UnknownCommand" = some (.ref C)) : XC P w K mg base "UnknownCommand" .val "command" C f fd where
  ec := T
  ok := by
    refine F.ok scI_UnknownCommand (fun vs H Q E h => ?_) (fun cdv A outer s H vs Q E hr h => ?_)
    · obtain ⟨a, v, rfl, _⟩ := h
      rfl
    · obtain ⟨a, v, rfl, ha, k⟩ := h
      refine ⟨_, PSs.nox (pss_one (ps_putX (pv 0) (pv 1))), ?_⟩
      exact ⟨v, rfl, _, rfl, a, C, f, .val, rfl, T, no, .inl ⟨ha, k⟩⟩
  bi := F.bindsN fun _ _ _ _ _ _ us hl => match us, hl with | [_, _], _ => rfl
  kw := by
    obtain ⟨oc, od, dV, kV, doc, pm, an, cdv, ct, osl, rfl, lk, hcd, hD, hK⟩ := F.ex
    rcases hD with ⟨_, rfl⟩ | ⟨z, _⟩
    · exact ⟨fun s a ws _ hl => match ws, hl with | [_], _ => .of_eq rfl, fun r => r⟩
    · exact absurd rfl z
  m := m
  no := no
abbrev sI_NoStation : Stmt := inClass (top 17) 0
theorem scI_NoStation : FnScope ["self", "name"] ["self", "name"] (defScope sI_NoStation) := ⟨rfl, rfl, rfl, by decide +kernel, rfl, by decide +kernel, by decide +kernel⟩
theorem xc_NoStation (F : FnI K "NoStation.__init__" sI_NoStation f fd) (T : EC K C f .key) (no : W.findIn K (.ref C) "name" = some none) (m : mg "NoStation" = some (.ref C)) : XC P w K mg base "NoStation" .key "name" C f fd where
  ec := T
  ok := by
    refine F.ok scI_NoStation (fun vs H Q E h => ?_) (fun cdv A outer s H vs Q E hr h => ?_)
    · obtain ⟨a, v, rfl, _⟩ := h
      rfl
    · obtain ⟨a, v, rfl, ha, k⟩ := h
      refine ⟨_, PSs.nox (pss_one (ps_putX (pv 0) (pv 1))), ?_⟩
      exact ⟨v, rfl, _, rfl, a, C, f, .key, rfl, T, no, .inl ⟨ha, k⟩⟩
  bi := F.bindsN fun _ _ _ _ _ _ us hl => match us, hl with | [_, _], _ => rfl
  kw := by
    obtain ⟨oc, od, dV, kV, doc, pm, an, cdv, ct, osl, rfl, lk, hcd, hD, hK⟩ := F.ex
    rcases hD with ⟨_, rfl⟩ | ⟨z, _⟩
    · exact ⟨fun s a ws _ hl => match ws, hl with | [_], _ => .of_eq rfl, fun r => r⟩
    · exact absurd rfl z
  m := m
  no := no
abbrev sI_NoRound : Stmt := inClass (top 18) 0
theorem scI_NoRound : FnScope ["self", "number"] ["self", "number"] (defScope sI_NoRound) := ⟨rfl, rfl, rfl, by decide +kernel, rfl, by decide +kernel, by decide +kernel⟩
theorem xc_NoRound (F : FnI K "NoRound.__init__" sI_NoRound f fd) (T : EC K C f .ind) (no : W.findIn K (.ref C) "number" = some none) (m : mg "NoRound" = some (.ref C)) : XC P w K mg base "NoRound" .ind "number" C f fd where
  ec := T
  ok := by
    refine F.ok scI_NoRound (fun vs H Q E h => ?_) (fun cdv A outer s H vs Q E hr h => ?_)
    · obtain ⟨a, v, rfl, _⟩ := h
      rfl
    · obtain ⟨a, v, rfl, ha, k⟩ := h
      refine ⟨_, PSs.nox (pss_one (ps_putX (pv 0) (pv 1))), ?_⟩
      exact ⟨v, rfl, _, rfl, a, C, f, .ind, rfl, T, no, .inl ⟨ha, k⟩⟩
  bi := F.bindsN fun _ _ _ _ _ _ us hl => match us, hl with | [_, _], _ => rfl
  kw := by
    obtain ⟨oc, od, dV, kV, doc, pm, an, cdv, ct, osl, rfl, lk, hcd, hD, hK⟩ := F.ex
    rcases hD with ⟨_, rfl⟩ | ⟨z, _⟩
    · exact ⟨fun s a ws _ hl => match ws, hl with | [_], _ => .of_eq rfl, fun r => r⟩
    · exact absurd rfl z
  m := m
  no := no
abbrev sI_NothingToUndo : Stmt := inClass (top 19) 0
theorem scI_NothingToUndo : FnScope ["self", "count"] ["self", "count"] (defScope sI_NothingToUndo) := ⟨rfl, rfl, rfl, by decide +kernel, rfl, by decide +kernel, by decide +kernel⟩
theorem xc_NothingToUndo (F : FnI K "NothingToUndo.__init__" sI_NothingToUndo f fd) (T : EC K C f .look) (no : W.findIn K (.ref C) "count" = some none) (m : mg "NothingToUndo" = some (.ref C)) : XC P w K mg base "NothingToUndo" .look "count" C f fd where
  ec := T
  ok := by
    refine F.ok scI_NothingToUndo (fun vs H Q E h => ?_) (fun cdv A outer s H vs Q E hr h => ?_)
    · obtain ⟨a, v, rfl, _⟩ := h
      rfl
    · obtain ⟨a, v, rfl, ha, k⟩ := h
      refine ⟨_, PSs.nox (pss_one (ps_putX (pv 0) (pv 1))), ?_⟩
      exact ⟨v, rfl, _, rfl, a, C, f, .look, rfl, T, no, .inl ⟨ha, k⟩⟩
  bi := F.bindsN fun _ _ _ _ _ _ us hl => match us, hl with | [_, _], _ => rfl
  kw := by
    obtain ⟨oc, od, dV, kV, doc, pm, an, cdv, ct, osl, rfl, lk, hcd, hD, hK⟩ := F.ex
    rcases hD with ⟨_, rfl⟩ | ⟨z, _⟩
    · exact ⟨fun s a ws _ hl => match ws, hl with | [_], _ => .of_eq rfl, fun r => r⟩
    · exact absurd rfl z
  m := m
  no := no
abbrev sI_NotHeard : Stmt := inClass (top 20) 0
theorem scI_NotHeard : FnScope ["self", "host"] ["self", "host"] (defScope sI_NotHeard) := ⟨rfl, rfl, rfl, by decide +kernel, rfl, by decide +kernel, by decide +kernel⟩
theorem xc_NotHeard (F : FnI K "NotHeard.__init__" sI_NotHeard f fd) (T : EC K C f .look) (no : W.findIn K (.ref C) "host" = some none) (m : mg "NotHeard" = some (.ref C)) : XC P w K mg base "NotHeard" .look "host" C f fd where
  ec := T
  ok := by
    refine F.ok scI_NotHeard (fun vs H Q E h => ?_) (fun cdv A outer s H vs Q E hr h => ?_)
    · obtain ⟨a, v, rfl, _⟩ := h
      rfl
    · obtain ⟨a, v, rfl, ha, k⟩ := h
      refine ⟨_, PSs.nox (pss_one (ps_putX (pv 0) (pv 1))), ?_⟩
      exact ⟨v, rfl, _, rfl, a, C, f, .look, rfl, T, no, .inl ⟨ha, k⟩⟩
  bi := F.bindsN fun _ _ _ _ _ _ us hl => match us, hl with | [_, _], _ => rfl
  kw := by
    obtain ⟨oc, od, dV, kV, doc, pm, an, cdv, ct, osl, rfl, lk, hcd, hD, hK⟩ := F.ex
    rcases hD with ⟨_, rfl⟩ | ⟨z, _⟩
    · exact ⟨fun s a ws _ hl => match ws, hl with | [_], _ => .of_eq rfl, fun r => r⟩
    · exact absurd rfl z
  m := m
  no := no
abbrev sI_NotSeen : Stmt := inClass (top 21) 0
theorem scI_NotSeen : FnScope ["self", "name"] ["self", "name"] (defScope sI_NotSeen) := ⟨rfl, rfl, rfl, by decide +kernel, rfl, by decide +kernel, by decide +kernel⟩
theorem xc_NotSeen (F : FnI K "NotSeen.__init__" sI_NotSeen f fd) (T : EC K C f .look) (no : W.findIn K (.ref C) "name" = some none) (m : mg "NotSeen" = some (.ref C)) : XC P w K mg base "NotSeen" .look "name" C f fd where
  ec := T
  ok := by
    refine F.ok scI_NotSeen (fun vs H Q E h => ?_) (fun cdv A outer s H vs Q E hr h => ?_)
    · obtain ⟨a, v, rfl, _⟩ := h
      rfl
    · obtain ⟨a, v, rfl, ha, k⟩ := h
      refine ⟨_, PSs.nox (pss_one (ps_putX (pv 0) (pv 1))), ?_⟩
      exact ⟨v, rfl, _, rfl, a, C, f, .look, rfl, T, no, .inl ⟨ha, k⟩⟩
  bi := F.bindsN fun _ _ _ _ _ _ us hl => match us, hl with | [_, _], _ => rfl
  kw := by
    obtain ⟨oc, od, dV, kV, doc, pm, an, cdv, ct, osl, rfl, lk, hcd, hD, hK⟩ := F.ex
    rcases hD with ⟨_, rfl⟩ | ⟨z, _⟩
    · exact ⟨fun s a ws _ hl => match ws, hl with | [_], _ => .of_eq rfl, fun r => r⟩
    · exact absurd rfl z
  m := m
  no := no
abbrev sI_Heard : Stmt := inClass (top 22) 0
theorem scI_Heard : FnScope ["self", "number"] ["self", "number"] (defScope sI_Heard) := ⟨rfl, rfl, rfl, by decide +kernel, rfl, by decide +kernel, by decide +kernel⟩
theorem xc_Heard (F : FnI K "Heard.__init__" sI_Heard f fd) (T : EC K C f .run) (no : W.findIn K (.ref C) "number" = some none) (m : mg "Heard" = some (.ref C)) : XC P w K mg base "Heard" .run "number" C f fd where
  ec := T
  ok := by
    refine F.ok scI_Heard (fun vs H Q E h => ?_) (fun cdv A outer s H vs Q E hr h => ?_)
    · obtain ⟨a, v, rfl, _⟩ := h
      rfl
    · obtain ⟨a, v, rfl, ha, k⟩ := h
      refine ⟨_, PSs.nox (pss_one (ps_putX (pv 0) (pv 1))), ?_⟩
      exact ⟨v, rfl, _, rfl, a, C, f, .run, rfl, T, no, .inl ⟨ha, k⟩⟩
  bi := F.bindsN fun _ _ _ _ _ _ us hl => match us, hl with | [_, _], _ => rfl
  kw := by
    obtain ⟨oc, od, dV, kV, doc, pm, an, cdv, ct, osl, rfl, lk, hcd, hD, hK⟩ := F.ex
    rcases hD with ⟨_, rfl⟩ | ⟨z, _⟩
    · exact ⟨fun s a ws _ hl => match ws, hl with | [_], _ => .of_eq rfl, fun r => r⟩
    · exact absurd rfl z
  m := m
  no := no
abbrev sI_TooMany : Stmt := inClass (top 23) 0
theorem scI_TooMany : FnScope ["self", "limit"] ["self", "limit"] (defScope sI_TooMany) := ⟨rfl, rfl, rfl, by decide +kernel, rfl, by decide +kernel, by decide +kernel⟩
theorem xc_TooMany (F : FnI K "TooMany.__init__" sI_TooMany f fd) (T : EC K C f .over) (no : W.findIn K (.ref C) "limit" = some none) (m : mg "TooMany" = some (.ref C)) : XC P w K mg base "TooMany" .over "limit" C f fd where
  ec := T
  ok := by
    refine F.ok scI_TooMany (fun vs H Q E h => ?_) (fun cdv A outer s H vs Q E hr h => ?_)
    · obtain ⟨a, v, rfl, _⟩ := h
      rfl
    · obtain ⟨a, v, rfl, ha, k⟩ := h
      refine ⟨_, PSs.nox (pss_one (ps_putX (pv 0) (pv 1))), ?_⟩
      exact ⟨v, rfl, _, rfl, a, C, f, .over, rfl, T, no, .inl ⟨ha, k⟩⟩
  bi := F.bindsN fun _ _ _ _ _ _ us hl => match us, hl with | [_, _], _ => rfl
  kw := by
    obtain ⟨oc, od, dV, kV, doc, pm, an, cdv, ct, osl, rfl, lk, hcd, hD, hK⟩ := F.ex
    rcases hD with ⟨_, rfl⟩ | ⟨z, _⟩
    · exact ⟨fun s a ws _ hl => match ws, hl with | [_], _ => .of_eq rfl, fun r => r⟩
    · exact absurd rfl z
  m := m
  no := no
end
end L2.Mb
set_option maxRecDepth 100000
set_option maxHeartbeats 4000000
namespace L2.Mb
open PySem PySem.Spec PyProof.Rows Mx Evl
/-! ### what an expression gives: a value of which something is known that stays -/
abbrev Pr := Hp → V → Prop
def Mono (P : Pr) : Prop := ∀ H H' v, Ex H H' → P H v → P H' v
def EP (te : TE) (σ : L2.St) (H : Hp) (P : Pr) : Prop := ∀ H1, Ex H H1 → ∀ Q : VK, (∀ v H2, Ex H1 H2 → P H2 v → Q v H2) → te σ H1 Q
abbrev Each (H : Hp) (Ps : List Pr) (vs : List V) : Prop := Paired (fun (P : Pr) v => P H v) Ps vs
def EPA (ta : TA) (σ : L2.St) (H : Hp) (Ps : List Pr) : Prop := ∀ H1, Ex H H1 → ∀ Q : List V → Hp → Prop, (∀ vs H2, Ex H1 H2 → Each H2 Ps vs → Q vs H2) → ta σ H1 Q
abbrev Monos (Ps : List Pr) : Prop := ∀ P ∈ Ps, Mono P
theorem Each.mono {H H' : Hp} {Ps : List Pr} {vs : List V} (m : Monos Ps) (e : Ex H H') (h : Each H Ps vs) : Each H' Ps vs := by
  induction h with
  | nil => exact .nil
  | cons h t ih => exact .cons (m _ List.mem_cons_self _ _ _ e h) (ih fun P hP => m P (List.mem_cons_of_mem _ hP))
/-- an error of the class at c.1 with the fields c.2 -/
def IsX (c : Addr × List (Str × V)) : Pr := fun H v => ∃ a, v = .ref a ∧ XAt H a c.1 c.2
theorem isX_mono (c : Addr × List (Str × V)) : Mono (IsX c) := fun H H' v e ⟨a, h, d, h1, h2⟩ => ⟨a, h, d, e _ _ h1, e _ _ h2⟩
/-- a list of such values -/
def IsL (Ps : List Pr) : Pr := fun H v => ∃ l vs, v = .ref l ∧ H l = some (.lst vs) ∧ Each H Ps vs
theorem isL_mono {Ps : List Pr} (m : Monos Ps) : Mono (IsL Ps) := fun H H' v e ⟨l, vs, h, h1, h2⟩ => ⟨l, vs, h, e _ _ h1, h2.mono m e⟩
theorem isX_monos (l : List (Addr × List (Str × V))) : Monos (l.map IsX) := fun P hP => by
  obtain ⟨c, _, rfl⟩ := List.mem_map.mp hP
  exact isX_mono c
section
variable {σ : L2.St} {H : Hp} {te ta tb : TE} {tr tl : TA} {P : Pr} {Ps Qs : List Pr} {v : V}
theorem epa_nil : EPA tNil σ H [] := fun H1 _ _ q => q [] H1 (Ex.refl H1) .nil
theorem epa_cons (h : EP te σ H P) (m : Mono P) (hr : EPA tr σ H Ps) : EPA (tCons te tr) σ H (P :: Ps) := fun H1 e _ q =>
  h H1 e _ fun v H2 e2 p => hr H2 (e.trans e2) _ fun vs H3 e3 ps => q (v :: vs) H3 (e2.trans e3) (.cons (m _ _ _ e3 p) ps)
theorem ep_lst (h : EPA tl σ H Ps) (hz : Ps.length ≤ 100000) (m : Monos Ps) : EP (tLst tl) σ H (IsL Ps) := fun H1 e _ q =>
  h H1 e _ fun vs H2 e2 ps => ⟨(by rw [← Paired.length ps]; exact sz_of hz), fun p hp => q _ _ (e2.trans (Ex.new hp)) ⟨p, vs, rfl, upd_same, ps.mono m (Ex.new hp)⟩⟩
theorem Each.app {Ps Qs : List Pr} {vs us : List V} (h : Each H Ps vs) (k : Each H Qs us) : Each H (Ps ++ Qs) (vs ++ us) := by
  induction h with
  | nil => exact k
  | cons h t ih => exact .cons h ih
theorem ep_cat (h1 : EP ta σ H (IsL Ps)) (h2 : EP tb σ H (IsL Qs)) (m1 : Monos Ps) (m2 : Monos Qs) (hz : Ps.length + Qs.length ≤ 100000) : EP (tOp rCat ta tb) σ H (IsL (Ps ++ Qs)) := fun H1 e _ q =>
  h1 H1 e _ fun x H2 e2 px => h2 H2 (e.trans e2) _ fun y H3 e3 py => by
    obtain ⟨l, vs, rfl, hl, ps⟩ := isL_mono m1 _ _ _ e3 px
    obtain ⟨b, us, rfl, hb, qs⟩ := py
    have m3 : Monos (Ps ++ Qs) := fun P hP => (List.mem_append.mp hP).elim (m1 P) (m2 P)
    exact ⟨l, b, vs, us, rfl, rfl, hl, hb, (by rw [← Paired.length ps, ← Paired.length qs]; exact sz_of hz), fun p hp => q _ _ ((e2.trans e3).trans (Ex.new hp)) ⟨p, _, rfl, upd_same, (ps.app qs).mono m3 (Ex.new hp)⟩⟩
theorem ep_var {i : Nat} (h : σ[i]? = some (some v)) (p : P H v) (m : Mono P) : EP (tVar i) σ H P := fun H1 e _ q => ⟨v, h, q v H1 (Ex.refl H1) (m _ _ _ e p)⟩
theorem s_asgP {D : Ends} {i : Nat} (h : EP te σ H P) (k : ∀ v H1, Ex H H1 → P H1 v → D.nx (σ.set i (some v)) H1) : tAsg te (gName i) D σ H := h H (Ex.refl H) _ k
theorem s_retP {D : Ends} (h : EP te σ H P) (k : ∀ v H1, Ex H H1 → P H1 v → D.rt v H1) : tRet te D σ H := h H (Ex.refl H) _ k
/-- the heap with a new error -/
theorem ex_err {H : Hp} {a dx C : Addr} {o : HO} (na : H a = none) (hd : (upd H a (exo a C none)) dx = none) (ne : dx ≠ a) : Ex H (upd (upd (upd H a (exo a C none)) dx o) a (exo a C (some dx))) := fun c u h => by
  have c1 : c ≠ a := ne_of_none h na
  have hd2 : H dx = none := by
    rw [upd_ne ne] at hd
    exact hd
  rw [upd_ne c1, upd_ne (ne_of_none h hd2), upd_ne c1]
  exact h
theorem ep_mk1 {C : Addr} {f : Str} (ha : Ev ta σ H v) : EP (tMkX C (spI1 C f) (tCons ta tNil)) σ H (IsX (C, [(f, v)])) := fun H1 e _ q =>
  ha H1 e _ fun H2 e2 => ⟨(by show 1 ≤ 1000; decide), fun a na => ⟨a, v, rfl, upd_same, fun dx hd ne => ⟨rfl, q _ _ (e2.trans (ex_err na hd ne)) ⟨a, rfl, dx, upd_same, (upd_ne ne).trans upd_same⟩⟩⟩⟩
theorem ep_mkK1 {C : Addr} {f : Str} (ha : Ev ta σ H v) : EP (tMkXK C (spI1 C f) ([f] : List Str).length id (tCons ta tNil)) σ H (IsX (C, [(f, v)])) := fun H1 e _ q =>
  ha H1 e _ fun H2 e2 => ⟨rfl, fun a na => ⟨a, v, rfl, upd_same, fun dx hd ne => ⟨rfl, q _ _ (e2.trans (ex_err na hd ne)) ⟨a, rfl, dx, upd_same, (upd_ne ne).trans upd_same⟩⟩⟩⟩
theorem ex_err2 {H : Hp} {a dx C : Addr} {o u : HO} (na : H a = none) (hd : (upd H a (exo a C none)) dx = none) (ne : dx ≠ a) : Ex H (upd (upd (upd (upd H a (exo a C none)) dx o) a (exo a C (some dx))) dx u) := fun c x h => by
  have hd2 : H dx = none := by
    rw [upd_ne ne] at hd
    exact hd
  rw [upd_ne (ne_of_none h hd2)]
  exact ex_err na hd ne c x h
theorem ep_mk2 {C : Addr} {f g : Str} {u : V} (ha : Ev ta σ H v) (hb : Ev tb σ H u) : EP (tMkX C (spI2 C f g) (tCons ta (tCons tb tNil))) σ H (IsX (C, [(g, u), (f, v)])) := fun H1 e _ q =>
  ha H1 e _ fun H2 e2 => hb H2 (e.trans e2) _ fun H3 e3 => ⟨(by show 2 ≤ 1000; decide), fun a na => ⟨a, v, u, rfl, upd_same, fun dx hd ne =>
    ⟨rfl, q _ _ ((e2.trans e3).trans (ex_err2 na hd ne)) ⟨a, rfl, dx, (upd_ne ne.symm).trans upd_same, upd_same⟩⟩⟩⟩
theorem ep_mkK2 {C : Addr} {f g : Str} {u : V} (ha : Ev ta σ H u) (hb : Ev tb σ H v) : EP (tMkXK C (spI2 C f g) ([g, f] : List Str).length List.reverse (tCons ta (tCons tb tNil))) σ H (IsX (C, [(g, u), (f, v)])) := fun H1 e _ q =>
  ha H1 e _ fun H2 e2 => hb H2 (e.trans e2) _ fun H3 e3 => ⟨rfl, fun a na => ⟨a, v, u, rfl, upd_same, fun dx hd ne =>
    ⟨rfl, q _ _ ((e2.trans e3).trans (ex_err2 na hd ne)) ⟨a, rfl, dx, (upd_ne ne.symm).trans upd_same, upd_same⟩⟩⟩⟩
end
abbrev cA (K : W.Frag) (x : Str) : Addr := He.ga K x
abbrev iA (K : W.Frag) (x : Str) : Addr := He.ma K (He.ga K x) "__init__"
/-- the errors, made of one and two, in the law's order -/
abbrev rows1 (K : W.Frag) (one two : V) : List (Addr × List (Str × V)) := [(cA K "InvalidKind", [("place", one)]), (cA K "InvalidPart", [("index", one)]), (cA K "NoRealm", [("index", one)]), (cA K "Taken", [("index", one)]), (cA K "TooDeep", [("index", one)]), (cA K "Needed", [("name", one)]), (cA K "InvalidTarget", [("target", one)])]
abbrev rows2 (K : W.Frag) (one two : V) : List (Addr × List (Str × V)) := [(cA K "InvalidPort", [("port", one)]), (cA K "InvalidName", [("name", one)]), (cA K "InvalidTime", [("time", one)]), (cA K "Clash", [("number", one)]), (cA K "InvalidText", [("word", two), ("line", one)])]
abbrev rows3 (K : W.Frag) (one two : V) : List (Addr × List (Str × V)) := [(cA K "UnknownCommand", [("command", one)]), (cA K "NoStation", [("name", one)]), (cA K "NoRound", [("number", one)]), (cA K "NothingToUndo", [("count", one)]), (cA K "NotHeard", [("host", one)]), (cA K "NotSeen", [("name", one)])]
abbrev rows4 (K : W.Frag) (one two : V) : List (Addr × List (Str × V)) := [(cA K "Heard", [("number", one)]), (cA K "TooMany", [("limit", one)]), (cA K "InvalidQuestion", [("question", one)]), (cA K "InvalidEvent", [("event", one)])]
abbrev rows (K : W.Frag) (one two : V) : List (Addr × List (Str × V)) := rows1 K one two ++ rows2 K one two ++ rows3 K one two ++ rows4 K one two
/-- all classes -/
structure TX (P : Program) (w : World) (K : W.Frag) (mg : Str → Option Value) (base : Heap) : Prop where
  xInvalidKind : ∃ fd, XC P w K mg base "InvalidKind" .val "place" (cA K "InvalidKind") (iA K "InvalidKind") fd
  xInvalidPart : ∃ fd, XC P w K mg base "InvalidPart" .val "index" (cA K "InvalidPart") (iA K "InvalidPart") fd
  xNoRealm : ∃ fd, XC P w K mg base "NoRealm" .val "index" (cA K "NoRealm") (iA K "NoRealm") fd
  xTaken : ∃ fd, XC P w K mg base "Taken" .val "index" (cA K "Taken") (iA K "Taken") fd
  xTooDeep : ∃ fd, XC P w K mg base "TooDeep" .val "index" (cA K "TooDeep") (iA K "TooDeep") fd
  xNeeded : ∃ fd, XC P w K mg base "Needed" .val "name" (cA K "Needed") (iA K "Needed") fd
  xInvalidTarget : ∃ fd, XC P w K mg base "InvalidTarget" .val "target" (cA K "InvalidTarget") (iA K "InvalidTarget") fd
  xInvalidPort : ∃ fd, XC P w K mg base "InvalidPort" .val "port" (cA K "InvalidPort") (iA K "InvalidPort") fd
  xInvalidName : ∃ fd, XC P w K mg base "InvalidName" .val "name" (cA K "InvalidName") (iA K "InvalidName") fd
  xInvalidTime : ∃ fd, XC P w K mg base "InvalidTime" .val "time" (cA K "InvalidTime") (iA K "InvalidTime") fd
  xClash : ∃ fd, XC P w K mg base "Clash" .val "number" (cA K "Clash") (iA K "Clash") fd
  xInvalidText : ∃ fd, XC2 P w K mg base "InvalidText" .val "line" "word" (cA K "InvalidText") (iA K "InvalidText") fd
  xUnknownCommand : ∃ fd, XC P w K mg base "UnknownCommand" .val "command" (cA K "UnknownCommand") (iA K "UnknownCommand") fd
  xNoStation : ∃ fd, XC P w K mg base "NoStation" .key "name" (cA K "NoStation") (iA K "NoStation") fd
  xNoRound : ∃ fd, XC P w K mg base "NoRound" .ind "number" (cA K "NoRound") (iA K "NoRound") fd
  xNothingToUndo : ∃ fd, XC P w K mg base "NothingToUndo" .look "count" (cA K "NothingToUndo") (iA K "NothingToUndo") fd
  xNotHeard : ∃ fd, XC P w K mg base "NotHeard" .look "host" (cA K "NotHeard") (iA K "NotHeard") fd
  xNotSeen : ∃ fd, XC P w K mg base "NotSeen" .look "name" (cA K "NotSeen") (iA K "NotSeen") fd
  xHeard : ∃ fd, XC P w K mg base "Heard" .run "number" (cA K "Heard") (iA K "Heard") fd
  xTooMany : ∃ fd, XC P w K mg base "TooMany" .over "limit" (cA K "TooMany") (iA K "TooMany") fd
  xInvalidQuestion : ∃ fd, XC P w K mg base "InvalidQuestion" .val "question" (cA K "InvalidQuestion") (iA K "InvalidQuestion") fd
  xInvalidEvent : ∃ fd, XC P w K mg base "InvalidEvent" .val "event" (cA K "InvalidEvent") (iA K "InvalidEvent") fd
def spMade (K : W.Frag) : Sp := fun vs H Q _ => ∃ one two, vs = [one, two] ∧ ∀ v H', Ex H H' → IsL ((rows K one two).map IsX) H' v → Q v H'
theorem mapp {Ps Qs : List Pr} (a : Monos Ps) (b : Monos Qs) : Monos (Ps ++ Qs) := fun P h => (List.mem_append.mp h).elim (a P) (b P)
section
variable {P : Program} {w : World} {K : W.Frag} {mg : Str → Option Value} {base : Heap} {f : Addr} {fd : FuncData}
theorem ok_law_made (T : TX P w K mg base) (F : FnP K "_law_made" s_law_made f fd) : FnG P w K mg base CX0 4 f fd p_law_made (spMade K) := by
  refine fund_okG F sc_law_made (fun vs H Q E h => ?_) (fun cdv A outer s H vs Q E gd hr h => ?_)
  · obtain ⟨one, two, rfl, _⟩ := h
    rfl
  · obtain ⟨one, two, rfl, k⟩ := h
    obtain ⟨fdInvalidKind, XInvalidKind⟩ := T.xInvalidKind
    obtain ⟨fdInvalidPart, XInvalidPart⟩ := T.xInvalidPart
    obtain ⟨fdNoRealm, XNoRealm⟩ := T.xNoRealm
    obtain ⟨fdTaken, XTaken⟩ := T.xTaken
    obtain ⟨fdTooDeep, XTooDeep⟩ := T.xTooDeep
    obtain ⟨fdNeeded, XNeeded⟩ := T.xNeeded
    obtain ⟨fdInvalidTarget, XInvalidTarget⟩ := T.xInvalidTarget
    obtain ⟨fdInvalidPort, XInvalidPort⟩ := T.xInvalidPort
    obtain ⟨fdInvalidName, XInvalidName⟩ := T.xInvalidName
    obtain ⟨fdInvalidTime, XInvalidTime⟩ := T.xInvalidTime
    obtain ⟨fdClash, XClash⟩ := T.xClash
    obtain ⟨fdInvalidText, XInvalidText⟩ := T.xInvalidText
    obtain ⟨fdUnknownCommand, XUnknownCommand⟩ := T.xUnknownCommand
    obtain ⟨fdNoStation, XNoStation⟩ := T.xNoStation
    obtain ⟨fdNoRound, XNoRound⟩ := T.xNoRound
    obtain ⟨fdNothingToUndo, XNothingToUndo⟩ := T.xNothingToUndo
    obtain ⟨fdNotHeard, XNotHeard⟩ := T.xNotHeard
    obtain ⟨fdNotSeen, XNotSeen⟩ := T.xNotSeen
    obtain ⟨fdHeard, XHeard⟩ := T.xHeard
    obtain ⟨fdTooMany, XTooMany⟩ := T.xTooMany
    obtain ⟨fdInvalidQuestion, XInvalidQuestion⟩ := T.xInvalidQuestion
    obtain ⟨fdInvalidEvent, XInvalidEvent⟩ := T.xInvalidEvent
    refine ⟨_, PSs.nox (pss_cons (ps_set (i := 2) sc_law_made.nd rfl (Or.inl rfl) (pe_lst (pa_cons (pe_mkX XInvalidKind.ec XInvalidKind.ok (hr.mono (by decide)) XInvalidKind.bi pass0 rfl XInvalidKind.m (pa_cons (pv 0) pa_nil)) (pa_cons (pe_mkX XInvalidPart.ec XInvalidPart.ok (hr.mono (by decide)) XInvalidPart.bi pass0 rfl XInvalidPart.m (pa_cons (pv 0) pa_nil)) (pa_cons (pe_mkX XNoRealm.ec XNoRealm.ok (hr.mono (by decide)) XNoRealm.bi pass0 rfl XNoRealm.m (pa_cons (pv 0) pa_nil)) (pa_cons (pe_mkX XTaken.ec XTaken.ok (hr.mono (by decide)) XTaken.bi pass0 rfl XTaken.m (pa_cons (pv 0) pa_nil)) (pa_cons (pe_mkX XTooDeep.ec XTooDeep.ok (hr.mono (by decide)) XTooDeep.bi pass0 rfl XTooDeep.m (pa_cons (pv 0) pa_nil)) (pa_cons (pe_mkX XNeeded.ec XNeeded.ok (hr.mono (by decide)) XNeeded.bi pass0 rfl XNeeded.m (pa_cons (pv 0) pa_nil)) (pa_cons (pe_mkX XInvalidTarget.ec XInvalidTarget.ok (hr.mono (by decide)) XInvalidTarget.bi pass0 rfl XInvalidTarget.m (pa_cons (pv 0) pa_nil)) pa_nil)))))))))
    (pss_cons (ps_set (i := 2) sc_law_made.nd rfl (Or.inl rfl) (pe_op op_cat (pv 2) (pe_lst (pa_cons (pe_mkX XInvalidPort.ec XInvalidPort.ok (hr.mono (by decide)) XInvalidPort.bi pass0 rfl XInvalidPort.m (pa_cons (pv 0) pa_nil)) (pa_cons (pe_mkX XInvalidName.ec XInvalidName.ok (hr.mono (by decide)) XInvalidName.bi pass0 rfl XInvalidName.m (pa_cons (pv 0) pa_nil)) (pa_cons (pe_mkX XInvalidTime.ec XInvalidTime.ok (hr.mono (by decide)) XInvalidTime.bi pass0 rfl XInvalidTime.m (pa_cons (pv 0) pa_nil)) (pa_cons (pe_mkX XClash.ec XClash.ok (hr.mono (by decide)) XClash.bi pass0 rfl XClash.m (pa_cons (pv 0) pa_nil)) (pa_cons (pe_mkX XInvalidText.ec XInvalidText.ok (hr.mono (by decide)) XInvalidText.bi pass0 rfl XInvalidText.m (pa_cons (pv 0) (pa_cons (pv 1) pa_nil))) pa_nil))))))))
    (pss_cons (ps_set (i := 2) sc_law_made.nd rfl (Or.inl rfl) (pe_op op_cat (pv 2) (pe_lst (pa_cons (pe_mkX XUnknownCommand.ec XUnknownCommand.ok (hr.mono (by decide)) XUnknownCommand.bi pass0 rfl XUnknownCommand.m (pa_cons (pv 0) pa_nil)) (pa_cons (pe_mkX XNoStation.ec XNoStation.ok (hr.mono (by decide)) XNoStation.bi pass0 rfl XNoStation.m (pa_cons (pv 0) pa_nil)) (pa_cons (pe_mkX XNoRound.ec XNoRound.ok (hr.mono (by decide)) XNoRound.bi pass0 rfl XNoRound.m (pa_cons (pv 0) pa_nil)) (pa_cons (pe_mkX XNothingToUndo.ec XNothingToUndo.ok (hr.mono (by decide)) XNothingToUndo.bi pass0 rfl XNothingToUndo.m (pa_cons (pv 0) pa_nil)) (pa_cons (pe_mkX XNotHeard.ec XNotHeard.ok (hr.mono (by decide)) XNotHeard.bi pass0 rfl XNotHeard.m (pa_cons (pv 0) pa_nil)) (pa_cons (pe_mkX XNotSeen.ec XNotSeen.ok (hr.mono (by decide)) XNotSeen.bi pass0 rfl XNotSeen.m (pa_cons (pv 0) pa_nil)) pa_nil)))))))))
    (pss_one (ps_ret (pe_op op_cat (pv 2) (pe_lst (pa_cons (pe_mkX XHeard.ec XHeard.ok (hr.mono (by decide)) XHeard.bi pass0 rfl XHeard.m (pa_cons (pv 0) pa_nil)) (pa_cons (pe_mkX XTooMany.ec XTooMany.ok (hr.mono (by decide)) XTooMany.bi pass0 rfl XTooMany.m (pa_cons (pv 0) pa_nil)) (pa_cons (pe_mkX XInvalidQuestion.ec XInvalidQuestion.ok (hr.mono (by decide)) XInvalidQuestion.bi pass0 rfl XInvalidQuestion.m (pa_cons (pv 0) pa_nil)) (pa_cons (pe_mkX XInvalidEvent.ec XInvalidEvent.ok (hr.mono (by decide)) XInvalidEvent.bi pass0 rfl XInvalidEvent.m (pa_cons (pv 0) pa_nil)) pa_nil))))))))))), ?_⟩
    refine s_asgP (P := IsL ((rows1 K one two).map IsX)) (ep_lst (epa_cons (ep_mk1 (ev_var rfl)) (isX_mono _) (epa_cons (ep_mk1 (ev_var rfl)) (isX_mono _) (epa_cons (ep_mk1 (ev_var rfl)) (isX_mono _) (epa_cons (ep_mk1 (ev_var rfl)) (isX_mono _) (epa_cons (ep_mk1 (ev_var rfl)) (isX_mono _) (epa_cons (ep_mk1 (ev_var rfl)) (isX_mono _) (epa_cons (ep_mk1 (ev_var rfl)) (isX_mono _) epa_nil))))))) (by simp only [List.length_map, List.length_cons, List.length_nil]; decide) (isX_monos (rows1 K one two))) fun l1 H1 e1 p1 => ?_
    have m1 : Monos ((rows1 K one two).map IsX) := isX_monos _
    refine s_asgP (P := IsL (((rows1 K one two).map IsX) ++ ((rows2 K one two).map IsX))) (ep_cat (Ps := ((rows1 K one two).map IsX)) (Qs := ((rows2 K one two).map IsX)) (ep_var rfl p1 (isL_mono (m1))) (ep_lst (epa_cons (ep_mk1 (ev_var rfl)) (isX_mono _) (epa_cons (ep_mk1 (ev_var rfl)) (isX_mono _) (epa_cons (ep_mk1 (ev_var rfl)) (isX_mono _) (epa_cons (ep_mk1 (ev_var rfl)) (isX_mono _) (epa_cons (ep_mk2 (ev_var rfl) (ev_var rfl)) (isX_mono _) epa_nil))))) (by simp only [List.length_map, List.length_cons, List.length_nil]; decide) (isX_monos (rows2 K one two))) m1 (isX_monos _) (by simp only [List.length_append, List.length_map, List.length_cons, List.length_nil]; decide)) fun l2 H2 e2 p2 => ?_
    have m2 : Monos (((rows1 K one two).map IsX) ++ ((rows2 K one two).map IsX)) := mapp m1 (isX_monos _)
    refine s_asgP (P := IsL ((((rows1 K one two).map IsX) ++ ((rows2 K one two).map IsX)) ++ ((rows3 K one two).map IsX))) (ep_cat (Ps := (((rows1 K one two).map IsX) ++ ((rows2 K one two).map IsX))) (Qs := ((rows3 K one two).map IsX)) (ep_var rfl p2 (isL_mono (m2))) (ep_lst (epa_cons (ep_mk1 (ev_var rfl)) (isX_mono _) (epa_cons (ep_mk1 (ev_var rfl)) (isX_mono _) (epa_cons (ep_mk1 (ev_var rfl)) (isX_mono _) (epa_cons (ep_mk1 (ev_var rfl)) (isX_mono _) (epa_cons (ep_mk1 (ev_var rfl)) (isX_mono _) (epa_cons (ep_mk1 (ev_var rfl)) (isX_mono _) epa_nil)))))) (by simp only [List.length_map, List.length_cons, List.length_nil]; decide) (isX_monos (rows3 K one two))) m2 (isX_monos _) (by simp only [List.length_append, List.length_map, List.length_cons, List.length_nil]; decide)) fun l3 H3 e3 p3 => ?_
    have m3 : Monos ((((rows1 K one two).map IsX) ++ ((rows2 K one two).map IsX)) ++ ((rows3 K one two).map IsX)) := mapp m2 (isX_monos _)
    refine s_retP (P := IsL (((((rows1 K one two).map IsX) ++ ((rows2 K one two).map IsX)) ++ ((rows3 K one two).map IsX)) ++ ((rows4 K one two).map IsX))) (ep_cat (Ps := ((((rows1 K one two).map IsX) ++ ((rows2 K one two).map IsX)) ++ ((rows3 K one two).map IsX))) (Qs := ((rows4 K one two).map IsX)) (ep_var rfl p3 (isL_mono (m3))) (ep_lst (epa_cons (ep_mk1 (ev_var rfl)) (isX_mono _) (epa_cons (ep_mk1 (ev_var rfl)) (isX_mono _) (epa_cons (ep_mk1 (ev_var rfl)) (isX_mono _) (epa_cons (ep_mk1 (ev_var rfl)) (isX_mono _) epa_nil)))) (by simp only [List.length_map, List.length_cons, List.length_nil]; decide) (isX_monos (rows4 K one two))) m3 (isX_monos _) (by simp only [List.length_append, List.length_map, List.length_cons, List.length_nil]; decide)) fun v H4 e4 p4 => ?_
    have m4 : Monos (((((rows1 K one two).map IsX) ++ ((rows2 K one two).map IsX)) ++ ((rows3 K one two).map IsX)) ++ ((rows4 K one two).map IsX)) := mapp m3 (isX_monos _)
    exact k v H4 (((e1.trans e2).trans e3).trans e4) p4
theorem ok_law_named (T : TX P w K mg base) (F : FnP K "_law_named" s_law_named f fd) : FnG P w K mg base CX0 4 f fd p_law_named (spMade K) := by
  refine fund_okG F sc_law_named (fun vs H Q E h => ?_) (fun cdv A outer s H vs Q E gd hr h => ?_)
  · obtain ⟨one, two, rfl, _⟩ := h
    rfl
  · obtain ⟨one, two, rfl, k⟩ := h
    obtain ⟨fdInvalidKind, XInvalidKind⟩ := T.xInvalidKind
    obtain ⟨fdInvalidPart, XInvalidPart⟩ := T.xInvalidPart
    obtain ⟨fdNoRealm, XNoRealm⟩ := T.xNoRealm
    obtain ⟨fdTaken, XTaken⟩ := T.xTaken
    obtain ⟨fdTooDeep, XTooDeep⟩ := T.xTooDeep
    obtain ⟨fdNeeded, XNeeded⟩ := T.xNeeded
    obtain ⟨fdInvalidTarget, XInvalidTarget⟩ := T.xInvalidTarget
    obtain ⟨fdInvalidPort, XInvalidPort⟩ := T.xInvalidPort
    obtain ⟨fdInvalidName, XInvalidName⟩ := T.xInvalidName
    obtain ⟨fdInvalidTime, XInvalidTime⟩ := T.xInvalidTime
    obtain ⟨fdClash, XClash⟩ := T.xClash
    obtain ⟨fdInvalidText, XInvalidText⟩ := T.xInvalidText
    obtain ⟨fdUnknownCommand, XUnknownCommand⟩ := T.xUnknownCommand
    obtain ⟨fdNoStation, XNoStation⟩ := T.xNoStation
    obtain ⟨fdNoRound, XNoRound⟩ := T.xNoRound
    obtain ⟨fdNothingToUndo, XNothingToUndo⟩ := T.xNothingToUndo
    obtain ⟨fdNotHeard, XNotHeard⟩ := T.xNotHeard
    obtain ⟨fdNotSeen, XNotSeen⟩ := T.xNotSeen
    obtain ⟨fdHeard, XHeard⟩ := T.xHeard
    obtain ⟨fdTooMany, XTooMany⟩ := T.xTooMany
    obtain ⟨fdInvalidQuestion, XInvalidQuestion⟩ := T.xInvalidQuestion
    obtain ⟨fdInvalidEvent, XInvalidEvent⟩ := T.xInvalidEvent
    refine ⟨_, PSs.nox (pss_cons (ps_set (i := 2) sc_law_named.nd rfl (Or.inl rfl) (pe_lst (pa_cons (pe_mkXK XInvalidKind.ec XInvalidKind.ok (hr.mono (by decide)) XInvalidKind.kw pass0 rfl XInvalidKind.m (pk_cons (pv 0) pk_nil)) (pa_cons (pe_mkXK XInvalidPart.ec XInvalidPart.ok (hr.mono (by decide)) XInvalidPart.kw pass0 rfl XInvalidPart.m (pk_cons (pv 0) pk_nil)) (pa_cons (pe_mkXK XNoRealm.ec XNoRealm.ok (hr.mono (by decide)) XNoRealm.kw pass0 rfl XNoRealm.m (pk_cons (pv 0) pk_nil)) (pa_cons (pe_mkXK XTaken.ec XTaken.ok (hr.mono (by decide)) XTaken.kw pass0 rfl XTaken.m (pk_cons (pv 0) pk_nil)) (pa_cons (pe_mkXK XTooDeep.ec XTooDeep.ok (hr.mono (by decide)) XTooDeep.kw pass0 rfl XTooDeep.m (pk_cons (pv 0) pk_nil)) pa_nil)))))))
    (pss_cons (ps_set (i := 2) sc_law_named.nd rfl (Or.inl rfl) (pe_op op_cat (pv 2) (pe_lst (pa_cons (pe_mkXK XNeeded.ec XNeeded.ok (hr.mono (by decide)) XNeeded.kw pass0 rfl XNeeded.m (pk_cons (pv 0) pk_nil)) (pa_cons (pe_mkXK XInvalidTarget.ec XInvalidTarget.ok (hr.mono (by decide)) XInvalidTarget.kw pass0 rfl XInvalidTarget.m (pk_cons (pv 0) pk_nil)) (pa_cons (pe_mkXK XInvalidPort.ec XInvalidPort.ok (hr.mono (by decide)) XInvalidPort.kw pass0 rfl XInvalidPort.m (pk_cons (pv 0) pk_nil)) (pa_cons (pe_mkXK XInvalidName.ec XInvalidName.ok (hr.mono (by decide)) XInvalidName.kw pass0 rfl XInvalidName.m (pk_cons (pv 0) pk_nil)) pa_nil)))))))
    (pss_cons (ps_set (i := 2) sc_law_named.nd rfl (Or.inl rfl) (pe_op op_cat (pv 2) (pe_lst (pa_cons (pe_mkXK XInvalidTime.ec XInvalidTime.ok (hr.mono (by decide)) XInvalidTime.kw pass0 rfl XInvalidTime.m (pk_cons (pv 0) pk_nil)) (pa_cons (pe_mkXK XClash.ec XClash.ok (hr.mono (by decide)) XClash.kw pass0 rfl XClash.m (pk_cons (pv 0) pk_nil)) (pa_cons (pe_mkXK XInvalidText.ec XInvalidText.ok (hr.mono (by decide)) XInvalidText.kw pass0 rfl XInvalidText.m (pk_cons (pv 1) (pk_cons (pv 0) pk_nil))) pa_nil))))))
    (pss_cons (ps_set (i := 2) sc_law_named.nd rfl (Or.inl rfl) (pe_op op_cat (pv 2) (pe_lst (pa_cons (pe_mkXK XUnknownCommand.ec XUnknownCommand.ok (hr.mono (by decide)) XUnknownCommand.kw pass0 rfl XUnknownCommand.m (pk_cons (pv 0) pk_nil)) (pa_cons (pe_mkXK XNoStation.ec XNoStation.ok (hr.mono (by decide)) XNoStation.kw pass0 rfl XNoStation.m (pk_cons (pv 0) pk_nil)) (pa_cons (pe_mkXK XNoRound.ec XNoRound.ok (hr.mono (by decide)) XNoRound.kw pass0 rfl XNoRound.m (pk_cons (pv 0) pk_nil)) (pa_cons (pe_mkXK XNothingToUndo.ec XNothingToUndo.ok (hr.mono (by decide)) XNothingToUndo.kw pass0 rfl XNothingToUndo.m (pk_cons (pv 0) pk_nil)) pa_nil)))))))
    (pss_cons (ps_set (i := 2) sc_law_named.nd rfl (Or.inl rfl) (pe_op op_cat (pv 2) (pe_lst (pa_cons (pe_mkXK XNotHeard.ec XNotHeard.ok (hr.mono (by decide)) XNotHeard.kw pass0 rfl XNotHeard.m (pk_cons (pv 0) pk_nil)) (pa_cons (pe_mkXK XNotSeen.ec XNotSeen.ok (hr.mono (by decide)) XNotSeen.kw pass0 rfl XNotSeen.m (pk_cons (pv 0) pk_nil)) (pa_cons (pe_mkXK XHeard.ec XHeard.ok (hr.mono (by decide)) XHeard.kw pass0 rfl XHeard.m (pk_cons (pv 0) pk_nil)) (pa_cons (pe_mkXK XTooMany.ec XTooMany.ok (hr.mono (by decide)) XTooMany.kw pass0 rfl XTooMany.m (pk_cons (pv 0) pk_nil)) pa_nil)))))))
    (pss_one (ps_ret (pe_op op_cat (pv 2) (pe_lst (pa_cons (pe_mkXK XInvalidQuestion.ec XInvalidQuestion.ok (hr.mono (by decide)) XInvalidQuestion.kw pass0 rfl XInvalidQuestion.m (pk_cons (pv 0) pk_nil)) (pa_cons (pe_mkXK XInvalidEvent.ec XInvalidEvent.ok (hr.mono (by decide)) XInvalidEvent.kw pass0 rfl XInvalidEvent.m (pk_cons (pv 0) pk_nil)) pa_nil))))))))))), ?_⟩
    refine s_asgP (P := IsL ((([(cA K "InvalidKind", [("place", one)]), (cA K "InvalidPart", [("index", one)]), (cA K "NoRealm", [("index", one)]), (cA K "Taken", [("index", one)]), (cA K "TooDeep", [("index", one)])] : List (Addr × List (Str × V)))).map IsX)) (ep_lst (epa_cons (ep_mkK1 (ev_var rfl)) (isX_mono _) (epa_cons (ep_mkK1 (ev_var rfl)) (isX_mono _) (epa_cons (ep_mkK1 (ev_var rfl)) (isX_mono _) (epa_cons (ep_mkK1 (ev_var rfl)) (isX_mono _) (epa_cons (ep_mkK1 (ev_var rfl)) (isX_mono _) epa_nil))))) (by simp only [List.length_map, List.length_cons, List.length_nil]; decide) (isX_monos (([(cA K "InvalidKind", [("place", one)]), (cA K "InvalidPart", [("index", one)]), (cA K "NoRealm", [("index", one)]), (cA K "Taken", [("index", one)]), (cA K "TooDeep", [("index", one)])] : List (Addr × List (Str × V)))))) fun l1 H1 e1 p1 => ?_
    have m1 : Monos ((([(cA K "InvalidKind", [("place", one)]), (cA K "InvalidPart", [("index", one)]), (cA K "NoRealm", [("index", one)]), (cA K "Taken", [("index", one)]), (cA K "TooDeep", [("index", one)])] : List (Addr × List (Str × V)))).map IsX) := isX_monos _
    refine s_asgP (P := IsL (((([(cA K "InvalidKind", [("place", one)]), (cA K "InvalidPart", [("index", one)]), (cA K "NoRealm", [("index", one)]), (cA K "Taken", [("index", one)]), (cA K "TooDeep", [("index", one)])] : List (Addr × List (Str × V)))).map IsX) ++ ((([(cA K "Needed", [("name", one)]), (cA K "InvalidTarget", [("target", one)]), (cA K "InvalidPort", [("port", one)]), (cA K "InvalidName", [("name", one)])] : List (Addr × List (Str × V)))).map IsX))) (ep_cat (Ps := ((([(cA K "InvalidKind", [("place", one)]), (cA K "InvalidPart", [("index", one)]), (cA K "NoRealm", [("index", one)]), (cA K "Taken", [("index", one)]), (cA K "TooDeep", [("index", one)])] : List (Addr × List (Str × V)))).map IsX)) (Qs := ((([(cA K "Needed", [("name", one)]), (cA K "InvalidTarget", [("target", one)]), (cA K "InvalidPort", [("port", one)]), (cA K "InvalidName", [("name", one)])] : List (Addr × List (Str × V)))).map IsX)) (ep_var rfl p1 (isL_mono (m1))) (ep_lst (epa_cons (ep_mkK1 (ev_var rfl)) (isX_mono _) (epa_cons (ep_mkK1 (ev_var rfl)) (isX_mono _) (epa_cons (ep_mkK1 (ev_var rfl)) (isX_mono _) (epa_cons (ep_mkK1 (ev_var rfl)) (isX_mono _) epa_nil)))) (by simp only [List.length_map, List.length_cons, List.length_nil]; decide) (isX_monos (([(cA K "Needed", [("name", one)]), (cA K "InvalidTarget", [("target", one)]), (cA K "InvalidPort", [("port", one)]), (cA K "InvalidName", [("name", one)])] : List (Addr × List (Str × V)))))) m1 (isX_monos _) (by simp only [List.length_append, List.length_map, List.length_cons, List.length_nil]; decide)) fun l2 H2 e2 p2 => ?_
    have m2 : Monos (((([(cA K "InvalidKind", [("place", one)]), (cA K "InvalidPart", [("index", one)]), (cA K "NoRealm", [("index", one)]), (cA K "Taken", [("index", one)]), (cA K "TooDeep", [("index", one)])] : List (Addr × List (Str × V)))).map IsX) ++ ((([(cA K "Needed", [("name", one)]), (cA K "InvalidTarget", [("target", one)]), (cA K "InvalidPort", [("port", one)]), (cA K "InvalidName", [("name", one)])] : List (Addr × List (Str × V)))).map IsX)) := mapp m1 (isX_monos _)
    refine s_asgP (P := IsL ((((([(cA K "InvalidKind", [("place", one)]), (cA K "InvalidPart", [("index", one)]), (cA K "NoRealm", [("index", one)]), (cA K "Taken", [("index", one)]), (cA K "TooDeep", [("index", one)])] : List (Addr × List (Str × V)))).map IsX) ++ ((([(cA K "Needed", [("name", one)]), (cA K "InvalidTarget", [("target", one)]), (cA K "InvalidPort", [("port", one)]), (cA K "InvalidName", [("name", one)])] : List (Addr × List (Str × V)))).map IsX)) ++ ((([(cA K "InvalidTime", [("time", one)]), (cA K "Clash", [("number", one)]), (cA K "InvalidText", [("word", two), ("line", one)])] : List (Addr × List (Str × V)))).map IsX))) (ep_cat (Ps := (((([(cA K "InvalidKind", [("place", one)]), (cA K "InvalidPart", [("index", one)]), (cA K "NoRealm", [("index", one)]), (cA K "Taken", [("index", one)]), (cA K "TooDeep", [("index", one)])] : List (Addr × List (Str × V)))).map IsX) ++ ((([(cA K "Needed", [("name", one)]), (cA K "InvalidTarget", [("target", one)]), (cA K "InvalidPort", [("port", one)]), (cA K "InvalidName", [("name", one)])] : List (Addr × List (Str × V)))).map IsX))) (Qs := ((([(cA K "InvalidTime", [("time", one)]), (cA K "Clash", [("number", one)]), (cA K "InvalidText", [("word", two), ("line", one)])] : List (Addr × List (Str × V)))).map IsX)) (ep_var rfl p2 (isL_mono (m2))) (ep_lst (epa_cons (ep_mkK1 (ev_var rfl)) (isX_mono _) (epa_cons (ep_mkK1 (ev_var rfl)) (isX_mono _) (epa_cons (ep_mkK2 (ev_var rfl) (ev_var rfl)) (isX_mono _) epa_nil))) (by simp only [List.length_map, List.length_cons, List.length_nil]; decide) (isX_monos (([(cA K "InvalidTime", [("time", one)]), (cA K "Clash", [("number", one)]), (cA K "InvalidText", [("word", two), ("line", one)])] : List (Addr × List (Str × V)))))) m2 (isX_monos _) (by simp only [List.length_append, List.length_map, List.length_cons, List.length_nil]; decide)) fun l3 H3 e3 p3 => ?_
    have m3 : Monos ((((([(cA K "InvalidKind", [("place", one)]), (cA K "InvalidPart", [("index", one)]), (cA K "NoRealm", [("index", one)]), (cA K "Taken", [("index", one)]), (cA K "TooDeep", [("index", one)])] : List (Addr × List (Str × V)))).map IsX) ++ ((([(cA K "Needed", [("name", one)]), (cA K "InvalidTarget", [("target", one)]), (cA K "InvalidPort", [("port", one)]), (cA K "InvalidName", [("name", one)])] : List (Addr × List (Str × V)))).map IsX)) ++ ((([(cA K "InvalidTime", [("time", one)]), (cA K "Clash", [("number", one)]), (cA K "InvalidText", [("word", two), ("line", one)])] : List (Addr × List (Str × V)))).map IsX)) := mapp m2 (isX_monos _)
    refine s_asgP (P := IsL (((((([(cA K "InvalidKind", [("place", one)]), (cA K "InvalidPart", [("index", one)]), (cA K "NoRealm", [("index", one)]), (cA K "Taken", [("index", one)]), (cA K "TooDeep", [("index", one)])] : List (Addr × List (Str × V)))).map IsX) ++ ((([(cA K "Needed", [("name", one)]), (cA K "InvalidTarget", [("target", one)]), (cA K "InvalidPort", [("port", one)]), (cA K "InvalidName", [("name", one)])] : List (Addr × List (Str × V)))).map IsX)) ++ ((([(cA K "InvalidTime", [("time", one)]), (cA K "Clash", [("number", one)]), (cA K "InvalidText", [("word", two), ("line", one)])] : List (Addr × List (Str × V)))).map IsX)) ++ ((([(cA K "UnknownCommand", [("command", one)]), (cA K "NoStation", [("name", one)]), (cA K "NoRound", [("number", one)]), (cA K "NothingToUndo", [("count", one)])] : List (Addr × List (Str × V)))).map IsX))) (ep_cat (Ps := ((((([(cA K "InvalidKind", [("place", one)]), (cA K "InvalidPart", [("index", one)]), (cA K "NoRealm", [("index", one)]), (cA K "Taken", [("index", one)]), (cA K "TooDeep", [("index", one)])] : List (Addr × List (Str × V)))).map IsX) ++ ((([(cA K "Needed", [("name", one)]), (cA K "InvalidTarget", [("target", one)]), (cA K "InvalidPort", [("port", one)]), (cA K "InvalidName", [("name", one)])] : List (Addr × List (Str × V)))).map IsX)) ++ ((([(cA K "InvalidTime", [("time", one)]), (cA K "Clash", [("number", one)]), (cA K "InvalidText", [("word", two), ("line", one)])] : List (Addr × List (Str × V)))).map IsX))) (Qs := ((([(cA K "UnknownCommand", [("command", one)]), (cA K "NoStation", [("name", one)]), (cA K "NoRound", [("number", one)]), (cA K "NothingToUndo", [("count", one)])] : List (Addr × List (Str × V)))).map IsX)) (ep_var rfl p3 (isL_mono (m3))) (ep_lst (epa_cons (ep_mkK1 (ev_var rfl)) (isX_mono _) (epa_cons (ep_mkK1 (ev_var rfl)) (isX_mono _) (epa_cons (ep_mkK1 (ev_var rfl)) (isX_mono _) (epa_cons (ep_mkK1 (ev_var rfl)) (isX_mono _) epa_nil)))) (by simp only [List.length_map, List.length_cons, List.length_nil]; decide) (isX_monos (([(cA K "UnknownCommand", [("command", one)]), (cA K "NoStation", [("name", one)]), (cA K "NoRound", [("number", one)]), (cA K "NothingToUndo", [("count", one)])] : List (Addr × List (Str × V)))))) m3 (isX_monos _) (by simp only [List.length_append, List.length_map, List.length_cons, List.length_nil]; decide)) fun l4 H4 e4 p4 => ?_
    have m4 : Monos (((((([(cA K "InvalidKind", [("place", one)]), (cA K "InvalidPart", [("index", one)]), (cA K "NoRealm", [("index", one)]), (cA K "Taken", [("index", one)]), (cA K "TooDeep", [("index", one)])] : List (Addr × List (Str × V)))).map IsX) ++ ((([(cA K "Needed", [("name", one)]), (cA K "InvalidTarget", [("target", one)]), (cA K "InvalidPort", [("port", one)]), (cA K "InvalidName", [("name", one)])] : List (Addr × List (Str × V)))).map IsX)) ++ ((([(cA K "InvalidTime", [("time", one)]), (cA K "Clash", [("number", one)]), (cA K "InvalidText", [("word", two), ("line", one)])] : List (Addr × List (Str × V)))).map IsX)) ++ ((([(cA K "UnknownCommand", [("command", one)]), (cA K "NoStation", [("name", one)]), (cA K "NoRound", [("number", one)]), (cA K "NothingToUndo", [("count", one)])] : List (Addr × List (Str × V)))).map IsX)) := mapp m3 (isX_monos _)
    refine s_asgP (P := IsL ((((((([(cA K "InvalidKind", [("place", one)]), (cA K "InvalidPart", [("index", one)]), (cA K "NoRealm", [("index", one)]), (cA K "Taken", [("index", one)]), (cA K "TooDeep", [("index", one)])] : List (Addr × List (Str × V)))).map IsX) ++ ((([(cA K "Needed", [("name", one)]), (cA K "InvalidTarget", [("target", one)]), (cA K "InvalidPort", [("port", one)]), (cA K "InvalidName", [("name", one)])] : List (Addr × List (Str × V)))).map IsX)) ++ ((([(cA K "InvalidTime", [("time", one)]), (cA K "Clash", [("number", one)]), (cA K "InvalidText", [("word", two), ("line", one)])] : List (Addr × List (Str × V)))).map IsX)) ++ ((([(cA K "UnknownCommand", [("command", one)]), (cA K "NoStation", [("name", one)]), (cA K "NoRound", [("number", one)]), (cA K "NothingToUndo", [("count", one)])] : List (Addr × List (Str × V)))).map IsX)) ++ ((([(cA K "NotHeard", [("host", one)]), (cA K "NotSeen", [("name", one)]), (cA K "Heard", [("number", one)]), (cA K "TooMany", [("limit", one)])] : List (Addr × List (Str × V)))).map IsX))) (ep_cat (Ps := (((((([(cA K "InvalidKind", [("place", one)]), (cA K "InvalidPart", [("index", one)]), (cA K "NoRealm", [("index", one)]), (cA K "Taken", [("index", one)]), (cA K "TooDeep", [("index", one)])] : List (Addr × List (Str × V)))).map IsX) ++ ((([(cA K "Needed", [("name", one)]), (cA K "InvalidTarget", [("target", one)]), (cA K "InvalidPort", [("port", one)]), (cA K "InvalidName", [("name", one)])] : List (Addr × List (Str × V)))).map IsX)) ++ ((([(cA K "InvalidTime", [("time", one)]), (cA K "Clash", [("number", one)]), (cA K "InvalidText", [("word", two), ("line", one)])] : List (Addr × List (Str × V)))).map IsX)) ++ ((([(cA K "UnknownCommand", [("command", one)]), (cA K "NoStation", [("name", one)]), (cA K "NoRound", [("number", one)]), (cA K "NothingToUndo", [("count", one)])] : List (Addr × List (Str × V)))).map IsX))) (Qs := ((([(cA K "NotHeard", [("host", one)]), (cA K "NotSeen", [("name", one)]), (cA K "Heard", [("number", one)]), (cA K "TooMany", [("limit", one)])] : List (Addr × List (Str × V)))).map IsX)) (ep_var rfl p4 (isL_mono (m4))) (ep_lst (epa_cons (ep_mkK1 (ev_var rfl)) (isX_mono _) (epa_cons (ep_mkK1 (ev_var rfl)) (isX_mono _) (epa_cons (ep_mkK1 (ev_var rfl)) (isX_mono _) (epa_cons (ep_mkK1 (ev_var rfl)) (isX_mono _) epa_nil)))) (by simp only [List.length_map, List.length_cons, List.length_nil]; decide) (isX_monos (([(cA K "NotHeard", [("host", one)]), (cA K "NotSeen", [("name", one)]), (cA K "Heard", [("number", one)]), (cA K "TooMany", [("limit", one)])] : List (Addr × List (Str × V)))))) m4 (isX_monos _) (by simp only [List.length_append, List.length_map, List.length_cons, List.length_nil]; decide)) fun l5 H5 e5 p5 => ?_
    have m5 : Monos ((((((([(cA K "InvalidKind", [("place", one)]), (cA K "InvalidPart", [("index", one)]), (cA K "NoRealm", [("index", one)]), (cA K "Taken", [("index", one)]), (cA K "TooDeep", [("index", one)])] : List (Addr × List (Str × V)))).map IsX) ++ ((([(cA K "Needed", [("name", one)]), (cA K "InvalidTarget", [("target", one)]), (cA K "InvalidPort", [("port", one)]), (cA K "InvalidName", [("name", one)])] : List (Addr × List (Str × V)))).map IsX)) ++ ((([(cA K "InvalidTime", [("time", one)]), (cA K "Clash", [("number", one)]), (cA K "InvalidText", [("word", two), ("line", one)])] : List (Addr × List (Str × V)))).map IsX)) ++ ((([(cA K "UnknownCommand", [("command", one)]), (cA K "NoStation", [("name", one)]), (cA K "NoRound", [("number", one)]), (cA K "NothingToUndo", [("count", one)])] : List (Addr × List (Str × V)))).map IsX)) ++ ((([(cA K "NotHeard", [("host", one)]), (cA K "NotSeen", [("name", one)]), (cA K "Heard", [("number", one)]), (cA K "TooMany", [("limit", one)])] : List (Addr × List (Str × V)))).map IsX)) := mapp m4 (isX_monos _)
    refine s_retP (P := IsL (((((((([(cA K "InvalidKind", [("place", one)]), (cA K "InvalidPart", [("index", one)]), (cA K "NoRealm", [("index", one)]), (cA K "Taken", [("index", one)]), (cA K "TooDeep", [("index", one)])] : List (Addr × List (Str × V)))).map IsX) ++ ((([(cA K "Needed", [("name", one)]), (cA K "InvalidTarget", [("target", one)]), (cA K "InvalidPort", [("port", one)]), (cA K "InvalidName", [("name", one)])] : List (Addr × List (Str × V)))).map IsX)) ++ ((([(cA K "InvalidTime", [("time", one)]), (cA K "Clash", [("number", one)]), (cA K "InvalidText", [("word", two), ("line", one)])] : List (Addr × List (Str × V)))).map IsX)) ++ ((([(cA K "UnknownCommand", [("command", one)]), (cA K "NoStation", [("name", one)]), (cA K "NoRound", [("number", one)]), (cA K "NothingToUndo", [("count", one)])] : List (Addr × List (Str × V)))).map IsX)) ++ ((([(cA K "NotHeard", [("host", one)]), (cA K "NotSeen", [("name", one)]), (cA K "Heard", [("number", one)]), (cA K "TooMany", [("limit", one)])] : List (Addr × List (Str × V)))).map IsX)) ++ ((([(cA K "InvalidQuestion", [("question", one)]), (cA K "InvalidEvent", [("event", one)])] : List (Addr × List (Str × V)))).map IsX))) (ep_cat (Ps := ((((((([(cA K "InvalidKind", [("place", one)]), (cA K "InvalidPart", [("index", one)]), (cA K "NoRealm", [("index", one)]), (cA K "Taken", [("index", one)]), (cA K "TooDeep", [("index", one)])] : List (Addr × List (Str × V)))).map IsX) ++ ((([(cA K "Needed", [("name", one)]), (cA K "InvalidTarget", [("target", one)]), (cA K "InvalidPort", [("port", one)]), (cA K "InvalidName", [("name", one)])] : List (Addr × List (Str × V)))).map IsX)) ++ ((([(cA K "InvalidTime", [("time", one)]), (cA K "Clash", [("number", one)]), (cA K "InvalidText", [("word", two), ("line", one)])] : List (Addr × List (Str × V)))).map IsX)) ++ ((([(cA K "UnknownCommand", [("command", one)]), (cA K "NoStation", [("name", one)]), (cA K "NoRound", [("number", one)]), (cA K "NothingToUndo", [("count", one)])] : List (Addr × List (Str × V)))).map IsX)) ++ ((([(cA K "NotHeard", [("host", one)]), (cA K "NotSeen", [("name", one)]), (cA K "Heard", [("number", one)]), (cA K "TooMany", [("limit", one)])] : List (Addr × List (Str × V)))).map IsX))) (Qs := ((([(cA K "InvalidQuestion", [("question", one)]), (cA K "InvalidEvent", [("event", one)])] : List (Addr × List (Str × V)))).map IsX)) (ep_var rfl p5 (isL_mono (m5))) (ep_lst (epa_cons (ep_mkK1 (ev_var rfl)) (isX_mono _) (epa_cons (ep_mkK1 (ev_var rfl)) (isX_mono _) epa_nil)) (by simp only [List.length_map, List.length_cons, List.length_nil]; decide) (isX_monos (([(cA K "InvalidQuestion", [("question", one)]), (cA K "InvalidEvent", [("event", one)])] : List (Addr × List (Str × V)))))) m5 (isX_monos _) (by simp only [List.length_append, List.length_map, List.length_cons, List.length_nil]; decide)) fun v H6 e6 p6 => ?_
    have m6 : Monos (((((((([(cA K "InvalidKind", [("place", one)]), (cA K "InvalidPart", [("index", one)]), (cA K "NoRealm", [("index", one)]), (cA K "Taken", [("index", one)]), (cA K "TooDeep", [("index", one)])] : List (Addr × List (Str × V)))).map IsX) ++ ((([(cA K "Needed", [("name", one)]), (cA K "InvalidTarget", [("target", one)]), (cA K "InvalidPort", [("port", one)]), (cA K "InvalidName", [("name", one)])] : List (Addr × List (Str × V)))).map IsX)) ++ ((([(cA K "InvalidTime", [("time", one)]), (cA K "Clash", [("number", one)]), (cA K "InvalidText", [("word", two), ("line", one)])] : List (Addr × List (Str × V)))).map IsX)) ++ ((([(cA K "UnknownCommand", [("command", one)]), (cA K "NoStation", [("name", one)]), (cA K "NoRound", [("number", one)]), (cA K "NothingToUndo", [("count", one)])] : List (Addr × List (Str × V)))).map IsX)) ++ ((([(cA K "NotHeard", [("host", one)]), (cA K "NotSeen", [("name", one)]), (cA K "Heard", [("number", one)]), (cA K "TooMany", [("limit", one)])] : List (Addr × List (Str × V)))).map IsX)) ++ ((([(cA K "InvalidQuestion", [("question", one)]), (cA K "InvalidEvent", [("event", one)])] : List (Addr × List (Str × V)))).map IsX)) := mapp m5 (isX_monos _)
    exact k v H6 (((((e1.trans e2).trans e3).trans e4).trans e5).trans e6) p6
end
end L2.Mb
set_option maxRecDepth 100000
set_option maxHeartbeats 4000000
namespace L2.Mb
open PySem PySem.Spec PyProof.Rows Mx Evl
/-- the classes' names in the law's order, and their built-in bases -/
abbrev nms : List Str := ["InvalidKind", "InvalidPart", "NoRealm", "Taken", "TooDeep", "Needed", "InvalidTarget", "InvalidPort", "InvalidName", "InvalidTime", "Clash", "InvalidText", "UnknownCommand", "NoStation", "NoRound", "NothingToUndo", "NotHeard", "NotSeen", "Heard", "TooMany", "InvalidQuestion", "InvalidEvent"]
abbrev bss : List EB := [.val, .val, .val, .val, .val, .val, .val, .val, .val, .val, .val, .val, .val, .key, .ind, .look, .look, .look, .run, .over, .val, .val]
abbrev cs (K : W.Frag) (i : Nat) : Addr := cA K (nms.getD i "")
/-- which class an error is of -/
def kitB (K : W.Frag) : Bool := (List.range 22).all fun i => (List.range 22).all fun j => decide (W.kitOne K (.ref (cs K i)) (.ref (cs K j)) = some (decide (i = j)))
/-- of which bases -/
def dueI : EB → List Int
  | .val => [1, 1, 0, 0, 0, 0, 0] | .key => [0, 0, 1, 0, 1, 0, 0] | .ind => [0, 0, 0, 1, 1, 0, 0] | .look => [0, 0, 0, 0, 1, 0, 0] | .run => [0, 0, 0, 0, 0, 1, 0] | .over => [0, 0, 0, 0, 0, 0, 1]
def dueB (b : EB) : List Bool := (dueI b).map fun n => decide (n = 1)
abbrev baseV (K : W.Frag) : List Value := [.ref (cA K "MeetError"), .type "ValueError", .type "KeyError", .type "IndexError", .type "LookupError", .type "RuntimeError", .type "OverflowError"]
def kitC (K : W.Frag) : Bool := (List.range 22).all fun i => (List.range 7).all fun j => decide (W.kitOne K (.ref (cs K i)) ((baseV K).getD j .none) = some ((dueB (bss.getD i .val)).getD j false))
section
variable {K : W.Frag}
theorem kitB_ok (h : kitB K = true) {i j : Nat} (hi : i < 22) (hj : j < 22) : W.kitOne K (.ref (cs K i)) (.ref (cs K j)) = some (decide (i = j)) :=
  of_decide_eq_true (List.all_eq_true.mp (List.all_eq_true.mp h i (List.mem_range.mpr hi)) j (List.mem_range.mpr hj))
theorem kitC_ok (h : kitC K = true) {i j : Nat} (hi : i < 22) (hj : j < 7) : W.kitOne K (.ref (cs K i)) ((baseV K).getD j .none) = some ((dueB (bss.getD i .val)).getD j false) :=
  of_decide_eq_true (List.all_eq_true.mp (List.all_eq_true.mp h i (List.mem_range.mpr hi)) j (List.mem_range.mpr hj))
theorem Each.get {H : Hp} : ∀ {Ps : List Pr} {vs : List V} {i : Nat} {P : Pr}, Each H Ps vs → Ps[i]? = some P → ∃ v, vs[i]? = some v ∧ P H v
  | _, _, _, _, .nil, e => by simp at e
  | _, _, 0, _, .cons h _, e => by
    have e2 := Option.some.inj e
    rw [← e2]
    exact ⟨_, rfl, h⟩
  | _, _, i + 1, _, .cons _ t, e => Each.get (i := i) t e
variable {σ : L2.St} {H : Hp} {l C fI : Addr} {b : EB} {f : Str} {fs : List (Str × V)} {es : List V} {rs : List (Addr × List (Str × V))} {v : V} {te : TE}
/-- es[i].f -/
theorem ev_fld (i : Nat) (h0 : σ[0]? = some (some (.ref l))) (hl : H l = some (.lst es)) (E : Each H (rs.map IsX) es) (hi : rs[i]? = some (C, fs)) (T : EC K C fI b) (no : W.findIn K (.ref C) f = some none) (lk : fs.lookup f = some v) :
    Ev (tGetX K f (tOp (rIxL K) (tVar 0) (tC (.int (i : Int))))) σ H v := fun H1 e Q q => by
  obtain ⟨x, hx, a, rfl, X⟩ := E.get (i := i) (P := IsX (C, fs)) (by rw [List.getElem?_map, hi]; rfl)
  obtain ⟨d, h1, h2⟩ := X
  exact ⟨_, h0, l, es, i, _, rfl, rfl, SqL.of (e l _ hl), atI_nat hx, a, C, fI, b, fs, v, rfl, ⟨d, e _ _ h1, e _ _ h2⟩, T, no, lk, q H1 (Ex.refl H1)⟩
/-- isinstance(e, c) -/
theorem ev_isX {a : Addr} {c : V} {u : Value} {r : Bool} (h0 : Ev te σ H (.ref a)) {t2 : TE} (hc : Ev t2 σ H c) (hx : XAt H a C fs) (T : EC K C fI b) (k : ClsV c u) (e : W.kitOne K (.ref C) u = some r) :
    Ev (tCB (rIsX K) (tCons te (tCons t2 tNil))) σ H (.bl r) := fun H1 e1 Q q => h0 H1 e1 _ fun H2 e2 => hc H2 (e1.trans e2) _ fun H3 e3 => by
  obtain ⟨d, h1, h2⟩ := hx
  have E := (e1.trans e2).trans e3
  exact ⟨a, C, fI, b, fs, c, u, r, rfl, ⟨d, E _ _ h1, E _ _ h2⟩, T, k, e, q H3 (e2.trans e3)⟩
theorem el_cat {ta tb : TE} {xs ys : List V} (h1 : EvL ta σ H xs) (h2 : EvL tb σ H ys) (hz : xs.length + ys.length ≤ 100000) : EvL (tOp rCat ta tb) σ H (xs ++ ys) := fun H1 e Q q =>
  h1 H1 e _ fun p H2 np e2 hp => h2 H2 (e.trans e2) _ fun r H3 nr e3 hr => ⟨p, r, xs, ys, rfl, rfl, e3 _ _ hp, hr, sz_of hz, fun s hs => q s _ (fresh_back (e2.trans e3) hs) ((e2.trans e3).trans (Ex.new hs)) upd_same⟩
/-- a list that is known in a slot, read -/
theorem el_var {i : Nat} {p : Addr} {xs : List V} (h : σ[i]? = some (some (.ref p))) : Ev (tVar i) σ H (.ref p) := ev_var h
theorem el_catV {tb : TE} {i : Nat} {p : Addr} {xs ys : List V} (h : σ[i]? = some (some (.ref p))) (hp : H p = some (.lst xs)) (h2 : EvL tb σ H ys) (hz : xs.length + ys.length ≤ 100000) : EvL (tOp rCat (tVar i) tb) σ H (xs ++ ys) := fun H1 e Q q =>
  ⟨_, h, h2 H1 e _ fun r H3 nr e3 hr => ⟨p, r, xs, ys, rfl, rfl, e3 _ _ (e _ _ hp), hr, sz_of hz, fun s hs => q s _ (fresh_back e3 hs) (e3.trans (Ex.new hs)) upd_same⟩⟩
end
def spFields (K : W.Frag) : Sp := fun vs H Q _ => ∃ (l : Addr) (es : List V) (one two : V), vs = [.ref l] ∧ H l = some (.lst es) ∧ Each H ((rows K one two).map IsX) es ∧ ∀ p H', H p = none → Ex H H' → H' p = some (.lst (List.replicate 22 one)) → Q (.ref p) H'
def spClasses (K : W.Frag) : Sp := fun vs H Q _ => ∃ (a : Addr) (i : Nat) (fs : List (Str × V)), vs = [.ref a] ∧ i < 22 ∧ XAt H a (cs K i) fs ∧ ∀ p H', H p = none → Ex H H' → H' p = some (.lst ((List.range 22).map fun j => .bl (decide (i = j)))) → Q (.ref p) H'
def spBases (K : W.Frag) : Sp := fun vs H Q _ => ∃ (a : Addr) (i : Nat) (fs : List (Str × V)), vs = [.ref a] ∧ i < 22 ∧ XAt H a (cs K i) fs ∧ ∀ p H', H p = none → Ex H H' → H' p = some (.lst ((dueI (bss.getD i .val)).map V.int)) → Q (.ref p) H'
section
variable {P : Program} {w : World} {K : W.Frag} {mg : Str → Option Value} {base : Heap} {f : Addr} {fd : FuncData}
/-- the classes' facts by number -/
theorem ec_at (T : TX P w K mg base) {i : Nat} (h : i < 22) : ∃ fI b, EC K (cs K i) fI b := by
  obtain ⟨fdInvalidKind, XInvalidKind⟩ := T.xInvalidKind
  obtain ⟨fdInvalidPart, XInvalidPart⟩ := T.xInvalidPart
  obtain ⟨fdNoRealm, XNoRealm⟩ := T.xNoRealm
  obtain ⟨fdTaken, XTaken⟩ := T.xTaken
  obtain ⟨fdTooDeep, XTooDeep⟩ := T.xTooDeep
  obtain ⟨fdNeeded, XNeeded⟩ := T.xNeeded
  obtain ⟨fdInvalidTarget, XInvalidTarget⟩ := T.xInvalidTarget
  obtain ⟨fdInvalidPort, XInvalidPort⟩ := T.xInvalidPort
  obtain ⟨fdInvalidName, XInvalidName⟩ := T.xInvalidName
  obtain ⟨fdInvalidTime, XInvalidTime⟩ := T.xInvalidTime
  obtain ⟨fdClash, XClash⟩ := T.xClash
  obtain ⟨fdInvalidText, XInvalidText⟩ := T.xInvalidText
  obtain ⟨fdUnknownCommand, XUnknownCommand⟩ := T.xUnknownCommand
  obtain ⟨fdNoStation, XNoStation⟩ := T.xNoStation
  obtain ⟨fdNoRound, XNoRound⟩ := T.xNoRound
  obtain ⟨fdNothingToUndo, XNothingToUndo⟩ := T.xNothingToUndo
  obtain ⟨fdNotHeard, XNotHeard⟩ := T.xNotHeard
  obtain ⟨fdNotSeen, XNotSeen⟩ := T.xNotSeen
  obtain ⟨fdHeard, XHeard⟩ := T.xHeard
  obtain ⟨fdTooMany, XTooMany⟩ := T.xTooMany
  obtain ⟨fdInvalidQuestion, XInvalidQuestion⟩ := T.xInvalidQuestion
  obtain ⟨fdInvalidEvent, XInvalidEvent⟩ := T.xInvalidEvent
  rcases (show i = 0 ∨ i = 1 ∨ i = 2 ∨ i = 3 ∨ i = 4 ∨ i = 5 ∨ i = 6 ∨ i = 7 ∨ i = 8 ∨ i = 9 ∨ i = 10 ∨ i = 11 ∨ i = 12 ∨ i = 13 ∨ i = 14 ∨ i = 15 ∨ i = 16 ∨ i = 17 ∨ i = 18 ∨ i = 19 ∨ i = 20 ∨ i = 21 by omega) with rfl | rfl | rfl | rfl | rfl | rfl | rfl | rfl | rfl | rfl | rfl | rfl | rfl | rfl | rfl | rfl | rfl | rfl | rfl | rfl | rfl | rfl
  · exact ⟨_, _, XInvalidKind.ec⟩
  · exact ⟨_, _, XInvalidPart.ec⟩
  · exact ⟨_, _, XNoRealm.ec⟩
  · exact ⟨_, _, XTaken.ec⟩
  · exact ⟨_, _, XTooDeep.ec⟩
  · exact ⟨_, _, XNeeded.ec⟩
  · exact ⟨_, _, XInvalidTarget.ec⟩
  · exact ⟨_, _, XInvalidPort.ec⟩
  · exact ⟨_, _, XInvalidName.ec⟩
  · exact ⟨_, _, XInvalidTime.ec⟩
  · exact ⟨_, _, XClash.ec⟩
  · exact ⟨_, _, XInvalidText.ec⟩
  · exact ⟨_, _, XUnknownCommand.ec⟩
  · exact ⟨_, _, XNoStation.ec⟩
  · exact ⟨_, _, XNoRound.ec⟩
  · exact ⟨_, _, XNothingToUndo.ec⟩
  · exact ⟨_, _, XNotHeard.ec⟩
  · exact ⟨_, _, XNotSeen.ec⟩
  · exact ⟨_, _, XHeard.ec⟩
  · exact ⟨_, _, XTooMany.ec⟩
  · exact ⟨_, _, XInvalidQuestion.ec⟩
  · exact ⟨_, _, XInvalidEvent.ec⟩
theorem ok_law_fields (T : TX P w K mg base) (F : FnP K "_law_fields" s_law_fields f fd) : FnOk P w K mg base CX0 1 f fd p_law_fields (spFields K) := by
  refine F.ok sc_law_fields (fun vs H Q E h => ?_) (fun cdv A outer s H vs Q E hr h => ?_)
  · obtain ⟨l, es, one, two, rfl, _⟩ := h
    rfl
  · obtain ⟨l, es, one, two, rfl, hl, E, k⟩ := h
    obtain ⟨fdInvalidKind, XInvalidKind⟩ := T.xInvalidKind
    obtain ⟨fdInvalidPart, XInvalidPart⟩ := T.xInvalidPart
    obtain ⟨fdNoRealm, XNoRealm⟩ := T.xNoRealm
    obtain ⟨fdTaken, XTaken⟩ := T.xTaken
    obtain ⟨fdTooDeep, XTooDeep⟩ := T.xTooDeep
    obtain ⟨fdNeeded, XNeeded⟩ := T.xNeeded
    obtain ⟨fdInvalidTarget, XInvalidTarget⟩ := T.xInvalidTarget
    obtain ⟨fdInvalidPort, XInvalidPort⟩ := T.xInvalidPort
    obtain ⟨fdInvalidName, XInvalidName⟩ := T.xInvalidName
    obtain ⟨fdInvalidTime, XInvalidTime⟩ := T.xInvalidTime
    obtain ⟨fdClash, XClash⟩ := T.xClash
    obtain ⟨fdInvalidText, XInvalidText⟩ := T.xInvalidText
    obtain ⟨fdUnknownCommand, XUnknownCommand⟩ := T.xUnknownCommand
    obtain ⟨fdNoStation, XNoStation⟩ := T.xNoStation
    obtain ⟨fdNoRound, XNoRound⟩ := T.xNoRound
    obtain ⟨fdNothingToUndo, XNothingToUndo⟩ := T.xNothingToUndo
    obtain ⟨fdNotHeard, XNotHeard⟩ := T.xNotHeard
    obtain ⟨fdNotSeen, XNotSeen⟩ := T.xNotSeen
    obtain ⟨fdHeard, XHeard⟩ := T.xHeard
    obtain ⟨fdTooMany, XTooMany⟩ := T.xTooMany
    obtain ⟨fdInvalidQuestion, XInvalidQuestion⟩ := T.xInvalidQuestion
    obtain ⟨fdInvalidEvent, XInvalidEvent⟩ := T.xInvalidEvent
    refine ⟨_, PSs.nox (pss_cons (ps_set (i := 1) sc_law_fields.nd rfl (Or.inl rfl) (pe_lst (pa_cons (pe_getX (pe_ix ix_list (pv 0) pe_int (fun _ _ => rfl))) (pa_cons (pe_getX (pe_ix ix_list (pv 0) pe_int (fun _ _ => rfl))) (pa_cons (pe_getX (pe_ix ix_list (pv 0) pe_int (fun _ _ => rfl))) (pa_cons (pe_getX (pe_ix ix_list (pv 0) pe_int (fun _ _ => rfl))) (pa_cons (pe_getX (pe_ix ix_list (pv 0) pe_int (fun _ _ => rfl))) (pa_cons (pe_getX (pe_ix ix_list (pv 0) pe_int (fun _ _ => rfl))) (pa_cons (pe_getX (pe_ix ix_list (pv 0) pe_int (fun _ _ => rfl))) (pa_cons (pe_getX (pe_ix ix_list (pv 0) pe_int (fun _ _ => rfl))) pa_nil))))))))))
    (pss_cons (ps_set (i := 1) sc_law_fields.nd rfl (Or.inl rfl) (pe_op op_cat (pv 1) (pe_lst (pa_cons (pe_getX (pe_ix ix_list (pv 0) pe_int (fun _ _ => rfl))) (pa_cons (pe_getX (pe_ix ix_list (pv 0) pe_int (fun _ _ => rfl))) (pa_cons (pe_getX (pe_ix ix_list (pv 0) pe_int (fun _ _ => rfl))) (pa_cons (pe_getX (pe_ix ix_list (pv 0) pe_int (fun _ _ => rfl))) (pa_cons (pe_getX (pe_ix ix_list (pv 0) pe_int (fun _ _ => rfl))) (pa_cons (pe_getX (pe_ix ix_list (pv 0) pe_int (fun _ _ => rfl))) (pa_cons (pe_getX (pe_ix ix_list (pv 0) pe_int (fun _ _ => rfl))) pa_nil))))))))))
    (pss_one (ps_ret (pe_op op_cat (pv 1) (pe_lst (pa_cons (pe_getX (pe_ix ix_list (pv 0) pe_int (fun _ _ => rfl))) (pa_cons (pe_getX (pe_ix ix_list (pv 0) pe_int (fun _ _ => rfl))) (pa_cons (pe_getX (pe_ix ix_list (pv 0) pe_int (fun _ _ => rfl))) (pa_cons (pe_getX (pe_ix ix_list (pv 0) pe_int (fun _ _ => rfl))) (pa_cons (pe_getX (pe_ix ix_list (pv 0) pe_int (fun _ _ => rfl))) (pa_cons (pe_getX (pe_ix ix_list (pv 0) pe_int (fun _ _ => rfl))) (pa_cons (pe_getX (pe_ix ix_list (pv 0) pe_int (fun _ _ => rfl))) pa_nil))))))))))))), ?_⟩
    refine s_asgL (xs := List.replicate 8 one) (el_lst (ea_cons (ev_fld 0 rfl hl E rfl XInvalidKind.ec XInvalidKind.no rfl) (ea_cons (ev_fld 1 rfl hl E rfl XInvalidPart.ec XInvalidPart.no rfl) (ea_cons (ev_fld 2 rfl hl E rfl XNoRealm.ec XNoRealm.no rfl) (ea_cons (ev_fld 3 rfl hl E rfl XTaken.ec XTaken.no rfl) (ea_cons (ev_fld 4 rfl hl E rfl XTooDeep.ec XTooDeep.no rfl) (ea_cons (ev_fld 5 rfl hl E rfl XNeeded.ec XNeeded.no rfl) (ea_cons (ev_fld 6 rfl hl E rfl XInvalidTarget.ec XInvalidTarget.no rfl) (ea_cons (ev_fld 7 rfl hl E rfl XInvalidPort.ec XInvalidPort.no rfl) ea_nil)))))))) (by show 8 ≤ 100000; decide)) fun p1 H1 n1 e1 h1 => ?_
    have hl1 := e1 _ _ hl
    have E1 := E.mono (isX_monos _) e1
    refine s_asgL (xs := List.replicate 8 one ++ List.replicate 7 one) (el_catV rfl h1 (el_lst (ea_cons (ev_fld 8 rfl hl1 E1 rfl XInvalidName.ec XInvalidName.no rfl) (ea_cons (ev_fld 9 rfl hl1 E1 rfl XInvalidTime.ec XInvalidTime.no rfl) (ea_cons (ev_fld 10 rfl hl1 E1 rfl XClash.ec XClash.no rfl) (ea_cons (ev_fld 11 rfl hl1 E1 rfl XInvalidText.ec XInvalidText.no rfl) (ea_cons (ev_fld 12 rfl hl1 E1 rfl XUnknownCommand.ec XUnknownCommand.no rfl) (ea_cons (ev_fld 13 rfl hl1 E1 rfl XNoStation.ec XNoStation.no rfl) (ea_cons (ev_fld 14 rfl hl1 E1 rfl XNoRound.ec XNoRound.no rfl) ea_nil))))))) (by show 7 ≤ 100000; decide)) (by show 15 ≤ 100000; decide)) fun p2 H2 n2 e2 h2 => ?_
    have hl2 := e2 _ _ hl1
    have E2 := E1.mono (isX_monos _) e2
    refine s_retL (xs := (List.replicate 8 one ++ List.replicate 7 one) ++ List.replicate 7 one) (el_catV rfl h2 (el_lst (ea_cons (ev_fld 15 rfl hl2 E2 rfl XNothingToUndo.ec XNothingToUndo.no rfl) (ea_cons (ev_fld 16 rfl hl2 E2 rfl XNotHeard.ec XNotHeard.no rfl) (ea_cons (ev_fld 17 rfl hl2 E2 rfl XNotSeen.ec XNotSeen.no rfl) (ea_cons (ev_fld 18 rfl hl2 E2 rfl XHeard.ec XHeard.no rfl) (ea_cons (ev_fld 19 rfl hl2 E2 rfl XTooMany.ec XTooMany.no rfl) (ea_cons (ev_fld 20 rfl hl2 E2 rfl XInvalidQuestion.ec XInvalidQuestion.no rfl) (ea_cons (ev_fld 21 rfl hl2 E2 rfl XInvalidEvent.ec XInvalidEvent.no rfl) ea_nil))))))) (by show 7 ≤ 100000; decide)) (by show 22 ≤ 100000; decide)) fun p3 H3 n3 e3 h3 => ?_
    exact k p3 H3 (fresh_back (e1.trans e2) n3) ((e1.trans e2).trans e3) h3
theorem xat_mono {H H' : Hp} {a C : Addr} {fs : List (Str × V)} (e : Ex H H') (h : XAt H a C fs) : XAt H' a C fs := by
  obtain ⟨d, h1, h2⟩ := h
  exact ⟨d, e _ _ h1, e _ _ h2⟩
theorem ok_law_classes (B : Bt mg) (T : TX P w K mg base) (kb : kitB K = true) (F : FnP K "_law_classes" s_law_classes f fd) : FnOk P w K mg base CX0 1 f fd p_law_classes (spClasses K) := by
  refine F.ok sc_law_classes (fun vs H Q E h => ?_) (fun cdv A outer s H vs Q E hr h => ?_)
  · obtain ⟨a, i, fs, rfl, _⟩ := h
    rfl
  · obtain ⟨a, i, fs, rfl, hi, hx1, k⟩ := h
    obtain ⟨fI, b, ec⟩ := ec_at T hi
    obtain ⟨fdInvalidKind, XInvalidKind⟩ := T.xInvalidKind
    obtain ⟨fdInvalidPart, XInvalidPart⟩ := T.xInvalidPart
    obtain ⟨fdNoRealm, XNoRealm⟩ := T.xNoRealm
    obtain ⟨fdTaken, XTaken⟩ := T.xTaken
    obtain ⟨fdTooDeep, XTooDeep⟩ := T.xTooDeep
    obtain ⟨fdNeeded, XNeeded⟩ := T.xNeeded
    obtain ⟨fdInvalidTarget, XInvalidTarget⟩ := T.xInvalidTarget
    obtain ⟨fdInvalidPort, XInvalidPort⟩ := T.xInvalidPort
    obtain ⟨fdInvalidName, XInvalidName⟩ := T.xInvalidName
    obtain ⟨fdInvalidTime, XInvalidTime⟩ := T.xInvalidTime
    obtain ⟨fdClash, XClash⟩ := T.xClash
    obtain ⟨fdInvalidText, XInvalidText⟩ := T.xInvalidText
    obtain ⟨fdUnknownCommand, XUnknownCommand⟩ := T.xUnknownCommand
    obtain ⟨fdNoStation, XNoStation⟩ := T.xNoStation
    obtain ⟨fdNoRound, XNoRound⟩ := T.xNoRound
    obtain ⟨fdNothingToUndo, XNothingToUndo⟩ := T.xNothingToUndo
    obtain ⟨fdNotHeard, XNotHeard⟩ := T.xNotHeard
    obtain ⟨fdNotSeen, XNotSeen⟩ := T.xNotSeen
    obtain ⟨fdHeard, XHeard⟩ := T.xHeard
    obtain ⟨fdTooMany, XTooMany⟩ := T.xTooMany
    obtain ⟨fdInvalidQuestion, XInvalidQuestion⟩ := T.xInvalidQuestion
    obtain ⟨fdInvalidEvent, XInvalidEvent⟩ := T.xInvalidEvent
    refine ⟨_, PSs.nox (pss_cons (ps_set (i := 1) sc_law_classes.nd rfl (Or.inl rfl) (pe_lst (pa_cons (pe_callB call_isX (by rfl) B.isinstance (by decide +kernel) (pa_cons (pv 0) (pa_cons (pe_glob (v := .ref (cA K "InvalidKind")) rfl XInvalidKind.m rfl) pa_nil))) (pa_cons (pe_callB call_isX (by rfl) B.isinstance (by decide +kernel) (pa_cons (pv 0) (pa_cons (pe_glob (v := .ref (cA K "InvalidPart")) rfl XInvalidPart.m rfl) pa_nil))) (pa_cons (pe_callB call_isX (by rfl) B.isinstance (by decide +kernel) (pa_cons (pv 0) (pa_cons (pe_glob (v := .ref (cA K "NoRealm")) rfl XNoRealm.m rfl) pa_nil))) (pa_cons (pe_callB call_isX (by rfl) B.isinstance (by decide +kernel) (pa_cons (pv 0) (pa_cons (pe_glob (v := .ref (cA K "Taken")) rfl XTaken.m rfl) pa_nil))) pa_nil))))))
    (pss_cons (ps_set (i := 1) sc_law_classes.nd rfl (Or.inl rfl) (pe_op op_cat (pv 1) (pe_lst (pa_cons (pe_callB call_isX (by rfl) B.isinstance (by decide +kernel) (pa_cons (pv 0) (pa_cons (pe_glob (v := .ref (cA K "TooDeep")) rfl XTooDeep.m rfl) pa_nil))) (pa_cons (pe_callB call_isX (by rfl) B.isinstance (by decide +kernel) (pa_cons (pv 0) (pa_cons (pe_glob (v := .ref (cA K "Needed")) rfl XNeeded.m rfl) pa_nil))) (pa_cons (pe_callB call_isX (by rfl) B.isinstance (by decide +kernel) (pa_cons (pv 0) (pa_cons (pe_glob (v := .ref (cA K "InvalidTarget")) rfl XInvalidTarget.m rfl) pa_nil))) pa_nil))))))
    (pss_cons (ps_set (i := 1) sc_law_classes.nd rfl (Or.inl rfl) (pe_op op_cat (pv 1) (pe_lst (pa_cons (pe_callB call_isX (by rfl) B.isinstance (by decide +kernel) (pa_cons (pv 0) (pa_cons (pe_glob (v := .ref (cA K "InvalidPort")) rfl XInvalidPort.m rfl) pa_nil))) (pa_cons (pe_callB call_isX (by rfl) B.isinstance (by decide +kernel) (pa_cons (pv 0) (pa_cons (pe_glob (v := .ref (cA K "InvalidName")) rfl XInvalidName.m rfl) pa_nil))) (pa_cons (pe_callB call_isX (by rfl) B.isinstance (by decide +kernel) (pa_cons (pv 0) (pa_cons (pe_glob (v := .ref (cA K "InvalidTime")) rfl XInvalidTime.m rfl) pa_nil))) pa_nil))))))
    (pss_cons (ps_set (i := 1) sc_law_classes.nd rfl (Or.inl rfl) (pe_op op_cat (pv 1) (pe_lst (pa_cons (pe_callB call_isX (by rfl) B.isinstance (by decide +kernel) (pa_cons (pv 0) (pa_cons (pe_glob (v := .ref (cA K "Clash")) rfl XClash.m rfl) pa_nil))) (pa_cons (pe_callB call_isX (by rfl) B.isinstance (by decide +kernel) (pa_cons (pv 0) (pa_cons (pe_glob (v := .ref (cA K "InvalidText")) rfl XInvalidText.m rfl) pa_nil))) (pa_cons (pe_callB call_isX (by rfl) B.isinstance (by decide +kernel) (pa_cons (pv 0) (pa_cons (pe_glob (v := .ref (cA K "UnknownCommand")) rfl XUnknownCommand.m rfl) pa_nil))) pa_nil))))))
    (pss_cons (ps_set (i := 1) sc_law_classes.nd rfl (Or.inl rfl) (pe_op op_cat (pv 1) (pe_lst (pa_cons (pe_callB call_isX (by rfl) B.isinstance (by decide +kernel) (pa_cons (pv 0) (pa_cons (pe_glob (v := .ref (cA K "NoStation")) rfl XNoStation.m rfl) pa_nil))) (pa_cons (pe_callB call_isX (by rfl) B.isinstance (by decide +kernel) (pa_cons (pv 0) (pa_cons (pe_glob (v := .ref (cA K "NoRound")) rfl XNoRound.m rfl) pa_nil))) (pa_cons (pe_callB call_isX (by rfl) B.isinstance (by decide +kernel) (pa_cons (pv 0) (pa_cons (pe_glob (v := .ref (cA K "NothingToUndo")) rfl XNothingToUndo.m rfl) pa_nil))) pa_nil))))))
    (pss_cons (ps_set (i := 1) sc_law_classes.nd rfl (Or.inl rfl) (pe_op op_cat (pv 1) (pe_lst (pa_cons (pe_callB call_isX (by rfl) B.isinstance (by decide +kernel) (pa_cons (pv 0) (pa_cons (pe_glob (v := .ref (cA K "NotHeard")) rfl XNotHeard.m rfl) pa_nil))) (pa_cons (pe_callB call_isX (by rfl) B.isinstance (by decide +kernel) (pa_cons (pv 0) (pa_cons (pe_glob (v := .ref (cA K "NotSeen")) rfl XNotSeen.m rfl) pa_nil))) (pa_cons (pe_callB call_isX (by rfl) B.isinstance (by decide +kernel) (pa_cons (pv 0) (pa_cons (pe_glob (v := .ref (cA K "Heard")) rfl XHeard.m rfl) pa_nil))) (pa_cons (pe_callB call_isX (by rfl) B.isinstance (by decide +kernel) (pa_cons (pv 0) (pa_cons (pe_glob (v := .ref (cA K "TooMany")) rfl XTooMany.m rfl) pa_nil))) pa_nil)))))))
    (pss_one (ps_ret (pe_op op_cat (pv 1) (pe_lst (pa_cons (pe_callB call_isX (by rfl) B.isinstance (by decide +kernel) (pa_cons (pv 0) (pa_cons (pe_glob (v := .ref (cA K "InvalidQuestion")) rfl XInvalidQuestion.m rfl) pa_nil))) (pa_cons (pe_callB call_isX (by rfl) B.isinstance (by decide +kernel) (pa_cons (pv 0) (pa_cons (pe_glob (v := .ref (cA K "InvalidEvent")) rfl XInvalidEvent.m rfl) pa_nil))) pa_nil)))))))))))), ?_⟩
    refine s_asgL (xs := [V.bl (decide (i = 0)), V.bl (decide (i = 1)), V.bl (decide (i = 2)), V.bl (decide (i = 3))]) (el_lst (ea_cons (ev_isX (ev_var rfl) ev_c hx1 ec (.own _) (kitB_ok kb hi (show 0 < 22 by decide))) (ea_cons (ev_isX (ev_var rfl) ev_c hx1 ec (.own _) (kitB_ok kb hi (show 1 < 22 by decide))) (ea_cons (ev_isX (ev_var rfl) ev_c hx1 ec (.own _) (kitB_ok kb hi (show 2 < 22 by decide))) (ea_cons (ev_isX (ev_var rfl) ev_c hx1 ec (.own _) (kitB_ok kb hi (show 3 < 22 by decide))) ea_nil)))) (by show 4 ≤ 100000; decide)) fun p1 H1 n1 e1 h1 => ?_
    have hx2 := xat_mono e1 hx1
    refine s_asgL (xs := ([V.bl (decide (i = 0)), V.bl (decide (i = 1)), V.bl (decide (i = 2)), V.bl (decide (i = 3))] ++ [V.bl (decide (i = 4)), V.bl (decide (i = 5)), V.bl (decide (i = 6))])) (el_catV (xs := [V.bl (decide (i = 0)), V.bl (decide (i = 1)), V.bl (decide (i = 2)), V.bl (decide (i = 3))]) (ys := [V.bl (decide (i = 4)), V.bl (decide (i = 5)), V.bl (decide (i = 6))]) rfl h1 (el_lst (ea_cons (ev_isX (ev_var rfl) ev_c hx2 ec (.own _) (kitB_ok kb hi (show 4 < 22 by decide))) (ea_cons (ev_isX (ev_var rfl) ev_c hx2 ec (.own _) (kitB_ok kb hi (show 5 < 22 by decide))) (ea_cons (ev_isX (ev_var rfl) ev_c hx2 ec (.own _) (kitB_ok kb hi (show 6 < 22 by decide))) ea_nil))) (by show 3 ≤ 100000; decide)) (by show 7 ≤ 100000; decide)) fun p2 H2 n2 e2 h2 => ?_
    have hx3 := xat_mono e2 hx2
    refine s_asgL (xs := (([V.bl (decide (i = 0)), V.bl (decide (i = 1)), V.bl (decide (i = 2)), V.bl (decide (i = 3))] ++ [V.bl (decide (i = 4)), V.bl (decide (i = 5)), V.bl (decide (i = 6))]) ++ [V.bl (decide (i = 7)), V.bl (decide (i = 8)), V.bl (decide (i = 9))])) (el_catV (xs := ([V.bl (decide (i = 0)), V.bl (decide (i = 1)), V.bl (decide (i = 2)), V.bl (decide (i = 3))] ++ [V.bl (decide (i = 4)), V.bl (decide (i = 5)), V.bl (decide (i = 6))])) (ys := [V.bl (decide (i = 7)), V.bl (decide (i = 8)), V.bl (decide (i = 9))]) rfl h2 (el_lst (ea_cons (ev_isX (ev_var rfl) ev_c hx3 ec (.own _) (kitB_ok kb hi (show 7 < 22 by decide))) (ea_cons (ev_isX (ev_var rfl) ev_c hx3 ec (.own _) (kitB_ok kb hi (show 8 < 22 by decide))) (ea_cons (ev_isX (ev_var rfl) ev_c hx3 ec (.own _) (kitB_ok kb hi (show 9 < 22 by decide))) ea_nil))) (by show 3 ≤ 100000; decide)) (by show 10 ≤ 100000; decide)) fun p3 H3 n3 e3 h3 => ?_
    have hx4 := xat_mono e3 hx3
    refine s_asgL (xs := ((([V.bl (decide (i = 0)), V.bl (decide (i = 1)), V.bl (decide (i = 2)), V.bl (decide (i = 3))] ++ [V.bl (decide (i = 4)), V.bl (decide (i = 5)), V.bl (decide (i = 6))]) ++ [V.bl (decide (i = 7)), V.bl (decide (i = 8)), V.bl (decide (i = 9))]) ++ [V.bl (decide (i = 10)), V.bl (decide (i = 11)), V.bl (decide (i = 12))])) (el_catV (xs := (([V.bl (decide (i = 0)), V.bl (decide (i = 1)), V.bl (decide (i = 2)), V.bl (decide (i = 3))] ++ [V.bl (decide (i = 4)), V.bl (decide (i = 5)), V.bl (decide (i = 6))]) ++ [V.bl (decide (i = 7)), V.bl (decide (i = 8)), V.bl (decide (i = 9))])) (ys := [V.bl (decide (i = 10)), V.bl (decide (i = 11)), V.bl (decide (i = 12))]) rfl h3 (el_lst (ea_cons (ev_isX (ev_var rfl) ev_c hx4 ec (.own _) (kitB_ok kb hi (show 10 < 22 by decide))) (ea_cons (ev_isX (ev_var rfl) ev_c hx4 ec (.own _) (kitB_ok kb hi (show 11 < 22 by decide))) (ea_cons (ev_isX (ev_var rfl) ev_c hx4 ec (.own _) (kitB_ok kb hi (show 12 < 22 by decide))) ea_nil))) (by show 3 ≤ 100000; decide)) (by show 13 ≤ 100000; decide)) fun p4 H4 n4 e4 h4 => ?_
    have hx5 := xat_mono e4 hx4
    refine s_asgL (xs := (((([V.bl (decide (i = 0)), V.bl (decide (i = 1)), V.bl (decide (i = 2)), V.bl (decide (i = 3))] ++ [V.bl (decide (i = 4)), V.bl (decide (i = 5)), V.bl (decide (i = 6))]) ++ [V.bl (decide (i = 7)), V.bl (decide (i = 8)), V.bl (decide (i = 9))]) ++ [V.bl (decide (i = 10)), V.bl (decide (i = 11)), V.bl (decide (i = 12))]) ++ [V.bl (decide (i = 13)), V.bl (decide (i = 14)), V.bl (decide (i = 15))])) (el_catV (xs := ((([V.bl (decide (i = 0)), V.bl (decide (i = 1)), V.bl (decide (i = 2)), V.bl (decide (i = 3))] ++ [V.bl (decide (i = 4)), V.bl (decide (i = 5)), V.bl (decide (i = 6))]) ++ [V.bl (decide (i = 7)), V.bl (decide (i = 8)), V.bl (decide (i = 9))]) ++ [V.bl (decide (i = 10)), V.bl (decide (i = 11)), V.bl (decide (i = 12))])) (ys := [V.bl (decide (i = 13)), V.bl (decide (i = 14)), V.bl (decide (i = 15))]) rfl h4 (el_lst (ea_cons (ev_isX (ev_var rfl) ev_c hx5 ec (.own _) (kitB_ok kb hi (show 13 < 22 by decide))) (ea_cons (ev_isX (ev_var rfl) ev_c hx5 ec (.own _) (kitB_ok kb hi (show 14 < 22 by decide))) (ea_cons (ev_isX (ev_var rfl) ev_c hx5 ec (.own _) (kitB_ok kb hi (show 15 < 22 by decide))) ea_nil))) (by show 3 ≤ 100000; decide)) (by show 16 ≤ 100000; decide)) fun p5 H5 n5 e5 h5 => ?_
    have hx6 := xat_mono e5 hx5
    refine s_asgL (xs := ((((([V.bl (decide (i = 0)), V.bl (decide (i = 1)), V.bl (decide (i = 2)), V.bl (decide (i = 3))] ++ [V.bl (decide (i = 4)), V.bl (decide (i = 5)), V.bl (decide (i = 6))]) ++ [V.bl (decide (i = 7)), V.bl (decide (i = 8)), V.bl (decide (i = 9))]) ++ [V.bl (decide (i = 10)), V.bl (decide (i = 11)), V.bl (decide (i = 12))]) ++ [V.bl (decide (i = 13)), V.bl (decide (i = 14)), V.bl (decide (i = 15))]) ++ [V.bl (decide (i = 16)), V.bl (decide (i = 17)), V.bl (decide (i = 18)), V.bl (decide (i = 19))])) (el_catV (xs := (((([V.bl (decide (i = 0)), V.bl (decide (i = 1)), V.bl (decide (i = 2)), V.bl (decide (i = 3))] ++ [V.bl (decide (i = 4)), V.bl (decide (i = 5)), V.bl (decide (i = 6))]) ++ [V.bl (decide (i = 7)), V.bl (decide (i = 8)), V.bl (decide (i = 9))]) ++ [V.bl (decide (i = 10)), V.bl (decide (i = 11)), V.bl (decide (i = 12))]) ++ [V.bl (decide (i = 13)), V.bl (decide (i = 14)), V.bl (decide (i = 15))])) (ys := [V.bl (decide (i = 16)), V.bl (decide (i = 17)), V.bl (decide (i = 18)), V.bl (decide (i = 19))]) rfl h5 (el_lst (ea_cons (ev_isX (ev_var rfl) ev_c hx6 ec (.own _) (kitB_ok kb hi (show 16 < 22 by decide))) (ea_cons (ev_isX (ev_var rfl) ev_c hx6 ec (.own _) (kitB_ok kb hi (show 17 < 22 by decide))) (ea_cons (ev_isX (ev_var rfl) ev_c hx6 ec (.own _) (kitB_ok kb hi (show 18 < 22 by decide))) (ea_cons (ev_isX (ev_var rfl) ev_c hx6 ec (.own _) (kitB_ok kb hi (show 19 < 22 by decide))) ea_nil)))) (by show 4 ≤ 100000; decide)) (by show 20 ≤ 100000; decide)) fun p6 H6 n6 e6 h6 => ?_
    have hx7 := xat_mono e6 hx6
    refine s_retL (xs := (((((([V.bl (decide (i = 0)), V.bl (decide (i = 1)), V.bl (decide (i = 2)), V.bl (decide (i = 3))] ++ [V.bl (decide (i = 4)), V.bl (decide (i = 5)), V.bl (decide (i = 6))]) ++ [V.bl (decide (i = 7)), V.bl (decide (i = 8)), V.bl (decide (i = 9))]) ++ [V.bl (decide (i = 10)), V.bl (decide (i = 11)), V.bl (decide (i = 12))]) ++ [V.bl (decide (i = 13)), V.bl (decide (i = 14)), V.bl (decide (i = 15))]) ++ [V.bl (decide (i = 16)), V.bl (decide (i = 17)), V.bl (decide (i = 18)), V.bl (decide (i = 19))]) ++ [V.bl (decide (i = 20)), V.bl (decide (i = 21))])) (el_catV (xs := ((((([V.bl (decide (i = 0)), V.bl (decide (i = 1)), V.bl (decide (i = 2)), V.bl (decide (i = 3))] ++ [V.bl (decide (i = 4)), V.bl (decide (i = 5)), V.bl (decide (i = 6))]) ++ [V.bl (decide (i = 7)), V.bl (decide (i = 8)), V.bl (decide (i = 9))]) ++ [V.bl (decide (i = 10)), V.bl (decide (i = 11)), V.bl (decide (i = 12))]) ++ [V.bl (decide (i = 13)), V.bl (decide (i = 14)), V.bl (decide (i = 15))]) ++ [V.bl (decide (i = 16)), V.bl (decide (i = 17)), V.bl (decide (i = 18)), V.bl (decide (i = 19))])) (ys := [V.bl (decide (i = 20)), V.bl (decide (i = 21))]) rfl h6 (el_lst (ea_cons (ev_isX (ev_var rfl) ev_c hx7 ec (.own _) (kitB_ok kb hi (show 20 < 22 by decide))) (ea_cons (ev_isX (ev_var rfl) ev_c hx7 ec (.own _) (kitB_ok kb hi (show 21 < 22 by decide))) ea_nil)) (by show 2 ≤ 100000; decide)) (by show 22 ≤ 100000; decide)) fun p7 H7 n7 e7 h7 => ?_
    exact k p7 H7 (fresh_back (((((e1.trans e2).trans e3).trans e4).trans e5).trans e6) n7) ((((((e1.trans e2).trans e3).trans e4).trans e5).trans e6).trans e7) h7
theorem due_bits (b : EB) : ∀ j : Nat, j < 7 → V.int (if (dueB b).getD j false = true then 1 else 0) = ((dueI b).map V.int).getD j .non := by
  intro j hj
  rcases (show j = 0 ∨ j = 1 ∨ j = 2 ∨ j = 3 ∨ j = 4 ∨ j = 5 ∨ j = 6 by omega) with rfl | rfl | rfl | rfl | rfl | rfl | rfl <;> cases b <;> rfl
theorem due_len (b : EB) : (dueI b).length = 7 := by cases b <;> rfl
theorem ok_law_bases (B : Bt mg) (T : TX P w K mg base) (mE : mg "MeetError" = some (.ref (cA K "MeetError"))) (kc : kitC K = true) (F : FnP K "_law_bases" s_law_bases f fd) : FnOk P w K mg base CX0 1 f fd p_law_bases (spBases K) := by
  refine F.ok sc_law_bases (fun vs H Q E h => ?_) (fun cdv A outer s H vs Q E hr h => ?_)
  · obtain ⟨a, i, fs, rfl, _⟩ := h
    rfl
  · obtain ⟨a, i, fs, rfl, hi, hx1, k⟩ := h
    obtain ⟨fI, b, ec⟩ := ec_at T hi
    refine ⟨_, PSs.nox (pss_cons (ps_set (i := 1) sc_law_bases.nd rfl (Or.inl rfl) (pe_lst (pa_cons (pe_callB call_isX (by rfl) B.isinstance (by decide +kernel) (pa_cons (pv 0) (pa_cons (pe_glob (v := .ref (cA K "MeetError")) rfl mE rfl) pa_nil))) (pa_cons (pe_callB call_isX (by rfl) B.isinstance (by decide +kernel) (pa_cons (pv 0) (pa_cons (pe_bltn (v := .ty "ValueError") (by rfl) B.ValueError (by decide +kernel) rfl) pa_nil))) (pa_cons (pe_callB call_isX (by rfl) B.isinstance (by decide +kernel) (pa_cons (pv 0) (pa_cons (pe_bltn (v := .ty "KeyError") (by rfl) B.KeyError (by decide +kernel) rfl) pa_nil))) (pa_cons (pe_callB call_isX (by rfl) B.isinstance (by decide +kernel) (pa_cons (pv 0) (pa_cons (pe_bltn (v := .ty "IndexError") (by rfl) B.IndexError (by decide +kernel) rfl) pa_nil))) pa_nil))))))
    (pss_cons (ps_set (i := 1) sc_law_bases.nd rfl (Or.inl rfl) (pe_op op_cat (pv 1) (pe_lst (pa_cons (pe_callB call_isX (by rfl) B.isinstance (by decide +kernel) (pa_cons (pv 0) (pa_cons (pe_bltn (v := .ty "LookupError") (by rfl) B.LookupError (by decide +kernel) rfl) pa_nil))) (pa_cons (pe_callB call_isX (by rfl) B.isinstance (by decide +kernel) (pa_cons (pv 0) (pa_cons (pe_bltn (v := .ty "RuntimeError") (by rfl) B.RuntimeError (by decide +kernel) rfl) pa_nil))) (pa_cons (pe_callB call_isX (by rfl) B.isinstance (by decide +kernel) (pa_cons (pv 0) (pa_cons (pe_bltn (v := .ty "OverflowError") (by rfl) B.OverflowError (by decide +kernel) rfl) pa_nil))) pa_nil))))))
    (pss_one (ps_ret (pe_lc (own := [("_law_one", 2)]) (g := gName 2) (tt := tYes) rfl sc_law_bases.nd (pi_list (pv 1)) (blkOk_by (N := n_law_bases) (sc := defScope s_law_bases) (by decide +kernel)) (fun _ _ _ _ _ => pg_name (i := 2) sc_law_bases.nd rfl (Or.inl rfl)) (fun _ _ _ _ _ => pts_nil) (fun _ _ _ _ _ => (pe_callTy call_int1 (by rfl) B.int (by decide +kernel) (pa_cons (pv 2) pa_nil)))))))), ?_⟩
    refine s_asgL (xs := [V.bl ((dueB (bss.getD i .val)).getD 0 false), V.bl ((dueB (bss.getD i .val)).getD 1 false), V.bl ((dueB (bss.getD i .val)).getD 2 false), V.bl ((dueB (bss.getD i .val)).getD 3 false)]) (el_lst (ea_cons (ev_isX (ev_var rfl) ev_c hx1 ec (.own _) (kitC_ok kc hi (show 0 < 7 by decide))) (ea_cons (ev_isX (ev_var rfl) ev_c hx1 ec (.ty _) (kitC_ok kc hi (show 1 < 7 by decide))) (ea_cons (ev_isX (ev_var rfl) ev_c hx1 ec (.ty _) (kitC_ok kc hi (show 2 < 7 by decide))) (ea_cons (ev_isX (ev_var rfl) ev_c hx1 ec (.ty _) (kitC_ok kc hi (show 3 < 7 by decide))) ea_nil)))) (by show 4 ≤ 100000; decide)) fun p1 H1 n1 e1 h1 => ?_
    have hx2 := xat_mono e1 hx1
    refine s_asgL (xs := [V.bl ((dueB (bss.getD i .val)).getD 0 false), V.bl ((dueB (bss.getD i .val)).getD 1 false), V.bl ((dueB (bss.getD i .val)).getD 2 false), V.bl ((dueB (bss.getD i .val)).getD 3 false)] ++ [V.bl ((dueB (bss.getD i .val)).getD 4 false), V.bl ((dueB (bss.getD i .val)).getD 5 false), V.bl ((dueB (bss.getD i .val)).getD 6 false)]) (el_catV rfl h1 (el_lst (ea_cons (ev_isX (ev_var rfl) ev_c hx2 ec (.ty _) (kitC_ok kc hi (show 4 < 7 by decide))) (ea_cons (ev_isX (ev_var rfl) ev_c hx2 ec (.ty _) (kitC_ok kc hi (show 5 < 7 by decide))) (ea_cons (ev_isX (ev_var rfl) ev_c hx2 ec (.ty _) (kitC_ok kc hi (show 6 < 7 by decide))) ea_nil))) (by show 3 ≤ 100000; decide)) (by show 7 ≤ 100000; decide)) fun p2 H2 n2 e2 h2 => ?_
    generalize hb : bss.getD i .val = b0 at h2 k
    have hg : given 7 (fun _ => true) (fun j => ((dueI b0).map V.int).getD j .non) = (dueI b0).map V.int := by cases b0 <;> rfl
    refine s_retL (xs := given 7 (fun _ => true) (fun j => ((dueI b0).map V.int).getD j .non)) (el_lcL (a := p2) (fun _ => true) (fun j => ((dueI b0).map V.int).getD j .non) (ev_var rfl) (SqL.of h2) (by show 7 ≤ 40000; decide) (fun _ => rfl) (fun j x H1 _ _ H2 _ Q q => q H2 (Ex.refl H2)) (fun j x H1 _ hj _ => ?_))
      fun p3 H3 n3 e3 h3 => k p3 H3 (fresh_back (e1.trans e2) n3) ((e1.trans e2).trans e3) (by rw [← hg]; exact h3)
    have hj7 : j < 7 := (List.getElem?_eq_some_iff.mp hj).1
    have hx : x = .bl ((dueB b0).getD j false) := by
      rcases (show j = 0 ∨ j = 1 ∨ j = 2 ∨ j = 3 ∨ j = 4 ∨ j = 5 ∨ j = 6 by omega) with rfl | rfl | rfl | rfl | rfl | rfl | rfl <;> exact (Option.some.inj hj).symm
    rw [hx]
    intro H2 _ Q q
    refine ⟨_, rfl, .inr ⟨_, rfl, ?_⟩⟩
    rw [due_bits b0 j hj7]
    exact q H2 (Ex.refl H2)
end
end L2.Mb
set_option maxRecDepth 100000
set_option maxHeartbeats 8000000
namespace L2.Mb
open PySem PySem.Spec PyProof.Rows Mx Evl
def spPen (K : W.Frag) : Sp := fun vs H Q _ => ∃ (a : Addr) (ns : List Int), vs = [.ref a] ∧ SqL K H a (ns.map V.int) ∧ ns.length ≤ 63 ∧ ∀ p ns2 H', ns2.length ≤ 63 → PenAt H' p ns2 0 → Ex H H' → Q (.ref p) H'
def spLaw (K : W.Frag) : Sp := fun vs H Q _ => ∃ (a : Addr) (ns : List Int), vs = [.ref a] ∧ SqL K H a (ns.map V.int) ∧ ns.length ≤ 63 ∧ ∀ H', Q (.bl true) H'
theorem Dq.mono {K : W.Frag} {H H' : Hp} (e : Ex H H') {v : V} {d : PyData} (h : Dq K H v d) : Dq K H' v d := by
  refine Dq.rec (motive_1 := fun v d _ => Dq K H' v d) (motive_2 := fun vs ds _ => DqAll K H' vs ds) ?_ ?_ ?_ ?_ ?_ ?_ ?_ ?_ ?_ h
  · exact .non
  · exact .bl
  · exact .int
  · exact .str
  · exact fun hs _ ih => .lst (ex_l e hs) ih
  · exact fun hs _ ih => .tup (ex_t e hs) ih
  · exact fun ha hl _ ih => .dct (e _ _ ha) hl ih
  · exact .nil
  · exact fun _ _ i1 i2 => .cons i1 i2
def IsQ (K : W.Frag) (d : PyData) : Pr := fun H v => Dq K H v d
theorem isQ_mono {K : W.Frag} (d : PyData) : Mono (IsQ K d) := fun _ _ _ e h => Dq.mono e h
def IsD (ns : List Int) : Pr := fun H v => ∃ l, v = .ref l ∧ H l = some (.lst (ns.map V.int))
theorem isD_mono (ns : List Int) : Mono (IsD ns) := fun H H' v e ⟨l, h1, h2⟩ => ⟨l, h1, e _ _ h2⟩
theorem isD_monos (l : List (List Int)) : Monos (l.map IsD) := fun P h => by
  obtain ⟨d, _, rfl⟩ := List.mem_map.mp h
  exact isD_mono d
theorem dq_rep {K : W.Frag} {H : Hp} {v : V} {d : PyData} (h : Dq K H v d) : ∀ n, DqAll K H (List.replicate n v) (List.replicate n d)
  | 0 => .nil
  | n + 1 => .cons h (dq_rep h n)
theorem each_q {K : W.Frag} {H : Hp} : ∀ {ds : List PyData} {vs : List V}, Each H (ds.map (IsQ K)) vs → DqAll K H vs ds
  | [], _, h => by
    cases h
    exact .nil
  | d :: ds, _, h => by
    cases h with
    | cons h1 h2 => exact .cons h1 (each_q h2)
section
variable {K : W.Frag} {σ : L2.St} {H : Hp} {te ta tb : TE} {tl : TA} {P : Pr} {Ps : List Pr} {v : V}
theorem isQ_of_list {ds : List PyData} (h : EP te σ H (IsL (ds.map (IsQ K)))) : EP te σ H (IsQ K (.list ds)) := fun H1 e Q q => h H1 e Q fun v H2 e2 p => by
  obtain ⟨l, vs, rfl, hl, ps⟩ := p
  exact q _ _ e2 (Dq.lst (SqL.of hl) (each_q ps))
theorem isQ_monos (ds : List PyData) : Monos (ds.map (IsQ K)) := fun P h => by
  obtain ⟨d, _, rfl⟩ := List.mem_map.mp h
  exact isQ_mono d
theorem ep_ev (h : Ev te σ H v) (p : P H v) (m : Mono P) : EP te σ H P := fun H1 e Q q => h H1 e Q fun H2 e2 => q v H2 e2 (m _ _ _ (e.trans e2) p)
theorem ep_ints {ns : List Int} (h : EvL te σ H (ns.map V.int)) : EP te σ H (IsD ns) := fun H1 e Q q => h H1 e Q fun p H2 _ e2 hp => q _ _ e2 ⟨p, rfl, hp⟩
theorem each_flat {Ps : List Pr} {vs : List V} (h : Each H Ps vs) : ∀ n, Each H (List.replicate n Ps).flatten (List.replicate n vs).flatten
  | 0 => .nil
  | n + 1 => h.app (each_flat h n)
theorem flat_len {α : Type} (n : Nat) (l : List α) : (List.replicate n l).flatten.length = n * l.length := by
  induction n with
  | zero => simp
  | succ n ih => rw [List.replicate_succ, List.flatten_cons, List.length_append, ih, Nat.succ_mul, Nat.add_comm]
theorem monos_flat {Ps : List Pr} (m : Monos Ps) : ∀ n, Monos (List.replicate n Ps).flatten
  | 0 => fun P h => by simp at h
  | n + 1 => mapp m (monos_flat m n)
theorem ep_rep {n : Nat} (h : EP ta σ H (IsL Ps)) (m : Monos Ps) (hz : Ps.length * n ≤ 100000) (hn : n ≤ 1000) : EP (tOp rRep ta (tC (.int (n : Int)))) σ H (IsL (List.replicate n Ps).flatten) := fun H1 e Q q =>
  h H1 e _ fun x H2 e2 p => by
    obtain ⟨l, vs, rfl, hl, ps⟩ := p
    exact ⟨l, n, vs, rfl, rfl, hl, by omega, by omega, (by rw [← Paired.length ps, Int.toNat_natCast]; exact sz_of hz), fun r hr => q _ _ (e2.trans (Ex.new hr)) ⟨r, _, rfl, upd_same, by
      rw [Int.toNat_natCast]
      exact (each_flat ps n).mono (monos_flat m n) (Ex.new hr)⟩⟩
theorem ev_repr {d : PyData} (h : EP ta σ H (IsQ K d)) (hl : ∃ ds, d = .list ds) (ok : okD d = true) : Ev (tCB (rRepr K) (tCons ta tNil)) σ H (.str d.shown) := fun H1 e Q q =>
  h H1 e _ fun x H2 e2 p => by
    obtain ⟨ds, rfl⟩ := hl
    have p' : Dq K H2 x (.list ds) := p
    cases p' with
    | lst hs ha => exact ⟨_, _, rfl, Dq.lst hs ha, ok, q H2 e2⟩
end
section
variable {P : Program} {w : World} {K : W.Frag} {mg : Str → Option Value} {base : Heap} {f : Addr} {fd : FuncData}
theorem ok_law_pen (B : Bt mg) (F : FnP K "_law_pen" s_law_pen f fd) : FnOk P w K mg base CX0 1 f fd p_law_pen (spPen K) := by
  refine F.ok sc_law_pen (fun vs H Q E h => ?_) (fun cdv A outer s H vs Q E hr h => ?_)
  · obtain ⟨a, ns, rfl, _⟩ := h
    rfl
  · obtain ⟨a, ns, rfl, hS, hn, k⟩ := h
    refine ⟨_, PSs.nox (pss_one (ps_ret (pe_lst (pa_cons (pe_callTy call_list_of (by rfl) B.list (by decide +kernel) (pa_cons (pe_slice sl_list (pv 0) po_none (po_some pe_int)) pa_nil)) (pa_cons pe_int (pa_cons pe_int pa_nil)))))), ?_⟩
    obtain ⟨n2, e2⟩ : ∃ n2 : List Int, cutV (ns.map V.int) none (some 63) = n2.map V.int ∧ n2.length ≤ 63 := by
      refine ⟨(ns.drop (HT.sIx (ns.map V.int).length 0 none)).take (HT.sIx (ns.map V.int).length (ns.map V.int).length (some 63) - HT.sIx (ns.map V.int).length 0 none), ?_, ?_⟩
      · unfold cutV
        rw [← List.map_drop, ← List.map_take]
      · rw [List.length_take, List.length_drop]
        omega
    refine ⟨_, rfl, 63, rfl, a, _, rfl, hS, fun p1 h1 => ⟨p1, _, rfl, .inl (SqL.of upd_same), fun p2 h2 => ⟨(by show 3 ≤ sizeLine; decide), fun p3 h3 => ?_⟩⟩⟩
    have n32 : p2 ≠ p3 := fun z => by
      rw [← z, upd_same] at h3
      cases h3
    refine k p3 n2 _ e2.2 ⟨p2, 0, upd_same, ?_⟩ (((Ex.new h1).trans (Ex.new h2)).trans (Ex.new h3))
    rw [upd_ne n32, upd_same, e2.1]
/-! ### the law -/
abbrev duePs : List Pr := bss.map fun b => IsD (dueI b)
theorem due_stab {H : Hp} {p : Addr} {ns : List Int} {t : Int} {v : V} (h : IsL duePs H v) (pen : PenAt H p ns t) : ∀ H2, But p H H2 → IsL duePs H2 v := by
  intro H2 b2
  obtain ⟨l, vs, rfl, hl, ps⟩ := h
  obtain ⟨pl, g, hp, _⟩ := pen
  have len : vs.length = 22 := (Paired.length ps).symm
  have nl : l ≠ p := fun z => by
    rw [z, hp] at hl
    have q := HO.lst.inj (Option.some.inj hl)
    rw [← q] at len
    simp at len
  refine ⟨l, vs, rfl, b2 _ _ nl hl, ?_⟩
  have key : ∀ (bs : List EB) (vs : List V), Each H (bs.map fun b => IsD (dueI b)) vs → Each H2 (bs.map fun b => IsD (dueI b)) vs := by
    intro bs
    induction bs with
    | nil =>
      intro vs h
      cases h
      exact .nil
    | cons b r ih =>
      intro vs h
      cases h with
      | cons h1 h2 =>
        obtain ⟨d, rfl, hd⟩ := h1
        have nd : d ≠ p := fun z => by
          rw [z, hp] at hd
          have q := congrArg List.length (HO.lst.inj (Option.some.inj hd))
          rw [List.length_map, due_len] at q
          simp at q
        exact .cons ⟨d, rfl, b2 _ _ nd hd⟩ (ih _ h2)
  exact key _ _ ps
theorem pen_mono {H H' : Hp} {p : Addr} {ns : List Int} {t : Int} (e : Ex H H') (h : PenAt H p ns t) : PenAt H' p ns t := by
  obtain ⟨l, g, h1, h2⟩ := h
  exact ⟨l, g, e _ _ h1, e _ _ h2⟩
theorem but_ex {H H' : Hp} {p : Addr} (e : Ex H H') : But p H H' := fun c o _ h => e c o h
theorem But.trans {H H1 H2 : Hp} {p : Addr} (a : But p H H1) (b : But p H1 H2) : But p H H2 := fun c o hc h => b c o hc (a c o hc h)
theorem rows_at {K : W.Frag} (one two : V) {j : Nat} (h : j < 22) : ∃ fs, (rows K one two)[j]? = some (cs K j, fs) := by
  rcases (show j = 0 ∨ j = 1 ∨ j = 2 ∨ j = 3 ∨ j = 4 ∨ j = 5 ∨ j = 6 ∨ j = 7 ∨ j = 8 ∨ j = 9 ∨ j = 10 ∨ j = 11 ∨ j = 12 ∨ j = 13 ∨ j = 14 ∨ j = 15 ∨ j = 16 ∨ j = 17 ∨ j = 18 ∨ j = 19 ∨ j = 20 ∨ j = 21 by omega) with rfl | rfl | rfl | rfl | rfl | rfl | rfl | rfl | rfl | rfl | rfl | rfl | rfl | rfl | rfl | rfl | rfl | rfl | rfl | rfl | rfl | rfl <;> exact ⟨_, rfl⟩
theorem due_at {j : Nat} (h : j < 22) : duePs[j]? = some (IsD (dueI (bss.getD j .val))) := by
  rcases (show j = 0 ∨ j = 1 ∨ j = 2 ∨ j = 3 ∨ j = 4 ∨ j = 5 ∨ j = 6 ∨ j = 7 ∨ j = 8 ∨ j = 9 ∨ j = 10 ∨ j = 11 ∨ j = 12 ∨ j = 13 ∨ j = 14 ∨ j = 15 ∨ j = 16 ∨ j = 17 ∨ j = 18 ∨ j = 19 ∨ j = 20 ∨ j = 21 by omega) with rfl | rfl | rfl | rfl | rfl | rfl | rfl | rfl | rfl | rfl | rfl | rfl | rfl | rfl | rfl | rfl | rfl | rfl | rfl | rfl | rfl | rfl <;> rfl
theorem given_all (n : Nat) (v : Nat → V) : given n (fun _ => true) v = (List.range n).map v := by
  unfold given
  rw [List.filter_eq_self.mpr fun _ _ => rfl]
theorem bool_row (j : Nat) : ((List.range 22).map fun (m : Nat) => V.bl (decide (V.int (m : Int) = V.int (0 + (j : Int))))) = ((List.range 22).map fun m => decide (j = m)).map V.bl := by
  rw [List.map_map]
  refine List.map_congr_left fun m _ => ?_
  have q : decide (V.int (m : Int) = V.int (0 + (j : Int))) = decide (j = m) := by
    by_cases e : j = m
    · subst e
      rw [Int.zero_add, decide_eq_true rfl, decide_eq_true rfl]
    · have e2 : ¬ V.int (m : Int) = V.int (0 + (j : Int)) := fun z => by
        have z2 := V.int.inj z
        omega
      rw [decide_eq_false e, decide_eq_false e2]
  exact congrArg V.bl q
theorem dp_bools {K : W.Frag} {H : Hp} : ∀ l : List Bool, DpAll K H (l.map V.bl) (l.map PyData.bool)
  | [] => .nil
  | b :: r => .cons (.bl b) (dp_bools r)
theorem bools_lay : ∀ l : List Bool, PyData.canLayAll0 (l.map PyData.bool) = true ∧ PyData.depthAll (l.map PyData.bool) = 0
  | [] => ⟨by simp [PyData.canLayAll0], by simp [PyData.depthAll]⟩
  | b :: r => by
    obtain ⟨h1, h2⟩ := bools_lay r
    refine ⟨?_, ?_⟩
    · simp only [List.map_cons, PyData.canLayAll0, PyData.canLay0, h1, Bool.and_self]
    · simp only [List.map_cons, PyData.depthAll, PyData.depth, h2, Nat.max_self]
theorem bools_shaped (l : List Bool) : SeqAt.shaped (.list (l.map PyData.bool)) = true := by
  obtain ⟨h1, h2⟩ := bools_lay l
  show (PyData.canLay0 (.list (l.map PyData.bool)) && decide (PyData.depth (.list (l.map PyData.bool)) ≤ 64)) = true
  simp only [PyData.canLay0, PyData.depth, h1, h2]
  decide
theorem eqv_bools : ∀ l : List Bool, PyData.eqvAll (l.map PyData.bool) (l.map PyData.bool) = true
  | [] => by simp [PyData.eqvAll]
  | b :: r => by simp [PyData.eqvAll, PyData.eqv, eqv_bools r]
theorem eqv_ints : ∀ l : List Int, PyData.eqvAll (l.map PyData.int) (l.map PyData.int) = true
  | [] => by simp [PyData.eqvAll]
  | b :: r => by simp [PyData.eqvAll, PyData.eqv, eqv_ints r]
theorem rv_neB {K : W.Frag} {H : Hp} {r q : Addr} {l : List Bool} (hr : H r = some (.lst (l.map V.bl))) (hq : H q = some (.lst (l.map V.bl))) : RV (rNeD K) (.ref r) (.ref q) H (.bl false) := fun H1 e Q k => by
  refine ⟨_, _, .lst (SqL.of (e _ _ hr)) (dp_bools l), .lst (SqL.of (e _ _ hq)) (dp_bools l), bools_shaped l, bools_shaped l, ?_⟩
  have z : PyData.eqv (.list (l.map PyData.bool)) (.list (l.map PyData.bool)) = true := by simp only [PyData.eqv, eqv_bools]
  rw [z]
  exact k H1 (Ex.refl H1)
theorem rv_neI {K : W.Frag} {H : Hp} {r q : Addr} {l : List Int} (hr : H r = some (.lst (l.map V.int))) (hq : H q = some (.lst (l.map V.int))) : RV (rNeD K) (.ref r) (.ref q) H (.bl false) := fun H1 e Q k => by
  refine ⟨_, _, .lst (SqL.of (e _ _ hr)) (dp_ints l), .lst (SqL.of (e _ _ hq)) (dp_ints l), ints_shaped l, ints_shaped l, ?_⟩
  have z : PyData.eqv (.list (l.map PyData.int)) (.list (l.map PyData.int)) = true := by simp only [PyData.eqv, eqv_ints]
  rw [z]
  exact k H1 (Ex.refl H1)
theorem ep_listQ {K : W.Frag} {σ : L2.St} {H : Hp} {te : TE} {n : Nat} {v : V} {d : PyData} (h : EvL te σ H (List.replicate n v)) (q : Dq K H v d) : EP te σ H (IsQ K (.list (List.replicate n d))) := fun H1 e Q k =>
  h H1 e Q fun p H2 _ e2 hp => k _ _ e2 (Dq.lst (SqL.of hp) (dq_rep (Dq.mono (e.trans e2) q) n))
theorem sp_fields {K : W.Frag} {H : Hp} {l : Addr} {es : List V} {one two : V} (hl : H l = some (.lst es)) (E : Each H ((rows K one two).map IsX) es) : SpL (spFields K) [.ref l] H (List.replicate 22 one) := fun H1 e Q q X =>
  ⟨l, es, one, two, rfl, e _ _ hl, E.mono (isX_monos _) e, fun p H2 np e2 hp => q p H2 np e2 hp⟩
/-- es[i].f, es in any slot -/
theorem ev_fldV {K : W.Frag} {σ : L2.St} {H : Hp} {l C fI : Addr} {b : EB} {f : Str} {fs : List (Str × V)} {es : List V} {rs : List (Addr × List (Str × V))} {v : V} {t0 : TE} (i : Nat) (h0 : Ev t0 σ H (.ref l)) (hl : H l = some (.lst es))
    (E : Each H (rs.map IsX) es) (hi : rs[i]? = some (C, fs)) (T : EC K C fI b) (no : W.findIn K (.ref C) f = some none) (lk : fs.lookup f = some v) :
    Ev (tGetX K f (tOp (rIxL K) t0 (tC (.int (i : Int))))) σ H v := fun H1 e Q q => h0 H1 e _ fun H2 e2 => by
  obtain ⟨x, hx, a, rfl, X⟩ := E.get (i := i) (P := IsX (C, fs)) (by rw [List.getElem?_map, hi]; rfl)
  obtain ⟨d, h1, h2⟩ := X
  have e3 := e.trans e2
  exact ⟨l, es, i, _, rfl, rfl, SqL.of (e3 l _ hl), atI_nat hx, a, C, fI, b, fs, v, rfl, ⟨d, e3 _ _ h1, e3 _ _ h2⟩, T, no, lk, q H2 e2⟩
theorem ok_law (B : Bt mg) (T : TX P w K mg base) (sys : SysD K) (kb : kitB K = true)
    {fPen fOdd fMade fNamed fFields fClasses fBases : Addr} {dPen dOdd dMade dNamed dFields dClasses dBases : FuncData}
    (D_law_pen : Fn1 P w K mg base "_law_pen" 1 fPen dPen p_law_pen (spPen K)) (D_law_odd : Fn1 P w K mg base "_law_odd" 2 fOdd dOdd p_law_odd (spOdd K))
    (D_law_made : Fn1 P w K mg base "_law_made" 4 fMade dMade p_law_made (spMade K)) (D_law_named : Fn1 P w K mg base "_law_named" 4 fNamed dNamed p_law_named (spMade K))
    (D_law_fields : Fn1 P w K mg base "_law_fields" 1 fFields dFields p_law_fields (spFields K)) (D_law_classes : Fn1 P w K mg base "_law_classes" 1 fClasses dClasses p_law_classes (spClasses K))
    (D_law_bases : Fn1 P w K mg base "_law_bases" 1 fBases dBases p_law_bases (spBases K))
    (F : FnP K "law" slaw f fd) : FnG P w K mg base CX0 5 f fd plaw (spLaw K) := by
  refine fund_okG F sclaw (fun vs H Q E h => ?_) (fun cdv A outer s H vs Q E gd hr h => ?_)
  · obtain ⟨a, ns, rfl, _⟩ := h
    rfl
  · obtain ⟨a, ns, rfl, hS, hn, k⟩ := h
    have hu := hr.units
    refine ⟨_, PSs.nox (pss_cons (ps_set (i := 1) sclaw.nd rfl (Or.inl rfl) (pe_callG gd D_law_pen.ok (hr.mono (by decide)) (by rfl) D_law_pen.m D_law_pen.k D_law_pen.b .nil pass0 (pa_cons (pv 0) pa_nil)))
    (pss_cons (ps_set (i := 2) sclaw.nd rfl (Or.inl rfl) (pe_op op_cat (pe_op op_rep (pe_lst (pa_cons (pe_lst (pa_cons pe_int (pa_cons pe_int (pa_cons pe_int (pa_cons pe_int (pa_cons pe_int (pa_cons pe_int (pa_cons pe_int pa_nil)))))))) pa_nil)) pe_int) (pe_lst (pa_cons (pe_lst (pa_cons pe_int (pa_cons pe_int (pa_cons pe_int (pa_cons pe_int (pa_cons pe_int (pa_cons pe_int (pa_cons pe_int pa_nil)))))))) (pa_cons (pe_lst (pa_cons pe_int (pa_cons pe_int (pa_cons pe_int (pa_cons pe_int (pa_cons pe_int (pa_cons pe_int (pa_cons pe_int pa_nil)))))))) pa_nil)))))
    (pss_cons (ps_set (i := 2) sclaw.nd rfl (Or.inl rfl) (pe_op op_cat (pe_op op_cat (pv 2) (pe_op op_rep (pe_lst (pa_cons (pe_lst (pa_cons pe_int (pa_cons pe_int (pa_cons pe_int (pa_cons pe_int (pa_cons pe_int (pa_cons pe_int (pa_cons pe_int pa_nil)))))))) pa_nil)) pe_int)) (pe_lst (pa_cons (pe_lst (pa_cons pe_int (pa_cons pe_int (pa_cons pe_int (pa_cons pe_int (pa_cons pe_int (pa_cons pe_int (pa_cons pe_int pa_nil)))))))) (pa_cons (pe_lst (pa_cons pe_int (pa_cons pe_int (pa_cons pe_int (pa_cons pe_int (pa_cons pe_int (pa_cons pe_int (pa_cons pe_int pa_nil)))))))) pa_nil)))))
    (pss_cons (ps_set (i := 2) sclaw.nd rfl (Or.inl rfl) (pe_op op_cat (pv 2) (pe_op op_rep (pe_lst (pa_cons (pe_lst (pa_cons pe_int (pa_cons pe_int (pa_cons pe_int (pa_cons pe_int (pa_cons pe_int (pa_cons pe_int (pa_cons pe_int pa_nil)))))))) pa_nil)) pe_int)))
    (pss_cons (ps_for PassesOwn.never rfl (pi_range1 (by rfl) B.range (pa_cons pe_int pa_nil)) (pg_name (i := 3) sclaw.nd rfl (Or.inl rfl)) (pss_cons (ps_par (i := 4) (j := 5) rfl sclaw.nd rfl rfl (by decide) rfl rfl (pa_cons (pe_callG gd D_law_odd.ok (hr.mono (by decide)) (by rfl) D_law_odd.m D_law_odd.k D_law_odd.b .nil pass0 (pa_cons (pv 1) pa_nil)) (pa_cons (pe_callG gd D_law_odd.ok (hr.mono (by decide)) (by rfl) D_law_odd.m D_law_odd.k D_law_odd.b .nil pass0 (pa_cons (pv 1) pa_nil)) pa_nil)) (by rfl))
      (pss_cons (ps_par (i := 6) (j := 7) rfl sclaw.nd rfl rfl (by decide) rfl rfl (pa_cons (pe_callG gd D_law_made.ok (hr.mono (by decide)) (by rfl) D_law_made.m D_law_made.k D_law_made.b .nil pass0 (pa_cons (pv 4) (pa_cons (pv 5) pa_nil))) (pa_cons (pe_callG gd D_law_named.ok (hr.mono (by decide)) (by rfl) D_law_named.m D_law_named.k D_law_named.b .nil pass0 (pa_cons (pv 4) (pa_cons (pv 5) pa_nil))) pa_nil)) (by rfl))
      (pss_cons (ps_for PassesOwn.never rfl (pi_range1 (by rfl) B.range (pa_cons pe_int pa_nil)) (pg_name (i := 8) sclaw.nd rfl (Or.inr rfl)) (pss_one (ps_if ((pw_or (pt_cmpR (op_neD hu) (pe_callG gd D_law_classes.ok (hr.mono (by decide)) (by rfl) D_law_classes.m D_law_classes.k D_law_classes.b .nil pass0 (pa_cons (pe_ix ix_list (pv 6) (pv 8) (fun _ _ => rfl)) pa_nil)) (pe_lc (own := [("_law_j", 9)]) (g := gName 9) (tt := tYes) rfl sclaw.nd (pi_range1 (by rfl) B.range (pa_cons pe_int pa_nil)) (blkOk_by (N := nlaw) (sc := defScope slaw) (by decide +kernel)) (fun _ _ _ _ _ => pg_name (i := 9) sclaw.nd rfl (Or.inl rfl)) (fun _ _ _ _ _ => pts_nil) (fun _ _ _ _ _ => (pe_cmpR op_eq (pv 9) (pv 8) (nomark _)))) (nomark _)) (pw_or1 (pt_cmpR (op_neD hu) (pe_callG gd D_law_bases.ok (hr.mono (by decide)) (by rfl) D_law_bases.m D_law_bases.k D_law_bases.b .nil pass0 (pa_cons (pe_ix ix_list (pv 6) (pv 8) (fun _ _ => rfl)) pa_nil)) (pe_ix ix_list (pv 2) (pv 8) (fun _ _ => rfl)) (nomark _))))).pt (pss_one (ps_ret pe_bl)) pss_nil)))
      (pss_cons (ps_if (pt_cmpR op_ne (pe_callB (call_repr gd sys hu) (by rfl) B.repr (by decide +kernel) (pa_cons (pe_lst (pa_cons (pe_callG gd D_law_fields.ok (hr.mono (by decide)) (by rfl) D_law_fields.m D_law_fields.k D_law_fields.b .nil pass0 (pa_cons (pv 6) pa_nil)) (pa_cons (pe_callG gd D_law_fields.ok (hr.mono (by decide)) (by rfl) D_law_fields.m D_law_fields.k D_law_fields.b .nil pass0 (pa_cons (pv 7) pa_nil)) pa_nil))) pa_nil)) (pe_callB (call_repr gd sys hu) (by rfl) B.repr (by decide +kernel) (pa_cons (pe_op op_rep (pe_lst (pa_cons (pe_op op_rep (pe_lst (pa_cons (pv 4) pa_nil)) pe_int) pa_nil)) pe_int) pa_nil)) (nomark _)) (pss_one (ps_ret pe_bl)) pss_nil)
      (pss_one (ps_if (pt_cmpR op_ne (pe_callB (call_repr gd sys hu) (by rfl) B.repr (by decide +kernel) (pa_cons (pe_lst (pa_cons (pe_getX (pe_ix ix_list (pv 6) pe_int (fun _ _ => rfl))) (pa_cons (pe_getX (pe_ix ix_list (pv 7) pe_int (fun _ _ => rfl))) pa_nil))) pa_nil)) (pe_callB (call_repr gd sys hu) (by rfl) B.repr (by decide +kernel) (pa_cons (pe_lst (pa_cons (pv 5) (pa_cons (pv 5) pa_nil))) pa_nil)) (nomark _)) (pss_one (ps_ret pe_bl)) pss_nil)))))))
    (pss_one (ps_ret pe_bl))))))), ?_⟩
    refine ⟨_, rfl, a, ns, rfl, hS, hn, fun p n2 H1 hn2 pen1 e1 => ?_⟩
    have m1 : Monos ((List.replicate 13 [IsD (dueI .val)]).flatten ++ [IsD (dueI .key), IsD (dueI .ind)]) := mapp (monos_flat (isD_monos [dueI .val]) 13) (isD_monos [dueI .key, dueI .ind])
    refine s_asgP (P := IsL ((List.replicate 13 [IsD (dueI .val)]).flatten ++ [IsD (dueI .key), IsD (dueI .ind)])) (ep_cat (ep_rep (n := 13) (ep_lst (epa_cons (ep_ints (ns := dueI .val) (el_lst (ea_cons ev_c (ea_cons ev_c (ea_cons ev_c (ea_cons ev_c (ea_cons ev_c (ea_cons ev_c (ea_cons ev_c ea_nil))))))) (by show 7 ≤ 100000; decide))) (isD_mono _) epa_nil) (by show 1 ≤ 100000; decide) (isD_monos [dueI .val])) (isD_monos [dueI .val]) (by show 1 * 13 ≤ 100000; decide) (by decide)) (ep_lst (epa_cons (ep_ints (ns := dueI .key) (el_lst (ea_cons ev_c (ea_cons ev_c (ea_cons ev_c (ea_cons ev_c (ea_cons ev_c (ea_cons ev_c (ea_cons ev_c ea_nil))))))) (by show 7 ≤ 100000; decide))) (isD_mono _) (epa_cons (ep_ints (ns := dueI .ind) (el_lst (ea_cons ev_c (ea_cons ev_c (ea_cons ev_c (ea_cons ev_c (ea_cons ev_c (ea_cons ev_c (ea_cons ev_c ea_nil))))))) (by show 7 ≤ 100000; decide))) (isD_mono _) epa_nil)) (by show 2 ≤ 100000; decide) (isD_monos [dueI .key, dueI .ind])) (monos_flat (isD_monos [dueI .val]) 13) (isD_monos [dueI .key, dueI .ind]) (by show 15 ≤ 100000; decide)) fun v1 H2 e2 l2 => ?_
    have m2a := mapp m1 (monos_flat (isD_monos [dueI .look]) 3)
    have m2 := mapp m2a (isD_monos [dueI .run, dueI .over])
    refine s_asgP (P := IsL ((((List.replicate 13 [IsD (dueI .val)]).flatten ++ [IsD (dueI .key), IsD (dueI .ind)]) ++ (List.replicate 3 [IsD (dueI .look)]).flatten) ++ [IsD (dueI .run), IsD (dueI .over)]))
      (ep_cat (ep_cat (ep_var rfl l2 (isL_mono m1)) (ep_rep (n := 3) (ep_lst (epa_cons (ep_ints (ns := dueI .look) (el_lst (ea_cons ev_c (ea_cons ev_c (ea_cons ev_c (ea_cons ev_c (ea_cons ev_c (ea_cons ev_c (ea_cons ev_c ea_nil))))))) (by show 7 ≤ 100000; decide))) (isD_mono _) epa_nil) (by show 1 ≤ 100000; decide) (isD_monos [dueI .look])) (isD_monos [dueI .look]) (by show 1 * 3 ≤ 100000; decide) (by decide)) m1 (monos_flat (isD_monos [dueI .look]) 3) (by show 18 ≤ 100000; decide)) (ep_lst (epa_cons (ep_ints (ns := dueI .run) (el_lst (ea_cons ev_c (ea_cons ev_c (ea_cons ev_c (ea_cons ev_c (ea_cons ev_c (ea_cons ev_c (ea_cons ev_c ea_nil))))))) (by show 7 ≤ 100000; decide))) (isD_mono _) (epa_cons (ep_ints (ns := dueI .over) (el_lst (ea_cons ev_c (ea_cons ev_c (ea_cons ev_c (ea_cons ev_c (ea_cons ev_c (ea_cons ev_c (ea_cons ev_c ea_nil))))))) (by show 7 ≤ 100000; decide))) (isD_mono _) epa_nil)) (by show 2 ≤ 100000; decide) (isD_monos [dueI .run, dueI .over])) m2a (isD_monos [dueI .run, dueI .over]) (by show 20 ≤ 100000; decide)) fun v2 H3 e3 l3 => ?_
    refine s_asgP (P := IsL duePs) (ep_cat (ep_var rfl l3 (isL_mono m2)) (ep_rep (n := 2) (ep_lst (epa_cons (ep_ints (ns := dueI .val) (el_lst (ea_cons ev_c (ea_cons ev_c (ea_cons ev_c (ea_cons ev_c (ea_cons ev_c (ea_cons ev_c (ea_cons ev_c ea_nil))))))) (by show 7 ≤ 100000; decide))) (isD_mono _) epa_nil) (by show 1 ≤ 100000; decide) (isD_monos [dueI .val])) (isD_monos [dueI .val]) (by show 1 * 2 ≤ 100000; decide) (by decide)) m2 (monos_flat (isD_monos [dueI .val]) 2) (by show 22 ≤ 100000; decide)) fun dv H4 e4 l4 => ?_
    have pen4 := pen_mono ((e2.trans e3).trans e4) pen1
    refine ⟨4, rfl, by decide, by decide, for_range (lo := 0) (n := 4) (fun i σ' H' => ∃ (t : Int) (x3 x4 x5 x6 x7 x8 x9 : Option V), σ' = [some (.ref a), some (.ref p), some dv, x3, x4, x5, x6, x7, x8, x9] ∧ PenAt H' p n2 t ∧ 0 ≤ t ∧ t ≤ 2 * (i : Int) ∧ IsL duePs H' dv)
      ⟨0, none, none, none, none, none, none, none, rfl, pen4, by decide, by decide, l4⟩ ?_ ?_⟩
    · rintro i σ' H' hi ⟨t, x3, x4, x5, x6, x7, x8, x9, rfl, pen, t0, t1, ld⟩
      -- one, two = odd(pen), odd(pen)
      refine ⟨_, rfl, p, n2, t, rfl, pen, hn2, t0, by omega, fun one d1 ta Ha hd1 q1 s0 s1 penA butA => ?_⟩
      refine ⟨_, rfl, p, n2, ta, rfl, penA, hn2, by omega, by omega, fun two d2 tb Hb hd2 q2 r0 r1 penB butB => ⟨_, _, rfl, ?_⟩⟩
      have ldB : IsL duePs Hb dv := due_stab ld pen Hb (butA.trans butB)
      have w1 : Dq K Hb one d1 := q1 Hb butB
      have w2 : Dq K Hb two d2 := q2 Hb fun _ _ _ h => h
      -- some, named = made(one, two), named(one, two)
      refine ⟨_, rfl, _, rfl, one, two, rfl, fun sm Hc eC lC => ⟨_, rfl, _, rfl, one, two, rfl, fun nm Hd eD lD => ⟨_, _, rfl, ?_⟩⟩⟩
      obtain ⟨ls, es, rfl, hls, Es⟩ := isL_mono (isX_monos _) _ _ _ eD lC
      obtain ⟨ln, en, rfl, hln, En⟩ := lD
      have ldD := isL_mono (fun P h => by obtain ⟨d, _, rfl⟩ := List.mem_map.mp h; exact isD_mono _) _ _ _ (eC.trans eD) ldB
      obtain ⟨lq, dq, rfl, hlq, Eq0⟩ := ldD
      have penD := pen_mono (eC.trans eD) penB
      have u1 := Dq.mono (eC.trans eD) w1
      have u2 := Dq.mono (eC.trans eD) w2
      refine ⟨22, rfl, by decide, by decide, for_range (lo := 0) (n := 22) (fun j σ' H' => ∃ x8 x9 : Option V, σ' = [some (.ref a), some (.ref p), some (.ref lq), some (.int (0 + (i : Int))), some one, some two, some (.ref ls), some (.ref ln), x8, x9] ∧ Ex Hd H')
        ⟨x8, x9, rfl, Ex.refl _⟩ ?_ ?_⟩
      · rintro j σ' H' hj ⟨y8, y9, rfl, eX⟩
        obtain ⟨fs, hfs⟩ := rows_at (K := K) one two hj
        obtain ⟨ve, hve, ae, rfl, X⟩ := (Es.mono (isX_monos _) eX).get (i := j) (P := IsX (cs K j, fs)) (by rw [List.getElem?_map, hfs]; rfl)
        obtain ⟨vd, hvd, ld1, rfl, hld⟩ := Eq0.get (i := j) (P := IsD (dueI (bss.getD j .val))) (due_at hj)
        have ix : ∀ {xs : List V} {v : V}, xs[j]? = some v → atI xs (0 + (j : Int)) = some v := fun h => by
          rw [Int.zero_add]
          exact atI_nat h
        refine s_if (b := false) (et_or (a := false) (b := false) (et_test (ev_opLL (xs := ((List.range 22).map fun m => decide (j = m)).map V.bl) (ys := given 22 (fun _ => true) (fun m => V.bl (decide (V.int (m : Int) = V.int (0 + (j : Int))))))
            (el_call (ea_cons (ev_op (ev_var rfl) (ev_var rfl) (rv_ixL (SqL.of (eX _ _ hls)) (ix hve))) ea_nil) (fun H1 e Q q _ => ⟨ae, j, fs, rfl, hj, xat_mono e X, fun r H2 nr e2 hr => q r H2 nr e2 (by rw [List.map_map]; exact hr)⟩))
            (el_lcR1 (fun _ => true) (fun m => V.bl (decide (V.int (m : Int) = V.int (0 + (j : Int))))) (ea_cons ev_c ea_nil) (by decide) (fun _ => rfl) (fun m H1 _ _ H2 _ Q q => q H2 (Ex.refl H2)) (fun m H1 _ _ _ => ev_op (ev_var rfl) (ev_var rfl) (rv_eq rfl)))
            (fun r q H6 hr hq _ => rv_neB hr (by rw [given_all, bool_row j] at hq; exact hq))))
          (fun _ => et_test (ev_opL1 (xs := (dueI (bss.getD j .val)).map V.int) (y := .ref ld1)
            (el_call (ea_cons (ev_op (ev_var rfl) (ev_var rfl) (rv_ixL (SqL.of (eX _ _ hls)) (ix hve))) ea_nil) (fun H1 e Q q _ => ⟨ae, j, fs, rfl, hj, xat_mono e X, fun r H2 nr e2 hr => q r H2 nr e2 hr⟩))
            (fun H1 e => ev_op (ev_var rfl) (ev_var rfl) (rv_ixL (SqL.of (e _ _ (eX _ _ hlq))) (ix hvd)))
            (fun r H1 hr e => rv_neI hr (e _ _ (eX _ _ hld))))))
          (fun z => by cases z) (fun _ H5 e5 => ⟨some (.int (0 + (j : Int))), y9, rfl, eX.trans e5⟩)
      · rintro σ' H' ⟨y8, y9, rfl, eX⟩
        -- repr([fields(some), fields(named)]) != repr([[one] * 22] * 2)
        obtain ⟨ok1, _⟩ := odds_ok d1 hd1
        obtain ⟨_, ok2⟩ := odds_ok d2 hd2
        have z1 := Dq.mono eX u1
        have z2 := Dq.mono eX u2
        have zs := eX _ _ hls
        have zn := eX _ _ hln
        have Zs := Es.mono (isX_monos _) eX
        have Zn := En.mono (isX_monos _) eX
        refine s_if (b := false) (et_test (ev_is (ev_op
            (ev_repr (d := .list [.list (List.replicate 22 d1), .list (List.replicate 22 d1)]) (isQ_of_list (ds := [.list (List.replicate 22 d1), .list (List.replicate 22 d1)]) (ep_lst
              (epa_cons (ep_listQ (el_call (ea_cons (ev_var rfl) ea_nil) (sp_fields zs Zs)) z1) (isQ_mono _) (epa_cons (ep_listQ (el_call (ea_cons (ev_var rfl) ea_nil) (sp_fields zn Zn)) z1) (isQ_mono _) epa_nil)) (by show 2 ≤ 100000; decide)
              (isQ_monos [.list (List.replicate 22 d1), .list (List.replicate 22 d1)]))) ⟨_, rfl⟩ ok1)
            (ev_repr (d := .list [.list (List.replicate 22 d1), .list (List.replicate 22 d1)]) (isQ_of_list (ds := [.list (List.replicate 22 d1), .list (List.replicate 22 d1)]) (ep_rep (n := 2) (Ps := [IsQ K (.list (List.replicate 22 d1))]) (ep_lst
              (epa_cons (isQ_of_list (ds := List.replicate 22 d1) (ep_rep (n := 22) (Ps := [IsQ K d1]) (ep_lst (epa_cons (ep_ev (ev_var rfl) z1 (isQ_mono _)) (isQ_mono _) epa_nil) (by show 1 ≤ 100000; decide) (isQ_monos [d1])) (isQ_monos [d1]) (by show 1 * 22 ≤ 100000; decide) (by decide))) (isQ_mono _) epa_nil)
              (by show 1 ≤ 100000; decide) (isQ_monos [.list (List.replicate 22 d1)])) (isQ_monos [.list (List.replicate 22 d1)]) (by show 1 * 2 ≤ 100000; decide) (by decide))) ⟨_, rfl⟩ ok1)
            (rv_ne rfl)) (by rw [decide_eq_true rfl]; rfl))) (fun z => by cases z) (fun _ H6 e6 => ?_)
        obtain ⟨fdInvalidText, XInvalidText⟩ := T.xInvalidText
        have g1 := Dq.mono e6 z1
        have g2 := Dq.mono e6 z2
        have ys := e6 _ _ zs
        have yn := e6 _ _ zn
        have Ys := Zs.mono (isX_monos _) e6
        have Yn := Zn.mono (isX_monos _) e6
        refine s_if (b := false) (et_test (ev_is (ev_op
            (ev_repr (d := .list [d2, d2]) (isQ_of_list (ds := [d2, d2]) (ep_lst
              (epa_cons (ep_ev (ev_fldV 11 (ev_var rfl) ys Ys rfl XInvalidText.ec XInvalidText.no2 rfl) g2 (isQ_mono _)) (isQ_mono _) (epa_cons (ep_ev (ev_fldV 11 (ev_var rfl) yn Yn rfl XInvalidText.ec XInvalidText.no2 rfl) g2 (isQ_mono _)) (isQ_mono _) epa_nil)) (by show 2 ≤ 100000; decide)
              (isQ_monos [d2, d2]))) ⟨_, rfl⟩ ok2)
            (ev_repr (d := .list [d2, d2]) (isQ_of_list (ds := [d2, d2]) (ep_lst
              (epa_cons (ep_ev (ev_var rfl) g2 (isQ_mono _)) (isQ_mono _) (epa_cons (ep_ev (ev_var rfl) g2 (isQ_mono _)) (isQ_mono _) epa_nil)) (by show 2 ≤ 100000; decide)
              (isQ_monos [d2, d2]))) ⟨_, rfl⟩ ok2)
            (rv_ne rfl)) (by rw [decide_eq_true rfl]; rfl))) (fun z => by cases z) (fun _ H7 e7 => ?_)
        have e67 := (eX.trans e6).trans e7
        exact ⟨tb, _, _, _, _, _, _, _, rfl, pen_mono e67 penD, by omega, by omega, isL_mono (fun P h => by obtain ⟨d, _, rfl⟩ := List.mem_map.mp h; exact isD_mono _) _ _ _ e67 ⟨lq, dq, rfl, hlq, Eq0⟩⟩
    · rintro σ' H' ⟨t, x3, x4, x5, x6, x7, x8, x9, rfl, pen, t0, t1, ld⟩
      exact k _
end
end L2.Mb
set_option maxRecDepth 100000
set_option maxHeartbeats 4000000
namespace L2.Mb
open PySem PySem.Spec PyProof.Rows Mx Evl
/-! ### what is looked at behind the top -/
def excB (K : W.Frag) (C : Addr) (b : EB) : Bool := match K.lookup C with
  | some ⟨.type t, _, .cls cd, sl⟩ => (match cd.mro, sl.toList with
    | .ref c :: r, [_, _, _, _, some (.builtin n), _] => decide (t = "type") && (decide (c = C) && (decide (n = b.new) && (!cd.hasDel && (cd.hasDict && own b r))))
    | _, _ => false)
  | _ => false
theorem excB_ok {K : W.Frag} {C : Addr} {b : EB} (z : excB K C b = true) :
    ∃ nm q N bs bm sn sub ab col dd k0 k1 k2 k3 k5, K.lookup C = some (excClassObj nm q C N bs bm true sn sub ab col dd k0 k1 k2 k3 k5 b.new) ∧ own b bm = true := by
  unfold excB at z
  split at z
  · rename_i t dd cd sl lk
    split at z
    · rename_i c r x0 x1 x2 x3 n x5 em es
      simp only [Bool.and_eq_true, decide_eq_true_eq, Bool.not_eq_true'] at z
      obtain ⟨rfl, rfl, rfl, hd, hh, ho⟩ := z
      obtain ⟨a1, a2, a3, a4, a5, a6, a7, a8, a9, a10, a11⟩ := cd
      simp only at em hd hh
      subst em hd hh
      obtain ⟨l⟩ := sl
      simp only at es
      subst es
      exact ⟨a1, a5, a4, a2, r, a7, a8, a9, a10, dd, x0, x1, x2, x3, x5, lk, ho⟩
    · cases z
  · cases z
def isB (a b : Option Bool) : Bool := decide (a = b)
def ecB (K : W.Frag) (x : Str) (b : EB) (fs : List Str) : Bool :=
  excB K (cA K x) b && (He.eqO (W.findIn K (.ref (cA K x)) "__setattr__") (some (some (.builtin "object.__setattr__"))) && (He.eqO (W.findIn K (.ref (cA K x)) "__getattribute__") (some (some (.builtin "BaseException.__getattribute__"))) &&
    (He.eqO (W.findIn K (.ref (cA K x)) "__getattr__") (some none) && (He.eqO (W.findIn K (.ref (cA K x)) "__class__") (some (some (.builtin "object.__class__"))) && (isB (W.instIn K (.ref (cA K x)) (.type "type")) (some true) &&
      (W.keepIn K (.ref (cA K x)) && (He.eqO (W.findIn K (.ref (cA K x)) "__init__") (some (some (.ref (iA K x)))) && (decide (W.typeIn K (.ref (iA K x)) = some (.type "function")) &&
        (He.eqO (W.specialIn K (.builtin "object.__class__") "__get__") (some (some (.builtin "getset_descriptor.__get__"))) && (isB (W.takesIn K (.builtin "object.__class__")) (some true) && fs.all fun f => He.eqO (W.findIn K (.ref (cA K x)) f) (some none)))))))))))
theorem ecB_ok {K : W.Frag} {x : Str} {b : EB} {fs : List Str} (z : ecB K x b fs = true) : EC K (cA K x) (iA K x) b ∧ ∀ f ∈ fs, W.findIn K (.ref (cA K x)) f = some none := by
  obtain ⟨z1, z⟩ := He.ba z
  obtain ⟨z2, z⟩ := He.ba z
  obtain ⟨z3, z⟩ := He.ba z
  obtain ⟨z4, z⟩ := He.ba z
  obtain ⟨z5, z⟩ := He.ba z
  obtain ⟨z6, z⟩ := He.ba z
  obtain ⟨z7, z⟩ := He.ba z
  obtain ⟨z8, z⟩ := He.ba z
  obtain ⟨z9, z⟩ := He.ba z
  obtain ⟨za, z⟩ := He.ba z
  obtain ⟨zb, zc⟩ := He.ba z
  exact ⟨⟨excB_ok z1, He.eqO_ok z2, He.eqO_ok z3, He.eqO_ok z4, He.eqO_ok z5, of_decide_eq_true z6, z7, He.eqO_ok z8, of_decide_eq_true z9, He.eqO_ok za, of_decide_eq_true zb⟩, fun f hf => He.eqO_ok (List.all_eq_true.mp zc f hf)⟩
def sysB (K : W.Frag) : Bool := match K.lookup sysModules with
  | some o => decide (o.cls = .type "dict")
  | none => false
theorem sysB_ok {K : W.Frag} (z : sysB K = true) : SysD K := by
  unfold sysB at z
  split at z
  · rename_i o e
    exact ⟨o, e, of_decide_eq_true z⟩
  · cases z
/-- the classes: name, base, fields -/
abbrev xcs : List (Str × EB × List Str) := [("InvalidKind", .val, ["place"]), ("InvalidPart", .val, ["index"]), ("NoRealm", .val, ["index"]), ("Taken", .val, ["index"]), ("TooDeep", .val, ["index"]), ("Needed", .val, ["name"]), ("InvalidTarget", .val, ["target"]), ("InvalidPort", .val, ["port"]), ("InvalidName", .val, ["name"]), ("InvalidTime", .val, ["time"]), ("Clash", .val, ["number"]), ("InvalidQuestion", .val, ["question"]), ("InvalidEvent", .val, ["event"]), ("InvalidText", .val, ["line", "word"]), ("UnknownCommand", .val, ["command"]), ("NoStation", .key, ["name"]), ("NoRound", .ind, ["number"]), ("NothingToUndo", .look, ["count"]), ("NotHeard", .look, ["host"]), ("NotSeen", .look, ["name"]), ("Heard", .run, ["number"]), ("TooMany", .over, ["limit"])]
def allB (K : W.Frag) : Bool := sysB K && (kitB K && (kitC K && xcs.all fun x => ecB K x.1 x.2.1 x.2.2))
/-! ### the facts by names -/
def iD (x q : Str) (i : Nat) : He.DefD := { at_ := (x, some "__init__"), name := "__init__", qual := q, params := defArgs (inClass (top i) 0), body := defBody (inClass (top i) 0), scope := defScope (inClass (top i) 0) }
def tD (x : Str) (i : Nat) : He.DefD := { at_ := (x, none), name := x, qual := x, params := defArgs (top i), body := defBody (top i), scope := defScope (top i) }
abbrev fnZ : List He.DefD := [iD "InvalidKind" "InvalidKind.__init__" 2, iD "InvalidPart" "InvalidPart.__init__" 3, iD "NoRealm" "NoRealm.__init__" 4, iD "Taken" "Taken.__init__" 5, iD "TooDeep" "TooDeep.__init__" 6, iD "Needed" "Needed.__init__" 7, iD "InvalidTarget" "InvalidTarget.__init__" 8, iD "InvalidPort" "InvalidPort.__init__" 9, iD "InvalidName" "InvalidName.__init__" 10, iD "InvalidTime" "InvalidTime.__init__" 11, iD "Clash" "Clash.__init__" 12, iD "InvalidQuestion" "InvalidQuestion.__init__" 13, iD "InvalidEvent" "InvalidEvent.__init__" 14, iD "InvalidText" "InvalidText.__init__" 15, iD "UnknownCommand" "UnknownCommand.__init__" 16, iD "NoStation" "NoStation.__init__" 17, iD "NoRound" "NoRound.__init__" 18, iD "NothingToUndo" "NothingToUndo.__init__" 19, iD "NotHeard" "NotHeard.__init__" 20, iD "NotSeen" "NotSeen.__init__" 21, iD "Heard" "Heard.__init__" 22, iD "TooMany" "TooMany.__init__" 23, tD "_law_pen" 25, tD "_law_draw" 26, tD "_law_odd" 27, tD "_law_made" 28, tD "_law_named" 29, tD "_law_fields" 30, tD "_law_classes" 31, tD "_law_bases" 32, tD "law" 33]
abbrev faZ : List He.Fa := [.glo "MeetError", .glo "InvalidKind", .glo "InvalidPart", .glo "NoRealm", .glo "Taken", .glo "TooDeep", .glo "Needed", .glo "InvalidTarget", .glo "InvalidPort", .glo "InvalidName", .glo "InvalidTime", .glo "Clash", .glo "InvalidQuestion", .glo "InvalidEvent", .glo "InvalidText", .glo "UnknownCommand", .glo "NoStation", .glo "NoRound", .glo "NothingToUndo", .glo "NotHeard", .glo "NotSeen", .glo "Heard", .glo "TooMany", .glo "_law_pen", .glo "_law_draw", .glo "_law_odd", .glo "_law_made", .glo "_law_named", .glo "_law_fields", .glo "_law_classes", .glo "_law_bases", .glo "law", .free "abs", .free "int", .free "list", .free "isinstance", .free "repr", .free "len", .free "range", .free "ValueError", .free "KeyError", .free "IndexError", .free "LookupError", .free "RuntimeError", .free "OverflowError"]
/-! ### the hook: the facts, and one word more -/
def frZ (n : Nat) (g : Addr → Option Obj) : W.Frag := He.frG g (sysModules :: He.asD g n)
def obZ (n : Nat) (g : Addr → Option Obj) : He.AlD × Bool := (He.obsD faZ fnZ (frZ n g), allB (frZ n g))
def hookZ (n : Nat) : W.Hook where
  α := He.AlD × Bool
  obs := fun s => obZ n s.heap.get?
  val := fun _ => (He.valD fnZ, true)
  says := fun _ h => ∃ K : W.Frag, He.SaysD faZ fnZ K ∧ allB K = true ∧ K.In h
  of := fun _ _ e => ⟨_, congrArg Prod.fst e, congrArg Prod.snd e, He.frG_in⟩
  keeps := fun _ _ _ z k => z.elim fun K y => ⟨K, y.1, y.2.1, W.Frag.In.keeps y.2.2 k⟩
abbrev lvl : Nat := 5
abbrev hkZ : W.Hook := hookZ lvl
def eyeZ (s : W.SharedT) : He.AlD × Bool := obZ lvl (HandSHeadRun.getT s)
theorem eyeZ_eq (s : W.SharedT) : eyeZ s = hkZ.obs s.abs := by
  have e : HandSHeadRun.getT s = s.abs.heap.get? := funext fun a => HandSHeadRun.getT_eq s a
  show obZ lvl (HandSHeadRun.getT s) = obZ lvl s.abs.heap.get?
  rw [e]
/-! ### all together -/
section
variable {P : Program} {w : World} {K : W.Frag} {h : Heap} {mg : Str → Option Value} {f : Addr}
theorem bt_of (X : K.In h) (G : h.Ns mainGlobals mg) (c : He.SaysD faZ fnZ K) : Bt mg where
  abs := He.free_ok X G (c.fact 32 rfl)
  int := He.free_ok X G (c.fact 33 rfl)
  list := He.free_ok X G (c.fact 34 rfl)
  isinstance := He.free_ok X G (c.fact 35 rfl)
  repr := He.free_ok X G (c.fact 36 rfl)
  len := He.free_ok X G (c.fact 37 rfl)
  range := He.free_ok X G (c.fact 38 rfl)
  ValueError := He.free_ok X G (c.fact 39 rfl)
  KeyError := He.free_ok X G (c.fact 40 rfl)
  IndexError := He.free_ok X G (c.fact 41 rfl)
  LookupError := He.free_ok X G (c.fact 42 rfl)
  RuntimeError := He.free_ok X G (c.fact 43 rfl)
  OverflowError := He.free_ok X G (c.fact 44 rfl)
theorem glo_at (X : K.In h) (G : h.Ns mainGlobals mg) (c : He.SaysD faZ fnZ K) (i : Nat) {x : Str} (e : faZ[i]? = some (.glo x)) : mg x = some (.ref (He.ga K x)) := He.glo_ok X G (c.fact i e)
theorem ec_of (q : allB K = true) (i : Nat) {x : Str} {b : EB} {fs : List Str} (e : xcs[i]? = some (x, b, fs)) : EC K (cA K x) (iA K x) b ∧ ∀ f ∈ fs, W.findIn K (.ref (cA K x)) f = some none := by
  have z := (He.ba (He.ba (He.ba q).2).2).2
  exact ecB_ok (List.all_eq_true.mp z (x, b, fs) (List.mem_of_getElem? e))
theorem tx_of (X : K.In h) (G : h.Ns mainGlobals mg) (c : He.SaysD faZ fnZ K) (q : allB K = true) (base : Heap) : TX P w K mg base where
  xInvalidKind := by
    obtain ⟨fd, F⟩ := c.def_ 0 (d := iD "InvalidKind" "InvalidKind.__init__" 2) rfl
    obtain ⟨T, no⟩ := ec_of q 0 (x := "InvalidKind") rfl
    exact ⟨fd, xc_InvalidKind F T (no "place" (List.mem_singleton.mpr rfl)) (glo_at X G c 1 rfl)⟩
  xInvalidPart := by
    obtain ⟨fd, F⟩ := c.def_ 1 (d := iD "InvalidPart" "InvalidPart.__init__" 3) rfl
    obtain ⟨T, no⟩ := ec_of q 1 (x := "InvalidPart") rfl
    exact ⟨fd, xc_InvalidPart F T (no "index" (List.mem_singleton.mpr rfl)) (glo_at X G c 2 rfl)⟩
  xNoRealm := by
    obtain ⟨fd, F⟩ := c.def_ 2 (d := iD "NoRealm" "NoRealm.__init__" 4) rfl
    obtain ⟨T, no⟩ := ec_of q 2 (x := "NoRealm") rfl
    exact ⟨fd, xc_NoRealm F T (no "index" (List.mem_singleton.mpr rfl)) (glo_at X G c 3 rfl)⟩
  xTaken := by
    obtain ⟨fd, F⟩ := c.def_ 3 (d := iD "Taken" "Taken.__init__" 5) rfl
    obtain ⟨T, no⟩ := ec_of q 3 (x := "Taken") rfl
    exact ⟨fd, xc_Taken F T (no "index" (List.mem_singleton.mpr rfl)) (glo_at X G c 4 rfl)⟩
  xTooDeep := by
    obtain ⟨fd, F⟩ := c.def_ 4 (d := iD "TooDeep" "TooDeep.__init__" 6) rfl
    obtain ⟨T, no⟩ := ec_of q 4 (x := "TooDeep") rfl
    exact ⟨fd, xc_TooDeep F T (no "index" (List.mem_singleton.mpr rfl)) (glo_at X G c 5 rfl)⟩
  xNeeded := by
    obtain ⟨fd, F⟩ := c.def_ 5 (d := iD "Needed" "Needed.__init__" 7) rfl
    obtain ⟨T, no⟩ := ec_of q 5 (x := "Needed") rfl
    exact ⟨fd, xc_Needed F T (no "name" (List.mem_singleton.mpr rfl)) (glo_at X G c 6 rfl)⟩
  xInvalidTarget := by
    obtain ⟨fd, F⟩ := c.def_ 6 (d := iD "InvalidTarget" "InvalidTarget.__init__" 8) rfl
    obtain ⟨T, no⟩ := ec_of q 6 (x := "InvalidTarget") rfl
    exact ⟨fd, xc_InvalidTarget F T (no "target" (List.mem_singleton.mpr rfl)) (glo_at X G c 7 rfl)⟩
  xInvalidPort := by
    obtain ⟨fd, F⟩ := c.def_ 7 (d := iD "InvalidPort" "InvalidPort.__init__" 9) rfl
    obtain ⟨T, no⟩ := ec_of q 7 (x := "InvalidPort") rfl
    exact ⟨fd, xc_InvalidPort F T (no "port" (List.mem_singleton.mpr rfl)) (glo_at X G c 8 rfl)⟩
  xInvalidName := by
    obtain ⟨fd, F⟩ := c.def_ 8 (d := iD "InvalidName" "InvalidName.__init__" 10) rfl
    obtain ⟨T, no⟩ := ec_of q 8 (x := "InvalidName") rfl
    exact ⟨fd, xc_InvalidName F T (no "name" (List.mem_singleton.mpr rfl)) (glo_at X G c 9 rfl)⟩
  xInvalidTime := by
    obtain ⟨fd, F⟩ := c.def_ 9 (d := iD "InvalidTime" "InvalidTime.__init__" 11) rfl
    obtain ⟨T, no⟩ := ec_of q 9 (x := "InvalidTime") rfl
    exact ⟨fd, xc_InvalidTime F T (no "time" (List.mem_singleton.mpr rfl)) (glo_at X G c 10 rfl)⟩
  xClash := by
    obtain ⟨fd, F⟩ := c.def_ 10 (d := iD "Clash" "Clash.__init__" 12) rfl
    obtain ⟨T, no⟩ := ec_of q 10 (x := "Clash") rfl
    exact ⟨fd, xc_Clash F T (no "number" (List.mem_singleton.mpr rfl)) (glo_at X G c 11 rfl)⟩
  xInvalidQuestion := by
    obtain ⟨fd, F⟩ := c.def_ 11 (d := iD "InvalidQuestion" "InvalidQuestion.__init__" 13) rfl
    obtain ⟨T, no⟩ := ec_of q 11 (x := "InvalidQuestion") rfl
    exact ⟨fd, xc_InvalidQuestion F T (no "question" (List.mem_singleton.mpr rfl)) (glo_at X G c 12 rfl)⟩
  xInvalidEvent := by
    obtain ⟨fd, F⟩ := c.def_ 12 (d := iD "InvalidEvent" "InvalidEvent.__init__" 14) rfl
    obtain ⟨T, no⟩ := ec_of q 12 (x := "InvalidEvent") rfl
    exact ⟨fd, xc_InvalidEvent F T (no "event" (List.mem_singleton.mpr rfl)) (glo_at X G c 13 rfl)⟩
  xInvalidText := by
    obtain ⟨fd, F⟩ := c.def_ 13 (d := iD "InvalidText" "InvalidText.__init__" 15) rfl
    obtain ⟨T, no⟩ := ec_of q 13 (x := "InvalidText") rfl
    exact ⟨fd, xc_InvalidText F T (no "line" (List.mem_cons_self)) (no "word" (List.mem_cons_of_mem _ List.mem_cons_self)) (glo_at X G c 14 rfl)⟩
  xUnknownCommand := by
    obtain ⟨fd, F⟩ := c.def_ 14 (d := iD "UnknownCommand" "UnknownCommand.__init__" 16) rfl
    obtain ⟨T, no⟩ := ec_of q 14 (x := "UnknownCommand") rfl
    exact ⟨fd, xc_UnknownCommand F T (no "command" (List.mem_singleton.mpr rfl)) (glo_at X G c 15 rfl)⟩
  xNoStation := by
    obtain ⟨fd, F⟩ := c.def_ 15 (d := iD "NoStation" "NoStation.__init__" 17) rfl
    obtain ⟨T, no⟩ := ec_of q 15 (x := "NoStation") rfl
    exact ⟨fd, xc_NoStation F T (no "name" (List.mem_singleton.mpr rfl)) (glo_at X G c 16 rfl)⟩
  xNoRound := by
    obtain ⟨fd, F⟩ := c.def_ 16 (d := iD "NoRound" "NoRound.__init__" 18) rfl
    obtain ⟨T, no⟩ := ec_of q 16 (x := "NoRound") rfl
    exact ⟨fd, xc_NoRound F T (no "number" (List.mem_singleton.mpr rfl)) (glo_at X G c 17 rfl)⟩
  xNothingToUndo := by
    obtain ⟨fd, F⟩ := c.def_ 17 (d := iD "NothingToUndo" "NothingToUndo.__init__" 19) rfl
    obtain ⟨T, no⟩ := ec_of q 17 (x := "NothingToUndo") rfl
    exact ⟨fd, xc_NothingToUndo F T (no "count" (List.mem_singleton.mpr rfl)) (glo_at X G c 18 rfl)⟩
  xNotHeard := by
    obtain ⟨fd, F⟩ := c.def_ 18 (d := iD "NotHeard" "NotHeard.__init__" 20) rfl
    obtain ⟨T, no⟩ := ec_of q 18 (x := "NotHeard") rfl
    exact ⟨fd, xc_NotHeard F T (no "host" (List.mem_singleton.mpr rfl)) (glo_at X G c 19 rfl)⟩
  xNotSeen := by
    obtain ⟨fd, F⟩ := c.def_ 19 (d := iD "NotSeen" "NotSeen.__init__" 21) rfl
    obtain ⟨T, no⟩ := ec_of q 19 (x := "NotSeen") rfl
    exact ⟨fd, xc_NotSeen F T (no "name" (List.mem_singleton.mpr rfl)) (glo_at X G c 20 rfl)⟩
  xHeard := by
    obtain ⟨fd, F⟩ := c.def_ 20 (d := iD "Heard" "Heard.__init__" 22) rfl
    obtain ⟨T, no⟩ := ec_of q 20 (x := "Heard") rfl
    exact ⟨fd, xc_Heard F T (no "number" (List.mem_singleton.mpr rfl)) (glo_at X G c 21 rfl)⟩
  xTooMany := by
    obtain ⟨fd, F⟩ := c.def_ 21 (d := iD "TooMany" "TooMany.__init__" 23) rfl
    obtain ⟨T, no⟩ := ec_of q 21 (x := "TooMany") rfl
    exact ⟨fd, xc_TooMany F T (no "limit" (List.mem_singleton.mpr rfl)) (glo_at X G c 22 rfl)⟩
/-- a def's datum for its callers -/
theorem fn1G {x : Str} {k : Nat} {base : Heap} {fd : FuncData} {st : Stmt} {ps : List Str} {sp : Sp} (F : FnP K x st f fd) (ok : FnG P w K mg base CX0 k f fd ps sp) (m : mg x = some (.ref f)) (b : Binds K fd ps []) : Fn1 P w K mg base x k f fd ps sp := ⟨ok, m, F.kp, b⟩
theorem facts (X : K.In h) (G : h.Ns mainGlobals mg) (hfa : mg "law" = some (.ref f)) (c : He.SaysD faZ fnZ K) (q : allB K = true) :
    ∃ fd : FuncData, (∀ (s : Shared) (v : Value), BindsTo s fd ⟨[v], []⟩ [("_law_script", v)]) ∧ ∀ base : Heap, K.In base → base.Ns mainGlobals mg → FnG P w K mg base CX0 5 f fd ["_law_script"] (spLaw K) := by
  obtain ⟨dpen, Fpen⟩ := c.def_ 22 (d := tD "_law_pen" 25) rfl
  obtain ⟨ddraw, Fdraw⟩ := c.def_ 23 (d := tD "_law_draw" 26) rfl
  obtain ⟨dodd, Fodd⟩ := c.def_ 24 (d := tD "_law_odd" 27) rfl
  obtain ⟨dmade, Fmade⟩ := c.def_ 25 (d := tD "_law_made" 28) rfl
  obtain ⟨dnamed, Fnamed⟩ := c.def_ 26 (d := tD "_law_named" 29) rfl
  obtain ⟨dfields, Ffields⟩ := c.def_ 27 (d := tD "_law_fields" 30) rfl
  obtain ⟨dclasses, Fclasses⟩ := c.def_ 28 (d := tD "_law_classes" 31) rfl
  obtain ⟨dbases, Fbases⟩ := c.def_ 29 (d := tD "_law_bases" 32) rfl
  obtain ⟨dlaw, Flaw⟩ := c.def_ 30 (d := tD "law" 33) rfl
  cases hfa.symm.trans (glo_at X G c 31 rfl)
  have B := bt_of X G c
  have sys := sysB_ok (He.ba q).1
  have kb := (He.ba (He.ba q).2).1
  have kc := (He.ba (He.ba (He.ba q).2).2).1
  have mE := glo_at X G c 0 (x := "MeetError") rfl
  have bl := FunD.bindsA (ps := ["_law_script"]) Flaw fun _ _ _ _ _ _ us hl => match us, hl with | [_], _ => rfl
  refine ⟨dlaw, fun s v => bl s [v] rfl, fun base _ _ => ?_⟩
  have T : TX P w K mg base := tx_of X G c q base
  have Dpen := fn1G (P := P) (w := w) (base := base) (x := "_law_pen") (st := top 25) Fpen (FnG.of (ok_law_pen B Fpen)) (glo_at X G c 23 rfl) (Fpen.bindsN fun _ _ _ _ _ _ us hl => match us, hl with | [_], _ => rfl)
  have Ddraw := fn1G (P := P) (w := w) (base := base) (x := "_law_draw") (st := top 26) Fdraw (FnG.of (ok_draw B Fdraw)) (glo_at X G c 24 rfl) (Fdraw.bindsN fun _ _ _ _ _ _ us hl => match us, hl with | [_, _], _ => rfl)
  have Dodd := fn1G (P := P) (w := w) (base := base) (x := "_law_odd") (st := top 27) Fodd (ok_odd B Fodd Ddraw) (glo_at X G c 25 rfl) (Fodd.bindsN fun _ _ _ _ _ _ us hl => match us, hl with | [_], _ => rfl)
  have Dmade := fn1G (P := P) (w := w) (base := base) (x := "_law_made") (st := top 28) Fmade (ok_law_made T Fmade) (glo_at X G c 26 rfl) (Fmade.bindsN fun _ _ _ _ _ _ us hl => match us, hl with | [_, _], _ => rfl)
  have Dnamed := fn1G (P := P) (w := w) (base := base) (x := "_law_named") (st := top 29) Fnamed (ok_law_named T Fnamed) (glo_at X G c 27 rfl) (Fnamed.bindsN fun _ _ _ _ _ _ us hl => match us, hl with | [_, _], _ => rfl)
  have Dfields := fn1G (P := P) (w := w) (base := base) (x := "_law_fields") (st := top 30) Ffields (FnG.of (ok_law_fields T Ffields)) (glo_at X G c 28 rfl) (Ffields.bindsN fun _ _ _ _ _ _ us hl => match us, hl with | [_], _ => rfl)
  have Dclasses := fn1G (P := P) (w := w) (base := base) (x := "_law_classes") (st := top 31) Fclasses (FnG.of (ok_law_classes B T kb Fclasses)) (glo_at X G c 29 rfl) (Fclasses.bindsN fun _ _ _ _ _ _ us hl => match us, hl with | [_], _ => rfl)
  have Dbases := fn1G (P := P) (w := w) (base := base) (x := "_law_bases") (st := top 32) Fbases (FnG.of (ok_law_bases B T mE kc Fbases)) (glo_at X G c 30 rfl) (Fbases.bindsN fun _ _ _ _ _ _ us hl => match us, hl with | [_], _ => rfl)
  exact ok_law B T sys kb Dpen Dodd Dmade Dnamed Dfields Dclasses Dbases Flaw
end
end L2.Mb
set_option maxRecDepth 100000
set_option maxHeartbeats 0
namespace L2.Mb
open PySem PySem.Spec PyProof.Rows Mx Evl
abbrev RZ : W.OpenRow := W.OpenLaw.row PySem.Challenge.rw_meetbehind_k26_errors_of_all_classes
abbrev looseZ : List Str := ["MeetError", "InvalidKind", "InvalidPart", "NoRealm", "Taken", "TooDeep", "Needed", "InvalidTarget", "InvalidPort", "InvalidName", "InvalidTime", "Clash", "InvalidText", "UnknownCommand", "NoStation", "NoRound", "NothingToUndo", "NotHeard", "NotSeen", "Heard", "TooMany", "InvalidQuestion", "InvalidEvent", "_law_pen", "_law_draw", "_law_odd", "_law_made", "_law_named", "_law_fields", "_law_classes", "_law_bases"]
theorem run (w : World) : HandSHeadRun.RunEq RZ (W.view RZ.prog [33]) hkZ eyeZ 8000 looseZ w := by
  intro os
  kernel_rfl
end L2.Mb
set_option maxRecDepth 100000
set_option maxHeartbeats 0
open PySem PySem.W PySem.Calls PyProof.Rows
theorem PySem.Challenge.cw_meetbehind_k26_errors_of_all_classes_holds : PySem.Challenge.rw_meetbehind_k26_errors_of_all_classes.Holds := by
  w_on; o_law
  refine HandSHeadRun.head_any (r := L2.Mb.RZ) (q := view L2.Mb.RZ.prog [33]) (H := L2.Mb.hkZ) (ob := L2.Mb.eyeZ) (M := 8000) (loose := L2.Mb.looseZ) (d := HandSHeadRun.topDef L2.Mb.RZ.prog 33) (kwd := []) L2.Mb.eyeZ_eq
    (by kernel_rfl) (fun s => by kernel_rfl) L2.Mb.run (by kernel_rfl) (by kernel_rfl) (by kernel_rfl) (by rfl) (by first | assumption | decide +kernel) (by decide +kernel) ⟨rfl, rfl, rfl, rfl, rfl, by decide +kernel⟩ ?hw ?hc
  case hw => w_witness2
  case hc =>
    refine L2.Mb.walkG (l := PySem.Challenge.rw_meetbehind_k26_errors_of_all_classes) (n := 63) (k := 5) (x := "_law_script") (CX := L2.CX0) rfl (by decide) (by kernel_rfl) ⟨rfl, by decide, by decide⟩ ?F (fun _ _ _ _ z => z)
    intro w mg fa h Y G hmg0
    obtain ⟨K, c, q, KX⟩ := Y
    have hmg : mg ("law" : PySem.Str) = some (.ref fa) := by
      have e : (HandSHeadRun.topDef (OpenLaw.row PySem.Challenge.rw_meetbehind_k26_errors_of_all_classes).prog 33).name = ("law" : PySem.Str) := by kernel_rfl
      rw [← e]
      exact hmg0
    obtain ⟨fd, hb, hF⟩ := L2.Mb.facts (P := (PySem.Challenge.rw_meetbehind_k26_errors_of_all_classes).prog) (w := w) KX G hmg c q
    exact ⟨K, fd, L2.Mb.spLaw K, KX, hb, fun H a ns hl _ hS => ⟨a, ns, rfl, hS, hl, fun _ => rfl⟩, hF⟩
