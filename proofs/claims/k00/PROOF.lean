import PyProof.Rows.All
import Wide.All
import OpenK.AllK
import Wide.FinOn
import HandS.ForExc
import HandS.TryMany
import HandS.Evl
import HandS.IsInst
import PySem.Challenge.RW_leastpromise_k00_whole_errors_and_what_t
set_option Elab.async false
set_option linter.all false
set_option maxRecDepth 100000
set_option maxHeartbeats 4000000
/-! Errors of one family: classes over one own class over Exception, each with an __init__ that stores one field. -/
namespace PySem
namespace PErr
open PySem.W PySem.Calls PyProof.Rows
abbrev tailE : List Value := [.type "Exception", .type "BaseException", .type "object"]
abbrev mroE (C B : Addr) : List Value := .ref C :: .ref B :: tailE
theorem tail_has (B : Addr) (X : String) : (Value.ref B :: tailE).contains (.type X) = tailE.contains (.type X) := by
  rw [List.contains_cons]; rfl
/-- what the written part says of an error class -/
structure Cl (K : Frag) (mg : Str → Option Value) (x : Str) (C B : Addr) : Prop where
  gC : mg x = some (.ref C)
  cls : ∃ nm q N bs sn sub ab col dd k0 k1 k2 k3 k5, K.lookup C = some (excClassObj nm q C N bs (.ref B :: tailE) true sn sub ab col dd k0 k1 k2 k3 k5 "Exception.__new__")
  sa : findIn K (.ref C) "__setattr__" = some (some (.builtin "object.__setattr__"))
  ga : findIn K (.ref C) "__getattribute__" = some (some (.builtin "BaseException.__getattribute__"))
  gg : findIn K (.ref C) "__getattr__" = some none
  kC : keepIn K (.ref C) = true
  exC : subIn K (.ref C) (.type "BaseException") = some true
  tyC : typeIn K (.ref C) = some (.type "type")
  hdC : hasDictIn K C = true
theorem one_size (v : Value) : [v].length ≤ sizeLine := by
  rw [sizeLine_eq]
  exact (by decide : 1 ≤ 16777216)
theorem ldC {M : Model} {s : Shared} {name : Str} {scope : Scope} {L a : Addr} {cd : Value} {m : Str → Option Value} {x : Str} {pos : Pos} {v : Value} {Q : Value → Shared → Prop} {A : Around} {E : Value → Shared → Prop} (hn : s.heap.Ns L m) (hv : m x = some v) (h : Q v s)
    (hk : scope.kind = .function := by rfl) (hl : (envOfC name scope L a cd).kindOf x = some .local := by rfl) (hd : (x == ("__debug__" : Str)) = false := by decide) :
    wpAny M A (eval (.Name x pos) (envOfC name scope L a cd)) Q E s := wpAny_Name (wpAny_loadName_local hk hl hn hv h) hd
open Builtin Builtin.ObjectAttr in
/-- self.name = v on an exception of the family that has no dict yet -/
theorem osa {prog : Program} {w : World} {A : Around} {R : Result → Shared → Prop} {hp : Heap} {g : Array GenState} {d : Drawn} {t : Nat} {os : OsState}
    {K : W.Frag} {name : Str} {tk : Tok} {v : Value} {x C B : Addr} {fv : Array Value} {cd : ClassData}
    (X : K.In hp) (hx : hp.get? x = some { cls := .ref C, data := .fields fv }) (hcd : W.clsIn K C = some cd) (hm : cd.mro = mroE C B) (hh : cd.hasDict = true) (ha : W.findIn K (.ref C) name = some none)
    (hq : ∀ h' tk' dx, (∀ b o, b ≠ x → hp.get? b = some o → h'.get? b = some o) → hp.objs.size ≤ dx → dx ≠ x → h'.get? x = some { cls := .ref C, dict := some dx, data := .fields fv } →
      h'.Ns1 dx (fun y => if y = name then some v else none) → R (.ok (.ret .none)) ⟨h', g, d, tk', os⟩) :
    codeAny (model prog w) A (.call (.builtin "object.__setattr__") ⟨[.ref x, .str name tk, v], []⟩) R ⟨hp, g, d, t, os⟩ := by
  have I : W.InstAt hp x { cls := .ref C, data := .fields fv } C none := ⟨hx, rfl, rfl, trivial⟩
  have hxs : x ≠ hp.objs.size := Nat.ne_of_lt (Heap.lt_size hx)
  have SF := F.store_object
  have hob : (mroE C B).contains (.type "object") = true := by
    rw [List.contains_cons, tail_has]
    exact (Bool.or_eq_true _ _).mpr (.inr (by decide +kernel))
  have hmo : W.mroIn K C (.type "object") = some true := by
    unfold W.mroIn
    rw [hcd, Option.bind_some, hm, if_neg (show ¬ (List.isEmpty (mroE C B) = true) from Bool.false_ne_true), hob]
  have isO : W.Looks (model prog w) hp (isInstance (.ref x) (.type "object")) true := I.type.andThen (W.looks_mroIn X hmo)
  refine codeAny_call_builtin SF.slot.plain SF.entry ?_
  refine @W.check_slot (model prog w) _ _ ⟨hp, g, d, t, os⟩ "object.__setattr__" "object" "__setattr__" (.ref x) [.str name tk, v] [] _ SF.kind SF.split isO (SF.args (.ref x) (.str name tk) v) ?_
  have hmr : W.Looks (model prog w) hp (mroOf (.ref C)) cd.mro := (W.looks_clsIn X hcd).andThen .now
  have hpass : refuseLoop (.ref x) "__setattr__" cd.mro = pure () := by
    rw [hm, refuseLoop_ref, refuseLoop_ref]
    exact F.store_Exception.passes _
  rw [W.osa_eq, refuse_eq]
  refine wpAny_bind (wpAny_bind (I.type.at (wpAny_bind (hmr.at ?_))))
  rw [hpass]
  have LN : W.Looks (model prog w) hp (storeTaker? none) none := .now
  refine wpAny_pure (wpAny_bind (I.type.at (wpAny_bind ((W.looks_findIn X ha).at (wpAny_bind (LN.at ?_))))))
  show wpAny _ _ (storeInOwnDict (.ref x) (.ref C) (.str name tk) name v false) _ _ _
  have hcls : W.Looks (model prog w) hp (classData C) cd := W.looks_clsIn X hcd
  obtain ⟨nm, bs, mro, ns, qn, hd, sn, sb, ab, col, del⟩ := cd
  dsimp only at hh
  subst hh
  unfold storeInOwnDict ownDictForStores
  repeat (first | with_reducible refine HandSPX.store_in_new ?_ ?_ | with_reducible refine wpAny_loadPart_at hx ?_ | with_reducible refine hcls.at ?_ | wp_step)
  · exact ⟨_, #[], _, (Heap.get?_update_ne _ _ _ _ hxs.symm).trans (Heap.get?_push_at rfl rfl), rfl, fun e he => absurd he (by simp), fun _ => rfl⟩
  · intro h' tk' hn' hs
    have hx₁ : (hp.push { cls := .type "dict", data := .dict #[] }).get? x = some { cls := .ref C, data := .fields fv } := Heap.get?_push_of_some _ hx
    refine hq h' tk' hp.objs.size (fun b o hb ho => ?_) (Nat.le_refl _) hxs.symm ?_ hn'
    · exact (hs.2 b (Nat.ne_of_lt (Heap.lt_size ho))).trans ((Heap.get?_update_ne _ _ _ _ hb).trans (Heap.get?_push_of_some _ ho))
    · exact (hs.2 x hxs).trans (Heap.get?_update_self _ hx₁ rfl)
end PErr
end PySem

namespace PySem
namespace PErrA
open PySem.W PySem.Calls PyProof.Rows PySem.PErr
/-! ### the text of __init__(self, at): self.at = at -/
def args (p1 p2 : Pos) : Arguments := { posonlyargs := [], args := [⟨"self", none, p1⟩, ⟨"at", none, p2⟩], vararg := none, kwonlyargs := [], kw_defaults := [], kwarg := none, defaults := [] }
def body (q1 q2 q3 q4 : Pos) : List Stmt := [.Assign [.Attribute (.Name "self" q1) "at" q2] (.Name "at" q3) q4]
def scop : Scope := { kind := .function, names := [(PySem.Str.ofString "self", .local), (PySem.Str.ofString "at", .local)], isGenerator := false, isCoroutine := false, more := [] }
/-- what the written part says of the class named x at C (its base at B) and of its __init__ at fI -/
structure Txt (K : Frag) (mg : Str → Option Value) (x q : Str) (C B fI : Addr) : Prop where
  base : PySem.PErr.Cl K mg x C B
  noN : findIn K (.ref C) "at" = some none
  iC : findIn K (.ref C) "__init__" = some (some (.ref fI))
  tC : typeIn K (.ref fI) = some (.type "function")
  fn : ∃ (oc : Value) (od : Option Addr) (doc pm : Value) (an : Option Addr) (cdv ct : Value) (osl : Array (Option Value)) (p1 p2 q1 q2 q3 q4 : Pos),
    K.lookup fI = some ⟨oc, od, .func (fnOf "__init__" q (args p1 p2) (body q1 q2 q3 q4) scop .none .none doc pm an cdv ct), osl⟩ ∧ codeIn K cdv q = true
/-- what __init__ leaves of a fresh exception at x -/
structure InitEnd (h h' : Heap) (x C dx t1 : Addr) (v : Value) : Prop where
  keep : ∀ b o, b ≠ x → h.get? b = some o → h'.get? b = some o
  obj : h'.get? x = some { cls := .ref C, dict := some dx, data := .fields #[.ref t1, .none, .none, .none, .bool false, .none] }
  dbig : h.objs.size ≤ dx
  dne : dx ≠ x
  ns : h'.Ns1 dx (fun y => if y = "at" then some v else none)
structure OwnMade (h h' : Heap) (e C d : Addr) (v : Value) : Prop where
  keep : ∀ b o, h.get? b = some o → h'.get? b = some o
  new : h.objs.size ≤ e
  obj : ∃ oe vs, h'.get? e = some oe ∧ oe.cls = .ref C ∧ oe.dict = some d ∧ oe.data = .fields vs ∧ vs[1]? = some .none
  dbig : h.objs.size ≤ d
  dne : d ≠ e
  ns : h'.Ns1 d (fun y => if y = "at" then some v else none)
section
variable {prog : Program} {w : World} {A : Around} {E : Value → Shared → Prop} {R : Result → Shared → Prop} {s : Shared} {K : Frag} {mg : Str → Option Value} {C B fI : Addr} {cn q : Str}
theorem init_ok (T : Txt K mg cn q C B fI) {x t0 : Addr} {v : Value} {args : Args} (hba : ∀ (p1 p2 q1 q2 q3 q4 : Pos) (doc pm : Value) (an : Option Addr) (cdv ct : Value) (s : Shared), BindsTo s (fnOf "__init__" q (PErrA.args p1 p2) (body q1 q2 q3 q4) scop .none .none doc pm an cdv ct) args [("self", .ref x), ("at", v)]) (X : K.In s.heap) (hlim : s.heap.NoLimit) (hx : s.heap.get? x = some (HandSPX.excO C t0)) (hroom : A.depth < recursionLimit)
    (hq : ∀ h' tk dx, InitEnd s.heap h' x C dx t0 v → R (.ok (.ret .none)) { s with heap := h', toks := tk }) :
    codeAny (model prog w) A (.call (.ref fI) args) R s := by
  obtain ⟨oc, od, doc, pm, an, cdv, ct, osl, p1, p2, q1, q2, q3, q4, ho, hcd⟩ := T.fn
  obtain ⟨nm, qq, N, bs, sn, sub, ab, col, dd, k0, k1, k2, k3, k5, hC⟩ := T.base.cls
  have hcl : clsIn K C = some { name := nm, bases := bs, mro := mroE C B, ns := N, qualname := qq, hasDict := true, slotNames := sn, subclasses := sub, abstract := ab, collection := col, hasDel := false } := by unfold clsIn; rw [hC] <;> rfl
  refine Att.call_fn (binds := [("self", .ref x), ("at", v)]) X hlim ho hcd hroom (hba p1 p2 q1 q2 q3 q4 doc pm an cdv ct s) (by first | rfl | decide | with_unfolding_all rfl) (fun s₁ IC => ?_) rfl rfl rfl
  obtain ⟨h₁, tk₁, rfl⟩ := IC.toInCall.same
  have k : ∀ b o, s.heap.get? b = some o → h₁.get? b = some o := IC.toInCall.keep
  have hn := IC.toInCall.ns
  have X₁ : K.In h₁ := X.keeps k
  have hx₁ := k _ _ hx
  show wpAny _ _ (execs _ _) _ _ _
  refine wpAny_execs_cons (plainObj_wpAny_Assign_Attribute ?_)
  refine PErr.ldC (v := v) hn (by first | rfl | with_unfolding_all rfl | kernel_rfl) (PErr.ldC (v := .ref x) hn (by first | rfl | with_unfolding_all rfl | kernel_rfl) ?_)
  refine set_plain X₁ (ox := HandSPX.excO C t0) (od := none) ⟨hx₁, rfl, rfl, trivial⟩ T.base.sa ?_
  refine PErr.osa X₁ hx₁ hcl rfl rfl T.noN (fun h₃ tk₃ dx k₃ dn dne hx₃ hn₃ => ?_)
  show wpAny _ _ (execs _ _) _ _ _
  have z : s.heap.objs.size < h₁.objs.size := hn.lt
  exact wpAny_execs_nil (hq h₃ tk₃ dx ⟨fun b o hb e => k₃ b o hb (k b o e), hx₃, Nat.le_of_lt (Nat.lt_of_lt_of_le z dn), dne, hn₃⟩)
theorem made_ok (T : Txt K mg cn q C B fI) {v : Value} (X : K.In s.heap) (hlim : s.heap.NoLimit) (hroom : A.depth + 1 < recursionLimit)
    (hq : ∀ h' tk e d, OwnMade s.heap h' e C d v → R (.ok (.ret (.ref e))) { s with heap := h', toks := tk }) :
    codeAny (model prog w) A (.call (.ref C) ⟨[v], []⟩) R s := by
  obtain ⟨nm, qq, N, bs, sn, sub, ab, col, dd, k0, k1, k2, k3, k5, hC⟩ := T.base.cls
  obtain ⟨hp, g, dr, tk, os⟩ := s
  have k : ∀ b o, hp.get? b = some o → ((hp.push (kdv_tup [v])).push (HandSPX.excO C hp.objs.size)).get? b = some o := fun b o e => Heap.get?_push_of_some _ (Heap.get?_push_of_some _ e)
  have hget : ((hp.push (kdv_tup [v])).push (HandSPX.excO C hp.objs.size)).get? (hp.objs.size + 1) = some (HandSPX.excO C hp.objs.size) := by heap_get
  refine HandSPX.call_own F.excBase_Exception (fun X => PErr.tail_has B X) (X _ _ hC) (looks_findIn X T.iC) (fun self => bind_fn X self T.tC) (PErr.one_size v) ?_
  refine init_ok (s := ⟨(hp.push (kdv_tup [v])).push (HandSPX.excO C hp.objs.size), g, dr, tk, os⟩) T (v := v) (fun _ _ _ _ _ _ _ _ _ _ _ _ => BindsTo.of_eq (by first | rfl | with_unfolding_all rfl)) (X.keeps k) (hlim.keeps k) hget ?_ fun h' tk' dx ⟨k', hx, dn, dne, hns⟩ => ?_
  · show A.depth + 1 < recursionLimit
    exact hroom
  · have old : ∀ b o, hp.get? b = some o → h'.get? b = some o := fun b o e => k' b o (Nat.ne_of_lt (Nat.lt_succ_of_lt (Heap.lt_size e))) (k b o e)
    have z : hp.objs.size + 1 + 1 ≤ dx := by
      first
        | (simpa only [Heap.size_push] using dn)
        | exact dn
        | (have q := dn; rw [Heap.size_push, Heap.size_push] at q; exact q)
    exact ⟨rfl, hq h' tk' (hp.objs.size + 1) dx ⟨old, Nat.le_succ _, ⟨_, _, hx, rfl, rfl, rfl, rfl⟩, Nat.le_trans (Nat.le_trans (Nat.le_succ _) (Nat.le_succ _)) z, dne, hns⟩⟩
end
end PErrA
end PySem
namespace L2
open PySem PySem.Spec PyProof.Rows
theorem relO_A {v : V} {v' : Value} (r : RelV v v') (f : Str) : RelO (List.lookup f [(("at" : Str), v)]) (if f = "at" then some v' else none) := by
  by_cases hw : f = "at"
  · subst hw
    rw [if_pos rfl]
    have q : List.lookup ("at" : Str) [(("at" : Str), v)] = some v := by simp [List.lookup]
    rw [q]
    exact r
  · rw [if_neg hw]
    have qw : (f == ("at" : Str)) = false := by simpa using hw
    have q2 : List.lookup f [(("at" : Str), v)] = none := by simp [List.lookup, qw]
    rw [q2]
    trivial
section
variable {X : Cx} {C B fI : Addr} {cn q : Str}
/-- C(e) -/
def tMkA (C : Addr) (ta : TA) : L2.St → Hp → XK → Prop := fun σ H Q => ta σ H fun vs H1 => ∃ v, vs = [v] ∧ ∀ d, H1 d = none → Q (.ref C) (some d) (upd H1 d (.xd [(("at" : Str), v)]))
theorem pmk_A {a : Expr} {ta : TA} {p pos : Pos} {k : Nat} (T : PySem.PErrA.Txt X.K X.mg cn q C B fI) (hr : Room k X.A) (ha : PA X [a] ta) (hg : Gl X cn) (hdb : (cn == ("__debug__" : Str)) = false)
    (he : starEach (a :: []) X.env = (false, eval a X.env) :: starEach [] X.env := by rfl) (hpl : (backTo pos (starEach [] X.env)).any (·.1) = false := by rfl) :
    PMk X (.Call (.Name cn p) [a] [] pos) (tMkA C ta) := by
  intro pins s σ H Q I h
  refine wpAny_Call_Name_kw (ld_glob I hg T.base.gC ?_ hdb)
  refine PySem.W.callWith_K (h₀ := X.base) I.ok.mod.kin T.base.kC (thn (ha.run pos pins s σ H _ I h) fun us s1 hh => ?_) he hpl
  obtain ⟨vs, H1, I1, r1, v, ev, q1⟩ := hh
  subst ev
  refine ⟨I1.kIn, ?_⟩
  cases r1 with
  | cons rv rn =>
    rename_i v' us'
    cases rn
    show wpAny _ _ (call (.ref C) [v']) _ _ _
    have hlim := I1.nolimit
    obtain ⟨hp, g, dr, tk, os⟩ := s1
    refine wpAny_call (PySem.PErrA.made_ok T I1.kIn hlim (by have := hr.dp; omega) fun h' tk' e d M => ?_)
    show MkP X pins σ Q (.ref e) ⟨h', g, dr, tk', os⟩
    obtain ⟨oe, fv, hoe, hc, hd, hdat, h1⟩ := M.obj
    have hns := M.ns
    obtain ⟨G', g1, g2⟩ := restrict h' fun b => decide (b ≠ e)
    have gk : ∀ b, b ≠ e → G'.get? b = h'.get? b := fun b hb => g1 b (decide_eq_true hb)
    have ge : G'.get? e = none := g2 e (by simp)
    have old : ∀ b o, hp.get? b = some o → G'.get? b = some o := fun b o q => (gk b (Nat.ne_of_lt (Nat.lt_of_lt_of_le (Heap.lt_size q) M.new))).trans (M.keep b o q)
    have ob : ObjOk X.prog X.w (upd H1 d (.xd [(("at" : Str), v)])) G' d (.xd [(("at" : Str), v)]) :=
      ⟨_, hns.at (fun o q => (gk d M.dne).trans q), fun f => relO_A rv f⟩
    have J : Inv X pins σ (upd H1 d (.xd [(("at" : Str), v)])) ⟨G', g, dr, tk', os⟩ := I1.laid (t' := tk') old M.dbig ob
    refine ⟨e, oe, fv, ⟨G', g, dr, tk', os⟩, _, .ref C, some d, rfl, J, fun b o q => ?_, ge, hoe, ⟨hc, hd⟩, hdat, h1, ?_, rfl, I1.bare, raises_own T.base.exC T.base.tyC, q1 d (I1.hok.fresh M.dbig)⟩
    · by_cases hb : b = e
      · have q' : G'.get? b = some o := q
        rw [hb, ge] at q'; cases q'
      · exact (gk b hb).symm.trans q
    · rw [upd_ne (Ne.symm M.dne)]
      exact I1.hok.fresh M.new
/-- raise C(e) -/
def tRaiseA (C : Addr) (W : WX) (ta : TA) : TS := fun _ σ H => tMkA C ta σ H fun cls d H' => W cls d σ H'
theorem ps_raise_A {a : Expr} {ta : TA} {W : WX} {p pos pos2 : Pos} {k : Nat} (hc : X.calm = true) (T : PySem.PErrA.Txt X.K X.mg cn q C B fI) (hr : Room k X.A) (tk : Takes X W) (ha : PA X [a] ta) (hg : Gl X cn) (hdb : (cn == ("__debug__" : Str)) = false)
    (he : starEach (a :: []) X.env = (false, eval a X.env) :: starEach [] X.env := by rfl) (hpl : (backTo pos (starEach [] X.env)).any (·.1) = false := by rfl) :
    PS X (.Raise (some (.Call (.Name cn p) [a] [] pos)) none pos2) (tRaiseA C W ta) := ps_raise hc tk (pmk_A T hr ha hg hdb he hpl)
/-- e.at, e the exception that the suite holds -/
def tFldA (K : PySem.W.Frag) (mg : Str → Option Value) (a : Addr) (cls : Value) (d : Option Addr) (te : TE) : TE := fun σ H Q => te σ H fun x H1 => x = .ref a ∧ ∃ (cn q : Str) (C B fI : Addr), PySem.PErrA.Txt K mg cn q C B fI ∧ cls = .ref C ∧ ∃ (dd : Addr) (v : V), d = some dd ∧ H1 dd = some (.xd [(("at" : Str), v)]) ∧ Q v H1
theorem pe_fld_A {a : Addr} {oe : Obj} {cls : Value} {d : Option Addr} {pn : List (Addr × Obj)} {e : Expr} {te : TE} {pos : Pos} (hz : Zc cls d oe) (hf : ∃ vs, oe.data = .fields vs) (he : PE (X.suite a ((a, oe) :: pn)) e te)
    (hb : attributeBase e "at" X.env (eval e X.env) = eval e X.env := by rfl) :
    PE (X.suite a ((a, oe) :: pn)) (.Attribute e "at" pos) (tFldA X.K X.mg a cls d te) := by
  refine ⟨fun pins s σ H Q I h => ?_⟩
  refine attr_of hb (thn (he.run pins s σ H _ I h) fun u s1 hh => ?_)
  obtain ⟨x, H1, I1, rx, ex, cn, q, C, B, fI, T, ec, dd, v, ed, ea, qq⟩ := hh
  subst ex
  obtain rfl : u = Value.ref a := rx
  subst ec
  subst ed
  obtain ⟨ha, _⟩ := I1.pin (a, oe) (List.mem_append_left _ List.mem_cons_self)
  obtain ⟨vs, hd⟩ := hf
  have hx : ObjOk X.prog X.w H1 s1.heap dd (.xd [(("at" : Str), v)]) := I1.hok dd _ ea
  obtain ⟨mA, hns, hr⟩ := hx
  obtain ⟨od, ho, hl⟩ := lookIn_ns hns
  have l : List.lookup ("at" : Str) [(("at" : Str), v)] = some v := by simp [List.lookup]
  obtain ⟨u, hu, ru⟩ := RelO.some_of (v := v) (o := mA "at") (by rw [← l]; exact hr "at")
  have J : PySem.W.InstAt s1.heap a oe C (some od) := ⟨ha, hz.1, by unfold PySem.W.notCls; rw [hd] <;> rfl, by rw [hz.2]; exact ho⟩
  exact HandSPX.exc_get I1.kIn J T.base.ga T.base.gg T.base.exC (PySem.W.findObj_own T.base.hdC T.noN rfl (by rw [hl, hu])) (handed_of ru) ⟨v, H1, I1.tok _, ru, qq⟩
end
end L2

namespace PySem
namespace PErrW
open PySem.W PySem.Calls PyProof.Rows PySem.PErr
/-! ### the text of __init__(self, word): self.word = word -/
def args (p1 p2 : Pos) : Arguments := { posonlyargs := [], args := [⟨"self", none, p1⟩, ⟨"word", none, p2⟩], vararg := none, kwonlyargs := [], kw_defaults := [], kwarg := none, defaults := [] }
def body (q1 q2 q3 q4 : Pos) : List Stmt := [.Assign [.Attribute (.Name "self" q1) "word" q2] (.Name "word" q3) q4]
def scop : Scope := { kind := .function, names := [(PySem.Str.ofString "self", .local), (PySem.Str.ofString "word", .local)], isGenerator := false, isCoroutine := false, more := [] }
/-- what the written part says of the class named x at C (its base at B) and of its __init__ at fI -/
structure Txt (K : Frag) (mg : Str → Option Value) (x q : Str) (C B fI : Addr) : Prop where
  base : PySem.PErr.Cl K mg x C B
  noN : findIn K (.ref C) "word" = some none
  iC : findIn K (.ref C) "__init__" = some (some (.ref fI))
  tC : typeIn K (.ref fI) = some (.type "function")
  fn : ∃ (oc : Value) (od : Option Addr) (doc pm : Value) (an : Option Addr) (cdv ct : Value) (osl : Array (Option Value)) (p1 p2 q1 q2 q3 q4 : Pos),
    K.lookup fI = some ⟨oc, od, .func (fnOf "__init__" q (args p1 p2) (body q1 q2 q3 q4) scop .none .none doc pm an cdv ct), osl⟩ ∧ codeIn K cdv q = true
/-- what __init__ leaves of a fresh exception at x -/
structure InitEnd (h h' : Heap) (x C dx t1 : Addr) (v : Value) : Prop where
  keep : ∀ b o, b ≠ x → h.get? b = some o → h'.get? b = some o
  obj : h'.get? x = some { cls := .ref C, dict := some dx, data := .fields #[.ref t1, .none, .none, .none, .bool false, .none] }
  dbig : h.objs.size ≤ dx
  dne : dx ≠ x
  ns : h'.Ns1 dx (fun y => if y = "word" then some v else none)
structure OwnMade (h h' : Heap) (e C d : Addr) (v : Value) : Prop where
  keep : ∀ b o, h.get? b = some o → h'.get? b = some o
  new : h.objs.size ≤ e
  obj : ∃ oe vs, h'.get? e = some oe ∧ oe.cls = .ref C ∧ oe.dict = some d ∧ oe.data = .fields vs ∧ vs[1]? = some .none
  dbig : h.objs.size ≤ d
  dne : d ≠ e
  ns : h'.Ns1 d (fun y => if y = "word" then some v else none)
section
variable {prog : Program} {w : World} {A : Around} {E : Value → Shared → Prop} {R : Result → Shared → Prop} {s : Shared} {K : Frag} {mg : Str → Option Value} {C B fI : Addr} {cn q : Str}
theorem init_ok (T : Txt K mg cn q C B fI) {x t0 : Addr} {v : Value} {args : Args} (hba : ∀ (p1 p2 q1 q2 q3 q4 : Pos) (doc pm : Value) (an : Option Addr) (cdv ct : Value) (s : Shared), BindsTo s (fnOf "__init__" q (PErrW.args p1 p2) (body q1 q2 q3 q4) scop .none .none doc pm an cdv ct) args [("self", .ref x), ("word", v)]) (X : K.In s.heap) (hlim : s.heap.NoLimit) (hx : s.heap.get? x = some (HandSPX.excO C t0)) (hroom : A.depth < recursionLimit)
    (hq : ∀ h' tk dx, InitEnd s.heap h' x C dx t0 v → R (.ok (.ret .none)) { s with heap := h', toks := tk }) :
    codeAny (model prog w) A (.call (.ref fI) args) R s := by
  obtain ⟨oc, od, doc, pm, an, cdv, ct, osl, p1, p2, q1, q2, q3, q4, ho, hcd⟩ := T.fn
  obtain ⟨nm, qq, N, bs, sn, sub, ab, col, dd, k0, k1, k2, k3, k5, hC⟩ := T.base.cls
  have hcl : clsIn K C = some { name := nm, bases := bs, mro := mroE C B, ns := N, qualname := qq, hasDict := true, slotNames := sn, subclasses := sub, abstract := ab, collection := col, hasDel := false } := by unfold clsIn; rw [hC] <;> rfl
  refine Att.call_fn (binds := [("self", .ref x), ("word", v)]) X hlim ho hcd hroom (hba p1 p2 q1 q2 q3 q4 doc pm an cdv ct s) (by first | rfl | decide | with_unfolding_all rfl) (fun s₁ IC => ?_) rfl rfl rfl
  obtain ⟨h₁, tk₁, rfl⟩ := IC.toInCall.same
  have k : ∀ b o, s.heap.get? b = some o → h₁.get? b = some o := IC.toInCall.keep
  have hn := IC.toInCall.ns
  have X₁ : K.In h₁ := X.keeps k
  have hx₁ := k _ _ hx
  show wpAny _ _ (execs _ _) _ _ _
  refine wpAny_execs_cons (plainObj_wpAny_Assign_Attribute ?_)
  refine PErr.ldC (v := v) hn (by first | rfl | with_unfolding_all rfl | kernel_rfl) (PErr.ldC (v := .ref x) hn (by first | rfl | with_unfolding_all rfl | kernel_rfl) ?_)
  refine set_plain X₁ (ox := HandSPX.excO C t0) (od := none) ⟨hx₁, rfl, rfl, trivial⟩ T.base.sa ?_
  refine PErr.osa X₁ hx₁ hcl rfl rfl T.noN (fun h₃ tk₃ dx k₃ dn dne hx₃ hn₃ => ?_)
  show wpAny _ _ (execs _ _) _ _ _
  have z : s.heap.objs.size < h₁.objs.size := hn.lt
  exact wpAny_execs_nil (hq h₃ tk₃ dx ⟨fun b o hb e => k₃ b o hb (k b o e), hx₃, Nat.le_of_lt (Nat.lt_of_lt_of_le z dn), dne, hn₃⟩)
theorem made_ok (T : Txt K mg cn q C B fI) {v : Value} (X : K.In s.heap) (hlim : s.heap.NoLimit) (hroom : A.depth + 1 < recursionLimit)
    (hq : ∀ h' tk e d, OwnMade s.heap h' e C d v → R (.ok (.ret (.ref e))) { s with heap := h', toks := tk }) :
    codeAny (model prog w) A (.call (.ref C) ⟨[v], []⟩) R s := by
  obtain ⟨nm, qq, N, bs, sn, sub, ab, col, dd, k0, k1, k2, k3, k5, hC⟩ := T.base.cls
  obtain ⟨hp, g, dr, tk, os⟩ := s
  have k : ∀ b o, hp.get? b = some o → ((hp.push (kdv_tup [v])).push (HandSPX.excO C hp.objs.size)).get? b = some o := fun b o e => Heap.get?_push_of_some _ (Heap.get?_push_of_some _ e)
  have hget : ((hp.push (kdv_tup [v])).push (HandSPX.excO C hp.objs.size)).get? (hp.objs.size + 1) = some (HandSPX.excO C hp.objs.size) := by heap_get
  refine HandSPX.call_own F.excBase_Exception (fun X => PErr.tail_has B X) (X _ _ hC) (looks_findIn X T.iC) (fun self => bind_fn X self T.tC) (PErr.one_size v) ?_
  refine init_ok (s := ⟨(hp.push (kdv_tup [v])).push (HandSPX.excO C hp.objs.size), g, dr, tk, os⟩) T (v := v) (fun _ _ _ _ _ _ _ _ _ _ _ _ => BindsTo.of_eq (by first | rfl | with_unfolding_all rfl)) (X.keeps k) (hlim.keeps k) hget ?_ fun h' tk' dx ⟨k', hx, dn, dne, hns⟩ => ?_
  · show A.depth + 1 < recursionLimit
    exact hroom
  · have old : ∀ b o, hp.get? b = some o → h'.get? b = some o := fun b o e => k' b o (Nat.ne_of_lt (Nat.lt_succ_of_lt (Heap.lt_size e))) (k b o e)
    have z : hp.objs.size + 1 + 1 ≤ dx := by
      first
        | (simpa only [Heap.size_push] using dn)
        | exact dn
        | (have q := dn; rw [Heap.size_push, Heap.size_push] at q; exact q)
    exact ⟨rfl, hq h' tk' (hp.objs.size + 1) dx ⟨old, Nat.le_succ _, ⟨_, _, hx, rfl, rfl, rfl, rfl⟩, Nat.le_trans (Nat.le_trans (Nat.le_succ _) (Nat.le_succ _)) z, dne, hns⟩⟩
end
end PErrW
end PySem
namespace L2
open PySem PySem.Spec PyProof.Rows
theorem relO_W {v : V} {v' : Value} (r : RelV v v') (f : Str) : RelO (List.lookup f [(("word" : Str), v)]) (if f = "word" then some v' else none) := by
  by_cases hw : f = "word"
  · subst hw
    rw [if_pos rfl]
    have q : List.lookup ("word" : Str) [(("word" : Str), v)] = some v := by simp [List.lookup]
    rw [q]
    exact r
  · rw [if_neg hw]
    have qw : (f == ("word" : Str)) = false := by simpa using hw
    have q2 : List.lookup f [(("word" : Str), v)] = none := by simp [List.lookup, qw]
    rw [q2]
    trivial
section
variable {X : Cx} {C B fI : Addr} {cn q : Str}
/-- C(e) -/
def tMkW (C : Addr) (ta : TA) : L2.St → Hp → XK → Prop := fun σ H Q => ta σ H fun vs H1 => ∃ v, vs = [v] ∧ ∀ d, H1 d = none → Q (.ref C) (some d) (upd H1 d (.xd [(("word" : Str), v)]))
theorem pmk_W {a : Expr} {ta : TA} {p pos : Pos} {k : Nat} (T : PySem.PErrW.Txt X.K X.mg cn q C B fI) (hr : Room k X.A) (ha : PA X [a] ta) (hg : Gl X cn) (hdb : (cn == ("__debug__" : Str)) = false)
    (he : starEach (a :: []) X.env = (false, eval a X.env) :: starEach [] X.env := by rfl) (hpl : (backTo pos (starEach [] X.env)).any (·.1) = false := by rfl) :
    PMk X (.Call (.Name cn p) [a] [] pos) (tMkW C ta) := by
  intro pins s σ H Q I h
  refine wpAny_Call_Name_kw (ld_glob I hg T.base.gC ?_ hdb)
  refine PySem.W.callWith_K (h₀ := X.base) I.ok.mod.kin T.base.kC (thn (ha.run pos pins s σ H _ I h) fun us s1 hh => ?_) he hpl
  obtain ⟨vs, H1, I1, r1, v, ev, q1⟩ := hh
  subst ev
  refine ⟨I1.kIn, ?_⟩
  cases r1 with
  | cons rv rn =>
    rename_i v' us'
    cases rn
    show wpAny _ _ (call (.ref C) [v']) _ _ _
    have hlim := I1.nolimit
    obtain ⟨hp, g, dr, tk, os⟩ := s1
    refine wpAny_call (PySem.PErrW.made_ok T I1.kIn hlim (by have := hr.dp; omega) fun h' tk' e d M => ?_)
    show MkP X pins σ Q (.ref e) ⟨h', g, dr, tk', os⟩
    obtain ⟨oe, fv, hoe, hc, hd, hdat, h1⟩ := M.obj
    have hns := M.ns
    obtain ⟨G', g1, g2⟩ := restrict h' fun b => decide (b ≠ e)
    have gk : ∀ b, b ≠ e → G'.get? b = h'.get? b := fun b hb => g1 b (decide_eq_true hb)
    have ge : G'.get? e = none := g2 e (by simp)
    have old : ∀ b o, hp.get? b = some o → G'.get? b = some o := fun b o q => (gk b (Nat.ne_of_lt (Nat.lt_of_lt_of_le (Heap.lt_size q) M.new))).trans (M.keep b o q)
    have ob : ObjOk X.prog X.w (upd H1 d (.xd [(("word" : Str), v)])) G' d (.xd [(("word" : Str), v)]) :=
      ⟨_, hns.at (fun o q => (gk d M.dne).trans q), fun f => relO_W rv f⟩
    have J : Inv X pins σ (upd H1 d (.xd [(("word" : Str), v)])) ⟨G', g, dr, tk', os⟩ := I1.laid (t' := tk') old M.dbig ob
    refine ⟨e, oe, fv, ⟨G', g, dr, tk', os⟩, _, .ref C, some d, rfl, J, fun b o q => ?_, ge, hoe, ⟨hc, hd⟩, hdat, h1, ?_, rfl, I1.bare, raises_own T.base.exC T.base.tyC, q1 d (I1.hok.fresh M.dbig)⟩
    · by_cases hb : b = e
      · have q' : G'.get? b = some o := q
        rw [hb, ge] at q'; cases q'
      · exact (gk b hb).symm.trans q
    · rw [upd_ne (Ne.symm M.dne)]
      exact I1.hok.fresh M.new
/-- raise C(e) -/
def tRaiseW (C : Addr) (W : WX) (ta : TA) : TS := fun _ σ H => tMkW C ta σ H fun cls d H' => W cls d σ H'
theorem ps_raise_W {a : Expr} {ta : TA} {W : WX} {p pos pos2 : Pos} {k : Nat} (hc : X.calm = true) (T : PySem.PErrW.Txt X.K X.mg cn q C B fI) (hr : Room k X.A) (tk : Takes X W) (ha : PA X [a] ta) (hg : Gl X cn) (hdb : (cn == ("__debug__" : Str)) = false)
    (he : starEach (a :: []) X.env = (false, eval a X.env) :: starEach [] X.env := by rfl) (hpl : (backTo pos (starEach [] X.env)).any (·.1) = false := by rfl) :
    PS X (.Raise (some (.Call (.Name cn p) [a] [] pos)) none pos2) (tRaiseW C W ta) := ps_raise hc tk (pmk_W T hr ha hg hdb he hpl)
/-- e.word, e the exception that the suite holds -/
def tFldW (K : PySem.W.Frag) (mg : Str → Option Value) (a : Addr) (cls : Value) (d : Option Addr) (te : TE) : TE := fun σ H Q => te σ H fun x H1 => x = .ref a ∧ ∃ (cn q : Str) (C B fI : Addr), PySem.PErrW.Txt K mg cn q C B fI ∧ cls = .ref C ∧ ∃ (dd : Addr) (v : V), d = some dd ∧ H1 dd = some (.xd [(("word" : Str), v)]) ∧ Q v H1
theorem pe_fld_W {a : Addr} {oe : Obj} {cls : Value} {d : Option Addr} {pn : List (Addr × Obj)} {e : Expr} {te : TE} {pos : Pos} (hz : Zc cls d oe) (hf : ∃ vs, oe.data = .fields vs) (he : PE (X.suite a ((a, oe) :: pn)) e te)
    (hb : attributeBase e "word" X.env (eval e X.env) = eval e X.env := by rfl) :
    PE (X.suite a ((a, oe) :: pn)) (.Attribute e "word" pos) (tFldW X.K X.mg a cls d te) := by
  refine ⟨fun pins s σ H Q I h => ?_⟩
  refine attr_of hb (thn (he.run pins s σ H _ I h) fun u s1 hh => ?_)
  obtain ⟨x, H1, I1, rx, ex, cn, q, C, B, fI, T, ec, dd, v, ed, ea, qq⟩ := hh
  subst ex
  obtain rfl : u = Value.ref a := rx
  subst ec
  subst ed
  obtain ⟨ha, _⟩ := I1.pin (a, oe) (List.mem_append_left _ List.mem_cons_self)
  obtain ⟨vs, hd⟩ := hf
  have hx : ObjOk X.prog X.w H1 s1.heap dd (.xd [(("word" : Str), v)]) := I1.hok dd _ ea
  obtain ⟨mA, hns, hr⟩ := hx
  obtain ⟨od, ho, hl⟩ := lookIn_ns hns
  have l : List.lookup ("word" : Str) [(("word" : Str), v)] = some v := by simp [List.lookup]
  obtain ⟨u, hu, ru⟩ := RelO.some_of (v := v) (o := mA "word") (by rw [← l]; exact hr "word")
  have J : PySem.W.InstAt s1.heap a oe C (some od) := ⟨ha, hz.1, by unfold PySem.W.notCls; rw [hd] <;> rfl, by rw [hz.2]; exact ho⟩
  exact HandSPX.exc_get I1.kIn J T.base.ga T.base.gg T.base.exC (PySem.W.findObj_own T.base.hdC T.noN rfl (by rw [hl, hu])) (handed_of ru) ⟨v, H1, I1.tok _, ru, qq⟩
end
end L2

/-! try .. except A as e: .. except B: .. : several clauses, each with or without a name. -/
namespace L2
open PySem PySem.Spec PyProof.Rows
/-- a suite of a clause: what it wishes, the exception at a; oi: the slot of its name -/
abbrev Suit := Addr → Value → Option Addr → TS
def atSuite (oi : Option Nat) (ts : Suit) (a : Addr) (cls : Value) (d : Option Addr) (D : Ends) (σ : L2.St) (H : Hp) : Prop := match oi with
  | none => ts a cls d D σ H
  | some i => ts a cls d { nx := fun s1 h1 => D.nx (s1.set i none) h1, rt := D.rt, bk := fun s1 h1 => D.bk (s1.set i none) h1, ct := fun s1 h1 => D.ct (s1.set i none) h1 } (σ.set i (some (.ref a))) H
def wHd (K : PySem.W.Frag) (Wo : WX) (D : Ends) : List (Value × Option Nat × Suit) → WX
  | [] => Wo
  | (c, oi, ts) :: r => fun cls d σ H => ∃ b, PySem.W.exmOne K cls c = some b ∧ (b = true → ∀ a, H a = none → atSuite oi ts a cls d D σ H) ∧ (b = false → wHd K Wo D r cls d σ H)
inductive Hds (X : Cx) : List ExceptHandler → List (Value × Option Nat × Suit) → Prop
  | nil : Hds X [] []
  | bare {x : Str} {c : Value} {ts : Suit} {b₀ : Stmt} {suite : List Stmt} {np pp : Pos} {hds : List ExceptHandler} {l : List (Value × Option Nat × Suit)} (hc : Names X x c)
      (hsu : ∀ (a : Addr) (oe : Obj) (cls : Value) (d : Option Addr) (pn : List (Addr × Obj)), Zc cls d oe → (∃ vs, oe.data = .fields vs) → PSs (X.suite a ((a, oe) :: pn)) (b₀ :: suite) (ts a cls d)) (r : Hds X hds l) :
      Hds X (.ExceptHandler (some (.Name x np)) none (b₀ :: suite) pp :: hds) ((c, none, ts) :: l)
  | named {x n : Str} {c : Value} {i : Nat} {ts : Suit} {b₀ : Stmt} {suite : List Stmt} {np pp : Pos} {hds : List ExceptHandler} {l : List (Value × Option Nat × Suit)} (hc : Names X x c) (hi : X.N[i]? = some n) (hl : X.env.kindOf n = some .local)
      (hsu : ∀ (a : Addr) (oe : Obj) (cls : Value) (d : Option Addr) (pn : List (Addr × Obj)), Zc cls d oe → (∃ vs, oe.data = .fields vs) → PSs (X.suite a ((a, oe) :: pn)) (b₀ :: suite) (ts a cls d)) (r : Hds X hds l) :
      Hds X (.ExceptHandler (some (.Name x np)) (some n) (b₀ :: suite) pp :: hds) ((c, some i, ts) :: l)
section
variable {X : Cx} {body : List Stmt} {h₀ : ExceptHandler} {hds : List ExceptHandler} {l : List (Value × Option Nat × Suit)} {pos : Pos} {tb : WX → TS} {Wo : WX}
theorem ps_try_hd (hs : X.stack = X.env :: X.outer) (hf : X.env.frame = some X.env.locals) (hN : X.N.Nodup) (tk : Takes X Wo)
    (hb : ∀ (W : WX) (pn : List (Addr × Obj)) (xe : Value → Shared → Prop), Takes (X.tr pn xe) W → PassesOwn (model X.prog X.w) X.A X.env xe → PSs (X.tr pn xe) body (tb W))
    (hh : Hds X (h₀ :: hds) l) : PS X (.Try body (h₀ :: hds) [] [] pos) (fun D σ H => tb (wHd X.K Wo D l) D σ H) := by
  refine ⟨fun pins s σ H D I h => ?_⟩
  have ok := I.ok
  have hfr : X.A.frames = some (X.env :: X.outer) := by rw [ok.frames, hs]
  refine wpAny_Try_except ?_
  refine wpAny_mono ((hb (wHd X.K Wo D l) (X.pn ++ pins) (fun e t₁ => wpAny (model X.prog X.w) X.A (noteFrame e X.env) (fun _ t₂ => wpAny (model X.prog X.w) X.A (setFlight e none) (fun _ t₃ =>
    wpAny (model X.prog X.w) X.A (handleBy e X.env (h₀ :: hds)) (SP X pins D) X.xe t₃) X.xe t₂) X.xe t₁) (fun u s' xx => ?_) PassesOwn.looking).run [] s σ H D (I.toTry _) h) (fun f s1 hsp => ?_) (fun e s1 he => he)
  · obtain ⟨a, B, sI, pins', σ', H', cls, d, rfl, J', nb, up, sky, na, os, ag, w⟩ := xx
    have J : Inv X pins σ' H' sI := J'.ofTry ok
    rw [hs] at sky
    show wpAny (model X.prog X.w) X.A (noteFrame (.ref a) X.env) _ _ _
    refine Sky.land Zc.steady hfr hf sky fun h3 fl3 up3 => ?_
    have J3 : Inv X pins σ' H' { s' with heap := h3 } := J.landed nb fl3.1 (up.trans up3) os ag
    obtain ⟨oe3, vs3, he3, hz3, hd3⟩ := fl3.there
    have nfr : a ∉ frs (X.env :: X.outer) := fun hm => by
      obtain ⟨_, o', e', hnf⟩ := fl3.2.2.1.mem hm
      rw [he3] at e'
      cases e'
      exact hnf _ hd3
    have nL : a ≠ X.env.locals := fun z => nfr (List.mem_filterMap.mpr ⟨X.env, List.mem_cons_self, by rw [hf, z]⟩)
    have nF : a ∉ X.fs := fun hm => by
      obtain ⟨e, he, q⟩ := List.mem_filterMap.mp hm
      exact nfr (List.mem_filterMap.mpr ⟨e, List.mem_cons_of_mem _ he, q⟩)
    have S3 := J3.suite he3 hd3 na nL nF
    have LT : PySem.W.Looks (model X.prog X.w) h3 (typeOf (.ref a)) cls := fun A Q E s k q => wpAny_typeOf_ref (k _ _ he3) (by rw [hz3.1]; exact q)
    have tst : ∀ {x : Str} {c : Value} {np : Pos} {Q : Value → Shared → Prop} {E : Value → Shared → Prop}, Names X x c → Q c { s' with heap := h3 } → wpAny (model X.prog X.w) (X.A.mark (some (.ref a))) (eval (.Name x np) X.env) Q E { s' with heap := h3 } := fun {x c np Q E} hc q => by
      obtain ⟨hg, hdbg, hm | ⟨hm, hv, hnn⟩⟩ := hc
      · exact ld_glob (X := X.suite a ((a, oe3) :: (X.pn ++ pins))) S3 hg hm q hdbg
      · exact ld_blt (X := X.suite a ((a, oe3) :: (X.pn ++ pins))) S3 hg hm hv q hnn hdbg
    have go : ∀ {hd2 : List ExceptHandler} {l2 : List (Value × Option Nat × Suit)}, Hds X hd2 l2 → wHd X.K Wo D l2 cls d σ' H' → wpAny (model X.prog X.w) X.A (handleBy (.ref a) X.env hd2) (SP X pins D) X.xe { s' with heap := h3 } := by
      intro hd2 l2 hk
      induction hk with
      | nil =>
        intro w
        refine wpAny_handleBy_nil ?_
        obtain ⟨k1, k2, k3, oe, vs, T, oT, tr, he, hz, hd, h1, hr⟩ := id fl3
        unfold PySem.passOn
        refine wpAny_bind (wpAny_field he hd h1 ?_)
        rw [if_neg (show ¬ ((Value.ref T == Value.none) = true) from by simp)]
        have fin : wpAny (model X.prog X.w) X.A (setFlight (.ref a) X.env.frame) (fun _ s4 => wpAny (model X.prog X.w) X.A (throw (.ref a) : Sem Flow) (SP X pins D) X.xe s4) X.xe { s' with heap := h3 } := by
          rw [hf]
          refine HandSPX.setFlight_upZ fl3 fun h4 hh4 up4 => wpAny_throw (tk _ _ ?_)
          exact ⟨a, B, sI, pins, σ', H', cls, d, rfl, J, nb, (up.trans up3).trans up4, .inr (.inr (by rw [hs]; exact hh4)), na, os, ag, w⟩
        first | exact wpAny_bind (wpAny_pure (wpAny_bind fin)) | exact wpAny_bind fin
      | @bare x c ts b₀ suite np pp hds2 l2 hc hsu r ih =>
        intro w
        obtain ⟨b, hb1, hyes, hno⟩ := w
        have LM := PySem.W.exm_one (M := model X.prog X.w) (J3.kIn) LT hb1
        refine wpAny_handleBy_cons (codeAny_handlers_test (tst hc (LM.here ?_))) (by intro q; cases q)
        cases b with
        | false =>
          show wpAny _ X.A (handleBy (.ref a) X.env hds2) _ _ _
          exact ih (hno rfl)
        | true =>
          refine codeAny_handlers_suite (HandSPX.lands_againZ fl3 fun h4 fl4 up4 => ?_)
          have J4 : Inv X pins σ' H' { s' with heap := h4 } := J.landed nb fl4.1 ((up.trans up3).trans up4) os ag
          obtain ⟨oe4, vs4, he4, hz4, hd4⟩ := fl4.there
          refine wpAny_mono ((hsu a oe4 cls d (X.pn ++ pins) hz4 ⟨_, hd4⟩).run [] _ _ H' _ (J4.suite he4 hd4 na nL nF) (hyes rfl a na)) (fun f s6 hsp => ?_) (fun _ _ z => False.elim z)
          cases f with
          | ret u =>
            obtain ⟨v6, σ6, H6, S6, r6, q6⟩ := hsp
            exact ⟨_, _, _, S6.unsuite ok, r6, q6⟩
          | next => obtain ⟨σ6, H6, S6, q6⟩ := hsp; exact ⟨_, _, S6.unsuite ok, q6⟩
          | brk => obtain ⟨σ6, H6, S6, q6⟩ := hsp; exact ⟨_, _, S6.unsuite ok, q6⟩
          | cont => obtain ⟨σ6, H6, S6, q6⟩ := hsp; exact ⟨_, _, S6.unsuite ok, q6⟩
      | @named x n c i ts b₀ suite np pp hds2 l2 hc hi hln hsu r ih =>
        intro w
        obtain ⟨b, hb1, hyes, hno⟩ := w
        have LM := PySem.W.exm_one (M := model X.prog X.w) (J3.kIn) LT hb1
        refine wpAny_handleBy_cons (codeAny_handlers_test (tst hc (LM.here ?_))) (by intro q; cases q)
        cases b with
        | false =>
          show wpAny _ X.A (handleBy (.ref a) X.env hds2) _ _ _
          exact ih (hno rfl)
        | true =>
          refine codeAny_handlers_suite_as (HandSPX.lands_againZ fl3 fun h4 fl4 up4 => ?_)
          have J4 : Inv X pins σ' H' { s' with heap := h4 } := J.landed nb fl4.1 ((up.trans up3).trans up4) os ag
          obtain ⟨oe4, vs4, he4, hz4, hd4⟩ := fl4.there
          refine store_ok (X := X.suite a ((a, oe4) :: (X.pn ++ pins))) (v := .ref a) (J4.suite he4 hd4 na nL nF) hN hi (.inl hln) rfl (fun s5 S5 => ?_) (.inr hln)
          refine wpAny_mono ((hsu a oe4 cls d (X.pn ++ pins) hz4 ⟨_, hd4⟩).run [] s5 _ H' _ S5 (hyes rfl a na)) (fun f s6 hsp => ?_) (fun _ _ z => False.elim z)
          have gone : ∀ {σ6 : L2.St} {H6 : Hp} {Q : Shared → Prop}, Inv (X.suite a ((a, oe4) :: (X.pn ++ pins))) [] σ6 H6 s6 → (∀ s7, Inv X pins (σ6.set i none) H6 s7 → Q s7) →
              wpAny (model X.prog X.w) X.A (do bindName X.env n .none; unbindBehindTheSuite X.env n pp) (fun _ s7 => Q s7) X.xe s6 := fun {σ6 H6 Q} S6 hq => gone_ok (S6.unsuite ok) hN hi hln hq
          cases f with
          | ret u =>
            obtain ⟨v6, σ6, H6, S6, r6, q6⟩ := hsp
            exact gone S6 fun s7 J7 => ⟨_, _, _, J7, r6, q6⟩
          | next => obtain ⟨σ6, H6, S6, q6⟩ := hsp; exact gone S6 fun s7 J7 => ⟨_, _, J7, q6⟩
          | brk => obtain ⟨σ6, H6, S6, q6⟩ := hsp; exact gone S6 fun s7 J7 => ⟨_, _, J7, q6⟩
          | cont => obtain ⟨σ6, H6, S6, q6⟩ := hsp; exact gone S6 fun s7 J7 => ⟨_, _, J7, q6⟩
    exact go hh w
  · cases f with
    | ret u =>
      obtain ⟨v, σ', H', J', r, q⟩ := hsp
      exact ⟨v, σ', H', J'.ofTry ok, r, q⟩
    | next => obtain ⟨σ', H', J', q⟩ := hsp; exact wpAny_execs_nil ⟨σ', H', J'.ofTry ok, q⟩
    | brk => obtain ⟨σ', H', J', q⟩ := hsp; exact ⟨σ', H', J'.ofTry ok, q⟩
    | cont => obtain ⟨σ', H', J', q⟩ := hsp; exact ⟨σ', H', J'.ofTry ok, q⟩
end
end L2

namespace PySem
namespace PErr
open PySem.W PySem.Calls PyProof.Rows
section
variable {prog : Program} {w : World} {M : Model} {A : Around} {E : Value → Shared → Prop} {R : Result → Shared → Prop} {h : Heap} {g : Array GenState} {d : Drawn} {t : Nat} {os : OsState}
variable {nm q : Str} {C B N : Addr} {bs : List Value} {sn : List Str} {sub : List Value} {ab : Bool} {col : Option Bool} {dd : Option Addr} {k0 k1 k2 k3 k5 : Option Value} {kw : List (Str × Value)}
theorem contB (C B : Addr) (X : String) : (Value.ref C :: .ref B :: tailE).contains (.type X) = tailE.contains (.type X) := by
  rw [List.contains_cons, tail_has]; rfl
abbrev clsO (nm q : Str) (C B N : Addr) (bs : List Value) (sn : List Str) (sub : List Value) (ab : Bool) (col : Option Bool) (dd : Option Addr) (k0 k1 k2 k3 k5 : Option Value) : Obj := excClassObj nm q C N bs (.ref B :: tailE) true sn sub ab col dd k0 k1 k2 k3 k5 "Exception.__new__"
theorem check_kw {Q : Unit → Shared → Prop} (hC : h.get? C = some (clsO nm q C B N bs sn sub ab col dd k0 k1 k2 k3 k5)) (hq : Q () ⟨h, g, d, t, os⟩) :
    wpAny M A (checkBuiltinCall "Exception.__new__" ⟨[.ref C], kw⟩) Q E ⟨h, g, d, t, os⟩ := by
  have FB := F.excBase_Exception
  have star := FB.noStar
  have hc : (Value.ref C :: .ref B :: tailE).contains (.type "Exception") = true := by rw [contB]; decide +kernel
  simp only [checkBuiltinCall, FB.newKind, FB.newSplit, FB.newRow]
  repeat (first
    | refine wpAny_loadPart_at hC ?_
    | (refine wpAny_isSubtype_exc hC ?_; rw [hc])
    | refine wpAny_staticBase_exc hC ?_
    | refine wpAny_madeBy_exc hC ?_
    | simp only [bne_self_eq_false, Bool.false_eq_true, if_false]
    | wp_step)
  exact hq
theorem new_kw (hC : h.get? C = some (clsO nm q C B N bs sn sub ab col dd k0 k1 k2 k3 k5))
    (hq : R (.ok (.ret (.ref (h.objs.size + 1)))) ⟨(h.push (kdv_tup [])).push (HandSPX.excO C h.objs.size), g, d, t, os⟩) :
    codeAny (model prog w) A (.builtin "Exception.__new__" ⟨[.ref C], kw⟩) R ⟨h, g, d, t, os⟩ := by
  have FB := F.excBase_Exception
  have ends := FB.ends
  have hc : (Value.ref C :: .ref B :: tailE).contains (.type "Exception") = true := by rw [contB]; decide +kernel
  have hcA : (Value.ref C :: .ref B :: tailE).contains (.type "AttributeError") = false := by rw [contB]; decide +kernel
  have hcN : (Value.ref C :: .ref B :: tailE).contains (.type "NameError") = false := by rw [contB]; decide +kernel
  refine codeAny_builtinAt FB.entry ?_
  unfold Builtin.«BaseException.__new__»
  refine wpAt_bind ?_
  show wpAt _ _ _ (stack >>= _) _ _ _
  refine wpAt_bind (wpAt_stack fun p below => wpAt_of_wpAny ?_)
  wp_walk
  refine wpAt_of_wpAny ?_
  rw [FB.owner]
  repeat (first
    | with_reducible refine wpAny_madeHere_exc FB.canon hC ?_
    | with_reducible refine wpAny_loadPart_at hC ?_
    | (with_reducible refine wpAny_isSubtype_exc hC ?_; first | rw [hc] | rw [hcA] | rw [hcN])
    | wp_step)
  show R _ _
  rw [Heap.size_push]
  exact hq
theorem type_kw {fI : Addr} {Q : Fin → Shared → Prop}
    (hC : h.get? C = some (clsO nm q C B N bs sn sub ab col dd k0 k1 k2 k3 k5))
    (hi : W.Looks (model prog w) h (typeLookup (.ref C) "__init__") (some (.ref fI))) (hb : ∀ self, W.Looks (model prog w) h (bindSpecial (.ref fI) self) (.ref fI, [self]))
    (hq : codeAny (model prog w) A (.call (.ref fI) ⟨[.ref (h.objs.size + 1)], kw⟩)
      (fun r s' => match r with | .ok (.ret v) => v = .none ∧ Q (.done (.ret (.ref (h.objs.size + 1)))) s' | .ok _ => False | .error e => E e s')
      ⟨(h.push (kdv_tup [])).push (HandSPX.excO C h.objs.size), g, d, t, os⟩) :
    wpAny (model prog w) A (Builtin.«type.__call__» ⟨[.ref C], kw⟩) Q E ⟨h, g, d, t, os⟩ := by
  have FB := F.excBase_Exception
  repeat (first | with_reducible refine wpAny_loadPart_at hC ?_ | with_reducible refine wpAny_madeBy_exc hC ?_ | wp_step)
  refine codeAny_call_builtin_code (Code.quiet_builtin _ FB.quiet) (check_kw hC ?_)
  refine new_kw hC ?_
  show wpAny _ _ _ _ _ _
  have k : ∀ b o, h.get? b = some o → ((h.push (kdv_tup [])).push (HandSPX.excO C h.objs.size)).get? b = some o := fun b o e => Heap.get?_push_of_some _ (Heap.get?_push_of_some _ e)
  have hC₁ := k _ _ hC
  have hget : ((h.push (kdv_tup [])).push (HandSPX.excO C h.objs.size)).get? (h.objs.size + 1) = some (HandSPX.excO C h.objs.size) := by heap_get
  have hcC : (Value.ref C :: .ref B :: tailE).contains (.ref C) = true := by simp
  have i1 := hi.keeps k
  have b1 := (hb (.ref (h.objs.size + 1))).keeps k
  unfold isInstance
  repeat (first | with_reducible refine wpAny_loadPart_at hget ?_ | (with_reducible refine wpAny_isSubtype_exc hC₁ ?_; rw [hcC]) | wp_step)
  show wpAny _ _ (typeLookup (.ref C) _) _ _ _
  refine i1.at (wpAny_holding (wpAny_bind (b1.at (wpAny_bind (wpAny_call (codeAny_mono hq fun r s' z => ?_))))))
  rcases r with e | (v | _ | _ | _) <;> first | exact z | exact z.elim | skip
  obtain ⟨rfl, z⟩ := z
  first
    | exact wpAny_pure (wpAny_pure z)
    | (wp_walk; exact z)
theorem call_kw {fI : Addr}
    (hC : h.get? C = some (clsO nm q C B N bs sn sub ab col dd k0 k1 k2 k3 k5))
    (hi : W.Looks (model prog w) h (typeLookup (.ref C) "__init__") (some (.ref fI))) (hb : ∀ self, W.Looks (model prog w) h (bindSpecial (.ref fI) self) (.ref fI, [self]))
    (hq : codeAny (model prog w) (A.under (.builtin "type.__call__" ⟨[.ref C], kw⟩)) (.call (.ref fI) ⟨[.ref (h.objs.size + 1)], kw⟩) (W.InitBack (h.objs.size + 1) R)
      ⟨(h.push (kdv_tup [])).push (HandSPX.excO C h.objs.size), g, d, t, os⟩) :
    codeAny (model prog w) A (.call (.ref C) ⟨[], kw⟩) R ⟨h, g, d, t, os⟩ := by
  have f1 := tc_lookup
  have f2 := tc_bind (.ref C)
  have hTy : (⟨h, g, d, t, os⟩ : Shared).TypeIs (.ref C) "type" := ⟨_, hC, rfl⟩
  refine codeAny_of_tree ?_
  show wpAny _ _ (callAny (.ref C) _) _ _ _
  repeat (any_goals (first | assumption | with_reducible refine wpAny_loadPart_at hC ?_ | wp_step))
  refine ⟨rfl, ?_⟩
  refine codeAny_call_builtin_at (Code.quiet_builtin _ (by decide +kernel)) entry_typeCall (wpAny_check_type_call_sub hC (type_kw hC hi hb ?_))
  exact codeAny_mono hq fun r s' z => by rcases r with e | (v | _ | _ | _) <;> exact z
end
end PErr
end PySem

/-! C(at=e).at, C one of the errors. -/

namespace PySem
namespace PErrA
open PySem.W PySem.Calls PyProof.Rows PySem.PErr
section
variable {prog : Program} {w : World} {A : Around} {R : Result → Shared → Prop} {s : Shared} {K : Frag} {mg : Str → Option Value} {C B fI : Addr} {cn q : Str}
theorem made_kw (T : Txt K mg cn q C B fI) {v : Value} (X : K.In s.heap) (hlim : s.heap.NoLimit) (hroom : A.depth + 1 < recursionLimit)
    (hq : ∀ h' tk e d, OwnMade s.heap h' e C d v → R (.ok (.ret (.ref e))) { s with heap := h', toks := tk }) : codeAny (model prog w) A (.call (.ref C) ⟨[], [("at", v)]⟩) R s := by
  obtain ⟨nm, qq, N, bs, sn, sub, ab, col, dd, k0, k1, k2, k3, k5, hC⟩ := T.base.cls
  obtain ⟨hp, g, dr, tk, os⟩ := s
  have kk : ∀ b o, hp.get? b = some o → ((hp.push (kdv_tup [])).push (HandSPX.excO C hp.objs.size)).get? b = some o := fun b o e => Heap.get?_push_of_some _ (Heap.get?_push_of_some _ e)
  have at1 : ((hp.push (kdv_tup [])).push (HandSPX.excO C hp.objs.size)).get? (hp.objs.size + 1) = some (HandSPX.excO C hp.objs.size) := by heap_get
  refine PErr.call_kw (X _ _ hC) (looks_findIn X T.iC) (fun self => bind_fn X self T.tC) ?_
  refine init_ok (s := ⟨(hp.push (kdv_tup [])).push (HandSPX.excO C hp.objs.size), g, dr, tk, os⟩) T (v := v) (fun _ _ _ _ _ _ _ _ _ _ _ _ => BindsTo.of_eq (by first | rfl | with_unfolding_all rfl)) (X.keeps kk) (hlim.keeps kk) at1 hroom ?_
  intro h' tk' dx Z
  obtain ⟨k', hx, dn, dne, hns⟩ := Z
  have old : ∀ b o, hp.get? b = some o → h'.get? b = some o := fun b o e => k' b o (Nat.ne_of_lt (Nat.lt_succ_of_lt (Heap.lt_size e))) (kk b o e)
  have z : hp.objs.size + 1 + 1 ≤ dx := by
    have q := dn
    first | (rw [Heap.size_push, Heap.size_push] at q; exact q) | exact q
  exact ⟨rfl, hq h' tk' (hp.objs.size + 1) dx ⟨old, Nat.le_succ _, ⟨_, _, hx, rfl, rfl, rfl, rfl⟩, Nat.le_trans (Nat.le_trans (Nat.le_succ _) (Nat.le_succ _)) z, dne, hns⟩⟩
end
end PErrA
end PySem
namespace L2
open PySem PySem.Spec PyProof.Rows
section
variable {X : Cx} {C B fI : Addr} {cn q : Str}
/-- C(at=e).at -/
def tKwFldA (te : TE) : TE := fun σ H Q => tCons te tNil σ H fun vs H1 => ∃ v, vs = [v] ∧ ∀ d, H1 d = none → Q v (upd H1 d (.xd [(("at" : Str), v)]))
theorem pe_kwfld_A {e : Expr} {te : TE} {p pos apos kpos : Pos} {k : Nat} (T : PySem.PErrA.Txt X.K X.mg cn q C B fI) (hr : Room k X.A) (he : PE X e te) (hg : Gl X cn) (hdb : (cn == ("__debug__" : Str)) = false)
    (hb : attributeBase (.Call (.Name cn p) [] [⟨some "at", e, kpos⟩] pos) "at" X.env (eval (.Call (.Name cn p) [] [⟨some "at", e, kpos⟩] pos) X.env) = eval (.Call (.Name cn p) [] [⟨some "at", e, kpos⟩] pos) X.env := by rfl)
    (hall : (backToKw pos (keywordEach [⟨some "at", e, kpos⟩] X.env)).all (·.1.isSome) = true := by rfl) (hks : (backToKw pos (keywordEach [⟨some "at", e, kpos⟩] X.env)).filterMap (·.1) = [("at" : Str)] := by rfl)
    (hpl : ((backTo pos (starEach [] X.env)).any (·.1) || (backToKw pos (keywordEach [⟨some "at", e, kpos⟩] X.env)).any (·.1.isNone)) = false := by rfl) :
    PE X (.Attribute (.Call (.Name cn p) [] [⟨some "at", e, kpos⟩] pos) "at" apos) (tKwFldA te) := by
  refine ⟨fun pins s σ H Q I h => ?_⟩
  refine attr_of hb (wpAny_Call_Name_kw (ld_glob I hg T.base.gC ?_ hdb))
  refine PySem.W.callWith_KW0 (h₀ := X.base) I.ok.mod.kin T.base.kC hall (thn ((pk_cons he pk_nil).run pos pins s σ H _ I h) fun us s1 hh => ?_) hpl
  obtain ⟨vs, H1, I1, r1, v, ev, q1⟩ := hh
  subst ev
  rw [hks]
  cases r1 with
  | cons rv rn =>
    rename_i v' us'
    cases rn
    refine ⟨I1.kIn, ?_⟩
    show wpAny _ _ (call (.ref C) [] [(("at" : Str), v')]) _ _ _
    have hlim := I1.nolimit
    obtain ⟨hp, g, dr, tk, os⟩ := s1
    refine wpAny_call (PySem.PErrA.made_kw T I1.kIn hlim (by have := hr.dp; omega) fun h' tk' x d M => ?_)
    obtain ⟨oe, fv, hoe, hc, hd, hdat, h1⟩ := M.obj
    have J : Inv X pins σ (upd H1 d (.xd [(("at" : Str), v)])) ⟨h', g, dr, tk', os⟩ := I1.laid (t' := tk') M.keep M.dbig ⟨_, M.ns, fun f => relO_A rv f⟩
    obtain ⟨od, ho, hl⟩ := lookIn_ns M.ns
    have l2 : PySem.W.lookIn ("at" : Str) od = some (some v') := by rw [hl]; simp
    have IA : PySem.W.InstAt h' x oe C (some od) := ⟨hoe, hc, by unfold PySem.W.notCls; rw [hdat] <;> rfl, by rw [hd]; exact ho⟩
    exact HandSPX.exc_get (s := ⟨h', g, dr, tk', os⟩) J.kIn IA T.base.ga T.base.gg T.base.exC (PySem.W.findObj_own T.base.hdC T.noN rfl l2) (handed_of rv) ⟨v, _, J.tok _, rv, q1 d (I1.hok.fresh M.dbig)⟩
end
end L2

namespace PySem
namespace PErrW
open PySem.W PySem.Calls PyProof.Rows PySem.PErr
section
variable {prog : Program} {w : World} {A : Around} {R : Result → Shared → Prop} {s : Shared} {K : Frag} {mg : Str → Option Value} {C B fI : Addr} {cn q : Str}
theorem made_kw (T : Txt K mg cn q C B fI) {v : Value} (X : K.In s.heap) (hlim : s.heap.NoLimit) (hroom : A.depth + 1 < recursionLimit)
    (hq : ∀ h' tk e d, OwnMade s.heap h' e C d v → R (.ok (.ret (.ref e))) { s with heap := h', toks := tk }) : codeAny (model prog w) A (.call (.ref C) ⟨[], [("word", v)]⟩) R s := by
  obtain ⟨nm, qq, N, bs, sn, sub, ab, col, dd, k0, k1, k2, k3, k5, hC⟩ := T.base.cls
  obtain ⟨hp, g, dr, tk, os⟩ := s
  have kk : ∀ b o, hp.get? b = some o → ((hp.push (kdv_tup [])).push (HandSPX.excO C hp.objs.size)).get? b = some o := fun b o e => Heap.get?_push_of_some _ (Heap.get?_push_of_some _ e)
  have at1 : ((hp.push (kdv_tup [])).push (HandSPX.excO C hp.objs.size)).get? (hp.objs.size + 1) = some (HandSPX.excO C hp.objs.size) := by heap_get
  refine PErr.call_kw (X _ _ hC) (looks_findIn X T.iC) (fun self => bind_fn X self T.tC) ?_
  refine init_ok (s := ⟨(hp.push (kdv_tup [])).push (HandSPX.excO C hp.objs.size), g, dr, tk, os⟩) T (v := v) (fun _ _ _ _ _ _ _ _ _ _ _ _ => BindsTo.of_eq (by first | rfl | with_unfolding_all rfl)) (X.keeps kk) (hlim.keeps kk) at1 hroom ?_
  intro h' tk' dx Z
  obtain ⟨k', hx, dn, dne, hns⟩ := Z
  have old : ∀ b o, hp.get? b = some o → h'.get? b = some o := fun b o e => k' b o (Nat.ne_of_lt (Nat.lt_succ_of_lt (Heap.lt_size e))) (kk b o e)
  have z : hp.objs.size + 1 + 1 ≤ dx := by
    have q := dn
    first | (rw [Heap.size_push, Heap.size_push] at q; exact q) | exact q
  exact ⟨rfl, hq h' tk' (hp.objs.size + 1) dx ⟨old, Nat.le_succ _, ⟨_, _, hx, rfl, rfl, rfl, rfl⟩, Nat.le_trans (Nat.le_trans (Nat.le_succ _) (Nat.le_succ _)) z, dne, hns⟩⟩
end
end PErrW
end PySem
namespace L2
open PySem PySem.Spec PyProof.Rows
section
variable {X : Cx} {C B fI : Addr} {cn q : Str}
/-- C(word=e).word -/
def tKwFldW (te : TE) : TE := fun σ H Q => tCons te tNil σ H fun vs H1 => ∃ v, vs = [v] ∧ ∀ d, H1 d = none → Q v (upd H1 d (.xd [(("word" : Str), v)]))
theorem pe_kwfld_W {e : Expr} {te : TE} {p pos apos kpos : Pos} {k : Nat} (T : PySem.PErrW.Txt X.K X.mg cn q C B fI) (hr : Room k X.A) (he : PE X e te) (hg : Gl X cn) (hdb : (cn == ("__debug__" : Str)) = false)
    (hb : attributeBase (.Call (.Name cn p) [] [⟨some "word", e, kpos⟩] pos) "word" X.env (eval (.Call (.Name cn p) [] [⟨some "word", e, kpos⟩] pos) X.env) = eval (.Call (.Name cn p) [] [⟨some "word", e, kpos⟩] pos) X.env := by rfl)
    (hall : (backToKw pos (keywordEach [⟨some "word", e, kpos⟩] X.env)).all (·.1.isSome) = true := by rfl) (hks : (backToKw pos (keywordEach [⟨some "word", e, kpos⟩] X.env)).filterMap (·.1) = [("word" : Str)] := by rfl)
    (hpl : ((backTo pos (starEach [] X.env)).any (·.1) || (backToKw pos (keywordEach [⟨some "word", e, kpos⟩] X.env)).any (·.1.isNone)) = false := by rfl) :
    PE X (.Attribute (.Call (.Name cn p) [] [⟨some "word", e, kpos⟩] pos) "word" apos) (tKwFldW te) := by
  refine ⟨fun pins s σ H Q I h => ?_⟩
  refine attr_of hb (wpAny_Call_Name_kw (ld_glob I hg T.base.gC ?_ hdb))
  refine PySem.W.callWith_KW0 (h₀ := X.base) I.ok.mod.kin T.base.kC hall (thn ((pk_cons he pk_nil).run pos pins s σ H _ I h) fun us s1 hh => ?_) hpl
  obtain ⟨vs, H1, I1, r1, v, ev, q1⟩ := hh
  subst ev
  rw [hks]
  cases r1 with
  | cons rv rn =>
    rename_i v' us'
    cases rn
    refine ⟨I1.kIn, ?_⟩
    show wpAny _ _ (call (.ref C) [] [(("word" : Str), v')]) _ _ _
    have hlim := I1.nolimit
    obtain ⟨hp, g, dr, tk, os⟩ := s1
    refine wpAny_call (PySem.PErrW.made_kw T I1.kIn hlim (by have := hr.dp; omega) fun h' tk' x d M => ?_)
    obtain ⟨oe, fv, hoe, hc, hd, hdat, h1⟩ := M.obj
    have J : Inv X pins σ (upd H1 d (.xd [(("word" : Str), v)])) ⟨h', g, dr, tk', os⟩ := I1.laid (t' := tk') M.keep M.dbig ⟨_, M.ns, fun f => relO_W rv f⟩
    obtain ⟨od, ho, hl⟩ := lookIn_ns M.ns
    have l2 : PySem.W.lookIn ("word" : Str) od = some (some v') := by rw [hl]; simp
    have IA : PySem.W.InstAt h' x oe C (some od) := ⟨hoe, hc, by unfold PySem.W.notCls; rw [hdat] <;> rfl, by rw [hd]; exact ho⟩
    exact HandSPX.exc_get (s := ⟨h', g, dr, tk', os⟩) J.kIn IA T.base.ga T.base.gg T.base.exC (PySem.W.findObj_own T.base.hdC T.noN rfl l2) (handed_of rv) ⟨v, _, J.tok _, rv, q1 d (I1.hok.fresh M.dbig)⟩
end
end L2

/-! An error whose __init__ takes nothing and does nothing. -/
namespace PySem
namespace PErr0
open PySem.W PySem.Calls PyProof.Rows PySem.PErr
def args (p1 : Pos) : Arguments := { posonlyargs := [], args := [⟨"self", none, p1⟩], vararg := none, kwonlyargs := [], kw_defaults := [], kwarg := none, defaults := [] }
def scop : Scope := { kind := .function, names := [(PySem.Str.ofString "self", .local)], isGenerator := false, isCoroutine := false, more := [] }
structure Txt (K : Frag) (mg : Str → Option Value) (x q : Str) (C B fI : Addr) : Prop where
  base : PySem.PErr.Cl K mg x C B
  iC : findIn K (.ref C) "__init__" = some (some (.ref fI))
  tC : typeIn K (.ref fI) = some (.type "function")
  fn : ∃ (oc : Value) (od : Option Addr) (doc pm : Value) (an : Option Addr) (cdv ct : Value) (osl : Array (Option Value)) (p1 q1 : Pos),
    K.lookup fI = some ⟨oc, od, .func (fnOf "__init__" q (args p1) [.Pass q1] scop .none .none doc pm an cdv ct), osl⟩ ∧ codeIn K cdv q = true
section
variable {prog : Program} {w : World} {A : Around} {R : Result → Shared → Prop} {s : Shared} {K : Frag} {mg : Str → Option Value} {C B fI : Addr} {cn q : Str}
theorem made0 (T : Txt K mg cn q C B fI) (X : K.In s.heap) (hlim : s.heap.NoLimit) (hroom : A.depth + 1 < recursionLimit)
    (hq : ∀ h' tk e t0, (∀ b o, s.heap.get? b = some o → h'.get? b = some o) → s.heap.objs.size ≤ e → h'.get? e = some (HandSPX.excO C t0) → R (.ok (.ret (.ref e))) { s with heap := h', toks := tk }) : codeAny (model prog w) A (.call (.ref C) ⟨[], []⟩) R s := by
  obtain ⟨nm, qq, N, bs, sn, sub, ab, col, dd, k0, k1, k2, k3, k5, hC⟩ := T.base.cls
  obtain ⟨oc, od, doc, pm, an, cdv, ct, osl, p1, q1, ho, hcd⟩ := T.fn
  obtain ⟨hp, g, dr, tk, os⟩ := s
  have kk : ∀ b o, hp.get? b = some o → ((hp.push (kdv_tup [])).push (HandSPX.excO C hp.objs.size)).get? b = some o := fun b o e => Heap.get?_push_of_some _ (Heap.get?_push_of_some _ e)
  have at1 : ((hp.push (kdv_tup [])).push (HandSPX.excO C hp.objs.size)).get? (hp.objs.size + 1) = some (HandSPX.excO C hp.objs.size) := by heap_get
  refine PErr.call_kw (X _ _ hC) (looks_findIn X T.iC) (fun self => bind_fn X self T.tC) ?_
  refine Att.call_fn (s := ⟨(hp.push (kdv_tup [])).push (HandSPX.excO C hp.objs.size), g, dr, tk, os⟩) (binds := [("self", .ref (hp.objs.size + 1))]) (X.keeps kk) (hlim.keeps kk) ho hcd hroom (BindsTo.of_eq (by first | rfl | with_unfolding_all rfl)) (by first | rfl | decide | with_unfolding_all rfl) (fun s₁ IC => ?_) rfl rfl rfl
  obtain ⟨h₁, tk₁, rfl⟩ := IC.toInCall.same
  have k : ∀ b o, ((hp.push (kdv_tup [])).push (HandSPX.excO C hp.objs.size)).get? b = some o → h₁.get? b = some o := IC.toInCall.keep
  show wpAny _ _ (execs _ _) _ _ _
  refine wpAny_execs_cons (wpAny_Pass (wpAny_execs_nil ⟨rfl, hq h₁ tk₁ (hp.objs.size + 1) hp.objs.size (fun b o e => k b o (kk b o e)) (Nat.le_succ _) (k _ _ at1)⟩))
end
end PErr0
end PySem
namespace L2
open PySem PySem.Spec PyProof.Rows
section
variable {X : Cx} {C B fI : Addr} {cn q : Str}
theorem pmk_0 {p pos : Pos} {k : Nat} (T : PySem.PErr0.Txt X.K X.mg cn q C B fI) (hr : Room k X.A) (hg : Gl X cn) (hdb : (cn == ("__debug__" : Str)) = false) :
    PMk X (.Call (.Name cn p) [] [] pos) (fun _ H Q => Q (.ref C) none H) := by
  intro pins s σ H Q I h
  refine wpAny_Call_Name_kw (ld_glob I hg T.base.gC ?_ hdb)
  refine PySem.W.callWith_K0 I.kIn T.base.kC ?_
  show wpAny _ _ (call (.ref C) []) _ _ _
  have hlim := I.nolimit
  have kin := I.kIn
  obtain ⟨hp, g, dr, tk, os⟩ := s
  refine wpAny_call (PySem.PErr0.made0 T kin hlim (by have := hr.dp; omega) fun h' tk' e t0 kp en hoe => ?_)
  show MkP X pins σ Q (.ref e) ⟨h', g, dr, tk', os⟩
  obtain ⟨G', g1, g2⟩ := restrict h' fun b => decide (b ≠ e)
  have gk : ∀ b, b ≠ e → G'.get? b = h'.get? b := fun b hb => g1 b (decide_eq_true hb)
  have ge : G'.get? e = none := g2 e (by simp)
  have old : ∀ b o, hp.get? b = some o → G'.get? b = some o := fun b o q => (gk b (Nat.ne_of_lt (Nat.lt_of_lt_of_le (Heap.lt_size q) en))).trans (kp b o q)
  have J : Inv X pins σ H ⟨G', g, dr, tk', os⟩ := I.kept (t' := tk') old
  refine ⟨e, _, _, ⟨G', g, dr, tk', os⟩, H, .ref C, none, rfl, J, fun b o q => ?_, ge, hoe, ⟨rfl, rfl⟩, rfl, rfl, I.hok.fresh en, rfl, I.bare, raises_own T.base.exC T.base.tyC, h⟩
  by_cases hb : b = e
  · have q' : G'.get? b = some o := q
    rw [hb, ge] at q'
    cases q'
  · exact (gk b hb).symm.trans q
def tRaise0 (C : Addr) (W : WX) : TS := fun _ σ H => W (.ref C) none σ H
theorem ps_raise_0 {W : WX} {p pos pos2 : Pos} {k : Nat} (hc : X.calm = true) (T : PySem.PErr0.Txt X.K X.mg cn q C B fI) (hr : Room k X.A) (tk : Takes X W) (hg : Gl X cn) (hdb : (cn == ("__debug__" : Str)) = false) :
    PS X (.Raise (some (.Call (.Name cn p) [] [] pos)) none pos2) (tRaise0 C W) := ps_raise hc tk (pmk_0 T hr hg hdb)
end
end L2

/-! A def that is known by its promise, called. -/
namespace L2
open PySem PySem.Spec PyProof.Rows
structure Dfn (P : Program) (w : World) (K : PySem.W.Frag) (mg : Str → Option Value) (base : Heap) (CX : CXT) (lv : Nat) (x : Str) (ps : List Str) (sp : Sp) (fa : Addr) (fd : FuncData) : Prop where
  ok : FnOk P w K mg base CX lv fa fd ps sp
  g : mg x = some (.ref fa)
  kp : PySem.W.keepIn K (.ref fa) = true
  b : Binds K fd ps []
section
variable {X : Cx} {lv : Nat} {x : Str} {ps : List Str} {sp : Sp} {fa : Addr} {fd : FuncData} {e : Expr} {es : List Expr} {t : TA} {p pos : Pos}
theorem pe_d (D : Dfn X.prog X.w X.K X.mg X.base CX0 lv x ps sp fa fd) (hr : Room lv X.A) (ha : PA X (e :: es) t) (hg : Gl X x := by rfl)
    (hdb : (x == ("__debug__" : Str)) = false := by decide) (he : starEach (e :: es) X.env = (false, eval e X.env) :: starEach es X.env := by rfl) (hpl : (backTo pos (starEach es X.env)).any (·.1) = false := by rfl) :
    PE X (.Call (.Name x p) (e :: es) [] pos) (tCall sp [] E0 t) := pe_call D.ok hr hg D.g D.kp D.b .nil pass0 ha hdb he hpl
theorem pe_d0 (D : Dfn X.prog X.w X.K X.mg X.base CX0 lv x ps sp fa fd) (hr : Room lv X.A) (hg : Gl X x := by rfl) (hdb : (x == ("__debug__" : Str)) = false := by decide) :
    PE X (.Call (.Name x p) [] [] pos) (tCall sp [] E0 tNil) := pe_call0 D.ok hr hg D.g D.kp D.b .nil pass0 hdb
theorem pe_dS {W : WX} (D : Dfn X.prog X.w X.K X.mg X.base (L2.CX X.prog X.w) lv x ps sp fa fd) (hr : Room lv X.A) (tk : Takes X W) (ha : PA X (e :: es) t) (hg : Gl X x := by rfl)
    (hdb : (x == ("__debug__" : Str)) = false := by decide) (he : starEach (e :: es) X.env = (false, eval e X.env) :: starEach es X.env := by rfl) (hpl : (backTo pos (starEach es X.env)).any (·.1) = false := by rfl) :
    PE X (.Call (.Name x p) (e :: es) [] pos) (tCallS sp (WE W) t) := pe_callS D.ok hr hg D.g D.kp D.b (fun σ => passAt tk σ) ha hdb he hpl
end
/-! ### tests whose answer is known -/
section
variable {σ : L2.St} {H : Hp} {D : Ends} {t u : TS} {i : Nat} {n j : Int}
theorem ife_yes (h0 : σ[i]? = some (some (.int n))) (e : n = j) (q : t D σ H) : tIfS (tTest (tOp rEq (tVar i) (tC (.int j)))) t u D σ H := by
  refine ⟨_, h0, rfl, _, rfl, ?_⟩
  rw [decide_eq_true (by rw [e])]
  exact iteT q
theorem ife_no (h0 : σ[i]? = some (some (.int n))) (e : n ≠ j) (q : u D σ H) : tIfS (tTest (tOp rEq (tVar i) (tC (.int j)))) t u D σ H := by
  refine ⟨_, h0, rfl, _, rfl, ?_⟩
  rw [decide_eq_false (fun z => e (V.int.inj z))]
  exact iteF q
end
end L2

namespace PySem
namespace PErr
open PySem.W PySem.Calls PyProof.Rows
section
variable {K : Frag} {mg : Str → Option Value} {x y : Str} {C B D : Addr}
theorem sub_cl (T : Cl K mg x C B) : subIn K (.ref C) (.ref D) = some (decide (C = D) || decide (B = D)) := by
  obtain ⟨nm, q, N, bs, sn, sub, ab, col, dd, k0, k1, k2, k3, k5, hC⟩ := T.cls
  have hcl : clsIn K C = some { name := nm, bases := bs, mro := mroE C B, ns := N, qualname := q, hasDict := true, slotNames := sn, subclasses := sub, abstract := ab, collection := col, hasDel := false } := by unfold clsIn; rw [hC] <;> rfl
  show mroIn K C (.ref D) = _
  unfold mroIn
  rw [hcl, Option.bind_some, if_neg (show ¬ (List.isEmpty (mroE C B) = true) from Bool.false_ne_true)]
  have e : (mroE C B).contains (.ref D) = (decide (C = D) || decide (B = D)) := by
    rw [List.contains_cons, List.contains_cons]
    have e1 : ∀ A : Addr, ((Value.ref D == Value.ref A) : Bool) = decide (A = D) := fun A => by
      by_cases h : A = D
      · subst h; simp
      · rw [decide_eq_false h]; simpa using fun z => h z.symm
    rw [e1, e1]
    have e3 : tailE.contains (.ref D) = false := by simp
    rw [e3, Bool.or_false]
  rw [e]
theorem cls_some (T : Cl K mg x C B) : (clsIn K C).isSome = true := by
  obtain ⟨nm, q, N, bs, sn, sub, ab, col, dd, k0, k1, k2, k3, k5, hC⟩ := T.cls
  unfold clsIn
  rw [hC] <;> rfl
theorem exm_of (h1 : subIn K (.ref D) (.type "BaseException") = some true) (h2 : (clsIn K D).isSome = true) (h3 : typeIn K (.ref D) = some (.type "type")) (T : Cl K mg x C B) : exmOne K (.ref C) (.ref D) = some (decide (C = D) || decide (B = D)) := by
  have e1 : (subIn K (.ref D) (.type "BaseException") == some true) = true := by rw [h1] <;> rfl
  have e2 : ((clsIn K D).isSome && typeIn K (.ref D) == some (.type "type")) = true := by rw [h2, h3] <;> rfl
  show (if (subIn K (.ref D) (.type "BaseException") == some true) = true then (if ((clsIn K D).isSome && typeIn K (.ref D) == some (.type "type")) = true then subIn K (.ref C) (.ref D) else none) else none) = _
  rw [if_pos e1, if_pos e2, sub_cl T]
/-- an error of one class, a clause that names another one of the family -/
theorem exm_cl (T : Cl K mg x C B) (U : Cl K mg y D B) (n : B ≠ D) : exmOne K (.ref C) (.ref D) = some (decide (C = D)) := by
  rw [exm_of U.exC (cls_some U) U.tyC T, decide_eq_false n, Bool.or_false]
theorem exm_base (h1 : subIn K (.ref B) (.type "BaseException") = some true) (h2 : (clsIn K B).isSome = true) (h3 : typeIn K (.ref B) = some (.type "type")) (T : Cl K mg x C B) : exmOne K (.ref C) (.ref B) = some true := by
  rw [exm_of h1 h2 h3 T, decide_eq_true rfl, Bool.or_true]
end
end PErr
end PySem

namespace K00
open PySem L2 Evl
def top (i : Nat) : Stmt := PySem.Challenge.pw_leastpromise_k00_whole_errors_and_what_t.main.body.getD i (.Pass ⟨0, 0, 0, 0⟩)
abbrev s_law_box : Stmt := top 26
theorem sc_law_box : FnScope ["script", "k", "cell"] ["script", "k"] (defScope s_law_box) := ⟨rfl, rfl, rfl, by decide +kernel, rfl, by decide +kernel, by decide +kernel⟩
abbrev s_law_take : Stmt := top 27
theorem sc_law_take : FnScope ["box", "many", "digit", "raw"] ["box", "many"] (defScope s_law_take) := ⟨rfl, rfl, rfl, by decide +kernel, rfl, by decide +kernel, by decide +kernel⟩
abbrev s_law_pick : Stmt := top 28
theorem sc_law_pick : FnScope ["box", "some"] ["box", "some"] (defScope s_law_pick) := ⟨rfl, rfl, rfl, by decide +kernel, rfl, by decide +kernel, by decide +kernel⟩
abbrev s_law_raise_a : Stmt := top 29
theorem sc_law_raise_a : FnScope ["number", "thing"] ["number", "thing"] (defScope s_law_raise_a) := ⟨rfl, rfl, rfl, by decide +kernel, rfl, by decide +kernel, by decide +kernel⟩
abbrev s_law_raise_b : Stmt := top 30
theorem sc_law_raise_b : FnScope ["number", "thing"] ["number", "thing"] (defScope s_law_raise_b) := ⟨rfl, rfl, rfl, by decide +kernel, rfl, by decide +kernel, by decide +kernel⟩
abbrev s_law_raise_c : Stmt := top 31
theorem sc_law_raise_c : FnScope ["number", "thing"] ["number", "thing"] (defScope s_law_raise_c) := ⟨rfl, rfl, rfl, by decide +kernel, rfl, by decide +kernel, by decide +kernel⟩
abbrev s_law_raise : Stmt := top 32
theorem sc_law_raise : FnScope ["number", "thing"] ["number", "thing"] (defScope s_law_raise) := ⟨rfl, rfl, rfl, by decide +kernel, rfl, by decide +kernel, by decide +kernel⟩
abbrev s_law_caught_a : Stmt := top 33
theorem sc_law_caught_a : FnScope ["number", "thing", "e"] ["number", "thing"] (defScope s_law_caught_a) := ⟨rfl, rfl, rfl, by decide +kernel, rfl, by decide +kernel, by decide +kernel⟩
abbrev s_law_caught_b : Stmt := top 34
theorem sc_law_caught_b : FnScope ["number", "thing", "e"] ["number", "thing"] (defScope s_law_caught_b) := ⟨rfl, rfl, rfl, by decide +kernel, rfl, by decide +kernel, by decide +kernel⟩
abbrev s_law_caught_c : Stmt := top 35
theorem sc_law_caught_c : FnScope ["number", "thing", "e"] ["number", "thing"] (defScope s_law_caught_c) := ⟨rfl, rfl, rfl, by decide +kernel, rfl, by decide +kernel, by decide +kernel⟩
abbrev s_law_is_base : Stmt := top 36
theorem sc_law_is_base : FnScope ["number", "thing"] ["number", "thing"] (defScope s_law_is_base) := ⟨rfl, rfl, rfl, by decide +kernel, rfl, by decide +kernel, by decide +kernel⟩
abbrev slaw : Stmt := top 37
theorem sclaw : FnScope ["script", "box", "number", "thing", "kept"] ["script"] (defScope slaw) := ⟨rfl, rfl, rfl, by decide +kernel, rfl, by decide +kernel, by decide +kernel⟩
structure Txt (K : PySem.W.Frag) (mg : Str → Option Value) (C : Nat → Addr) (B : Addr) (fI : Nat → Addr) : Prop where
  b_len : mg "len" = none
  b_abs : mg "abs" = none
  b_int : mg "int" = none
  b_range : mg "range" = none
  x_InvalidText : PySem.PErrA.Txt K mg "InvalidText" "InvalidText.__init__" (C 0) B (fI 0)
  x_InvalidTable : PySem.PErrA.Txt K mg "InvalidTable" "InvalidTable.__init__" (C 1) B (fI 1)
  x_InvalidSheet : PySem.PErrA.Txt K mg "InvalidSheet" "InvalidSheet.__init__" (C 2) B (fI 2)
  x_InvalidLines : PySem.PErrA.Txt K mg "InvalidLines" "InvalidLines.__init__" (C 3) B (fI 3)
  x_InvalidFrame : PySem.PErrA.Txt K mg "InvalidFrame" "InvalidFrame.__init__" (C 4) B (fI 4)
  x_InvalidProgram : PySem.PErrA.Txt K mg "InvalidProgram" "InvalidProgram.__init__" (C 5) B (fI 5)
  x_InvalidRows : PySem.PErrA.Txt K mg "InvalidRows" "InvalidRows.__init__" (C 6) B (fI 6)
  x_InvalidDatum : PySem.PErrA.Txt K mg "InvalidDatum" "InvalidDatum.__init__" (C 7) B (fI 7)
  x_InvalidEvents : PySem.PErrA.Txt K mg "InvalidEvents" "InvalidEvents.__init__" (C 8) B (fI 8)
  x_InvalidProcessor : PySem.PErrA.Txt K mg "InvalidProcessor" "InvalidProcessor.__init__" (C 9) B (fI 9)
  x_InvalidLot : PySem.PErrA.Txt K mg "InvalidLot" "InvalidLot.__init__" (C 10) B (fI 10)
  x_InvalidCache : PySem.PErrA.Txt K mg "InvalidCache" "InvalidCache.__init__" (C 11) B (fI 11)
  x_InvalidSource : PySem.PErrA.Txt K mg "InvalidSource" "InvalidSource.__init__" (C 12) B (fI 12)
  x_InvalidIndex : PySem.PErrA.Txt K mg "InvalidIndex" "InvalidIndex.__init__" (C 13) B (fI 13)
  x_InvalidSpots : PySem.PErrA.Txt K mg "InvalidSpots" "InvalidSpots.__init__" (C 14) B (fI 14)
  x_InvalidWhole : PySem.PErrA.Txt K mg "InvalidWhole" "InvalidWhole.__init__" (C 15) B (fI 15)
  x_InvalidLots : PySem.PErrA.Txt K mg "InvalidLots" "InvalidLots.__init__" (C 16) B (fI 16)
  x_InvalidWatcher : PySem.PErrA.Txt K mg "InvalidWatcher" "InvalidWatcher.__init__" (C 17) B (fI 17)
  x_InvalidParts : PySem.PErrA.Txt K mg "InvalidParts" "InvalidParts.__init__" (C 18) B (fI 18)
  x_InvalidDeed : PySem.PErrA.Txt K mg "InvalidDeed" "InvalidDeed.__init__" (C 19) B (fI 19)
  x_Refused : PySem.PErrA.Txt K mg "Refused" "Refused.__init__" (C 20) B (fI 20)
  x_InvalidSize : PySem.PErrW.Txt K mg "InvalidSize" "InvalidSize.__init__" (C 21) B (fI 21)
  x_InvalidCommand : PySem.PErr0.Txt K mg "InvalidCommand" "InvalidCommand.__init__" (C 22) B (fI 22)
  m_PromiseError : mg "PromiseError" = some (.ref B)
  exm : ∀ i j, i < 23 → j < 23 → PySem.W.exmOne K (.ref (C i)) (.ref (C j)) = some (decide (i = j))
  exb : ∀ i, i < 23 → PySem.W.exmOne K (.ref (C i)) (.ref B) = some true
section
variable {K : PySem.W.Frag} {mg : Str → Option Value} {C fI : Nat → Addr} {B : Addr}
theorem Txt.m_InvalidText (T : Txt K mg C B fI) : mg "InvalidText" = some (.ref (C 0)) := T.x_InvalidText.base.gC
theorem Txt.m_InvalidTable (T : Txt K mg C B fI) : mg "InvalidTable" = some (.ref (C 1)) := T.x_InvalidTable.base.gC
theorem Txt.m_InvalidSheet (T : Txt K mg C B fI) : mg "InvalidSheet" = some (.ref (C 2)) := T.x_InvalidSheet.base.gC
theorem Txt.m_InvalidLines (T : Txt K mg C B fI) : mg "InvalidLines" = some (.ref (C 3)) := T.x_InvalidLines.base.gC
theorem Txt.m_InvalidFrame (T : Txt K mg C B fI) : mg "InvalidFrame" = some (.ref (C 4)) := T.x_InvalidFrame.base.gC
theorem Txt.m_InvalidProgram (T : Txt K mg C B fI) : mg "InvalidProgram" = some (.ref (C 5)) := T.x_InvalidProgram.base.gC
theorem Txt.m_InvalidRows (T : Txt K mg C B fI) : mg "InvalidRows" = some (.ref (C 6)) := T.x_InvalidRows.base.gC
theorem Txt.m_InvalidDatum (T : Txt K mg C B fI) : mg "InvalidDatum" = some (.ref (C 7)) := T.x_InvalidDatum.base.gC
theorem Txt.m_InvalidEvents (T : Txt K mg C B fI) : mg "InvalidEvents" = some (.ref (C 8)) := T.x_InvalidEvents.base.gC
theorem Txt.m_InvalidProcessor (T : Txt K mg C B fI) : mg "InvalidProcessor" = some (.ref (C 9)) := T.x_InvalidProcessor.base.gC
theorem Txt.m_InvalidLot (T : Txt K mg C B fI) : mg "InvalidLot" = some (.ref (C 10)) := T.x_InvalidLot.base.gC
theorem Txt.m_InvalidCache (T : Txt K mg C B fI) : mg "InvalidCache" = some (.ref (C 11)) := T.x_InvalidCache.base.gC
theorem Txt.m_InvalidSource (T : Txt K mg C B fI) : mg "InvalidSource" = some (.ref (C 12)) := T.x_InvalidSource.base.gC
theorem Txt.m_InvalidIndex (T : Txt K mg C B fI) : mg "InvalidIndex" = some (.ref (C 13)) := T.x_InvalidIndex.base.gC
theorem Txt.m_InvalidSpots (T : Txt K mg C B fI) : mg "InvalidSpots" = some (.ref (C 14)) := T.x_InvalidSpots.base.gC
theorem Txt.m_InvalidWhole (T : Txt K mg C B fI) : mg "InvalidWhole" = some (.ref (C 15)) := T.x_InvalidWhole.base.gC
theorem Txt.m_InvalidLots (T : Txt K mg C B fI) : mg "InvalidLots" = some (.ref (C 16)) := T.x_InvalidLots.base.gC
theorem Txt.m_InvalidWatcher (T : Txt K mg C B fI) : mg "InvalidWatcher" = some (.ref (C 17)) := T.x_InvalidWatcher.base.gC
theorem Txt.m_InvalidParts (T : Txt K mg C B fI) : mg "InvalidParts" = some (.ref (C 18)) := T.x_InvalidParts.base.gC
theorem Txt.m_InvalidDeed (T : Txt K mg C B fI) : mg "InvalidDeed" = some (.ref (C 19)) := T.x_InvalidDeed.base.gC
theorem Txt.m_Refused (T : Txt K mg C B fI) : mg "Refused" = some (.ref (C 20)) := T.x_Refused.base.gC
theorem Txt.m_InvalidSize (T : Txt K mg C B fI) : mg "InvalidSize" = some (.ref (C 21)) := T.x_InvalidSize.base.gC
theorem Txt.m_InvalidCommand (T : Txt K mg C B fI) : mg "InvalidCommand" = some (.ref (C 22)) := T.x_InvalidCommand.base.gC
end

/-! ### the box -/
def spBox (K : PySem.W.Frag) : Sp := fun vs H Q _ => ∃ (a : Addr) (ns : List Int) (k : Int), vs = [.ref a, .int k] ∧ SqL K H a (ns.map V.int) ∧ 0 ≤ k ∧ k < 1000 ∧
  ∀ (H' : Hp) (p : Addr) (x y z : Int), Ex H H' → H p = none → H' p = some (.lst [.int x, .int y, .int z]) → Q (.ref p) H'
def spTake : Sp := fun vs H Q _ => ∃ (b : Addr) (x y z many : Int), vs = [.ref b, .int many] ∧ H b = some (.lst [.int x, .int y, .int z]) ∧ 0 < many ∧ many < 1000000 ∧
  ∀ (H' : Hp) (d x' y' z' : Int), 0 ≤ d → d < many → (∀ c, c ≠ b → H' c = H c) → H' b = some (.lst [.int x', .int y', .int z']) → Q (.int d) H'
def spPick : Sp := fun vs H Q _ => ∃ (b l : Addr) (x y z : Int) (xs : List V), vs = [.ref b, .ref l] ∧ H b = some (.lst [.int x, .int y, .int z]) ∧ H l = some (.lst xs) ∧ b ≠ l ∧ 0 < xs.length ∧ xs.length < 1000 ∧
  ∀ (H' : Hp) (v : V) (x' y' z' : Int), v ∈ xs → (∀ c, c ≠ b → H' c = H c) → H' b = some (.lst [.int x', .int y', .int z']) → Q v H'
section
variable {P : Program} {w : World} {K : PySem.W.Frag} {mg : Str → Option Value} {base : Heap} {C fI : Nat → Addr} {B : Addr}
theorem ok_box {f : Addr} {fd : FuncData} (F : Fun K "_law_box" "_law_box" s_law_box f fd) (T : Txt K mg C B fI) : FnOk P w K mg base CX0 1 f fd ["script", "k"] (spBox K) := by
  refine F.ok sc_law_box (fun vs H Q E h => ?_) (fun cdv A outer s H vs Q E hr h => ?_)
  · obtain ⟨a, ns, k, rfl, _⟩ := h
    rfl
  · obtain ⟨a, ns, k, rfl, hS, hk0, hk1, hq⟩ := h
    refine ⟨_, (pss_cons (ps_set (i := 2) sc_law_box.nd rfl (by first | exact Or.inl rfl | exact Or.inr rfl) (pe_op op_add (pe_op op_mul pe_int (pv 1)) pe_int)) (Evl.pss_cut (ps_if (pt_cmpR op_lt (pv 1) (pe_callB call_len_seq (by rfl) T.b_len PySem.boot_len (pa_cons (pv 0) pa_nil)) (nomark _)) (pss_one (ps_set (i := 2) sc_law_box.nd rfl (by first | exact Or.inl rfl | exact Or.inr rfl) (pe_callB call_abs (by rfl) T.b_abs (by decide +kernel) (pa_cons (pe_ix ix_list (pv 0) (pv 1) (fun _ _ => rfl)) pa_nil)))) (pss_one (ps_if (pt_cmpR op_gt (pe_callB call_len_seq (by rfl) T.b_len PySem.boot_len (pa_cons (pv 0) pa_nil)) pe_int (nomark _)) (pss_one (ps_set (i := 2) sc_law_box.nd rfl (by first | exact Or.inl rfl | exact Or.inr rfl) (pe_op op_add (pv 2) (pe_op op_mul (pe_op op_mod (pe_callTy call_int1 (by rfl) T.b_int (by decide +kernel) (pa_cons (pe_callB call_abs (by rfl) T.b_abs (by decide +kernel) (pa_cons (pe_ix ix_list (pv 0) (pe_op op_mod (pe_callTy call_int1 (by rfl) T.b_int (by decide +kernel) (pa_cons (pv 1) pa_nil)) (pe_callB call_len_seq (by rfl) T.b_len PySem.boot_len (pa_cons (pv 0) pa_nil))) (fun _ _ => rfl)) pa_nil)) pa_nil)) pe_int) pe_int)))) pss_nil))) (pss_one (ps_ret (pe_lst (pa_cons (pe_ix ix_list (pe_lst (pa_cons pe_int (pa_cons (pv 2) pa_nil))) (pe_callTy call_int1 (by rfl) T.b_int (by decide +kernel) (pa_cons (pe_cmpR op_ge (pv 2) (pe_op op_pow pe_int pe_int) (nomark _)) pa_nil)) (fun _ _ => rfl)) (pa_cons (pe_op op_add (pe_op op_mod (pe_callTy call_int1 (by rfl) T.b_int (by decide +kernel) (pa_cons (pe_op op_add (pe_op op_mul (pe_op op_mod (pe_callTy call_int1 (by rfl) T.b_int (by decide +kernel) (pa_cons (pv 2) pa_nil)) pe_int) pe_int) (pe_op op_mul pe_int (pv 1))) pa_nil)) pe_int) pe_int) (pa_cons pe_int pa_nil)))))))), ?_⟩
    refine ⟨_, rfl, _, _, rfl, rfl, .inl ⟨by decide, by decide⟩, _, _, rfl, rfl, ?_⟩
    refine ⟨fun σ' H' => H' = H ∧ ∃ cell : Int, σ' = [some (.ref a), some (.int k), some (.int cell)], ?_, ?_⟩
    · have hlen : (ns.map V.int).length = ns.length := List.length_map ..
      refine ⟨_, rfl, _, rfl, a, _, rfl, .inl hS, _, _, rfl, rfl, _, rfl, ?_⟩
      refine ite2 (fun c => ?_) (fun c => ?_)
      · have c1 : k < (ns.length : Int) := by
          have c2 := of_decide_eq_true c
          rw [hlen] at c2
          exact c2
        obtain ⟨j, rfl⟩ := Int.eq_ofNat_of_zero_le hk0
        have hj : j < ns.length := by omega
        have hat : (ns.map V.int)[j]? = some (.int ns[j]) := by rw [List.getElem?_map, List.getElem?_eq_getElem hj] <;> rfl
        exact ⟨_, rfl, _, rfl, a, _, _, _, rfl, rfl, hS, atI_nat hat, _, rfl, rfl, _, rfl⟩
      · refine ⟨_, rfl, a, _, rfl, .inl hS, _, _, rfl, rfl, _, rfl, ?_⟩
        refine ite2 (fun c0 => ?_) (fun c0 => ?_)
        · have c1 : (0 : Int) < ((ns.map V.int).length : Int) := of_decide_eq_true c0
          have m0 := Int.emod_nonneg k (Int.ne_of_gt c1)
          have m1 := Int.emod_lt_of_pos k c1
          obtain ⟨j, ej⟩ := Int.eq_ofNat_of_zero_le m0
          have hj : j < ns.length := by rw [ej, hlen] at m1; omega
          have hat : (ns.map V.int)[j]? = some (.int ns[j]) := by rw [List.getElem?_map, List.getElem?_eq_getElem hj] <;> rfl
          have hat2 : atI (ns.map V.int) (k % ((ns.map V.int).length : Int)) = some (.int ns[j]) := by rw [ej]; exact atI_nat hat
          exact ⟨_, rfl, _, rfl, _, rfl, .inl ⟨_, rfl, _, rfl, a, _, rfl, .inl hS, _, _, rfl, rfl, c1, a, _, _, _, rfl, rfl, hS, hat2, _, rfl, .inl ⟨_, rfl, _, _, rfl, rfl, (by show (0 : Int) < 2147483629; decide), _, _, rfl, rfl, .inr ⟨by decide, by decide⟩, _, _, rfl, rfl, rfl, _, rfl⟩⟩⟩
        · exact ⟨rfl, _, rfl⟩
    · rintro σ' H' ⟨rfl, cell, rfl⟩
      have hb : ∀ c : Bool, atI [V.int 0, V.int cell] (if c then 1 else 0) = some (V.int (if c then cell else 0)) := fun c => by cases c <;> rfl
      refine ⟨_, rfl, (by show 2 ≤ sizeLine; decide), fun p hp => ?_⟩
      refine ⟨_, rfl, _, _, rfl, rfl, ⟨by decide, by decide, by decide⟩, _, _, rfl, rfl, .inr ⟨_, rfl, p, _, _, _, rfl, rfl, SqL.of upd_same, hb _, ?_⟩⟩
      refine ⟨_, rfl, .inl ⟨_, rfl, _, _, rfl, rfl, (by show (0 : Int) < 2147483629; decide), _, _, rfl, rfl, .inr ⟨by decide, by decide⟩, _, rfl, _, _, rfl, rfl, .inl ⟨by decide, by decide⟩, _, _, rfl, rfl, ?_⟩⟩
      refine .inl ⟨_, rfl, _, _, rfl, rfl, (by show (0 : Int) < 2147483629; decide), _, _, rfl, rfl, (by show 3 ≤ sizeLine; decide), fun q hqn => ?_⟩
      have nqp : q ≠ p := fun z => by rw [z, upd_same] at hqn; cases hqn
      have hq0 : H' q = none := by rw [upd_ne nqp] at hqn; exact hqn
      exact hq _ q _ _ _ (Ex.trans (Ex.new hp) (Ex.new hqn)) hq0 upd_same
theorem ok_take {f : Addr} {fd : FuncData} (F : Fun K "_law_take" "_law_take" s_law_take f fd) (T : Txt K mg C B fI) : FnOk P w K mg base CX0 1 f fd ["box", "many"] spTake := by
  refine F.ok sc_law_take (fun vs H Q E h => ?_) (fun cdv A outer s H vs Q E hr h => ?_)
  · obtain ⟨b, x, y, z, many, rfl, _⟩ := h
    rfl
  · obtain ⟨b, x, y, z, many, rfl, hb, m0, m1, hq⟩ := h
    refine ⟨_, (pss_cons (ps_if (pt_cmpR op_gt (pe_ix ix_list (pv 0) pe_int (fun _ _ => rfl)) pe_int (nomark _)) (pss_cons (ps_set (i := 2) sc_law_take.nd rfl (by first | exact Or.inl rfl | exact Or.inr rfl) (pe_op op_mod (pe_callTy call_int1 (by rfl) T.b_int (by decide +kernel) (pa_cons (pe_ix ix_list (pv 0) pe_int (fun _ _ => rfl)) pa_nil)) (pv 1))) (pss_cons (ps_asg (pe_op op_fdiv (pe_ix ix_list (pv 0) pe_int (fun _ _ => rfl)) (pv 1)) (pg_sub (pv 0) pe_int set_list)) (pss_one (ps_ret (pv 2))))) pss_nil) (pss_cons (ps_asg (pe_op op_add (pe_ix ix_list (pv 0) pe_int (fun _ _ => rfl)) pe_int) (pg_sub (pv 0) pe_int set_list)) (pss_cons (ps_set (i := 3) sc_law_take.nd rfl (by first | exact Or.inl rfl | exact Or.inr rfl) (pe_op op_mod (pe_callTy call_int1 (by rfl) T.b_int (by decide +kernel) (pa_cons (pe_op op_add (pe_op op_mul (pe_op op_add (pe_ix ix_list (pv 0) pe_int (fun _ _ => rfl)) (pe_op op_mul pe_int (pe_ix ix_list (pv 0) pe_int (fun _ _ => rfl)))) pe_int) pe_int) pa_nil)) pe_int)) (pss_cons (ps_asg (pe_op op_add (pe_op op_mod (pe_callTy call_int1 (by rfl) T.b_int (by decide +kernel) (pa_cons (pe_op op_add (pe_op op_mul (pv 3) pe_int) pe_int) pa_nil)) pe_int) pe_int) (pg_sub (pv 0) pe_int set_list)) (pss_one (ps_ret (pe_op op_mod (pe_callTy call_int1 (by rfl) T.b_int (by decide +kernel) (pa_cons (pe_op op_fdiv (pe_op op_add (pe_op op_mul (pv 3) pe_int) (pe_ix ix_list (pv 0) pe_int (fun _ _ => rfl))) pe_int) pa_nil)) (pv 1)))))))), ?_⟩
    refine ⟨_, rfl, b, _, _, _, rfl, rfl, SqL.of hb, rfl, _, _, rfl, rfl, _, rfl, ?_⟩
    refine ite2 (fun c => ?_) (fun c => ?_)
    · refine ⟨_, rfl, b, _, _, _, rfl, rfl, SqL.of hb, rfl, .inl ⟨_, rfl, _, rfl, _, _, rfl, rfl, m0, ?_⟩⟩
      refine ⟨_, rfl, b, _, _, _, rfl, rfl, SqL.of hb, rfl, _, rfl, _, _, rfl, rfl, ⟨m0, by omega⟩, _, rfl, b, _, _, 0, rfl, rfl, hb, rfl, ?_⟩
      refine ⟨_, rfl, ?_⟩
      exact hq _ _ _ _ _ (Int.emod_nonneg _ (by omega)) (Int.emod_lt_of_pos _ m0) (fun c hc => upd_ne hc) upd_same
    · refine ⟨_, rfl, b, _, _, _, rfl, rfl, SqL.of hb, rfl, _, _, rfl, rfl, _, rfl, b, _, _, 2, rfl, rfl, hb, rfl, ?_⟩
      refine ⟨_, rfl, b, _, _, _, rfl, rfl, SqL.of upd_same, rfl, _, rfl, b, _, _, _, rfl, rfl, SqL.of upd_same, rfl, _, _, rfl, rfl, .inl ⟨by decide, by decide⟩, _, _, rfl, rfl, _, _, rfl, rfl, .inr ⟨by decide, by decide⟩, _, _, rfl, rfl, ?_⟩
      refine .inl ⟨_, rfl, _, _, rfl, rfl, (by show (0 : Int) < 2147483563; decide), ?_⟩
      refine ⟨_, rfl, _, _, rfl, rfl, .inr ⟨by decide, by decide⟩, _, _, rfl, rfl, .inl ⟨_, rfl, _, _, rfl, rfl, (by show (0 : Int) < 2147483629; decide), _, _, rfl, rfl, ?_⟩⟩
      refine ⟨_, rfl, b, _, _, 1, rfl, rfl, upd_same, rfl, ?_⟩
      refine ⟨_, rfl, _, _, rfl, rfl, .inr ⟨by decide, by decide⟩, _, rfl, b, _, _, _, rfl, rfl, SqL.of upd_same, rfl, _, _, rfl, rfl, _, _, rfl, rfl, ⟨by decide, by decide⟩, .inl ⟨_, rfl, _, rfl, _, _, rfl, rfl, m0, ?_⟩⟩
      exact hq _ _ _ _ _ (Int.emod_nonneg _ (by omega)) (Int.emod_lt_of_pos _ m0) (fun c hc => by rw [upd_ne hc, upd_ne hc]) upd_same
theorem ok_pick {f ft : Addr} {fd fdt : FuncData} (F : Fun K "_law_pick" "_law_pick" s_law_pick f fd) (T : Txt K mg C B fI) (D_take : Dfn P w K mg base CX0 1 "_law_take" ["box", "many"] spTake ft fdt) : FnOk P w K mg base CX0 2 f fd ["box", "some"] spPick := by
  refine F.ok sc_law_pick (fun vs H Q E h => ?_) (fun cdv A outer s H vs Q E hr h => ?_)
  · obtain ⟨b, l, x, y, z, xs, rfl, _⟩ := h
    rfl
  · obtain ⟨b, l, x, y, z, xs, rfl, hb, hl, nbl, l0, l1, hq⟩ := h
    refine ⟨_, (pss_one (ps_ret (pe_ix ix_list (pv 1) (pe_d D_take (hr.mono (by decide)) (pa_cons (pv 0) (pa_cons (pe_callB call_len_seq (by rfl) T.b_len PySem.boot_len (pa_cons (pv 1) pa_nil)) pa_nil))) (fun _ _ => rfl)))), ?_⟩
    refine ⟨_, rfl, _, rfl, _, rfl, l, _, rfl, .inl (SqL.of hl), b, x, y, z, _, rfl, hb, by omega, by omega, fun H' d x' y' z' d0 d1 hk hb' => ?_⟩
    obtain ⟨j, rfl⟩ := Int.eq_ofNat_of_zero_le d0
    have hj : j < xs.length := by omega
    refine ⟨l, xs, _, _, rfl, rfl, SqL.of (by rw [hk l (Ne.symm nbl)]; exact hl), atI_nat (List.getElem?_eq_getElem hj), ?_⟩
    exact hq H' _ x' y' z' (List.getElem_mem hj) hk hb'
end
end K00

namespace K00
open PySem L2 Evl
/-- what is wished of the error of number n, made of v -/
def eWish (C : Nat → Addr) (n : Nat) (v : V) (H : Hp) (E : XK) : Prop :=
  if n = 22 then E (.ref (C 22)) none H else ∀ d, H d = none → E (.ref (C n)) (some d) (upd H d (.xd [((if n = 21 then "word" else "at" : Str), v)]))
def spRaise (C : Nat → Addr) (lo hi : Nat) : Sp := fun vs H _ E => ∃ (n : Nat) (v : V), vs = [.int n, v] ∧ lo ≤ n ∧ n < hi ∧ eWish C n v H E
theorem eW_at {C : Nat → Addr} {n : Nat} {v : V} {H : Hp} {E : XK} (h : eWish C n v H E) (h1 : n ≠ 22 := by decide) (h2 : n ≠ 21 := by decide) : ∀ d, H d = none → E (.ref (C n)) (some d) (upd H d (.xd [(("at" : Str), v)])) := by
  unfold eWish at h
  rw [if_neg h1, if_neg h2] at h
  exact h
theorem eW_word {C : Nat → Addr} {v : V} {H : Hp} {E : XK} (h : eWish C 21 v H E) : ∀ d, H d = none → E (.ref (C 21)) (some d) (upd H d (.xd [(("word" : Str), v)])) := h
theorem eW_0 {C : Nat → Addr} {v : V} {H : Hp} {E : XK} (h : eWish C 22 v H E) : E (.ref (C 22)) none H := h
section
variable {P : Program} {w : World} {K : PySem.W.Frag} {mg : Str → Option Value} {base : Heap} {C fI : Nat → Addr} {B : Addr}
theorem ok_raise_a {f : Addr} {fd : FuncData} (F : Fun K "_law_raise_a" "_law_raise_a" s_law_raise_a f fd) (T : Txt K mg C B fI) : FnOk P w K mg base (L2.CX P w) 1 f fd ["number", "thing"] (spRaise C 0 8) := by
  refine F.okX sc_law_raise_a (fun vs H Q E h => ?_) (fun cdv A outer s H vs Q E hr h => ?_)
  · obtain ⟨n, v, rfl, _⟩ := h
    rfl
  · have tk := takes_of (X := cxOf (L2.CX P w) P w K mg base ["number", "thing"] "_law_raise_a" (defScope s_law_raise_a) f cdv A outer s H E) (E := E) rfl rfl rfl rfl
    refine ⟨_, (pss_one (ps_if (pt_cmpR op_eq (pv 0) pe_int (nomark _)) (pss_one (ps_raise_A rfl T.x_InvalidText hr tk (pa_cons (pv 1) pa_nil) rfl (by decide))) (pss_one (ps_if (pt_cmpR op_eq (pv 0) pe_int (nomark _)) (pss_one (ps_raise_A rfl T.x_InvalidTable hr tk (pa_cons (pv 1) pa_nil) rfl (by decide))) (pss_one (ps_if (pt_cmpR op_eq (pv 0) pe_int (nomark _)) (pss_one (ps_raise_A rfl T.x_InvalidSheet hr tk (pa_cons (pv 1) pa_nil) rfl (by decide))) (pss_one (ps_if (pt_cmpR op_eq (pv 0) pe_int (nomark _)) (pss_one (ps_raise_A rfl T.x_InvalidLines hr tk (pa_cons (pv 1) pa_nil) rfl (by decide))) (pss_one (ps_if (pt_cmpR op_eq (pv 0) pe_int (nomark _)) (pss_one (ps_raise_A rfl T.x_InvalidFrame hr tk (pa_cons (pv 1) pa_nil) rfl (by decide))) (pss_one (ps_if (pt_cmpR op_eq (pv 0) pe_int (nomark _)) (pss_one (ps_raise_A rfl T.x_InvalidProgram hr tk (pa_cons (pv 1) pa_nil) rfl (by decide))) (pss_one (ps_if (pt_cmpR op_eq (pv 0) pe_int (nomark _)) (pss_one (ps_raise_A rfl T.x_InvalidRows hr tk (pa_cons (pv 1) pa_nil) rfl (by decide))) (pss_one (ps_if (pt_cmpR op_eq (pv 0) pe_int (nomark _)) (pss_one (ps_raise_A rfl T.x_InvalidDatum hr tk (pa_cons (pv 1) pa_nil) rfl (by decide))) pss_nil)))))))))))))))), ?_⟩
    obtain ⟨n, v, rfl, h1, h2, hE⟩ := h
    have cs : n = 0 ∨ n = 1 ∨ n = 2 ∨ n = 3 ∨ n = 4 ∨ n = 5 ∨ n = 6 ∨ n = 7 := by omega
    rcases cs with rfl | rfl | rfl | rfl | rfl | rfl | rfl | rfl
    · refine ife_yes rfl rfl ?_
      exact ⟨v, rfl, v, rfl, eW_at hE⟩
    · refine ife_no rfl (by decide) ?_; refine ife_yes rfl rfl ?_
      exact ⟨v, rfl, v, rfl, eW_at hE⟩
    · refine ife_no rfl (by decide) ?_; refine ife_no rfl (by decide) ?_; refine ife_yes rfl rfl ?_
      exact ⟨v, rfl, v, rfl, eW_at hE⟩
    · refine ife_no rfl (by decide) ?_; refine ife_no rfl (by decide) ?_; refine ife_no rfl (by decide) ?_; refine ife_yes rfl rfl ?_
      exact ⟨v, rfl, v, rfl, eW_at hE⟩
    · refine ife_no rfl (by decide) ?_; refine ife_no rfl (by decide) ?_; refine ife_no rfl (by decide) ?_; refine ife_no rfl (by decide) ?_; refine ife_yes rfl rfl ?_
      exact ⟨v, rfl, v, rfl, eW_at hE⟩
    · refine ife_no rfl (by decide) ?_; refine ife_no rfl (by decide) ?_; refine ife_no rfl (by decide) ?_; refine ife_no rfl (by decide) ?_; refine ife_no rfl (by decide) ?_; refine ife_yes rfl rfl ?_
      exact ⟨v, rfl, v, rfl, eW_at hE⟩
    · refine ife_no rfl (by decide) ?_; refine ife_no rfl (by decide) ?_; refine ife_no rfl (by decide) ?_; refine ife_no rfl (by decide) ?_; refine ife_no rfl (by decide) ?_; refine ife_no rfl (by decide) ?_; refine ife_yes rfl rfl ?_
      exact ⟨v, rfl, v, rfl, eW_at hE⟩
    · refine ife_no rfl (by decide) ?_; refine ife_no rfl (by decide) ?_; refine ife_no rfl (by decide) ?_; refine ife_no rfl (by decide) ?_; refine ife_no rfl (by decide) ?_; refine ife_no rfl (by decide) ?_; refine ife_no rfl (by decide) ?_; refine ife_yes rfl rfl ?_
      exact ⟨v, rfl, v, rfl, eW_at hE⟩
theorem ok_raise_b {f : Addr} {fd : FuncData} (F : Fun K "_law_raise_b" "_law_raise_b" s_law_raise_b f fd) (T : Txt K mg C B fI) : FnOk P w K mg base (L2.CX P w) 1 f fd ["number", "thing"] (spRaise C 8 16) := by
  refine F.okX sc_law_raise_b (fun vs H Q E h => ?_) (fun cdv A outer s H vs Q E hr h => ?_)
  · obtain ⟨n, v, rfl, _⟩ := h
    rfl
  · have tk := takes_of (X := cxOf (L2.CX P w) P w K mg base ["number", "thing"] "_law_raise_b" (defScope s_law_raise_b) f cdv A outer s H E) (E := E) rfl rfl rfl rfl
    refine ⟨_, (pss_one (ps_if (pt_cmpR op_eq (pv 0) pe_int (nomark _)) (pss_one (ps_raise_A rfl T.x_InvalidEvents hr tk (pa_cons (pv 1) pa_nil) rfl (by decide))) (pss_one (ps_if (pt_cmpR op_eq (pv 0) pe_int (nomark _)) (pss_one (ps_raise_A rfl T.x_InvalidProcessor hr tk (pa_cons (pv 1) pa_nil) rfl (by decide))) (pss_one (ps_if (pt_cmpR op_eq (pv 0) pe_int (nomark _)) (pss_one (ps_raise_A rfl T.x_InvalidLot hr tk (pa_cons (pv 1) pa_nil) rfl (by decide))) (pss_one (ps_if (pt_cmpR op_eq (pv 0) pe_int (nomark _)) (pss_one (ps_raise_A rfl T.x_InvalidCache hr tk (pa_cons (pv 1) pa_nil) rfl (by decide))) (pss_one (ps_if (pt_cmpR op_eq (pv 0) pe_int (nomark _)) (pss_one (ps_raise_A rfl T.x_InvalidSource hr tk (pa_cons (pv 1) pa_nil) rfl (by decide))) (pss_one (ps_if (pt_cmpR op_eq (pv 0) pe_int (nomark _)) (pss_one (ps_raise_A rfl T.x_InvalidIndex hr tk (pa_cons (pv 1) pa_nil) rfl (by decide))) (pss_one (ps_if (pt_cmpR op_eq (pv 0) pe_int (nomark _)) (pss_one (ps_raise_A rfl T.x_InvalidSpots hr tk (pa_cons (pv 1) pa_nil) rfl (by decide))) (pss_one (ps_if (pt_cmpR op_eq (pv 0) pe_int (nomark _)) (pss_one (ps_raise_A rfl T.x_InvalidWhole hr tk (pa_cons (pv 1) pa_nil) rfl (by decide))) pss_nil)))))))))))))))), ?_⟩
    obtain ⟨n, v, rfl, h1, h2, hE⟩ := h
    have cs : n = 8 ∨ n = 9 ∨ n = 10 ∨ n = 11 ∨ n = 12 ∨ n = 13 ∨ n = 14 ∨ n = 15 := by omega
    rcases cs with rfl | rfl | rfl | rfl | rfl | rfl | rfl | rfl
    · refine ife_yes rfl rfl ?_
      exact ⟨v, rfl, v, rfl, eW_at hE⟩
    · refine ife_no rfl (by decide) ?_; refine ife_yes rfl rfl ?_
      exact ⟨v, rfl, v, rfl, eW_at hE⟩
    · refine ife_no rfl (by decide) ?_; refine ife_no rfl (by decide) ?_; refine ife_yes rfl rfl ?_
      exact ⟨v, rfl, v, rfl, eW_at hE⟩
    · refine ife_no rfl (by decide) ?_; refine ife_no rfl (by decide) ?_; refine ife_no rfl (by decide) ?_; refine ife_yes rfl rfl ?_
      exact ⟨v, rfl, v, rfl, eW_at hE⟩
    · refine ife_no rfl (by decide) ?_; refine ife_no rfl (by decide) ?_; refine ife_no rfl (by decide) ?_; refine ife_no rfl (by decide) ?_; refine ife_yes rfl rfl ?_
      exact ⟨v, rfl, v, rfl, eW_at hE⟩
    · refine ife_no rfl (by decide) ?_; refine ife_no rfl (by decide) ?_; refine ife_no rfl (by decide) ?_; refine ife_no rfl (by decide) ?_; refine ife_no rfl (by decide) ?_; refine ife_yes rfl rfl ?_
      exact ⟨v, rfl, v, rfl, eW_at hE⟩
    · refine ife_no rfl (by decide) ?_; refine ife_no rfl (by decide) ?_; refine ife_no rfl (by decide) ?_; refine ife_no rfl (by decide) ?_; refine ife_no rfl (by decide) ?_; refine ife_no rfl (by decide) ?_; refine ife_yes rfl rfl ?_
      exact ⟨v, rfl, v, rfl, eW_at hE⟩
    · refine ife_no rfl (by decide) ?_; refine ife_no rfl (by decide) ?_; refine ife_no rfl (by decide) ?_; refine ife_no rfl (by decide) ?_; refine ife_no rfl (by decide) ?_; refine ife_no rfl (by decide) ?_; refine ife_no rfl (by decide) ?_; refine ife_yes rfl rfl ?_
      exact ⟨v, rfl, v, rfl, eW_at hE⟩
theorem ok_raise_c {f : Addr} {fd : FuncData} (F : Fun K "_law_raise_c" "_law_raise_c" s_law_raise_c f fd) (T : Txt K mg C B fI) : FnOk P w K mg base (L2.CX P w) 1 f fd ["number", "thing"] (spRaise C 16 23) := by
  refine F.okX sc_law_raise_c (fun vs H Q E h => ?_) (fun cdv A outer s H vs Q E hr h => ?_)
  · obtain ⟨n, v, rfl, _⟩ := h
    rfl
  · have tk := takes_of (X := cxOf (L2.CX P w) P w K mg base ["number", "thing"] "_law_raise_c" (defScope s_law_raise_c) f cdv A outer s H E) (E := E) rfl rfl rfl rfl
    refine ⟨_, (pss_one (ps_if (pt_cmpR op_eq (pv 0) pe_int (nomark _)) (pss_one (ps_raise_A rfl T.x_InvalidLots hr tk (pa_cons (pv 1) pa_nil) rfl (by decide))) (pss_one (ps_if (pt_cmpR op_eq (pv 0) pe_int (nomark _)) (pss_one (ps_raise_A rfl T.x_InvalidWatcher hr tk (pa_cons (pv 1) pa_nil) rfl (by decide))) (pss_one (ps_if (pt_cmpR op_eq (pv 0) pe_int (nomark _)) (pss_one (ps_raise_A rfl T.x_InvalidParts hr tk (pa_cons (pv 1) pa_nil) rfl (by decide))) (pss_one (ps_if (pt_cmpR op_eq (pv 0) pe_int (nomark _)) (pss_one (ps_raise_A rfl T.x_InvalidDeed hr tk (pa_cons (pv 1) pa_nil) rfl (by decide))) (pss_one (ps_if (pt_cmpR op_eq (pv 0) pe_int (nomark _)) (pss_one (ps_raise_A rfl T.x_Refused hr tk (pa_cons (pv 1) pa_nil) rfl (by decide))) (pss_one (ps_if (pt_cmpR op_eq (pv 0) pe_int (nomark _)) (pss_one (ps_raise_W rfl T.x_InvalidSize hr tk (pa_cons (pv 1) pa_nil) rfl (by decide))) (pss_one (ps_if (pt_cmpR op_eq (pv 0) pe_int (nomark _)) (pss_one (ps_raise_0 rfl T.x_InvalidCommand hr tk rfl (by decide))) pss_nil)))))))))))))), ?_⟩
    obtain ⟨n, v, rfl, h1, h2, hE⟩ := h
    have cs : n = 16 ∨ n = 17 ∨ n = 18 ∨ n = 19 ∨ n = 20 ∨ n = 21 ∨ n = 22 := by omega
    rcases cs with rfl | rfl | rfl | rfl | rfl | rfl | rfl
    · refine ife_yes rfl rfl ?_
      exact ⟨v, rfl, v, rfl, eW_at hE⟩
    · refine ife_no rfl (by decide) ?_; refine ife_yes rfl rfl ?_
      exact ⟨v, rfl, v, rfl, eW_at hE⟩
    · refine ife_no rfl (by decide) ?_; refine ife_no rfl (by decide) ?_; refine ife_yes rfl rfl ?_
      exact ⟨v, rfl, v, rfl, eW_at hE⟩
    · refine ife_no rfl (by decide) ?_; refine ife_no rfl (by decide) ?_; refine ife_no rfl (by decide) ?_; refine ife_yes rfl rfl ?_
      exact ⟨v, rfl, v, rfl, eW_at hE⟩
    · refine ife_no rfl (by decide) ?_; refine ife_no rfl (by decide) ?_; refine ife_no rfl (by decide) ?_; refine ife_no rfl (by decide) ?_; refine ife_yes rfl rfl ?_
      exact ⟨v, rfl, v, rfl, eW_at hE⟩
    · refine ife_no rfl (by decide) ?_; refine ife_no rfl (by decide) ?_; refine ife_no rfl (by decide) ?_; refine ife_no rfl (by decide) ?_; refine ife_no rfl (by decide) ?_; refine ife_yes rfl rfl ?_
      exact ⟨v, rfl, v, rfl, eW_word hE⟩
    · refine ife_no rfl (by decide) ?_; refine ife_no rfl (by decide) ?_; refine ife_no rfl (by decide) ?_; refine ife_no rfl (by decide) ?_; refine ife_no rfl (by decide) ?_; refine ife_no rfl (by decide) ?_; refine ife_yes rfl rfl ?_
      exact eW_0 hE
theorem ok_raise {f f1 f2 f3 : Addr} {fd d1 d2 d3 : FuncData} (F : Fun K "_law_raise" "_law_raise" s_law_raise f fd) (T : Txt K mg C B fI)
    (D_raise_a : Dfn P w K mg base (L2.CX P w) 1 "_law_raise_a" ["number", "thing"] (spRaise C 0 8) f1 d1) (D_raise_b : Dfn P w K mg base (L2.CX P w) 1 "_law_raise_b" ["number", "thing"] (spRaise C 8 16) f2 d2) (D_raise_c : Dfn P w K mg base (L2.CX P w) 1 "_law_raise_c" ["number", "thing"] (spRaise C 16 23) f3 d3) :
    FnOk P w K mg base (L2.CX P w) 2 f fd ["number", "thing"] (spRaise C 0 23) := by
  refine F.okX sc_law_raise (fun vs H Q E h => ?_) (fun cdv A outer s H vs Q E hr h => ?_)
  · obtain ⟨n, v, rfl, _⟩ := h
    rfl
  · have tk := takes_of (X := cxOf (L2.CX P w) P w K mg base ["number", "thing"] "_law_raise" (defScope s_law_raise) f cdv A outer s H E) (E := E) rfl rfl rfl rfl
    refine ⟨_, (pss_one (ps_if (pt_cmpR op_lt (pv 0) pe_int (nomark _)) (pss_one (ps_expr (pe_dS D_raise_a (hr.mono (by decide)) tk (pa_cons (pv 0) (pa_cons (pv 1) pa_nil))))) (pss_one (ps_if (pt_cmpR op_lt (pv 0) pe_int (nomark _)) (pss_one (ps_expr (pe_dS D_raise_b (hr.mono (by decide)) tk (pa_cons (pv 0) (pa_cons (pv 1) pa_nil))))) (pss_one (ps_expr (pe_dS D_raise_c (hr.mono (by decide)) tk (pa_cons (pv 0) (pa_cons (pv 1) pa_nil))))))))), ?_⟩
    obtain ⟨n, v, rfl, h1, h2, hE⟩ := h
    refine ⟨_, rfl, _, _, rfl, rfl, _, rfl, ite2 (fun c => ?_) (fun c => ?_)⟩
    · have c1 : (n : Int) < 8 := of_decide_eq_true c
      exact ⟨_, rfl, _, rfl, n, v, rfl, Nat.zero_le _, by omega, hE⟩
    · have c1 : ¬ ((n : Int) < 8) := fun z => c (decide_eq_true z)
      refine ⟨_, rfl, _, _, rfl, rfl, _, rfl, ite2 (fun c => ?_) (fun c => ?_)⟩
      · have c2 : (n : Int) < 16 := of_decide_eq_true c
        exact ⟨_, rfl, _, rfl, n, v, rfl, by omega, by omega, hE⟩
      · have c2 : ¬ ((n : Int) < 16) := fun z => c (decide_eq_true z)
        exact ⟨_, rfl, _, rfl, n, v, rfl, by omega, by omega, hE⟩
end
end K00

namespace K00
open PySem L2 Evl
section
variable {K : PySem.W.Frag} {Wo : WX} {D : Ends} {c cls : Value} {oi : Option Nat} {ts : Suit} {l : List (Value × Option Nat × Suit)} {d : Option Addr} {σ : L2.St} {H : Hp}
theorem hd_no (e : PySem.W.exmOne K cls c = some false) (r : wHd K Wo D l cls d σ H) : wHd K Wo D ((c, oi, ts) :: l) cls d σ H := ⟨false, e, fun z => Bool.noConfusion z, fun _ => r⟩
theorem hd_yes (e : PySem.W.exmOne K cls c = some true) (y : ∀ a, H a = none → atSuite oi ts a cls d D σ H) : wHd K Wo D ((c, oi, ts) :: l) cls d σ H := ⟨true, e, fun _ => y, fun z => Bool.noConfusion z⟩
end
section
variable {C : Nat → Addr} {n : Nat} {v : V} {H : Hp} {E E' : XK}
theorem eW_mk (k : ∀ d, H d = none → E (.ref (C n)) (some d) (upd H d (.xd [(("at" : Str), v)]))) (h1 : n ≠ 22 := by decide) (h2 : n ≠ 21 := by decide) : eWish C n v H E := by
  unfold eWish
  rw [if_neg h1, if_neg h2]
  exact k
theorem eW_imp (h : eWish C n v H E) (k : ∀ d H', E (.ref (C n)) d H' → E' (.ref (C n)) d H') : eWish C n v H E' := by
  unfold eWish at h ⊢
  by_cases e : n = 22
  · subst e
    rw [if_pos rfl] at h ⊢
    exact k _ _ h
  · rw [if_neg e] at h ⊢
    exact fun d hd => k _ _ (h d hd)
theorem eW_all (k : ∀ d H', Ex H H' → E (.ref (C n)) d H') : eWish C n v H E := by
  unfold eWish
  by_cases e : n = 22
  · subst e
    rw [if_pos rfl]
    exact k _ _ (Ex.refl H)
  · rw [if_neg e]
    exact fun d hd => k _ _ (Ex.new hd)
end
/-- the first so many errors are caught, told as (number, what it keeps) -/
def spCaught (C : Nat → Addr) (m : Nat) : Sp := fun vs H Q E => ∃ (n : Nat) (v : V), vs = [.int n, v] ∧ n < 23 ∧ (n < m → ∀ (H' : Hp) (p : Addr), Ex H H' → H p = none → H' p = some (.tup [.int n, v]) → Q (.ref p) H') ∧ (m ≤ n → eWish C n v H E)
def spIsBase : Sp := fun vs H Q _ => ∃ (n : Nat) (v : V), vs = [.int n, v] ∧ n < 23 ∧ ∀ H', Ex H H' → Q (.bl true) H'
section
variable {P : Program} {w : World} {K : PySem.W.Frag} {mg : Str → Option Value} {base : Heap} {C fI : Nat → Addr} {B : Addr}
theorem Txt.ne (T : Txt K mg C B fI) {i j : Nat} (hi : i < 23) (hj : j < 23) (h : i ≠ j) : PySem.W.exmOne K (.ref (C i)) (.ref (C j)) = some false := by rw [T.exm i j hi hj, decide_eq_false h]
theorem Txt.eq (T : Txt K mg C B fI) {i : Nat} (hi : i < 23) : PySem.W.exmOne K (.ref (C i)) (.ref (C i)) = some true := by rw [T.exm i i hi hi, decide_eq_true rfl]
theorem ok_caught_a {f f1 : Addr} {fd d1 : FuncData} (F : Fun K "_law_caught_a" "_law_caught_a" s_law_caught_a f fd) (T : Txt K mg C B fI) (D_raise : Dfn P w K mg base (L2.CX P w) 2 "_law_raise" ["number", "thing"] (spRaise C 0 23) f1 d1) :
    FnOk P w K mg base (L2.CX P w) 3 f fd ["number", "thing"] (spCaught C 8) := by
  refine F.okX sc_law_caught_a (fun vs H Q E h => ?_) (fun cdv A outer s H vs Q E hr h => ?_)
  · obtain ⟨n, v, rfl, _⟩ := h
    rfl
  · have tk0 := takes_of (X := cxOf (L2.CX P w) P w K mg base ["number", "thing", "e"] "_law_caught_a" (defScope s_law_caught_a) f cdv A outer s H E) (E := E) rfl rfl rfl rfl
    refine ⟨_, (pss_cons (ps_try_hd rfl rfl sc_law_caught_a.nd tk0 (fun W pn xe tk _ => (pss_one (ps_expr (pe_dS D_raise (hr.mono (by decide)) tk (pa_cons (pv 0) (pa_cons (pv 1) pa_nil)))))) (.named (i := 2) ⟨rfl, by decide, .inl T.m_InvalidText⟩ rfl rfl (fun a oe cls d pn hz hf => (pss_one (ps_ret (pe_tup (pa_cons pe_int (pa_cons (pe_fld_A hz hf (pv 2)) pa_nil)))))) (.named (i := 2) ⟨rfl, by decide, .inl T.m_InvalidTable⟩ rfl rfl (fun a oe cls d pn hz hf => (pss_one (ps_ret (pe_tup (pa_cons pe_int (pa_cons (pe_fld_A hz hf (pv 2)) pa_nil)))))) (.named (i := 2) ⟨rfl, by decide, .inl T.m_InvalidSheet⟩ rfl rfl (fun a oe cls d pn hz hf => (pss_one (ps_ret (pe_tup (pa_cons pe_int (pa_cons (pe_fld_A hz hf (pv 2)) pa_nil)))))) (.named (i := 2) ⟨rfl, by decide, .inl T.m_InvalidLines⟩ rfl rfl (fun a oe cls d pn hz hf => (pss_one (ps_ret (pe_tup (pa_cons pe_int (pa_cons (pe_fld_A hz hf (pv 2)) pa_nil)))))) (.named (i := 2) ⟨rfl, by decide, .inl T.m_InvalidFrame⟩ rfl rfl (fun a oe cls d pn hz hf => (pss_one (ps_ret (pe_tup (pa_cons pe_int (pa_cons (pe_fld_A hz hf (pv 2)) pa_nil)))))) (.named (i := 2) ⟨rfl, by decide, .inl T.m_InvalidProgram⟩ rfl rfl (fun a oe cls d pn hz hf => (pss_one (ps_ret (pe_tup (pa_cons pe_int (pa_cons (pe_fld_A hz hf (pv 2)) pa_nil)))))) (.named (i := 2) ⟨rfl, by decide, .inl T.m_InvalidRows⟩ rfl rfl (fun a oe cls d pn hz hf => (pss_one (ps_ret (pe_tup (pa_cons pe_int (pa_cons (pe_fld_A hz hf (pv 2)) pa_nil)))))) (.named (i := 2) ⟨rfl, by decide, .inl T.m_InvalidDatum⟩ rfl rfl (fun a oe cls d pn hz hf => (pss_one (ps_ret (pe_tup (pa_cons pe_int (pa_cons (pe_fld_A hz hf (pv 2)) pa_nil)))))) .nil))))))))) (pss_one (ps_ret pe_non))), ?_⟩
    obtain ⟨n, v, rfl, hn, hq, hE⟩ := h
    by_cases hhi : 8 ≤ n
    · refine ⟨_, rfl, _, rfl, n, v, rfl, Nat.zero_le _, hn, eW_imp (hE hhi) fun d H1 hh => ?_⟩
      exact (hd_no (T.ne (by omega) (by decide) (by omega)) (hd_no (T.ne (by omega) (by decide) (by omega)) (hd_no (T.ne (by omega) (by decide) (by omega)) (hd_no (T.ne (by omega) (by decide) (by omega)) (hd_no (T.ne (by omega) (by decide) (by omega)) (hd_no (T.ne (by omega) (by decide) (by omega)) (hd_no (T.ne (by omega) (by decide) (by omega)) (hd_no (T.ne (by omega) (by decide) (by omega)) hh))))))))
    have cs : n = 0 ∨ n = 1 ∨ n = 2 ∨ n = 3 ∨ n = 4 ∨ n = 5 ∨ n = 6 ∨ n = 7 := by omega
    rcases cs with rfl | rfl | rfl | rfl | rfl | rfl | rfl | rfl
    · refine ⟨_, rfl, _, rfl, 0, v, rfl, Nat.zero_le _, by decide, (eW_mk fun d hd => ?_)⟩
      refine (hd_yes (T.eq (by decide)) fun a ha => ?_)
      refine ⟨_, rfl, rfl, _, _, _, _, _, T.x_InvalidText, rfl, d, v, rfl, upd_same, (by show 2 ≤ sizeLine; decide), fun p hp => ?_⟩
      have npd : p ≠ d := fun z => by rw [z, upd_same] at hp; cases hp
      exact hq (by decide) _ p (Ex.trans (Ex.new hd) (Ex.new hp)) (by rw [upd_ne npd] at hp; exact hp) upd_same
    · refine ⟨_, rfl, _, rfl, 1, v, rfl, Nat.zero_le _, by decide, (eW_mk fun d hd => ?_)⟩
      refine (hd_no (T.ne (by omega) (by decide) (by omega)) (hd_yes (T.eq (by decide)) fun a ha => ?_))
      refine ⟨_, rfl, rfl, _, _, _, _, _, T.x_InvalidTable, rfl, d, v, rfl, upd_same, (by show 2 ≤ sizeLine; decide), fun p hp => ?_⟩
      have npd : p ≠ d := fun z => by rw [z, upd_same] at hp; cases hp
      exact hq (by decide) _ p (Ex.trans (Ex.new hd) (Ex.new hp)) (by rw [upd_ne npd] at hp; exact hp) upd_same
    · refine ⟨_, rfl, _, rfl, 2, v, rfl, Nat.zero_le _, by decide, (eW_mk fun d hd => ?_)⟩
      refine (hd_no (T.ne (by omega) (by decide) (by omega)) (hd_no (T.ne (by omega) (by decide) (by omega)) (hd_yes (T.eq (by decide)) fun a ha => ?_)))
      refine ⟨_, rfl, rfl, _, _, _, _, _, T.x_InvalidSheet, rfl, d, v, rfl, upd_same, (by show 2 ≤ sizeLine; decide), fun p hp => ?_⟩
      have npd : p ≠ d := fun z => by rw [z, upd_same] at hp; cases hp
      exact hq (by decide) _ p (Ex.trans (Ex.new hd) (Ex.new hp)) (by rw [upd_ne npd] at hp; exact hp) upd_same
    · refine ⟨_, rfl, _, rfl, 3, v, rfl, Nat.zero_le _, by decide, (eW_mk fun d hd => ?_)⟩
      refine (hd_no (T.ne (by omega) (by decide) (by omega)) (hd_no (T.ne (by omega) (by decide) (by omega)) (hd_no (T.ne (by omega) (by decide) (by omega)) (hd_yes (T.eq (by decide)) fun a ha => ?_))))
      refine ⟨_, rfl, rfl, _, _, _, _, _, T.x_InvalidLines, rfl, d, v, rfl, upd_same, (by show 2 ≤ sizeLine; decide), fun p hp => ?_⟩
      have npd : p ≠ d := fun z => by rw [z, upd_same] at hp; cases hp
      exact hq (by decide) _ p (Ex.trans (Ex.new hd) (Ex.new hp)) (by rw [upd_ne npd] at hp; exact hp) upd_same
    · refine ⟨_, rfl, _, rfl, 4, v, rfl, Nat.zero_le _, by decide, (eW_mk fun d hd => ?_)⟩
      refine (hd_no (T.ne (by omega) (by decide) (by omega)) (hd_no (T.ne (by omega) (by decide) (by omega)) (hd_no (T.ne (by omega) (by decide) (by omega)) (hd_no (T.ne (by omega) (by decide) (by omega)) (hd_yes (T.eq (by decide)) fun a ha => ?_)))))
      refine ⟨_, rfl, rfl, _, _, _, _, _, T.x_InvalidFrame, rfl, d, v, rfl, upd_same, (by show 2 ≤ sizeLine; decide), fun p hp => ?_⟩
      have npd : p ≠ d := fun z => by rw [z, upd_same] at hp; cases hp
      exact hq (by decide) _ p (Ex.trans (Ex.new hd) (Ex.new hp)) (by rw [upd_ne npd] at hp; exact hp) upd_same
    · refine ⟨_, rfl, _, rfl, 5, v, rfl, Nat.zero_le _, by decide, (eW_mk fun d hd => ?_)⟩
      refine (hd_no (T.ne (by omega) (by decide) (by omega)) (hd_no (T.ne (by omega) (by decide) (by omega)) (hd_no (T.ne (by omega) (by decide) (by omega)) (hd_no (T.ne (by omega) (by decide) (by omega)) (hd_no (T.ne (by omega) (by decide) (by omega)) (hd_yes (T.eq (by decide)) fun a ha => ?_))))))
      refine ⟨_, rfl, rfl, _, _, _, _, _, T.x_InvalidProgram, rfl, d, v, rfl, upd_same, (by show 2 ≤ sizeLine; decide), fun p hp => ?_⟩
      have npd : p ≠ d := fun z => by rw [z, upd_same] at hp; cases hp
      exact hq (by decide) _ p (Ex.trans (Ex.new hd) (Ex.new hp)) (by rw [upd_ne npd] at hp; exact hp) upd_same
    · refine ⟨_, rfl, _, rfl, 6, v, rfl, Nat.zero_le _, by decide, (eW_mk fun d hd => ?_)⟩
      refine (hd_no (T.ne (by omega) (by decide) (by omega)) (hd_no (T.ne (by omega) (by decide) (by omega)) (hd_no (T.ne (by omega) (by decide) (by omega)) (hd_no (T.ne (by omega) (by decide) (by omega)) (hd_no (T.ne (by omega) (by decide) (by omega)) (hd_no (T.ne (by omega) (by decide) (by omega)) (hd_yes (T.eq (by decide)) fun a ha => ?_)))))))
      refine ⟨_, rfl, rfl, _, _, _, _, _, T.x_InvalidRows, rfl, d, v, rfl, upd_same, (by show 2 ≤ sizeLine; decide), fun p hp => ?_⟩
      have npd : p ≠ d := fun z => by rw [z, upd_same] at hp; cases hp
      exact hq (by decide) _ p (Ex.trans (Ex.new hd) (Ex.new hp)) (by rw [upd_ne npd] at hp; exact hp) upd_same
    · refine ⟨_, rfl, _, rfl, 7, v, rfl, Nat.zero_le _, by decide, (eW_mk fun d hd => ?_)⟩
      refine (hd_no (T.ne (by omega) (by decide) (by omega)) (hd_no (T.ne (by omega) (by decide) (by omega)) (hd_no (T.ne (by omega) (by decide) (by omega)) (hd_no (T.ne (by omega) (by decide) (by omega)) (hd_no (T.ne (by omega) (by decide) (by omega)) (hd_no (T.ne (by omega) (by decide) (by omega)) (hd_no (T.ne (by omega) (by decide) (by omega)) (hd_yes (T.eq (by decide)) fun a ha => ?_))))))))
      refine ⟨_, rfl, rfl, _, _, _, _, _, T.x_InvalidDatum, rfl, d, v, rfl, upd_same, (by show 2 ≤ sizeLine; decide), fun p hp => ?_⟩
      have npd : p ≠ d := fun z => by rw [z, upd_same] at hp; cases hp
      exact hq (by decide) _ p (Ex.trans (Ex.new hd) (Ex.new hp)) (by rw [upd_ne npd] at hp; exact hp) upd_same
theorem ok_caught_b {f f1 : Addr} {fd d1 : FuncData} (F : Fun K "_law_caught_b" "_law_caught_b" s_law_caught_b f fd) (T : Txt K mg C B fI) (D_caught_a : Dfn P w K mg base (L2.CX P w) 3 "_law_caught_a" ["number", "thing"] (spCaught C 8) f1 d1) :
    FnOk P w K mg base (L2.CX P w) 4 f fd ["number", "thing"] (spCaught C 16) := by
  refine F.okX sc_law_caught_b (fun vs H Q E h => ?_) (fun cdv A outer s H vs Q E hr h => ?_)
  · obtain ⟨n, v, rfl, _⟩ := h
    rfl
  · have tk0 := takes_of (X := cxOf (L2.CX P w) P w K mg base ["number", "thing", "e"] "_law_caught_b" (defScope s_law_caught_b) f cdv A outer s H E) (E := E) rfl rfl rfl rfl
    refine ⟨_, (pss_cons (ps_try_hd rfl rfl sc_law_caught_b.nd tk0 (fun W pn xe tk _ => (pss_one (ps_ret (pe_dS D_caught_a (hr.mono (by decide)) tk (pa_cons (pv 0) (pa_cons (pv 1) pa_nil)))))) (.named (i := 2) ⟨rfl, by decide, .inl T.m_InvalidEvents⟩ rfl rfl (fun a oe cls d pn hz hf => (pss_one (ps_ret (pe_tup (pa_cons pe_int (pa_cons (pe_fld_A hz hf (pv 2)) pa_nil)))))) (.named (i := 2) ⟨rfl, by decide, .inl T.m_InvalidProcessor⟩ rfl rfl (fun a oe cls d pn hz hf => (pss_one (ps_ret (pe_tup (pa_cons pe_int (pa_cons (pe_fld_A hz hf (pv 2)) pa_nil)))))) (.named (i := 2) ⟨rfl, by decide, .inl T.m_InvalidLot⟩ rfl rfl (fun a oe cls d pn hz hf => (pss_one (ps_ret (pe_tup (pa_cons pe_int (pa_cons (pe_fld_A hz hf (pv 2)) pa_nil)))))) (.named (i := 2) ⟨rfl, by decide, .inl T.m_InvalidCache⟩ rfl rfl (fun a oe cls d pn hz hf => (pss_one (ps_ret (pe_tup (pa_cons pe_int (pa_cons (pe_fld_A hz hf (pv 2)) pa_nil)))))) (.named (i := 2) ⟨rfl, by decide, .inl T.m_InvalidSource⟩ rfl rfl (fun a oe cls d pn hz hf => (pss_one (ps_ret (pe_tup (pa_cons pe_int (pa_cons (pe_fld_A hz hf (pv 2)) pa_nil)))))) (.named (i := 2) ⟨rfl, by decide, .inl T.m_InvalidIndex⟩ rfl rfl (fun a oe cls d pn hz hf => (pss_one (ps_ret (pe_tup (pa_cons pe_int (pa_cons (pe_fld_A hz hf (pv 2)) pa_nil)))))) (.named (i := 2) ⟨rfl, by decide, .inl T.m_InvalidSpots⟩ rfl rfl (fun a oe cls d pn hz hf => (pss_one (ps_ret (pe_tup (pa_cons pe_int (pa_cons (pe_fld_A hz hf (pv 2)) pa_nil)))))) (.named (i := 2) ⟨rfl, by decide, .inl T.m_InvalidWhole⟩ rfl rfl (fun a oe cls d pn hz hf => (pss_one (ps_ret (pe_tup (pa_cons pe_int (pa_cons (pe_fld_A hz hf (pv 2)) pa_nil)))))) .nil))))))))) (pss_one (ps_ret pe_non))), ?_⟩
    obtain ⟨n, v, rfl, hn, hq, hE⟩ := h
    by_cases hlo : n < 8
    · exact ⟨_, rfl, _, rfl, n, v, rfl, hn, fun _ H' p e hp h' => hq (by omega) H' p e hp h', fun z => absurd hlo (by omega)⟩
    by_cases hhi : 16 ≤ n
    · refine ⟨_, rfl, _, rfl, n, v, rfl, hn, fun z => absurd hlo (by omega), fun _ => eW_imp (hE hhi) fun d H1 hh => ?_⟩
      exact (hd_no (T.ne (by omega) (by decide) (by omega)) (hd_no (T.ne (by omega) (by decide) (by omega)) (hd_no (T.ne (by omega) (by decide) (by omega)) (hd_no (T.ne (by omega) (by decide) (by omega)) (hd_no (T.ne (by omega) (by decide) (by omega)) (hd_no (T.ne (by omega) (by decide) (by omega)) (hd_no (T.ne (by omega) (by decide) (by omega)) (hd_no (T.ne (by omega) (by decide) (by omega)) hh))))))))
    have cs : n = 8 ∨ n = 9 ∨ n = 10 ∨ n = 11 ∨ n = 12 ∨ n = 13 ∨ n = 14 ∨ n = 15 := by omega
    rcases cs with rfl | rfl | rfl | rfl | rfl | rfl | rfl | rfl
    · refine ⟨_, rfl, _, rfl, 8, v, rfl, hn, fun z => absurd z (by decide), fun _ => (eW_mk fun d hd => ?_)⟩
      refine (hd_yes (T.eq (by decide)) fun a ha => ?_)
      refine ⟨_, rfl, rfl, _, _, _, _, _, T.x_InvalidEvents, rfl, d, v, rfl, upd_same, (by show 2 ≤ sizeLine; decide), fun p hp => ?_⟩
      have npd : p ≠ d := fun z => by rw [z, upd_same] at hp; cases hp
      exact hq (by decide) _ p (Ex.trans (Ex.new hd) (Ex.new hp)) (by rw [upd_ne npd] at hp; exact hp) upd_same
    · refine ⟨_, rfl, _, rfl, 9, v, rfl, hn, fun z => absurd z (by decide), fun _ => (eW_mk fun d hd => ?_)⟩
      refine (hd_no (T.ne (by omega) (by decide) (by omega)) (hd_yes (T.eq (by decide)) fun a ha => ?_))
      refine ⟨_, rfl, rfl, _, _, _, _, _, T.x_InvalidProcessor, rfl, d, v, rfl, upd_same, (by show 2 ≤ sizeLine; decide), fun p hp => ?_⟩
      have npd : p ≠ d := fun z => by rw [z, upd_same] at hp; cases hp
      exact hq (by decide) _ p (Ex.trans (Ex.new hd) (Ex.new hp)) (by rw [upd_ne npd] at hp; exact hp) upd_same
    · refine ⟨_, rfl, _, rfl, 10, v, rfl, hn, fun z => absurd z (by decide), fun _ => (eW_mk fun d hd => ?_)⟩
      refine (hd_no (T.ne (by omega) (by decide) (by omega)) (hd_no (T.ne (by omega) (by decide) (by omega)) (hd_yes (T.eq (by decide)) fun a ha => ?_)))
      refine ⟨_, rfl, rfl, _, _, _, _, _, T.x_InvalidLot, rfl, d, v, rfl, upd_same, (by show 2 ≤ sizeLine; decide), fun p hp => ?_⟩
      have npd : p ≠ d := fun z => by rw [z, upd_same] at hp; cases hp
      exact hq (by decide) _ p (Ex.trans (Ex.new hd) (Ex.new hp)) (by rw [upd_ne npd] at hp; exact hp) upd_same
    · refine ⟨_, rfl, _, rfl, 11, v, rfl, hn, fun z => absurd z (by decide), fun _ => (eW_mk fun d hd => ?_)⟩
      refine (hd_no (T.ne (by omega) (by decide) (by omega)) (hd_no (T.ne (by omega) (by decide) (by omega)) (hd_no (T.ne (by omega) (by decide) (by omega)) (hd_yes (T.eq (by decide)) fun a ha => ?_))))
      refine ⟨_, rfl, rfl, _, _, _, _, _, T.x_InvalidCache, rfl, d, v, rfl, upd_same, (by show 2 ≤ sizeLine; decide), fun p hp => ?_⟩
      have npd : p ≠ d := fun z => by rw [z, upd_same] at hp; cases hp
      exact hq (by decide) _ p (Ex.trans (Ex.new hd) (Ex.new hp)) (by rw [upd_ne npd] at hp; exact hp) upd_same
    · refine ⟨_, rfl, _, rfl, 12, v, rfl, hn, fun z => absurd z (by decide), fun _ => (eW_mk fun d hd => ?_)⟩
      refine (hd_no (T.ne (by omega) (by decide) (by omega)) (hd_no (T.ne (by omega) (by decide) (by omega)) (hd_no (T.ne (by omega) (by decide) (by omega)) (hd_no (T.ne (by omega) (by decide) (by omega)) (hd_yes (T.eq (by decide)) fun a ha => ?_)))))
      refine ⟨_, rfl, rfl, _, _, _, _, _, T.x_InvalidSource, rfl, d, v, rfl, upd_same, (by show 2 ≤ sizeLine; decide), fun p hp => ?_⟩
      have npd : p ≠ d := fun z => by rw [z, upd_same] at hp; cases hp
      exact hq (by decide) _ p (Ex.trans (Ex.new hd) (Ex.new hp)) (by rw [upd_ne npd] at hp; exact hp) upd_same
    · refine ⟨_, rfl, _, rfl, 13, v, rfl, hn, fun z => absurd z (by decide), fun _ => (eW_mk fun d hd => ?_)⟩
      refine (hd_no (T.ne (by omega) (by decide) (by omega)) (hd_no (T.ne (by omega) (by decide) (by omega)) (hd_no (T.ne (by omega) (by decide) (by omega)) (hd_no (T.ne (by omega) (by decide) (by omega)) (hd_no (T.ne (by omega) (by decide) (by omega)) (hd_yes (T.eq (by decide)) fun a ha => ?_))))))
      refine ⟨_, rfl, rfl, _, _, _, _, _, T.x_InvalidIndex, rfl, d, v, rfl, upd_same, (by show 2 ≤ sizeLine; decide), fun p hp => ?_⟩
      have npd : p ≠ d := fun z => by rw [z, upd_same] at hp; cases hp
      exact hq (by decide) _ p (Ex.trans (Ex.new hd) (Ex.new hp)) (by rw [upd_ne npd] at hp; exact hp) upd_same
    · refine ⟨_, rfl, _, rfl, 14, v, rfl, hn, fun z => absurd z (by decide), fun _ => (eW_mk fun d hd => ?_)⟩
      refine (hd_no (T.ne (by omega) (by decide) (by omega)) (hd_no (T.ne (by omega) (by decide) (by omega)) (hd_no (T.ne (by omega) (by decide) (by omega)) (hd_no (T.ne (by omega) (by decide) (by omega)) (hd_no (T.ne (by omega) (by decide) (by omega)) (hd_no (T.ne (by omega) (by decide) (by omega)) (hd_yes (T.eq (by decide)) fun a ha => ?_)))))))
      refine ⟨_, rfl, rfl, _, _, _, _, _, T.x_InvalidSpots, rfl, d, v, rfl, upd_same, (by show 2 ≤ sizeLine; decide), fun p hp => ?_⟩
      have npd : p ≠ d := fun z => by rw [z, upd_same] at hp; cases hp
      exact hq (by decide) _ p (Ex.trans (Ex.new hd) (Ex.new hp)) (by rw [upd_ne npd] at hp; exact hp) upd_same
    · refine ⟨_, rfl, _, rfl, 15, v, rfl, hn, fun z => absurd z (by decide), fun _ => (eW_mk fun d hd => ?_)⟩
      refine (hd_no (T.ne (by omega) (by decide) (by omega)) (hd_no (T.ne (by omega) (by decide) (by omega)) (hd_no (T.ne (by omega) (by decide) (by omega)) (hd_no (T.ne (by omega) (by decide) (by omega)) (hd_no (T.ne (by omega) (by decide) (by omega)) (hd_no (T.ne (by omega) (by decide) (by omega)) (hd_no (T.ne (by omega) (by decide) (by omega)) (hd_yes (T.eq (by decide)) fun a ha => ?_))))))))
      refine ⟨_, rfl, rfl, _, _, _, _, _, T.x_InvalidWhole, rfl, d, v, rfl, upd_same, (by show 2 ≤ sizeLine; decide), fun p hp => ?_⟩
      have npd : p ≠ d := fun z => by rw [z, upd_same] at hp; cases hp
      exact hq (by decide) _ p (Ex.trans (Ex.new hd) (Ex.new hp)) (by rw [upd_ne npd] at hp; exact hp) upd_same
theorem ok_caught_c {f f1 : Addr} {fd d1 : FuncData} (F : Fun K "_law_caught_c" "_law_caught_c" s_law_caught_c f fd) (T : Txt K mg C B fI) (D_caught_b : Dfn P w K mg base (L2.CX P w) 4 "_law_caught_b" ["number", "thing"] (spCaught C 16) f1 d1) :
    FnOk P w K mg base CX0 5 f fd ["number", "thing"] (spCaught C 23) := by
  refine F.ok sc_law_caught_c (fun vs H Q E h => ?_) (fun cdv A outer s H vs Q E hr h => ?_)
  · obtain ⟨n, v, rfl, _⟩ := h
    rfl
  · refine ⟨_, (pss_cons (ps_try_hd rfl rfl sc_law_caught_c.nd takes0 (fun W pn xe tk _ => (pss_one (ps_ret (pe_dS D_caught_b (hr.mono (by decide)) tk (pa_cons (pv 0) (pa_cons (pv 1) pa_nil)))))) (.named (i := 2) ⟨rfl, by decide, .inl T.m_InvalidLots⟩ rfl rfl (fun a oe cls d pn hz hf => (pss_one (ps_ret (pe_tup (pa_cons pe_int (pa_cons (pe_fld_A hz hf (pv 2)) pa_nil)))))) (.named (i := 2) ⟨rfl, by decide, .inl T.m_InvalidWatcher⟩ rfl rfl (fun a oe cls d pn hz hf => (pss_one (ps_ret (pe_tup (pa_cons pe_int (pa_cons (pe_fld_A hz hf (pv 2)) pa_nil)))))) (.named (i := 2) ⟨rfl, by decide, .inl T.m_InvalidParts⟩ rfl rfl (fun a oe cls d pn hz hf => (pss_one (ps_ret (pe_tup (pa_cons pe_int (pa_cons (pe_fld_A hz hf (pv 2)) pa_nil)))))) (.named (i := 2) ⟨rfl, by decide, .inl T.m_InvalidDeed⟩ rfl rfl (fun a oe cls d pn hz hf => (pss_one (ps_ret (pe_tup (pa_cons pe_int (pa_cons (pe_fld_A hz hf (pv 2)) pa_nil)))))) (.named (i := 2) ⟨rfl, by decide, .inl T.m_Refused⟩ rfl rfl (fun a oe cls d pn hz hf => (pss_one (ps_ret (pe_tup (pa_cons pe_int (pa_cons (pe_fld_A hz hf (pv 2)) pa_nil)))))) (.named (i := 2) ⟨rfl, by decide, .inl T.m_InvalidSize⟩ rfl rfl (fun a oe cls d pn hz hf => (pss_one (ps_ret (pe_tup (pa_cons pe_int (pa_cons (pe_fld_W hz hf (pv 2)) pa_nil)))))) (.bare ⟨rfl, by decide, .inl T.m_InvalidCommand⟩ (fun a oe cls d pn hz hf => (pss_one (ps_ret (pe_tup (pa_cons pe_int (pa_cons (pv 1) pa_nil)))))) .nil)))))))) (pss_one (ps_ret pe_non))), ?_⟩
    obtain ⟨n, v, rfl, hn, hq, hE⟩ := h
    by_cases hlo : n < 16
    · exact ⟨_, rfl, _, rfl, n, v, rfl, hn, fun _ H' p e hp h' => hq (by omega) H' p e hp h', fun z => absurd hlo (by omega)⟩
    have cs : n = 16 ∨ n = 17 ∨ n = 18 ∨ n = 19 ∨ n = 20 ∨ n = 21 ∨ n = 22 := by omega
    rcases cs with rfl | rfl | rfl | rfl | rfl | rfl | rfl
    · refine ⟨_, rfl, _, rfl, 16, v, rfl, hn, fun z => absurd z (by decide), fun _ => (eW_mk fun d hd => ?_)⟩
      refine (hd_yes (T.eq (by decide)) fun a ha => ?_)
      refine ⟨_, rfl, rfl, _, _, _, _, _, T.x_InvalidLots, rfl, d, v, rfl, upd_same, (by show 2 ≤ sizeLine; decide), fun p hp => ?_⟩
      have npd : p ≠ d := fun z => by rw [z, upd_same] at hp; cases hp
      exact hq (by decide) _ p (Ex.trans (Ex.new hd) (Ex.new hp)) (by rw [upd_ne npd] at hp; exact hp) upd_same
    · refine ⟨_, rfl, _, rfl, 17, v, rfl, hn, fun z => absurd z (by decide), fun _ => (eW_mk fun d hd => ?_)⟩
      refine (hd_no (T.ne (by omega) (by decide) (by omega)) (hd_yes (T.eq (by decide)) fun a ha => ?_))
      refine ⟨_, rfl, rfl, _, _, _, _, _, T.x_InvalidWatcher, rfl, d, v, rfl, upd_same, (by show 2 ≤ sizeLine; decide), fun p hp => ?_⟩
      have npd : p ≠ d := fun z => by rw [z, upd_same] at hp; cases hp
      exact hq (by decide) _ p (Ex.trans (Ex.new hd) (Ex.new hp)) (by rw [upd_ne npd] at hp; exact hp) upd_same
    · refine ⟨_, rfl, _, rfl, 18, v, rfl, hn, fun z => absurd z (by decide), fun _ => (eW_mk fun d hd => ?_)⟩
      refine (hd_no (T.ne (by omega) (by decide) (by omega)) (hd_no (T.ne (by omega) (by decide) (by omega)) (hd_yes (T.eq (by decide)) fun a ha => ?_)))
      refine ⟨_, rfl, rfl, _, _, _, _, _, T.x_InvalidParts, rfl, d, v, rfl, upd_same, (by show 2 ≤ sizeLine; decide), fun p hp => ?_⟩
      have npd : p ≠ d := fun z => by rw [z, upd_same] at hp; cases hp
      exact hq (by decide) _ p (Ex.trans (Ex.new hd) (Ex.new hp)) (by rw [upd_ne npd] at hp; exact hp) upd_same
    · refine ⟨_, rfl, _, rfl, 19, v, rfl, hn, fun z => absurd z (by decide), fun _ => (eW_mk fun d hd => ?_)⟩
      refine (hd_no (T.ne (by omega) (by decide) (by omega)) (hd_no (T.ne (by omega) (by decide) (by omega)) (hd_no (T.ne (by omega) (by decide) (by omega)) (hd_yes (T.eq (by decide)) fun a ha => ?_))))
      refine ⟨_, rfl, rfl, _, _, _, _, _, T.x_InvalidDeed, rfl, d, v, rfl, upd_same, (by show 2 ≤ sizeLine; decide), fun p hp => ?_⟩
      have npd : p ≠ d := fun z => by rw [z, upd_same] at hp; cases hp
      exact hq (by decide) _ p (Ex.trans (Ex.new hd) (Ex.new hp)) (by rw [upd_ne npd] at hp; exact hp) upd_same
    · refine ⟨_, rfl, _, rfl, 20, v, rfl, hn, fun z => absurd z (by decide), fun _ => (eW_mk fun d hd => ?_)⟩
      refine (hd_no (T.ne (by omega) (by decide) (by omega)) (hd_no (T.ne (by omega) (by decide) (by omega)) (hd_no (T.ne (by omega) (by decide) (by omega)) (hd_no (T.ne (by omega) (by decide) (by omega)) (hd_yes (T.eq (by decide)) fun a ha => ?_)))))
      refine ⟨_, rfl, rfl, _, _, _, _, _, T.x_Refused, rfl, d, v, rfl, upd_same, (by show 2 ≤ sizeLine; decide), fun p hp => ?_⟩
      have npd : p ≠ d := fun z => by rw [z, upd_same] at hp; cases hp
      exact hq (by decide) _ p (Ex.trans (Ex.new hd) (Ex.new hp)) (by rw [upd_ne npd] at hp; exact hp) upd_same
    · refine ⟨_, rfl, _, rfl, 21, v, rfl, hn, fun z => absurd z (by decide), fun _ => (show eWish C 21 v H _ from fun d hd => ?_)⟩
      refine (hd_no (T.ne (by omega) (by decide) (by omega)) (hd_no (T.ne (by omega) (by decide) (by omega)) (hd_no (T.ne (by omega) (by decide) (by omega)) (hd_no (T.ne (by omega) (by decide) (by omega)) (hd_no (T.ne (by omega) (by decide) (by omega)) (hd_yes (T.eq (by decide)) fun a ha => ?_))))))
      refine ⟨_, rfl, rfl, _, _, _, _, _, T.x_InvalidSize, rfl, d, v, rfl, upd_same, (by show 2 ≤ sizeLine; decide), fun p hp => ?_⟩
      have npd : p ≠ d := fun z => by rw [z, upd_same] at hp; cases hp
      exact hq (by decide) _ p (Ex.trans (Ex.new hd) (Ex.new hp)) (by rw [upd_ne npd] at hp; exact hp) upd_same
    · refine ⟨_, rfl, _, rfl, 22, v, rfl, hn, fun z => absurd z (by decide), fun _ => ?_⟩
      show wHd K _ _ _ (.ref (C 22)) none _ H
      refine (hd_no (T.ne (by omega) (by decide) (by omega)) (hd_no (T.ne (by omega) (by decide) (by omega)) (hd_no (T.ne (by omega) (by decide) (by omega)) (hd_no (T.ne (by omega) (by decide) (by omega)) (hd_no (T.ne (by omega) (by decide) (by omega)) (hd_no (T.ne (by omega) (by decide) (by omega)) (hd_yes (T.eq (by decide)) fun a ha => ?_)))))))
      refine ⟨_, rfl, (by show 2 ≤ sizeLine; decide), fun p hp => ?_⟩
      exact hq (by decide) _ p (Ex.new hp) hp upd_same
theorem ok_is_base {f f1 : Addr} {fd d1 : FuncData} (F : Fun K "_law_is_base" "_law_is_base" s_law_is_base f fd) (T : Txt K mg C B fI) (D_raise : Dfn P w K mg base (L2.CX P w) 2 "_law_raise" ["number", "thing"] (spRaise C 0 23) f1 d1) :
    FnOk P w K mg base CX0 3 f fd ["number", "thing"] spIsBase := by
  refine F.ok sc_law_is_base (fun vs H Q E h => ?_) (fun cdv A outer s H vs Q E hr h => ?_)
  · obtain ⟨n, v, rfl, _⟩ := h
    rfl
  · refine ⟨_, (pss_cons (ps_try_hd rfl rfl sc_law_is_base.nd takes0 (fun W pn xe tk _ => (pss_one (ps_expr (pe_dS D_raise (hr.mono (by decide)) tk (pa_cons (pv 0) (pa_cons (pv 1) pa_nil)))))) (.bare ⟨rfl, by decide, .inl T.m_PromiseError⟩ (fun a oe cls d pn hz hf => (pss_one (ps_ret pe_bl))) .nil)) (pss_one (ps_ret pe_bl))), ?_⟩
    obtain ⟨n, v, rfl, hn, hq⟩ := h
    refine ⟨_, rfl, _, rfl, n, v, rfl, Nat.zero_le _, hn, eW_all fun d H1 e => hd_yes (T.exb n hn) fun a ha => ?_⟩
    exact hq H1 e
end
end K00

namespace K00
open PySem L2 Evl
def spLaw (K : PySem.W.Frag) : Sp := fun vs H Q _ => ∃ (a : Addr) (ns : List Int), vs = [.ref a] ∧ SqL K H a (ns.map V.int) ∧ ns.length ≤ 63 ∧ ∀ H', Q (.bl true) H'
/-- what is drawn is data -/
theorem drawn {K : PySem.W.Frag} {H : Hp} {t q : Addr} {v : V} (ht : H t = some (.tup [.int 1, .int 2])) (hq : H q = some (.lst [.int 3])) (hv : v ∈ ([.int 0, .int (-1), .non, .str "words", .ref t, .ref q, .bl true, .int 7] : List V)) : ∃ d : PyData, Dp K H v d ∧ SeqAt.shaped (.tuple [.int 0, d]) = true ∧ PyData.eqv d d = true := by
  simp only [List.mem_cons, List.not_mem_nil, or_false] at hv
  rcases hv with rfl | rfl | rfl | rfl | rfl | rfl | rfl | rfl
  · exact ⟨_, .int _, by decide +kernel, by decide +kernel⟩
  · exact ⟨_, .int _, by decide +kernel, by decide +kernel⟩
  · exact ⟨_, .non, by decide +kernel, by decide +kernel⟩
  · exact ⟨_, .str _, by decide +kernel, by decide +kernel⟩
  · exact ⟨_, .tup (SqT.of ht) (.cons (.int _) (.cons (.int _) .nil)), by decide +kernel, by decide +kernel⟩
  · exact ⟨_, .lst (SqL.of hq) (.cons (.int _) .nil), by decide +kernel, by decide +kernel⟩
  · exact ⟨_, .bl _, by decide +kernel, by decide +kernel⟩
  · exact ⟨_, .int _, by decide +kernel, by decide +kernel⟩
theorem shaped_n {n : Int} {d : PyData} (h : SeqAt.shaped (.tuple [.int 0, d]) = true) : SeqAt.shaped (.tuple [.int n, d]) = true := h
theorem eqv_n {n : Int} {d : PyData} (h : PyData.eqv d d = true) : PyData.eqv (.tuple [.int n, d]) (.tuple [.int n, d]) = true := by
  simp [PyData.eqv, PyData.eqvAll, h]
section
variable {P : Program} {w : World} {K : PySem.W.Frag} {mg : Str → Option Value} {base : Heap} {C fI : Nat → Addr} {B : Addr}
theorem ok_law {f f1 f2 f3 f4 : Addr} {fd d1 d2 d3 d4 : FuncData} (F : Fun K "law" "law" slaw f fd) (T : Txt K mg C B fI)
    (D_box : Dfn P w K mg base CX0 1 "_law_box" ["script", "k"] (spBox K) f1 d1) (D_pick : Dfn P w K mg base CX0 2 "_law_pick" ["box", "some"] spPick f2 d2)
    (D_caught_c : Dfn P w K mg base CX0 5 "_law_caught_c" ["number", "thing"] (spCaught C 23) f3 d3) (D_is_base : Dfn P w K mg base CX0 3 "_law_is_base" ["number", "thing"] spIsBase f4 d4) :
    FnOk P w K mg base CX0 6 f fd ["script"] (spLaw K) := by
  refine F.ok sclaw (fun vs H Q E h => ?_) (fun cdv A outer s H vs Q E hr h => ?_)
  · obtain ⟨a, ns, rfl, _⟩ := h
    rfl
  · refine ⟨_, (pss_cons (ps_set (i := 1) sclaw.nd rfl (by first | exact Or.inl rfl | exact Or.inr rfl) (pe_d D_box (hr.mono (by decide)) (pa_cons (pv 0) (pa_cons pe_int pa_nil)))) (pss_cons (ps_for PassesOwn.never rfl (pi_range1 rfl T.b_range (pa_cons pe_int pa_nil)) (pg_name (i := 2) sclaw.nd rfl (by first | exact Or.inl rfl | exact Or.inr rfl)) (pss_cons (ps_set (i := 3) sclaw.nd rfl (by first | exact Or.inl rfl | exact Or.inr rfl) (pe_d D_pick (hr.mono (by decide)) (pa_cons (pv 1) (pa_cons (pe_lst (pa_cons pe_int (pa_cons (pe_un un_neg pe_int) (pa_cons pe_non (pa_cons pe_str (pa_cons (pe_tup (pa_cons pe_int (pa_cons pe_int pa_nil))) (pa_cons (pe_lst (pa_cons pe_int pa_nil)) (pa_cons pe_bl (pa_cons pe_int pa_nil))))))))) pa_nil)))) (pss_one (ps_if (PW.pt (pw_or (pt_cmpR (op_neD hr.units) (pe_d D_caught_c (hr.mono (by decide)) (pa_cons (pv 2) (pa_cons (pv 3) pa_nil))) (pe_tup (pa_cons (pv 2) (pa_cons (pv 3) pa_nil))) (nomark _)) (pw_or1 (pt_not (pt_val (pe_d D_is_base (hr.mono (by decide)) (pa_cons (pv 2) (pa_cons (pv 3) pa_nil)))))))) (pss_one (ps_ret pe_bl)) pss_nil)))) (pss_cons (ps_set (i := 4) sclaw.nd rfl (by first | exact Or.inl rfl | exact Or.inr rfl) (pe_tup (pa_cons (pe_kwfld_A T.x_InvalidText hr (pe_un un_neg pe_int) rfl (by decide)) (pa_cons (pe_kwfld_A T.x_InvalidDeed hr pe_int rfl (by decide)) (pa_cons (pe_kwfld_W T.x_InvalidSize hr pe_str rfl (by decide)) (pa_cons (pe_kwfld_A T.x_Refused hr pe_str rfl (by decide)) pa_nil)))))) (pss_one (ps_ret (pe_cmpR (op_eqD hr.units) (pv 4) (pe_tup (pa_cons (pe_un un_neg pe_int) (pa_cons pe_int (pa_cons pe_str (pa_cons pe_str pa_nil))))) (nomark _))))))), ?_⟩
    obtain ⟨a, ns, rfl, hS, hlen, hq⟩ := h
    refine ⟨_, rfl, a, ns, 0, rfl, hS, by decide, by decide, fun H1 b x y z e1 hb0 hb1 => ?_⟩
    refine ⟨23, rfl, by decide, by decide, for_range (n := 23) (fun i σ H' => ∃ (x y z : Int) (v1 v2 : Option V), σ = [some (.ref a), some (.ref b), v1, v2, none] ∧ H' b = some (.lst [.int x, .int y, .int z])) ⟨x, y, z, none, none, rfl, hb1⟩ ?_ ?_⟩
    · rintro i σ H' hi ⟨x, y, z, v1, v2, rfl, hb⟩
      have e0 : (0 : Int) + (i : Int) = (i : Int) := Int.zero_add _
      rw [e0]
      refine ⟨_, rfl, _, rfl, by show 2 ≤ sizeLine; decide, fun t ht => ?_⟩
      refine ⟨by show 1 ≤ sizeLine; decide, fun q hq0 => ?_⟩
      refine ⟨by show 8 ≤ sizeLine; decide, fun l hl => ?_⟩
      have nbt : b ≠ t := fun z => by rw [← z, hb] at ht; cases ht
      have nqt : q ≠ t := fun z => by rw [z, upd_same] at hq0; cases hq0
      have nbq : b ≠ q := fun z => by rw [← z, upd_ne nbt, hb] at hq0; cases hq0
      have nlq : l ≠ q := fun z => by rw [z, upd_same] at hl; cases hl
      have nlt : l ≠ t := fun z => by rw [z, upd_ne (Ne.symm nqt), upd_same] at hl; cases hl
      have nbl : b ≠ l := fun z => by rw [← z, upd_ne nbq, upd_ne nbt, hb] at hl; cases hl
      refine ⟨b, l, x, y, z, _, rfl, by rw [upd_ne nbl, upd_ne nbq, upd_ne nbt]; exact hb, upd_same, nbl, by show 0 < 8; decide, by show 8 < 1000; decide, fun H2 v x' y' z' hv hk hb2 => ?_⟩
      have ht2 : H2 t = some (.tup [.int 1, .int 2]) := by rw [hk t (Ne.symm nbt), upd_ne (Ne.symm nlt), upd_ne (Ne.symm nqt), upd_same]
      have hq2 : H2 q = some (.lst [.int 3]) := by rw [hk q (Ne.symm nbq), upd_ne (Ne.symm nlq), upd_same]
      have hn : i < 23 := hi
      refine ⟨_, rfl, _, rfl, i, v, rfl, hn, fun _ H3 p e3 hp h3 => ?_, fun z => absurd hn (by omega)⟩
      refine ⟨_, rfl, _, rfl, by show 2 ≤ sizeLine; decide, fun r hr3 => ?_⟩
      have npr : p ≠ r := fun z => by rw [z, hr3] at h3; cases h3
      have e4 : Ex H2 (upd H3 r (.tup [.int i, v])) := Ex.trans e3 (Ex.new hr3)
      obtain ⟨d, hd, sd, qd⟩ := drawn (K := K) (e4 t _ ht2) (e4 q _ hq2) hv
      refine ⟨_, _, .tup (SqT.of (by rw [upd_ne npr]; exact h3)) (.cons (.int _) (.cons hd .nil)), .tup (SqT.of upd_same) (.cons (.int _) (.cons hd .nil)), shaped_n sd, shaped_n sd, _, rfl, ?_⟩
      rw [eqv_n qd]
      refine iteF ?_
      refine ⟨_, rfl, _, rfl, i, v, rfl, hn, fun H5 e5 => ⟨_, rfl, ?_⟩⟩
      refine iteF ?_
      exact ⟨x', y', z', _, _, rfl, e5 b _ (e4 b _ hb2)⟩
    · rintro σ H' ⟨x, y, z, v1, v2, rfl, hb⟩
      refine ⟨_, rfl, _, rfl, fun p1 h1 => ⟨_, rfl, fun p2 h2 => ⟨_, rfl, fun p3 h3 => ⟨_, rfl, fun p4 h4 => ⟨by show 4 ≤ sizeLine; decide, fun p hp => ?_⟩⟩⟩⟩⟩
      refine ⟨_, rfl, _, rfl, by show 4 ≤ sizeLine; decide, fun q hq9 => ?_⟩
      have npq : p ≠ q := fun z => by rw [← z, upd_same] at hq9; cases hq9
      refine ⟨.tuple [.int (-1), .int 3, .str "x", .str "right"], .tuple [.int (-1), .int 3, .str "x", .str "right"], .tup (SqT.of (by rw [upd_ne npq, upd_same])) (.cons (.int _) (.cons (.int _) (.cons (.str _) (.cons (.str _) .nil)))), .tup (SqT.of upd_same) (.cons (.int _) (.cons (.int _) (.cons (.str _) (.cons (.str _) .nil)))), by decide +kernel, by decide +kernel, ?_⟩
      rw [show PyData.eqv (.tuple [.int (-1), .int 3, .str "x", .str "right"]) (.tuple [.int (-1), .int 3, .str "x", .str "right"]) = true by decide +kernel]
      exact hq _
end
end K00

namespace K00
open PySem L2 Evl
theorem nd_ix {N : List Addr} (hN : N.Nodup) {i j : Nat} {x : Addr} (a : N[i]? = some x) (b : N[j]? = some x) : i = j := by
  obtain ⟨h1, e1⟩ := List.getElem?_eq_some_iff.mp a
  obtain ⟨h2, e2⟩ := List.getElem?_eq_some_iff.mp b
  exact (List.getElem_inj hN).mp (e1.trans e2.symm)
theorem all_mk {P : Program} {w : World} {K : PySem.W.Frag} {h : Heap} {mg : Str → Option Value} {fa : Addr} (X : K.In h) (G : h.Ns mainGlobals mg) (hfa : mg "law" = some (.ref fa)) {cB c0 g0 c1 g1 c2 g2 c3 g3 c4 g4 c5 g5 c6 g6 c7 g7 c8 g8 c9 g9 c10 g10 c11 g11 c12 g12 c13 g13 c14 g14 c15 g15 c16 g16 c17 g17 c18 g18 c19 g19 c20 g20 c21 g21 c22 g22 f0 f1 f2 f3 f4 f5 f6 f7 f8 f9 f10 f11 : Addr}
    {nm0 q0 : Str} {N0 : Addr} {bs0 : List Value} {sn0 : List Str} {sub0 : List Value} {ab0 : Bool} {col0 : Option Bool} {dd0 : Option Addr} {m00 m10 m20 m30 m50 : Option Value} {oc0 dc0 pm0 cd0 ct0 : Value} {od0 an0 : Option Addr} {sl0 : Array (Option Value)}
    {nm1 q1 : Str} {N1 : Addr} {bs1 : List Value} {sn1 : List Str} {sub1 : List Value} {ab1 : Bool} {col1 : Option Bool} {dd1 : Option Addr} {m01 m11 m21 m31 m51 : Option Value} {oc1 dc1 pm1 cd1 ct1 : Value} {od1 an1 : Option Addr} {sl1 : Array (Option Value)}
    {nm2 q2 : Str} {N2 : Addr} {bs2 : List Value} {sn2 : List Str} {sub2 : List Value} {ab2 : Bool} {col2 : Option Bool} {dd2 : Option Addr} {m02 m12 m22 m32 m52 : Option Value} {oc2 dc2 pm2 cd2 ct2 : Value} {od2 an2 : Option Addr} {sl2 : Array (Option Value)}
    {nm3 q3 : Str} {N3 : Addr} {bs3 : List Value} {sn3 : List Str} {sub3 : List Value} {ab3 : Bool} {col3 : Option Bool} {dd3 : Option Addr} {m03 m13 m23 m33 m53 : Option Value} {oc3 dc3 pm3 cd3 ct3 : Value} {od3 an3 : Option Addr} {sl3 : Array (Option Value)}
    {nm4 q4 : Str} {N4 : Addr} {bs4 : List Value} {sn4 : List Str} {sub4 : List Value} {ab4 : Bool} {col4 : Option Bool} {dd4 : Option Addr} {m04 m14 m24 m34 m54 : Option Value} {oc4 dc4 pm4 cd4 ct4 : Value} {od4 an4 : Option Addr} {sl4 : Array (Option Value)}
    {nm5 q5 : Str} {N5 : Addr} {bs5 : List Value} {sn5 : List Str} {sub5 : List Value} {ab5 : Bool} {col5 : Option Bool} {dd5 : Option Addr} {m05 m15 m25 m35 m55 : Option Value} {oc5 dc5 pm5 cd5 ct5 : Value} {od5 an5 : Option Addr} {sl5 : Array (Option Value)}
    {nm6 q6 : Str} {N6 : Addr} {bs6 : List Value} {sn6 : List Str} {sub6 : List Value} {ab6 : Bool} {col6 : Option Bool} {dd6 : Option Addr} {m06 m16 m26 m36 m56 : Option Value} {oc6 dc6 pm6 cd6 ct6 : Value} {od6 an6 : Option Addr} {sl6 : Array (Option Value)}
    {nm7 q7 : Str} {N7 : Addr} {bs7 : List Value} {sn7 : List Str} {sub7 : List Value} {ab7 : Bool} {col7 : Option Bool} {dd7 : Option Addr} {m07 m17 m27 m37 m57 : Option Value} {oc7 dc7 pm7 cd7 ct7 : Value} {od7 an7 : Option Addr} {sl7 : Array (Option Value)}
    {nm8 q8 : Str} {N8 : Addr} {bs8 : List Value} {sn8 : List Str} {sub8 : List Value} {ab8 : Bool} {col8 : Option Bool} {dd8 : Option Addr} {m08 m18 m28 m38 m58 : Option Value} {oc8 dc8 pm8 cd8 ct8 : Value} {od8 an8 : Option Addr} {sl8 : Array (Option Value)}
    {nm9 q9 : Str} {N9 : Addr} {bs9 : List Value} {sn9 : List Str} {sub9 : List Value} {ab9 : Bool} {col9 : Option Bool} {dd9 : Option Addr} {m09 m19 m29 m39 m59 : Option Value} {oc9 dc9 pm9 cd9 ct9 : Value} {od9 an9 : Option Addr} {sl9 : Array (Option Value)}
    {nm10 q10 : Str} {N10 : Addr} {bs10 : List Value} {sn10 : List Str} {sub10 : List Value} {ab10 : Bool} {col10 : Option Bool} {dd10 : Option Addr} {m010 m110 m210 m310 m510 : Option Value} {oc10 dc10 pm10 cd10 ct10 : Value} {od10 an10 : Option Addr} {sl10 : Array (Option Value)}
    {nm11 q11 : Str} {N11 : Addr} {bs11 : List Value} {sn11 : List Str} {sub11 : List Value} {ab11 : Bool} {col11 : Option Bool} {dd11 : Option Addr} {m011 m111 m211 m311 m511 : Option Value} {oc11 dc11 pm11 cd11 ct11 : Value} {od11 an11 : Option Addr} {sl11 : Array (Option Value)}
    {nm12 q12 : Str} {N12 : Addr} {bs12 : List Value} {sn12 : List Str} {sub12 : List Value} {ab12 : Bool} {col12 : Option Bool} {dd12 : Option Addr} {m012 m112 m212 m312 m512 : Option Value} {oc12 dc12 pm12 cd12 ct12 : Value} {od12 an12 : Option Addr} {sl12 : Array (Option Value)}
    {nm13 q13 : Str} {N13 : Addr} {bs13 : List Value} {sn13 : List Str} {sub13 : List Value} {ab13 : Bool} {col13 : Option Bool} {dd13 : Option Addr} {m013 m113 m213 m313 m513 : Option Value} {oc13 dc13 pm13 cd13 ct13 : Value} {od13 an13 : Option Addr} {sl13 : Array (Option Value)}
    {nm14 q14 : Str} {N14 : Addr} {bs14 : List Value} {sn14 : List Str} {sub14 : List Value} {ab14 : Bool} {col14 : Option Bool} {dd14 : Option Addr} {m014 m114 m214 m314 m514 : Option Value} {oc14 dc14 pm14 cd14 ct14 : Value} {od14 an14 : Option Addr} {sl14 : Array (Option Value)}
    {nm15 q15 : Str} {N15 : Addr} {bs15 : List Value} {sn15 : List Str} {sub15 : List Value} {ab15 : Bool} {col15 : Option Bool} {dd15 : Option Addr} {m015 m115 m215 m315 m515 : Option Value} {oc15 dc15 pm15 cd15 ct15 : Value} {od15 an15 : Option Addr} {sl15 : Array (Option Value)}
    {nm16 q16 : Str} {N16 : Addr} {bs16 : List Value} {sn16 : List Str} {sub16 : List Value} {ab16 : Bool} {col16 : Option Bool} {dd16 : Option Addr} {m016 m116 m216 m316 m516 : Option Value} {oc16 dc16 pm16 cd16 ct16 : Value} {od16 an16 : Option Addr} {sl16 : Array (Option Value)}
    {nm17 q17 : Str} {N17 : Addr} {bs17 : List Value} {sn17 : List Str} {sub17 : List Value} {ab17 : Bool} {col17 : Option Bool} {dd17 : Option Addr} {m017 m117 m217 m317 m517 : Option Value} {oc17 dc17 pm17 cd17 ct17 : Value} {od17 an17 : Option Addr} {sl17 : Array (Option Value)}
    {nm18 q18 : Str} {N18 : Addr} {bs18 : List Value} {sn18 : List Str} {sub18 : List Value} {ab18 : Bool} {col18 : Option Bool} {dd18 : Option Addr} {m018 m118 m218 m318 m518 : Option Value} {oc18 dc18 pm18 cd18 ct18 : Value} {od18 an18 : Option Addr} {sl18 : Array (Option Value)}
    {nm19 q19 : Str} {N19 : Addr} {bs19 : List Value} {sn19 : List Str} {sub19 : List Value} {ab19 : Bool} {col19 : Option Bool} {dd19 : Option Addr} {m019 m119 m219 m319 m519 : Option Value} {oc19 dc19 pm19 cd19 ct19 : Value} {od19 an19 : Option Addr} {sl19 : Array (Option Value)}
    {nm20 q20 : Str} {N20 : Addr} {bs20 : List Value} {sn20 : List Str} {sub20 : List Value} {ab20 : Bool} {col20 : Option Bool} {dd20 : Option Addr} {m020 m120 m220 m320 m520 : Option Value} {oc20 dc20 pm20 cd20 ct20 : Value} {od20 an20 : Option Addr} {sl20 : Array (Option Value)}
    {nm21 q21 : Str} {N21 : Addr} {bs21 : List Value} {sn21 : List Str} {sub21 : List Value} {ab21 : Bool} {col21 : Option Bool} {dd21 : Option Addr} {m021 m121 m221 m321 m521 : Option Value} {oc21 dc21 pm21 cd21 ct21 : Value} {od21 an21 : Option Addr} {sl21 : Array (Option Value)}
    {nm22 q22 : Str} {N22 : Addr} {bs22 : List Value} {sn22 : List Str} {sub22 : List Value} {ab22 : Bool} {col22 : Option Bool} {dd22 : Option Addr} {m022 m122 m222 m322 m522 : Option Value} {oc22 dc22 pm22 cd22 ct22 : Value} {od22 an22 : Option Addr} {sl22 : Array (Option Value)}
    {ocf0 kVf0 dcf0 pmf0 cdf0 ctf0 : Value} {odf0 anf0 : Option Addr} {slf0 : Array (Option Value)}
    {ocf1 kVf1 dcf1 pmf1 cdf1 ctf1 : Value} {odf1 anf1 : Option Addr} {slf1 : Array (Option Value)}
    {ocf2 kVf2 dcf2 pmf2 cdf2 ctf2 : Value} {odf2 anf2 : Option Addr} {slf2 : Array (Option Value)}
    {ocf3 kVf3 dcf3 pmf3 cdf3 ctf3 : Value} {odf3 anf3 : Option Addr} {slf3 : Array (Option Value)}
    {ocf4 kVf4 dcf4 pmf4 cdf4 ctf4 : Value} {odf4 anf4 : Option Addr} {slf4 : Array (Option Value)}
    {ocf5 kVf5 dcf5 pmf5 cdf5 ctf5 : Value} {odf5 anf5 : Option Addr} {slf5 : Array (Option Value)}
    {ocf6 kVf6 dcf6 pmf6 cdf6 ctf6 : Value} {odf6 anf6 : Option Addr} {slf6 : Array (Option Value)}
    {ocf7 kVf7 dcf7 pmf7 cdf7 ctf7 : Value} {odf7 anf7 : Option Addr} {slf7 : Array (Option Value)}
    {ocf8 kVf8 dcf8 pmf8 cdf8 ctf8 : Value} {odf8 anf8 : Option Addr} {slf8 : Array (Option Value)}
    {ocf9 kVf9 dcf9 pmf9 cdf9 ctf9 : Value} {odf9 anf9 : Option Addr} {slf9 : Array (Option Value)}
    {ocf10 kVf10 dcf10 pmf10 cdf10 ctf10 : Value} {odf10 anf10 : Option Addr} {slf10 : Array (Option Value)}
    {ocf11 kVf11 dcf11 pmf11 cdf11 ctf11 : Value} {odf11 anf11 : Option Addr} {slf11 : Array (Option Value)}
    (aB : PySem.W.nsIn K mainGlobals "PromiseError" = some (some (.ref cB)))
    (eB : PySem.W.subIn K (.ref cB) (.type "BaseException") = some true)
    (iB : PySem.W.isClsIn K cB = true)
    (tB : PySem.W.typeIn K (.ref cB) = some (.type "type"))
    (a0 : PySem.W.nsIn K mainGlobals "InvalidText" = some (some (.ref c0)))
    (x0 : K.lookup c0 = some (excClassObj nm0 q0 c0 N0 bs0 [.ref cB, .type "Exception", .type "BaseException", .type "object"] true sn0 sub0 ab0 col0 dd0 m00 m10 m20 m30 m50 "Exception.__new__"))
    (s0 : PySem.W.findIn K (.ref c0) "__setattr__" = some (some (.builtin "object.__setattr__")))
    (ga0 : PySem.W.findIn K (.ref c0) "__getattribute__" = some (some (.builtin "BaseException.__getattribute__")))
    (gg0 : PySem.W.findIn K (.ref c0) "__getattr__" = some none)
    (k0 : PySem.W.keepIn K (.ref c0) = true)
    (e0 : PySem.W.subIn K (.ref c0) (.type "BaseException") = some true)
    (t0 : PySem.W.typeIn K (.ref c0) = some (.type "type"))
    (h0 : PySem.W.hasDictIn K c0 = true)
    (nf0 : PySem.W.findIn K (.ref c0) "at" = some none)
    (i0 : PySem.W.findIn K (.ref c0) "__init__" = some (some (.ref g0)))
    (ti0 : PySem.W.typeIn K (.ref g0) = some (.type "function"))
    (l0 : K.lookup g0 = some ⟨oc0, od0, .func (PySem.W.fnOf "__init__" "InvalidText.__init__" (PySem.PErrA.args ⟨6, 17, 6, 21⟩ ⟨6, 23, 6, 25⟩) (PySem.PErrA.body ⟨7, 8, 7, 12⟩ ⟨7, 8, 7, 15⟩ ⟨7, 18, 7, 20⟩ ⟨7, 8, 7, 20⟩) PySem.PErrA.scop .none .none dc0 pm0 an0 cd0 ct0), sl0⟩)
    (ci0 : PySem.W.codeIn K cd0 "InvalidText.__init__" = true)
    (a1 : PySem.W.nsIn K mainGlobals "InvalidTable" = some (some (.ref c1)))
    (x1 : K.lookup c1 = some (excClassObj nm1 q1 c1 N1 bs1 [.ref cB, .type "Exception", .type "BaseException", .type "object"] true sn1 sub1 ab1 col1 dd1 m01 m11 m21 m31 m51 "Exception.__new__"))
    (s1 : PySem.W.findIn K (.ref c1) "__setattr__" = some (some (.builtin "object.__setattr__")))
    (ga1 : PySem.W.findIn K (.ref c1) "__getattribute__" = some (some (.builtin "BaseException.__getattribute__")))
    (gg1 : PySem.W.findIn K (.ref c1) "__getattr__" = some none)
    (k1 : PySem.W.keepIn K (.ref c1) = true)
    (e1 : PySem.W.subIn K (.ref c1) (.type "BaseException") = some true)
    (t1 : PySem.W.typeIn K (.ref c1) = some (.type "type"))
    (h1 : PySem.W.hasDictIn K c1 = true)
    (nf1 : PySem.W.findIn K (.ref c1) "at" = some none)
    (i1 : PySem.W.findIn K (.ref c1) "__init__" = some (some (.ref g1)))
    (ti1 : PySem.W.typeIn K (.ref g1) = some (.type "function"))
    (l1 : K.lookup g1 = some ⟨oc1, od1, .func (PySem.W.fnOf "__init__" "InvalidTable.__init__" (PySem.PErrA.args ⟨10, 17, 10, 21⟩ ⟨10, 23, 10, 25⟩) (PySem.PErrA.body ⟨11, 8, 11, 12⟩ ⟨11, 8, 11, 15⟩ ⟨11, 18, 11, 20⟩ ⟨11, 8, 11, 20⟩) PySem.PErrA.scop .none .none dc1 pm1 an1 cd1 ct1), sl1⟩)
    (ci1 : PySem.W.codeIn K cd1 "InvalidTable.__init__" = true)
    (a2 : PySem.W.nsIn K mainGlobals "InvalidSheet" = some (some (.ref c2)))
    (x2 : K.lookup c2 = some (excClassObj nm2 q2 c2 N2 bs2 [.ref cB, .type "Exception", .type "BaseException", .type "object"] true sn2 sub2 ab2 col2 dd2 m02 m12 m22 m32 m52 "Exception.__new__"))
    (s2 : PySem.W.findIn K (.ref c2) "__setattr__" = some (some (.builtin "object.__setattr__")))
    (ga2 : PySem.W.findIn K (.ref c2) "__getattribute__" = some (some (.builtin "BaseException.__getattribute__")))
    (gg2 : PySem.W.findIn K (.ref c2) "__getattr__" = some none)
    (k2 : PySem.W.keepIn K (.ref c2) = true)
    (e2 : PySem.W.subIn K (.ref c2) (.type "BaseException") = some true)
    (t2 : PySem.W.typeIn K (.ref c2) = some (.type "type"))
    (h2 : PySem.W.hasDictIn K c2 = true)
    (nf2 : PySem.W.findIn K (.ref c2) "at" = some none)
    (i2 : PySem.W.findIn K (.ref c2) "__init__" = some (some (.ref g2)))
    (ti2 : PySem.W.typeIn K (.ref g2) = some (.type "function"))
    (l2 : K.lookup g2 = some ⟨oc2, od2, .func (PySem.W.fnOf "__init__" "InvalidSheet.__init__" (PySem.PErrA.args ⟨14, 17, 14, 21⟩ ⟨14, 23, 14, 25⟩) (PySem.PErrA.body ⟨15, 8, 15, 12⟩ ⟨15, 8, 15, 15⟩ ⟨15, 18, 15, 20⟩ ⟨15, 8, 15, 20⟩) PySem.PErrA.scop .none .none dc2 pm2 an2 cd2 ct2), sl2⟩)
    (ci2 : PySem.W.codeIn K cd2 "InvalidSheet.__init__" = true)
    (a3 : PySem.W.nsIn K mainGlobals "InvalidLines" = some (some (.ref c3)))
    (x3 : K.lookup c3 = some (excClassObj nm3 q3 c3 N3 bs3 [.ref cB, .type "Exception", .type "BaseException", .type "object"] true sn3 sub3 ab3 col3 dd3 m03 m13 m23 m33 m53 "Exception.__new__"))
    (s3 : PySem.W.findIn K (.ref c3) "__setattr__" = some (some (.builtin "object.__setattr__")))
    (ga3 : PySem.W.findIn K (.ref c3) "__getattribute__" = some (some (.builtin "BaseException.__getattribute__")))
    (gg3 : PySem.W.findIn K (.ref c3) "__getattr__" = some none)
    (k3 : PySem.W.keepIn K (.ref c3) = true)
    (e3 : PySem.W.subIn K (.ref c3) (.type "BaseException") = some true)
    (t3 : PySem.W.typeIn K (.ref c3) = some (.type "type"))
    (h3 : PySem.W.hasDictIn K c3 = true)
    (nf3 : PySem.W.findIn K (.ref c3) "at" = some none)
    (i3 : PySem.W.findIn K (.ref c3) "__init__" = some (some (.ref g3)))
    (ti3 : PySem.W.typeIn K (.ref g3) = some (.type "function"))
    (l3 : K.lookup g3 = some ⟨oc3, od3, .func (PySem.W.fnOf "__init__" "InvalidLines.__init__" (PySem.PErrA.args ⟨18, 17, 18, 21⟩ ⟨18, 23, 18, 25⟩) (PySem.PErrA.body ⟨19, 8, 19, 12⟩ ⟨19, 8, 19, 15⟩ ⟨19, 18, 19, 20⟩ ⟨19, 8, 19, 20⟩) PySem.PErrA.scop .none .none dc3 pm3 an3 cd3 ct3), sl3⟩)
    (ci3 : PySem.W.codeIn K cd3 "InvalidLines.__init__" = true)
    (a4 : PySem.W.nsIn K mainGlobals "InvalidFrame" = some (some (.ref c4)))
    (x4 : K.lookup c4 = some (excClassObj nm4 q4 c4 N4 bs4 [.ref cB, .type "Exception", .type "BaseException", .type "object"] true sn4 sub4 ab4 col4 dd4 m04 m14 m24 m34 m54 "Exception.__new__"))
    (s4 : PySem.W.findIn K (.ref c4) "__setattr__" = some (some (.builtin "object.__setattr__")))
    (ga4 : PySem.W.findIn K (.ref c4) "__getattribute__" = some (some (.builtin "BaseException.__getattribute__")))
    (gg4 : PySem.W.findIn K (.ref c4) "__getattr__" = some none)
    (k4 : PySem.W.keepIn K (.ref c4) = true)
    (e4 : PySem.W.subIn K (.ref c4) (.type "BaseException") = some true)
    (t4 : PySem.W.typeIn K (.ref c4) = some (.type "type"))
    (h4 : PySem.W.hasDictIn K c4 = true)
    (nf4 : PySem.W.findIn K (.ref c4) "at" = some none)
    (i4 : PySem.W.findIn K (.ref c4) "__init__" = some (some (.ref g4)))
    (ti4 : PySem.W.typeIn K (.ref g4) = some (.type "function"))
    (l4 : K.lookup g4 = some ⟨oc4, od4, .func (PySem.W.fnOf "__init__" "InvalidFrame.__init__" (PySem.PErrA.args ⟨22, 17, 22, 21⟩ ⟨22, 23, 22, 25⟩) (PySem.PErrA.body ⟨23, 8, 23, 12⟩ ⟨23, 8, 23, 15⟩ ⟨23, 18, 23, 20⟩ ⟨23, 8, 23, 20⟩) PySem.PErrA.scop .none .none dc4 pm4 an4 cd4 ct4), sl4⟩)
    (ci4 : PySem.W.codeIn K cd4 "InvalidFrame.__init__" = true)
    (a5 : PySem.W.nsIn K mainGlobals "InvalidProgram" = some (some (.ref c5)))
    (x5 : K.lookup c5 = some (excClassObj nm5 q5 c5 N5 bs5 [.ref cB, .type "Exception", .type "BaseException", .type "object"] true sn5 sub5 ab5 col5 dd5 m05 m15 m25 m35 m55 "Exception.__new__"))
    (s5 : PySem.W.findIn K (.ref c5) "__setattr__" = some (some (.builtin "object.__setattr__")))
    (ga5 : PySem.W.findIn K (.ref c5) "__getattribute__" = some (some (.builtin "BaseException.__getattribute__")))
    (gg5 : PySem.W.findIn K (.ref c5) "__getattr__" = some none)
    (k5 : PySem.W.keepIn K (.ref c5) = true)
    (e5 : PySem.W.subIn K (.ref c5) (.type "BaseException") = some true)
    (t5 : PySem.W.typeIn K (.ref c5) = some (.type "type"))
    (h5 : PySem.W.hasDictIn K c5 = true)
    (nf5 : PySem.W.findIn K (.ref c5) "at" = some none)
    (i5 : PySem.W.findIn K (.ref c5) "__init__" = some (some (.ref g5)))
    (ti5 : PySem.W.typeIn K (.ref g5) = some (.type "function"))
    (l5 : K.lookup g5 = some ⟨oc5, od5, .func (PySem.W.fnOf "__init__" "InvalidProgram.__init__" (PySem.PErrA.args ⟨26, 17, 26, 21⟩ ⟨26, 23, 26, 25⟩) (PySem.PErrA.body ⟨27, 8, 27, 12⟩ ⟨27, 8, 27, 15⟩ ⟨27, 18, 27, 20⟩ ⟨27, 8, 27, 20⟩) PySem.PErrA.scop .none .none dc5 pm5 an5 cd5 ct5), sl5⟩)
    (ci5 : PySem.W.codeIn K cd5 "InvalidProgram.__init__" = true)
    (a6 : PySem.W.nsIn K mainGlobals "InvalidRows" = some (some (.ref c6)))
    (x6 : K.lookup c6 = some (excClassObj nm6 q6 c6 N6 bs6 [.ref cB, .type "Exception", .type "BaseException", .type "object"] true sn6 sub6 ab6 col6 dd6 m06 m16 m26 m36 m56 "Exception.__new__"))
    (s6 : PySem.W.findIn K (.ref c6) "__setattr__" = some (some (.builtin "object.__setattr__")))
    (ga6 : PySem.W.findIn K (.ref c6) "__getattribute__" = some (some (.builtin "BaseException.__getattribute__")))
    (gg6 : PySem.W.findIn K (.ref c6) "__getattr__" = some none)
    (k6 : PySem.W.keepIn K (.ref c6) = true)
    (e6 : PySem.W.subIn K (.ref c6) (.type "BaseException") = some true)
    (t6 : PySem.W.typeIn K (.ref c6) = some (.type "type"))
    (h6 : PySem.W.hasDictIn K c6 = true)
    (nf6 : PySem.W.findIn K (.ref c6) "at" = some none)
    (i6 : PySem.W.findIn K (.ref c6) "__init__" = some (some (.ref g6)))
    (ti6 : PySem.W.typeIn K (.ref g6) = some (.type "function"))
    (l6 : K.lookup g6 = some ⟨oc6, od6, .func (PySem.W.fnOf "__init__" "InvalidRows.__init__" (PySem.PErrA.args ⟨30, 17, 30, 21⟩ ⟨30, 23, 30, 25⟩) (PySem.PErrA.body ⟨31, 8, 31, 12⟩ ⟨31, 8, 31, 15⟩ ⟨31, 18, 31, 20⟩ ⟨31, 8, 31, 20⟩) PySem.PErrA.scop .none .none dc6 pm6 an6 cd6 ct6), sl6⟩)
    (ci6 : PySem.W.codeIn K cd6 "InvalidRows.__init__" = true)
    (a7 : PySem.W.nsIn K mainGlobals "InvalidDatum" = some (some (.ref c7)))
    (x7 : K.lookup c7 = some (excClassObj nm7 q7 c7 N7 bs7 [.ref cB, .type "Exception", .type "BaseException", .type "object"] true sn7 sub7 ab7 col7 dd7 m07 m17 m27 m37 m57 "Exception.__new__"))
    (s7 : PySem.W.findIn K (.ref c7) "__setattr__" = some (some (.builtin "object.__setattr__")))
    (ga7 : PySem.W.findIn K (.ref c7) "__getattribute__" = some (some (.builtin "BaseException.__getattribute__")))
    (gg7 : PySem.W.findIn K (.ref c7) "__getattr__" = some none)
    (k7 : PySem.W.keepIn K (.ref c7) = true)
    (e7 : PySem.W.subIn K (.ref c7) (.type "BaseException") = some true)
    (t7 : PySem.W.typeIn K (.ref c7) = some (.type "type"))
    (h7 : PySem.W.hasDictIn K c7 = true)
    (nf7 : PySem.W.findIn K (.ref c7) "at" = some none)
    (i7 : PySem.W.findIn K (.ref c7) "__init__" = some (some (.ref g7)))
    (ti7 : PySem.W.typeIn K (.ref g7) = some (.type "function"))
    (l7 : K.lookup g7 = some ⟨oc7, od7, .func (PySem.W.fnOf "__init__" "InvalidDatum.__init__" (PySem.PErrA.args ⟨34, 17, 34, 21⟩ ⟨34, 23, 34, 25⟩) (PySem.PErrA.body ⟨35, 8, 35, 12⟩ ⟨35, 8, 35, 15⟩ ⟨35, 18, 35, 20⟩ ⟨35, 8, 35, 20⟩) PySem.PErrA.scop .none .none dc7 pm7 an7 cd7 ct7), sl7⟩)
    (ci7 : PySem.W.codeIn K cd7 "InvalidDatum.__init__" = true)
    (a8 : PySem.W.nsIn K mainGlobals "InvalidEvents" = some (some (.ref c8)))
    (x8 : K.lookup c8 = some (excClassObj nm8 q8 c8 N8 bs8 [.ref cB, .type "Exception", .type "BaseException", .type "object"] true sn8 sub8 ab8 col8 dd8 m08 m18 m28 m38 m58 "Exception.__new__"))
    (s8 : PySem.W.findIn K (.ref c8) "__setattr__" = some (some (.builtin "object.__setattr__")))
    (ga8 : PySem.W.findIn K (.ref c8) "__getattribute__" = some (some (.builtin "BaseException.__getattribute__")))
    (gg8 : PySem.W.findIn K (.ref c8) "__getattr__" = some none)
    (k8 : PySem.W.keepIn K (.ref c8) = true)
    (e8 : PySem.W.subIn K (.ref c8) (.type "BaseException") = some true)
    (t8 : PySem.W.typeIn K (.ref c8) = some (.type "type"))
    (h8 : PySem.W.hasDictIn K c8 = true)
    (nf8 : PySem.W.findIn K (.ref c8) "at" = some none)
    (i8 : PySem.W.findIn K (.ref c8) "__init__" = some (some (.ref g8)))
    (ti8 : PySem.W.typeIn K (.ref g8) = some (.type "function"))
    (l8 : K.lookup g8 = some ⟨oc8, od8, .func (PySem.W.fnOf "__init__" "InvalidEvents.__init__" (PySem.PErrA.args ⟨38, 17, 38, 21⟩ ⟨38, 23, 38, 25⟩) (PySem.PErrA.body ⟨39, 8, 39, 12⟩ ⟨39, 8, 39, 15⟩ ⟨39, 18, 39, 20⟩ ⟨39, 8, 39, 20⟩) PySem.PErrA.scop .none .none dc8 pm8 an8 cd8 ct8), sl8⟩)
    (ci8 : PySem.W.codeIn K cd8 "InvalidEvents.__init__" = true)
    (a9 : PySem.W.nsIn K mainGlobals "InvalidProcessor" = some (some (.ref c9)))
    (x9 : K.lookup c9 = some (excClassObj nm9 q9 c9 N9 bs9 [.ref cB, .type "Exception", .type "BaseException", .type "object"] true sn9 sub9 ab9 col9 dd9 m09 m19 m29 m39 m59 "Exception.__new__"))
    (s9 : PySem.W.findIn K (.ref c9) "__setattr__" = some (some (.builtin "object.__setattr__")))
    (ga9 : PySem.W.findIn K (.ref c9) "__getattribute__" = some (some (.builtin "BaseException.__getattribute__")))
    (gg9 : PySem.W.findIn K (.ref c9) "__getattr__" = some none)
    (k9 : PySem.W.keepIn K (.ref c9) = true)
    (e9 : PySem.W.subIn K (.ref c9) (.type "BaseException") = some true)
    (t9 : PySem.W.typeIn K (.ref c9) = some (.type "type"))
    (h9 : PySem.W.hasDictIn K c9 = true)
    (nf9 : PySem.W.findIn K (.ref c9) "at" = some none)
    (i9 : PySem.W.findIn K (.ref c9) "__init__" = some (some (.ref g9)))
    (ti9 : PySem.W.typeIn K (.ref g9) = some (.type "function"))
    (l9 : K.lookup g9 = some ⟨oc9, od9, .func (PySem.W.fnOf "__init__" "InvalidProcessor.__init__" (PySem.PErrA.args ⟨42, 17, 42, 21⟩ ⟨42, 23, 42, 25⟩) (PySem.PErrA.body ⟨43, 8, 43, 12⟩ ⟨43, 8, 43, 15⟩ ⟨43, 18, 43, 20⟩ ⟨43, 8, 43, 20⟩) PySem.PErrA.scop .none .none dc9 pm9 an9 cd9 ct9), sl9⟩)
    (ci9 : PySem.W.codeIn K cd9 "InvalidProcessor.__init__" = true)
    (a10 : PySem.W.nsIn K mainGlobals "InvalidLot" = some (some (.ref c10)))
    (x10 : K.lookup c10 = some (excClassObj nm10 q10 c10 N10 bs10 [.ref cB, .type "Exception", .type "BaseException", .type "object"] true sn10 sub10 ab10 col10 dd10 m010 m110 m210 m310 m510 "Exception.__new__"))
    (s10 : PySem.W.findIn K (.ref c10) "__setattr__" = some (some (.builtin "object.__setattr__")))
    (ga10 : PySem.W.findIn K (.ref c10) "__getattribute__" = some (some (.builtin "BaseException.__getattribute__")))
    (gg10 : PySem.W.findIn K (.ref c10) "__getattr__" = some none)
    (k10 : PySem.W.keepIn K (.ref c10) = true)
    (e10 : PySem.W.subIn K (.ref c10) (.type "BaseException") = some true)
    (t10 : PySem.W.typeIn K (.ref c10) = some (.type "type"))
    (h10 : PySem.W.hasDictIn K c10 = true)
    (nf10 : PySem.W.findIn K (.ref c10) "at" = some none)
    (i10 : PySem.W.findIn K (.ref c10) "__init__" = some (some (.ref g10)))
    (ti10 : PySem.W.typeIn K (.ref g10) = some (.type "function"))
    (l10 : K.lookup g10 = some ⟨oc10, od10, .func (PySem.W.fnOf "__init__" "InvalidLot.__init__" (PySem.PErrA.args ⟨46, 17, 46, 21⟩ ⟨46, 23, 46, 25⟩) (PySem.PErrA.body ⟨47, 8, 47, 12⟩ ⟨47, 8, 47, 15⟩ ⟨47, 18, 47, 20⟩ ⟨47, 8, 47, 20⟩) PySem.PErrA.scop .none .none dc10 pm10 an10 cd10 ct10), sl10⟩)
    (ci10 : PySem.W.codeIn K cd10 "InvalidLot.__init__" = true)
    (a11 : PySem.W.nsIn K mainGlobals "InvalidCache" = some (some (.ref c11)))
    (x11 : K.lookup c11 = some (excClassObj nm11 q11 c11 N11 bs11 [.ref cB, .type "Exception", .type "BaseException", .type "object"] true sn11 sub11 ab11 col11 dd11 m011 m111 m211 m311 m511 "Exception.__new__"))
    (s11 : PySem.W.findIn K (.ref c11) "__setattr__" = some (some (.builtin "object.__setattr__")))
    (ga11 : PySem.W.findIn K (.ref c11) "__getattribute__" = some (some (.builtin "BaseException.__getattribute__")))
    (gg11 : PySem.W.findIn K (.ref c11) "__getattr__" = some none)
    (k11 : PySem.W.keepIn K (.ref c11) = true)
    (e11 : PySem.W.subIn K (.ref c11) (.type "BaseException") = some true)
    (t11 : PySem.W.typeIn K (.ref c11) = some (.type "type"))
    (h11 : PySem.W.hasDictIn K c11 = true)
    (nf11 : PySem.W.findIn K (.ref c11) "at" = some none)
    (i11 : PySem.W.findIn K (.ref c11) "__init__" = some (some (.ref g11)))
    (ti11 : PySem.W.typeIn K (.ref g11) = some (.type "function"))
    (l11 : K.lookup g11 = some ⟨oc11, od11, .func (PySem.W.fnOf "__init__" "InvalidCache.__init__" (PySem.PErrA.args ⟨50, 17, 50, 21⟩ ⟨50, 23, 50, 25⟩) (PySem.PErrA.body ⟨51, 8, 51, 12⟩ ⟨51, 8, 51, 15⟩ ⟨51, 18, 51, 20⟩ ⟨51, 8, 51, 20⟩) PySem.PErrA.scop .none .none dc11 pm11 an11 cd11 ct11), sl11⟩)
    (ci11 : PySem.W.codeIn K cd11 "InvalidCache.__init__" = true)
    (a12 : PySem.W.nsIn K mainGlobals "InvalidSource" = some (some (.ref c12)))
    (x12 : K.lookup c12 = some (excClassObj nm12 q12 c12 N12 bs12 [.ref cB, .type "Exception", .type "BaseException", .type "object"] true sn12 sub12 ab12 col12 dd12 m012 m112 m212 m312 m512 "Exception.__new__"))
    (s12 : PySem.W.findIn K (.ref c12) "__setattr__" = some (some (.builtin "object.__setattr__")))
    (ga12 : PySem.W.findIn K (.ref c12) "__getattribute__" = some (some (.builtin "BaseException.__getattribute__")))
    (gg12 : PySem.W.findIn K (.ref c12) "__getattr__" = some none)
    (k12 : PySem.W.keepIn K (.ref c12) = true)
    (e12 : PySem.W.subIn K (.ref c12) (.type "BaseException") = some true)
    (t12 : PySem.W.typeIn K (.ref c12) = some (.type "type"))
    (h12 : PySem.W.hasDictIn K c12 = true)
    (nf12 : PySem.W.findIn K (.ref c12) "at" = some none)
    (i12 : PySem.W.findIn K (.ref c12) "__init__" = some (some (.ref g12)))
    (ti12 : PySem.W.typeIn K (.ref g12) = some (.type "function"))
    (l12 : K.lookup g12 = some ⟨oc12, od12, .func (PySem.W.fnOf "__init__" "InvalidSource.__init__" (PySem.PErrA.args ⟨54, 17, 54, 21⟩ ⟨54, 23, 54, 25⟩) (PySem.PErrA.body ⟨55, 8, 55, 12⟩ ⟨55, 8, 55, 15⟩ ⟨55, 18, 55, 20⟩ ⟨55, 8, 55, 20⟩) PySem.PErrA.scop .none .none dc12 pm12 an12 cd12 ct12), sl12⟩)
    (ci12 : PySem.W.codeIn K cd12 "InvalidSource.__init__" = true)
    (a13 : PySem.W.nsIn K mainGlobals "InvalidIndex" = some (some (.ref c13)))
    (x13 : K.lookup c13 = some (excClassObj nm13 q13 c13 N13 bs13 [.ref cB, .type "Exception", .type "BaseException", .type "object"] true sn13 sub13 ab13 col13 dd13 m013 m113 m213 m313 m513 "Exception.__new__"))
    (s13 : PySem.W.findIn K (.ref c13) "__setattr__" = some (some (.builtin "object.__setattr__")))
    (ga13 : PySem.W.findIn K (.ref c13) "__getattribute__" = some (some (.builtin "BaseException.__getattribute__")))
    (gg13 : PySem.W.findIn K (.ref c13) "__getattr__" = some none)
    (k13 : PySem.W.keepIn K (.ref c13) = true)
    (e13 : PySem.W.subIn K (.ref c13) (.type "BaseException") = some true)
    (t13 : PySem.W.typeIn K (.ref c13) = some (.type "type"))
    (h13 : PySem.W.hasDictIn K c13 = true)
    (nf13 : PySem.W.findIn K (.ref c13) "at" = some none)
    (i13 : PySem.W.findIn K (.ref c13) "__init__" = some (some (.ref g13)))
    (ti13 : PySem.W.typeIn K (.ref g13) = some (.type "function"))
    (l13 : K.lookup g13 = some ⟨oc13, od13, .func (PySem.W.fnOf "__init__" "InvalidIndex.__init__" (PySem.PErrA.args ⟨58, 17, 58, 21⟩ ⟨58, 23, 58, 25⟩) (PySem.PErrA.body ⟨59, 8, 59, 12⟩ ⟨59, 8, 59, 15⟩ ⟨59, 18, 59, 20⟩ ⟨59, 8, 59, 20⟩) PySem.PErrA.scop .none .none dc13 pm13 an13 cd13 ct13), sl13⟩)
    (ci13 : PySem.W.codeIn K cd13 "InvalidIndex.__init__" = true)
    (a14 : PySem.W.nsIn K mainGlobals "InvalidSpots" = some (some (.ref c14)))
    (x14 : K.lookup c14 = some (excClassObj nm14 q14 c14 N14 bs14 [.ref cB, .type "Exception", .type "BaseException", .type "object"] true sn14 sub14 ab14 col14 dd14 m014 m114 m214 m314 m514 "Exception.__new__"))
    (s14 : PySem.W.findIn K (.ref c14) "__setattr__" = some (some (.builtin "object.__setattr__")))
    (ga14 : PySem.W.findIn K (.ref c14) "__getattribute__" = some (some (.builtin "BaseException.__getattribute__")))
    (gg14 : PySem.W.findIn K (.ref c14) "__getattr__" = some none)
    (k14 : PySem.W.keepIn K (.ref c14) = true)
    (e14 : PySem.W.subIn K (.ref c14) (.type "BaseException") = some true)
    (t14 : PySem.W.typeIn K (.ref c14) = some (.type "type"))
    (h14 : PySem.W.hasDictIn K c14 = true)
    (nf14 : PySem.W.findIn K (.ref c14) "at" = some none)
    (i14 : PySem.W.findIn K (.ref c14) "__init__" = some (some (.ref g14)))
    (ti14 : PySem.W.typeIn K (.ref g14) = some (.type "function"))
    (l14 : K.lookup g14 = some ⟨oc14, od14, .func (PySem.W.fnOf "__init__" "InvalidSpots.__init__" (PySem.PErrA.args ⟨62, 17, 62, 21⟩ ⟨62, 23, 62, 25⟩) (PySem.PErrA.body ⟨63, 8, 63, 12⟩ ⟨63, 8, 63, 15⟩ ⟨63, 18, 63, 20⟩ ⟨63, 8, 63, 20⟩) PySem.PErrA.scop .none .none dc14 pm14 an14 cd14 ct14), sl14⟩)
    (ci14 : PySem.W.codeIn K cd14 "InvalidSpots.__init__" = true)
    (a15 : PySem.W.nsIn K mainGlobals "InvalidWhole" = some (some (.ref c15)))
    (x15 : K.lookup c15 = some (excClassObj nm15 q15 c15 N15 bs15 [.ref cB, .type "Exception", .type "BaseException", .type "object"] true sn15 sub15 ab15 col15 dd15 m015 m115 m215 m315 m515 "Exception.__new__"))
    (s15 : PySem.W.findIn K (.ref c15) "__setattr__" = some (some (.builtin "object.__setattr__")))
    (ga15 : PySem.W.findIn K (.ref c15) "__getattribute__" = some (some (.builtin "BaseException.__getattribute__")))
    (gg15 : PySem.W.findIn K (.ref c15) "__getattr__" = some none)
    (k15 : PySem.W.keepIn K (.ref c15) = true)
    (e15 : PySem.W.subIn K (.ref c15) (.type "BaseException") = some true)
    (t15 : PySem.W.typeIn K (.ref c15) = some (.type "type"))
    (h15 : PySem.W.hasDictIn K c15 = true)
    (nf15 : PySem.W.findIn K (.ref c15) "at" = some none)
    (i15 : PySem.W.findIn K (.ref c15) "__init__" = some (some (.ref g15)))
    (ti15 : PySem.W.typeIn K (.ref g15) = some (.type "function"))
    (l15 : K.lookup g15 = some ⟨oc15, od15, .func (PySem.W.fnOf "__init__" "InvalidWhole.__init__" (PySem.PErrA.args ⟨66, 17, 66, 21⟩ ⟨66, 23, 66, 25⟩) (PySem.PErrA.body ⟨67, 8, 67, 12⟩ ⟨67, 8, 67, 15⟩ ⟨67, 18, 67, 20⟩ ⟨67, 8, 67, 20⟩) PySem.PErrA.scop .none .none dc15 pm15 an15 cd15 ct15), sl15⟩)
    (ci15 : PySem.W.codeIn K cd15 "InvalidWhole.__init__" = true)
    (a16 : PySem.W.nsIn K mainGlobals "InvalidLots" = some (some (.ref c16)))
    (x16 : K.lookup c16 = some (excClassObj nm16 q16 c16 N16 bs16 [.ref cB, .type "Exception", .type "BaseException", .type "object"] true sn16 sub16 ab16 col16 dd16 m016 m116 m216 m316 m516 "Exception.__new__"))
    (s16 : PySem.W.findIn K (.ref c16) "__setattr__" = some (some (.builtin "object.__setattr__")))
    (ga16 : PySem.W.findIn K (.ref c16) "__getattribute__" = some (some (.builtin "BaseException.__getattribute__")))
    (gg16 : PySem.W.findIn K (.ref c16) "__getattr__" = some none)
    (k16 : PySem.W.keepIn K (.ref c16) = true)
    (e16 : PySem.W.subIn K (.ref c16) (.type "BaseException") = some true)
    (t16 : PySem.W.typeIn K (.ref c16) = some (.type "type"))
    (h16 : PySem.W.hasDictIn K c16 = true)
    (nf16 : PySem.W.findIn K (.ref c16) "at" = some none)
    (i16 : PySem.W.findIn K (.ref c16) "__init__" = some (some (.ref g16)))
    (ti16 : PySem.W.typeIn K (.ref g16) = some (.type "function"))
    (l16 : K.lookup g16 = some ⟨oc16, od16, .func (PySem.W.fnOf "__init__" "InvalidLots.__init__" (PySem.PErrA.args ⟨70, 17, 70, 21⟩ ⟨70, 23, 70, 25⟩) (PySem.PErrA.body ⟨71, 8, 71, 12⟩ ⟨71, 8, 71, 15⟩ ⟨71, 18, 71, 20⟩ ⟨71, 8, 71, 20⟩) PySem.PErrA.scop .none .none dc16 pm16 an16 cd16 ct16), sl16⟩)
    (ci16 : PySem.W.codeIn K cd16 "InvalidLots.__init__" = true)
    (a17 : PySem.W.nsIn K mainGlobals "InvalidWatcher" = some (some (.ref c17)))
    (x17 : K.lookup c17 = some (excClassObj nm17 q17 c17 N17 bs17 [.ref cB, .type "Exception", .type "BaseException", .type "object"] true sn17 sub17 ab17 col17 dd17 m017 m117 m217 m317 m517 "Exception.__new__"))
    (s17 : PySem.W.findIn K (.ref c17) "__setattr__" = some (some (.builtin "object.__setattr__")))
    (ga17 : PySem.W.findIn K (.ref c17) "__getattribute__" = some (some (.builtin "BaseException.__getattribute__")))
    (gg17 : PySem.W.findIn K (.ref c17) "__getattr__" = some none)
    (k17 : PySem.W.keepIn K (.ref c17) = true)
    (e17 : PySem.W.subIn K (.ref c17) (.type "BaseException") = some true)
    (t17 : PySem.W.typeIn K (.ref c17) = some (.type "type"))
    (h17 : PySem.W.hasDictIn K c17 = true)
    (nf17 : PySem.W.findIn K (.ref c17) "at" = some none)
    (i17 : PySem.W.findIn K (.ref c17) "__init__" = some (some (.ref g17)))
    (ti17 : PySem.W.typeIn K (.ref g17) = some (.type "function"))
    (l17 : K.lookup g17 = some ⟨oc17, od17, .func (PySem.W.fnOf "__init__" "InvalidWatcher.__init__" (PySem.PErrA.args ⟨74, 17, 74, 21⟩ ⟨74, 23, 74, 25⟩) (PySem.PErrA.body ⟨75, 8, 75, 12⟩ ⟨75, 8, 75, 15⟩ ⟨75, 18, 75, 20⟩ ⟨75, 8, 75, 20⟩) PySem.PErrA.scop .none .none dc17 pm17 an17 cd17 ct17), sl17⟩)
    (ci17 : PySem.W.codeIn K cd17 "InvalidWatcher.__init__" = true)
    (a18 : PySem.W.nsIn K mainGlobals "InvalidParts" = some (some (.ref c18)))
    (x18 : K.lookup c18 = some (excClassObj nm18 q18 c18 N18 bs18 [.ref cB, .type "Exception", .type "BaseException", .type "object"] true sn18 sub18 ab18 col18 dd18 m018 m118 m218 m318 m518 "Exception.__new__"))
    (s18 : PySem.W.findIn K (.ref c18) "__setattr__" = some (some (.builtin "object.__setattr__")))
    (ga18 : PySem.W.findIn K (.ref c18) "__getattribute__" = some (some (.builtin "BaseException.__getattribute__")))
    (gg18 : PySem.W.findIn K (.ref c18) "__getattr__" = some none)
    (k18 : PySem.W.keepIn K (.ref c18) = true)
    (e18 : PySem.W.subIn K (.ref c18) (.type "BaseException") = some true)
    (t18 : PySem.W.typeIn K (.ref c18) = some (.type "type"))
    (h18 : PySem.W.hasDictIn K c18 = true)
    (nf18 : PySem.W.findIn K (.ref c18) "at" = some none)
    (i18 : PySem.W.findIn K (.ref c18) "__init__" = some (some (.ref g18)))
    (ti18 : PySem.W.typeIn K (.ref g18) = some (.type "function"))
    (l18 : K.lookup g18 = some ⟨oc18, od18, .func (PySem.W.fnOf "__init__" "InvalidParts.__init__" (PySem.PErrA.args ⟨78, 17, 78, 21⟩ ⟨78, 23, 78, 25⟩) (PySem.PErrA.body ⟨79, 8, 79, 12⟩ ⟨79, 8, 79, 15⟩ ⟨79, 18, 79, 20⟩ ⟨79, 8, 79, 20⟩) PySem.PErrA.scop .none .none dc18 pm18 an18 cd18 ct18), sl18⟩)
    (ci18 : PySem.W.codeIn K cd18 "InvalidParts.__init__" = true)
    (a19 : PySem.W.nsIn K mainGlobals "InvalidDeed" = some (some (.ref c19)))
    (x19 : K.lookup c19 = some (excClassObj nm19 q19 c19 N19 bs19 [.ref cB, .type "Exception", .type "BaseException", .type "object"] true sn19 sub19 ab19 col19 dd19 m019 m119 m219 m319 m519 "Exception.__new__"))
    (s19 : PySem.W.findIn K (.ref c19) "__setattr__" = some (some (.builtin "object.__setattr__")))
    (ga19 : PySem.W.findIn K (.ref c19) "__getattribute__" = some (some (.builtin "BaseException.__getattribute__")))
    (gg19 : PySem.W.findIn K (.ref c19) "__getattr__" = some none)
    (k19 : PySem.W.keepIn K (.ref c19) = true)
    (e19 : PySem.W.subIn K (.ref c19) (.type "BaseException") = some true)
    (t19 : PySem.W.typeIn K (.ref c19) = some (.type "type"))
    (h19 : PySem.W.hasDictIn K c19 = true)
    (nf19 : PySem.W.findIn K (.ref c19) "at" = some none)
    (i19 : PySem.W.findIn K (.ref c19) "__init__" = some (some (.ref g19)))
    (ti19 : PySem.W.typeIn K (.ref g19) = some (.type "function"))
    (l19 : K.lookup g19 = some ⟨oc19, od19, .func (PySem.W.fnOf "__init__" "InvalidDeed.__init__" (PySem.PErrA.args ⟨82, 17, 82, 21⟩ ⟨82, 23, 82, 25⟩) (PySem.PErrA.body ⟨83, 8, 83, 12⟩ ⟨83, 8, 83, 15⟩ ⟨83, 18, 83, 20⟩ ⟨83, 8, 83, 20⟩) PySem.PErrA.scop .none .none dc19 pm19 an19 cd19 ct19), sl19⟩)
    (ci19 : PySem.W.codeIn K cd19 "InvalidDeed.__init__" = true)
    (a20 : PySem.W.nsIn K mainGlobals "Refused" = some (some (.ref c20)))
    (x20 : K.lookup c20 = some (excClassObj nm20 q20 c20 N20 bs20 [.ref cB, .type "Exception", .type "BaseException", .type "object"] true sn20 sub20 ab20 col20 dd20 m020 m120 m220 m320 m520 "Exception.__new__"))
    (s20 : PySem.W.findIn K (.ref c20) "__setattr__" = some (some (.builtin "object.__setattr__")))
    (ga20 : PySem.W.findIn K (.ref c20) "__getattribute__" = some (some (.builtin "BaseException.__getattribute__")))
    (gg20 : PySem.W.findIn K (.ref c20) "__getattr__" = some none)
    (k20 : PySem.W.keepIn K (.ref c20) = true)
    (e20 : PySem.W.subIn K (.ref c20) (.type "BaseException") = some true)
    (t20 : PySem.W.typeIn K (.ref c20) = some (.type "type"))
    (h20 : PySem.W.hasDictIn K c20 = true)
    (nf20 : PySem.W.findIn K (.ref c20) "at" = some none)
    (i20 : PySem.W.findIn K (.ref c20) "__init__" = some (some (.ref g20)))
    (ti20 : PySem.W.typeIn K (.ref g20) = some (.type "function"))
    (l20 : K.lookup g20 = some ⟨oc20, od20, .func (PySem.W.fnOf "__init__" "Refused.__init__" (PySem.PErrA.args ⟨86, 17, 86, 21⟩ ⟨86, 23, 86, 25⟩) (PySem.PErrA.body ⟨87, 8, 87, 12⟩ ⟨87, 8, 87, 15⟩ ⟨87, 18, 87, 20⟩ ⟨87, 8, 87, 20⟩) PySem.PErrA.scop .none .none dc20 pm20 an20 cd20 ct20), sl20⟩)
    (ci20 : PySem.W.codeIn K cd20 "Refused.__init__" = true)
    (a21 : PySem.W.nsIn K mainGlobals "InvalidSize" = some (some (.ref c21)))
    (x21 : K.lookup c21 = some (excClassObj nm21 q21 c21 N21 bs21 [.ref cB, .type "Exception", .type "BaseException", .type "object"] true sn21 sub21 ab21 col21 dd21 m021 m121 m221 m321 m521 "Exception.__new__"))
    (s21 : PySem.W.findIn K (.ref c21) "__setattr__" = some (some (.builtin "object.__setattr__")))
    (ga21 : PySem.W.findIn K (.ref c21) "__getattribute__" = some (some (.builtin "BaseException.__getattribute__")))
    (gg21 : PySem.W.findIn K (.ref c21) "__getattr__" = some none)
    (k21 : PySem.W.keepIn K (.ref c21) = true)
    (e21 : PySem.W.subIn K (.ref c21) (.type "BaseException") = some true)
    (t21 : PySem.W.typeIn K (.ref c21) = some (.type "type"))
    (h21 : PySem.W.hasDictIn K c21 = true)
    (nf21 : PySem.W.findIn K (.ref c21) "word" = some none)
    (i21 : PySem.W.findIn K (.ref c21) "__init__" = some (some (.ref g21)))
    (ti21 : PySem.W.typeIn K (.ref g21) = some (.type "function"))
    (l21 : K.lookup g21 = some ⟨oc21, od21, .func (PySem.W.fnOf "__init__" "InvalidSize.__init__" (PySem.PErrW.args ⟨90, 17, 90, 21⟩ ⟨90, 23, 90, 27⟩) (PySem.PErrW.body ⟨91, 8, 91, 12⟩ ⟨91, 8, 91, 17⟩ ⟨91, 20, 91, 24⟩ ⟨91, 8, 91, 24⟩) PySem.PErrW.scop .none .none dc21 pm21 an21 cd21 ct21), sl21⟩)
    (ci21 : PySem.W.codeIn K cd21 "InvalidSize.__init__" = true)
    (a22 : PySem.W.nsIn K mainGlobals "InvalidCommand" = some (some (.ref c22)))
    (x22 : K.lookup c22 = some (excClassObj nm22 q22 c22 N22 bs22 [.ref cB, .type "Exception", .type "BaseException", .type "object"] true sn22 sub22 ab22 col22 dd22 m022 m122 m222 m322 m522 "Exception.__new__"))
    (s22 : PySem.W.findIn K (.ref c22) "__setattr__" = some (some (.builtin "object.__setattr__")))
    (ga22 : PySem.W.findIn K (.ref c22) "__getattribute__" = some (some (.builtin "BaseException.__getattribute__")))
    (gg22 : PySem.W.findIn K (.ref c22) "__getattr__" = some none)
    (k22 : PySem.W.keepIn K (.ref c22) = true)
    (e22 : PySem.W.subIn K (.ref c22) (.type "BaseException") = some true)
    (t22 : PySem.W.typeIn K (.ref c22) = some (.type "type"))
    (h22 : PySem.W.hasDictIn K c22 = true)
    (i22 : PySem.W.findIn K (.ref c22) "__init__" = some (some (.ref g22)))
    (ti22 : PySem.W.typeIn K (.ref g22) = some (.type "function"))
    (l22 : K.lookup g22 = some ⟨oc22, od22, .func (PySem.W.fnOf "__init__" "InvalidCommand.__init__" (PySem.PErr0.args ⟨94, 17, 94, 21⟩) [.Pass ⟨95, 8, 95, 12⟩] PySem.PErr0.scop .none .none dc22 pm22 an22 cd22 ct22), sl22⟩)
    (ci22 : PySem.W.codeIn K cd22 "InvalidCommand.__init__" = true)
    (af0 : PySem.W.nsIn K mainGlobals "_law_box" = some (some (.ref f0)))
    (lf0 : K.lookup f0 = some ⟨ocf0, odf0, .func (PySem.W.fnOf "_law_box" "_law_box" (defArgs s_law_box) (defBody s_law_box) (defScope s_law_box) .none kVf0 dcf0 pmf0 anf0 cdf0 ctf0), slf0⟩)
    (cf0 : PySem.W.codeIn K cdf0 "_law_box" = true)
    (kf0 : PySem.W.keepIn K (.ref f0) = true)
    (af1 : PySem.W.nsIn K mainGlobals "_law_take" = some (some (.ref f1)))
    (lf1 : K.lookup f1 = some ⟨ocf1, odf1, .func (PySem.W.fnOf "_law_take" "_law_take" (defArgs s_law_take) (defBody s_law_take) (defScope s_law_take) .none kVf1 dcf1 pmf1 anf1 cdf1 ctf1), slf1⟩)
    (cf1 : PySem.W.codeIn K cdf1 "_law_take" = true)
    (kf1 : PySem.W.keepIn K (.ref f1) = true)
    (af2 : PySem.W.nsIn K mainGlobals "_law_pick" = some (some (.ref f2)))
    (lf2 : K.lookup f2 = some ⟨ocf2, odf2, .func (PySem.W.fnOf "_law_pick" "_law_pick" (defArgs s_law_pick) (defBody s_law_pick) (defScope s_law_pick) .none kVf2 dcf2 pmf2 anf2 cdf2 ctf2), slf2⟩)
    (cf2 : PySem.W.codeIn K cdf2 "_law_pick" = true)
    (kf2 : PySem.W.keepIn K (.ref f2) = true)
    (af3 : PySem.W.nsIn K mainGlobals "_law_raise_a" = some (some (.ref f3)))
    (lf3 : K.lookup f3 = some ⟨ocf3, odf3, .func (PySem.W.fnOf "_law_raise_a" "_law_raise_a" (defArgs s_law_raise_a) (defBody s_law_raise_a) (defScope s_law_raise_a) .none kVf3 dcf3 pmf3 anf3 cdf3 ctf3), slf3⟩)
    (cf3 : PySem.W.codeIn K cdf3 "_law_raise_a" = true)
    (kf3 : PySem.W.keepIn K (.ref f3) = true)
    (af4 : PySem.W.nsIn K mainGlobals "_law_raise_b" = some (some (.ref f4)))
    (lf4 : K.lookup f4 = some ⟨ocf4, odf4, .func (PySem.W.fnOf "_law_raise_b" "_law_raise_b" (defArgs s_law_raise_b) (defBody s_law_raise_b) (defScope s_law_raise_b) .none kVf4 dcf4 pmf4 anf4 cdf4 ctf4), slf4⟩)
    (cf4 : PySem.W.codeIn K cdf4 "_law_raise_b" = true)
    (kf4 : PySem.W.keepIn K (.ref f4) = true)
    (af5 : PySem.W.nsIn K mainGlobals "_law_raise_c" = some (some (.ref f5)))
    (lf5 : K.lookup f5 = some ⟨ocf5, odf5, .func (PySem.W.fnOf "_law_raise_c" "_law_raise_c" (defArgs s_law_raise_c) (defBody s_law_raise_c) (defScope s_law_raise_c) .none kVf5 dcf5 pmf5 anf5 cdf5 ctf5), slf5⟩)
    (cf5 : PySem.W.codeIn K cdf5 "_law_raise_c" = true)
    (kf5 : PySem.W.keepIn K (.ref f5) = true)
    (af6 : PySem.W.nsIn K mainGlobals "_law_raise" = some (some (.ref f6)))
    (lf6 : K.lookup f6 = some ⟨ocf6, odf6, .func (PySem.W.fnOf "_law_raise" "_law_raise" (defArgs s_law_raise) (defBody s_law_raise) (defScope s_law_raise) .none kVf6 dcf6 pmf6 anf6 cdf6 ctf6), slf6⟩)
    (cf6 : PySem.W.codeIn K cdf6 "_law_raise" = true)
    (kf6 : PySem.W.keepIn K (.ref f6) = true)
    (af7 : PySem.W.nsIn K mainGlobals "_law_caught_a" = some (some (.ref f7)))
    (lf7 : K.lookup f7 = some ⟨ocf7, odf7, .func (PySem.W.fnOf "_law_caught_a" "_law_caught_a" (defArgs s_law_caught_a) (defBody s_law_caught_a) (defScope s_law_caught_a) .none kVf7 dcf7 pmf7 anf7 cdf7 ctf7), slf7⟩)
    (cf7 : PySem.W.codeIn K cdf7 "_law_caught_a" = true)
    (kf7 : PySem.W.keepIn K (.ref f7) = true)
    (af8 : PySem.W.nsIn K mainGlobals "_law_caught_b" = some (some (.ref f8)))
    (lf8 : K.lookup f8 = some ⟨ocf8, odf8, .func (PySem.W.fnOf "_law_caught_b" "_law_caught_b" (defArgs s_law_caught_b) (defBody s_law_caught_b) (defScope s_law_caught_b) .none kVf8 dcf8 pmf8 anf8 cdf8 ctf8), slf8⟩)
    (cf8 : PySem.W.codeIn K cdf8 "_law_caught_b" = true)
    (kf8 : PySem.W.keepIn K (.ref f8) = true)
    (af9 : PySem.W.nsIn K mainGlobals "_law_caught_c" = some (some (.ref f9)))
    (lf9 : K.lookup f9 = some ⟨ocf9, odf9, .func (PySem.W.fnOf "_law_caught_c" "_law_caught_c" (defArgs s_law_caught_c) (defBody s_law_caught_c) (defScope s_law_caught_c) .none kVf9 dcf9 pmf9 anf9 cdf9 ctf9), slf9⟩)
    (cf9 : PySem.W.codeIn K cdf9 "_law_caught_c" = true)
    (kf9 : PySem.W.keepIn K (.ref f9) = true)
    (af10 : PySem.W.nsIn K mainGlobals "_law_is_base" = some (some (.ref f10)))
    (lf10 : K.lookup f10 = some ⟨ocf10, odf10, .func (PySem.W.fnOf "_law_is_base" "_law_is_base" (defArgs s_law_is_base) (defBody s_law_is_base) (defScope s_law_is_base) .none kVf10 dcf10 pmf10 anf10 cdf10 ctf10), slf10⟩)
    (cf10 : PySem.W.codeIn K cdf10 "_law_is_base" = true)
    (kf10 : PySem.W.keepIn K (.ref f10) = true)
    (af11 : PySem.W.nsIn K mainGlobals "law" = some (some (.ref f11)))
    (lf11 : K.lookup f11 = some ⟨ocf11, odf11, .func (PySem.W.fnOf "law" "law" (defArgs slaw) (defBody slaw) (defScope slaw) .none kVf11 dcf11 pmf11 anf11 cdf11 ctf11), slf11⟩)
    (cf11 : PySem.W.codeIn K cdf11 "law" = true)
    (kf11 : PySem.W.keepIn K (.ref f11) = true)
    (zlen : PySem.W.nsIn K mainGlobals "len" = some none)
    (zabs : PySem.W.nsIn K mainGlobals "abs" = some none)
    (zint : PySem.W.nsIn K mainGlobals "int" = some none)
    (zrange : PySem.W.nsIn K mainGlobals "range" = some none)
    (nd : ([c0, c1, c2, c3, c4, c5, c6, c7, c8, c9, c10, c11, c12, c13, c14, c15, c16, c17, c18, c19, c20, c21, c22] : List Addr).Nodup ∧ cB ∉ ([c0, c1, c2, c3, c4, c5, c6, c7, c8, c9, c10, c11, c12, c13, c14, c15, c16, c17, c18, c19, c20, c21, c22] : List Addr)) :
    ∃ fd : FuncData, (∀ (s : Shared) (v : Value), BindsTo s fd ⟨[v], []⟩ [("script", v)]) ∧ ∀ base : Heap, K.In base → base.Ns mainGlobals mg → FnOk P w K mg base CX0 6 fa fd ["script"] (spLaw K) := by
  have e := hfa.symm.trans (PySem.W.mg_of X G af11)
  cases e
  have Y0 : PySem.PErr.Cl K mg "InvalidText" c0 cB := ⟨PySem.W.mg_of X G a0, ⟨_, _, _, _, _, _, _, _, _, _, _, _, _, _, x0⟩, s0, ga0, gg0, k0, e0, t0, h0⟩
  have Y1 : PySem.PErr.Cl K mg "InvalidTable" c1 cB := ⟨PySem.W.mg_of X G a1, ⟨_, _, _, _, _, _, _, _, _, _, _, _, _, _, x1⟩, s1, ga1, gg1, k1, e1, t1, h1⟩
  have Y2 : PySem.PErr.Cl K mg "InvalidSheet" c2 cB := ⟨PySem.W.mg_of X G a2, ⟨_, _, _, _, _, _, _, _, _, _, _, _, _, _, x2⟩, s2, ga2, gg2, k2, e2, t2, h2⟩
  have Y3 : PySem.PErr.Cl K mg "InvalidLines" c3 cB := ⟨PySem.W.mg_of X G a3, ⟨_, _, _, _, _, _, _, _, _, _, _, _, _, _, x3⟩, s3, ga3, gg3, k3, e3, t3, h3⟩
  have Y4 : PySem.PErr.Cl K mg "InvalidFrame" c4 cB := ⟨PySem.W.mg_of X G a4, ⟨_, _, _, _, _, _, _, _, _, _, _, _, _, _, x4⟩, s4, ga4, gg4, k4, e4, t4, h4⟩
  have Y5 : PySem.PErr.Cl K mg "InvalidProgram" c5 cB := ⟨PySem.W.mg_of X G a5, ⟨_, _, _, _, _, _, _, _, _, _, _, _, _, _, x5⟩, s5, ga5, gg5, k5, e5, t5, h5⟩
  have Y6 : PySem.PErr.Cl K mg "InvalidRows" c6 cB := ⟨PySem.W.mg_of X G a6, ⟨_, _, _, _, _, _, _, _, _, _, _, _, _, _, x6⟩, s6, ga6, gg6, k6, e6, t6, h6⟩
  have Y7 : PySem.PErr.Cl K mg "InvalidDatum" c7 cB := ⟨PySem.W.mg_of X G a7, ⟨_, _, _, _, _, _, _, _, _, _, _, _, _, _, x7⟩, s7, ga7, gg7, k7, e7, t7, h7⟩
  have Y8 : PySem.PErr.Cl K mg "InvalidEvents" c8 cB := ⟨PySem.W.mg_of X G a8, ⟨_, _, _, _, _, _, _, _, _, _, _, _, _, _, x8⟩, s8, ga8, gg8, k8, e8, t8, h8⟩
  have Y9 : PySem.PErr.Cl K mg "InvalidProcessor" c9 cB := ⟨PySem.W.mg_of X G a9, ⟨_, _, _, _, _, _, _, _, _, _, _, _, _, _, x9⟩, s9, ga9, gg9, k9, e9, t9, h9⟩
  have Y10 : PySem.PErr.Cl K mg "InvalidLot" c10 cB := ⟨PySem.W.mg_of X G a10, ⟨_, _, _, _, _, _, _, _, _, _, _, _, _, _, x10⟩, s10, ga10, gg10, k10, e10, t10, h10⟩
  have Y11 : PySem.PErr.Cl K mg "InvalidCache" c11 cB := ⟨PySem.W.mg_of X G a11, ⟨_, _, _, _, _, _, _, _, _, _, _, _, _, _, x11⟩, s11, ga11, gg11, k11, e11, t11, h11⟩
  have Y12 : PySem.PErr.Cl K mg "InvalidSource" c12 cB := ⟨PySem.W.mg_of X G a12, ⟨_, _, _, _, _, _, _, _, _, _, _, _, _, _, x12⟩, s12, ga12, gg12, k12, e12, t12, h12⟩
  have Y13 : PySem.PErr.Cl K mg "InvalidIndex" c13 cB := ⟨PySem.W.mg_of X G a13, ⟨_, _, _, _, _, _, _, _, _, _, _, _, _, _, x13⟩, s13, ga13, gg13, k13, e13, t13, h13⟩
  have Y14 : PySem.PErr.Cl K mg "InvalidSpots" c14 cB := ⟨PySem.W.mg_of X G a14, ⟨_, _, _, _, _, _, _, _, _, _, _, _, _, _, x14⟩, s14, ga14, gg14, k14, e14, t14, h14⟩
  have Y15 : PySem.PErr.Cl K mg "InvalidWhole" c15 cB := ⟨PySem.W.mg_of X G a15, ⟨_, _, _, _, _, _, _, _, _, _, _, _, _, _, x15⟩, s15, ga15, gg15, k15, e15, t15, h15⟩
  have Y16 : PySem.PErr.Cl K mg "InvalidLots" c16 cB := ⟨PySem.W.mg_of X G a16, ⟨_, _, _, _, _, _, _, _, _, _, _, _, _, _, x16⟩, s16, ga16, gg16, k16, e16, t16, h16⟩
  have Y17 : PySem.PErr.Cl K mg "InvalidWatcher" c17 cB := ⟨PySem.W.mg_of X G a17, ⟨_, _, _, _, _, _, _, _, _, _, _, _, _, _, x17⟩, s17, ga17, gg17, k17, e17, t17, h17⟩
  have Y18 : PySem.PErr.Cl K mg "InvalidParts" c18 cB := ⟨PySem.W.mg_of X G a18, ⟨_, _, _, _, _, _, _, _, _, _, _, _, _, _, x18⟩, s18, ga18, gg18, k18, e18, t18, h18⟩
  have Y19 : PySem.PErr.Cl K mg "InvalidDeed" c19 cB := ⟨PySem.W.mg_of X G a19, ⟨_, _, _, _, _, _, _, _, _, _, _, _, _, _, x19⟩, s19, ga19, gg19, k19, e19, t19, h19⟩
  have Y20 : PySem.PErr.Cl K mg "Refused" c20 cB := ⟨PySem.W.mg_of X G a20, ⟨_, _, _, _, _, _, _, _, _, _, _, _, _, _, x20⟩, s20, ga20, gg20, k20, e20, t20, h20⟩
  have Y21 : PySem.PErr.Cl K mg "InvalidSize" c21 cB := ⟨PySem.W.mg_of X G a21, ⟨_, _, _, _, _, _, _, _, _, _, _, _, _, _, x21⟩, s21, ga21, gg21, k21, e21, t21, h21⟩
  have Y22 : PySem.PErr.Cl K mg "InvalidCommand" c22 cB := ⟨PySem.W.mg_of X G a22, ⟨_, _, _, _, _, _, _, _, _, _, _, _, _, _, x22⟩, s22, ga22, gg22, k22, e22, t22, h22⟩
  obtain ⟨nd1, nd2⟩ := nd
  have T : Txt K mg (fun i => ([c0, c1, c2, c3, c4, c5, c6, c7, c8, c9, c10, c11, c12, c13, c14, c15, c16, c17, c18, c19, c20, c21, c22] : List Addr).getD i 0) cB (fun i => ([g0, g1, g2, g3, g4, g5, g6, g7, g8, g9, g10, g11, g12, g13, g14, g15, g16, g17, g18, g19, g20, g21, g22] : List Addr).getD i 0) := by
    refine {
      b_len := PySem.W.mg_none_of X G zlen,
      b_abs := PySem.W.mg_none_of X G zabs,
      b_int := PySem.W.mg_none_of X G zint,
      b_range := PySem.W.mg_none_of X G zrange,
      m_PromiseError := PySem.W.mg_of X G aB,
      x_InvalidText := ⟨Y0, nf0, i0, ti0, ⟨_, _, _, _, _, _, _, _, _, _, _, _, _, _, l0, ci0⟩⟩,
      x_InvalidTable := ⟨Y1, nf1, i1, ti1, ⟨_, _, _, _, _, _, _, _, _, _, _, _, _, _, l1, ci1⟩⟩,
      x_InvalidSheet := ⟨Y2, nf2, i2, ti2, ⟨_, _, _, _, _, _, _, _, _, _, _, _, _, _, l2, ci2⟩⟩,
      x_InvalidLines := ⟨Y3, nf3, i3, ti3, ⟨_, _, _, _, _, _, _, _, _, _, _, _, _, _, l3, ci3⟩⟩,
      x_InvalidFrame := ⟨Y4, nf4, i4, ti4, ⟨_, _, _, _, _, _, _, _, _, _, _, _, _, _, l4, ci4⟩⟩,
      x_InvalidProgram := ⟨Y5, nf5, i5, ti5, ⟨_, _, _, _, _, _, _, _, _, _, _, _, _, _, l5, ci5⟩⟩,
      x_InvalidRows := ⟨Y6, nf6, i6, ti6, ⟨_, _, _, _, _, _, _, _, _, _, _, _, _, _, l6, ci6⟩⟩,
      x_InvalidDatum := ⟨Y7, nf7, i7, ti7, ⟨_, _, _, _, _, _, _, _, _, _, _, _, _, _, l7, ci7⟩⟩,
      x_InvalidEvents := ⟨Y8, nf8, i8, ti8, ⟨_, _, _, _, _, _, _, _, _, _, _, _, _, _, l8, ci8⟩⟩,
      x_InvalidProcessor := ⟨Y9, nf9, i9, ti9, ⟨_, _, _, _, _, _, _, _, _, _, _, _, _, _, l9, ci9⟩⟩,
      x_InvalidLot := ⟨Y10, nf10, i10, ti10, ⟨_, _, _, _, _, _, _, _, _, _, _, _, _, _, l10, ci10⟩⟩,
      x_InvalidCache := ⟨Y11, nf11, i11, ti11, ⟨_, _, _, _, _, _, _, _, _, _, _, _, _, _, l11, ci11⟩⟩,
      x_InvalidSource := ⟨Y12, nf12, i12, ti12, ⟨_, _, _, _, _, _, _, _, _, _, _, _, _, _, l12, ci12⟩⟩,
      x_InvalidIndex := ⟨Y13, nf13, i13, ti13, ⟨_, _, _, _, _, _, _, _, _, _, _, _, _, _, l13, ci13⟩⟩,
      x_InvalidSpots := ⟨Y14, nf14, i14, ti14, ⟨_, _, _, _, _, _, _, _, _, _, _, _, _, _, l14, ci14⟩⟩,
      x_InvalidWhole := ⟨Y15, nf15, i15, ti15, ⟨_, _, _, _, _, _, _, _, _, _, _, _, _, _, l15, ci15⟩⟩,
      x_InvalidLots := ⟨Y16, nf16, i16, ti16, ⟨_, _, _, _, _, _, _, _, _, _, _, _, _, _, l16, ci16⟩⟩,
      x_InvalidWatcher := ⟨Y17, nf17, i17, ti17, ⟨_, _, _, _, _, _, _, _, _, _, _, _, _, _, l17, ci17⟩⟩,
      x_InvalidParts := ⟨Y18, nf18, i18, ti18, ⟨_, _, _, _, _, _, _, _, _, _, _, _, _, _, l18, ci18⟩⟩,
      x_InvalidDeed := ⟨Y19, nf19, i19, ti19, ⟨_, _, _, _, _, _, _, _, _, _, _, _, _, _, l19, ci19⟩⟩,
      x_Refused := ⟨Y20, nf20, i20, ti20, ⟨_, _, _, _, _, _, _, _, _, _, _, _, _, _, l20, ci20⟩⟩,
      x_InvalidSize := ⟨Y21, nf21, i21, ti21, ⟨_, _, _, _, _, _, _, _, _, _, _, _, _, _, l21, ci21⟩⟩,
      x_InvalidCommand := ⟨Y22, i22, ti22, ⟨_, _, _, _, _, _, _, _, _, _, l22, ci22⟩⟩,
      exm := ?_,
      exb := ?_ }
    · have all : ∀ i, i < 23 → ∃ x, PySem.PErr.Cl K mg x (([c0, c1, c2, c3, c4, c5, c6, c7, c8, c9, c10, c11, c12, c13, c14, c15, c16, c17, c18, c19, c20, c21, c22] : List Addr).getD i 0) cB := by
        intro i hi
        have cs : i = 0 ∨ i = 1 ∨ i = 2 ∨ i = 3 ∨ i = 4 ∨ i = 5 ∨ i = 6 ∨ i = 7 ∨ i = 8 ∨ i = 9 ∨ i = 10 ∨ i = 11 ∨ i = 12 ∨ i = 13 ∨ i = 14 ∨ i = 15 ∨ i = 16 ∨ i = 17 ∨ i = 18 ∨ i = 19 ∨ i = 20 ∨ i = 21 ∨ i = 22 := by omega
        rcases cs with rfl | rfl | rfl | rfl | rfl | rfl | rfl | rfl | rfl | rfl | rfl | rfl | rfl | rfl | rfl | rfl | rfl | rfl | rfl | rfl | rfl | rfl | rfl
        · exact ⟨_, Y0⟩
        · exact ⟨_, Y1⟩
        · exact ⟨_, Y2⟩
        · exact ⟨_, Y3⟩
        · exact ⟨_, Y4⟩
        · exact ⟨_, Y5⟩
        · exact ⟨_, Y6⟩
        · exact ⟨_, Y7⟩
        · exact ⟨_, Y8⟩
        · exact ⟨_, Y9⟩
        · exact ⟨_, Y10⟩
        · exact ⟨_, Y11⟩
        · exact ⟨_, Y12⟩
        · exact ⟨_, Y13⟩
        · exact ⟨_, Y14⟩
        · exact ⟨_, Y15⟩
        · exact ⟨_, Y16⟩
        · exact ⟨_, Y17⟩
        · exact ⟨_, Y18⟩
        · exact ⟨_, Y19⟩
        · exact ⟨_, Y20⟩
        · exact ⟨_, Y21⟩
        · exact ⟨_, Y22⟩
      intro i j hi hj
      obtain ⟨x, Yi⟩ := all i hi
      obtain ⟨y, Yj⟩ := all j hj
      have mem : ∀ i, i < 23 → ([c0, c1, c2, c3, c4, c5, c6, c7, c8, c9, c10, c11, c12, c13, c14, c15, c16, c17, c18, c19, c20, c21, c22] : List Addr)[i]? = some (([c0, c1, c2, c3, c4, c5, c6, c7, c8, c9, c10, c11, c12, c13, c14, c15, c16, c17, c18, c19, c20, c21, c22] : List Addr).getD i 0) := fun i hi => by
        rw [List.getD_eq_getElem?_getD, List.getElem?_eq_getElem (by simpa using hi)] <;> rfl
      rw [PySem.PErr.exm_cl Yi Yj (fun z => nd2 (by rw [z]; exact List.mem_of_getElem? (mem j hj)))]
      congr 1
      by_cases hij : i = j
      · subst hij
        rw [decide_eq_true rfl, decide_eq_true rfl]
      · rw [decide_eq_false hij, decide_eq_false (fun z => hij (K00.nd_ix nd1 (mem i hi) (by rw [z]; exact mem j hj)))]
    · intro i hi
      have cs : i = 0 ∨ i = 1 ∨ i = 2 ∨ i = 3 ∨ i = 4 ∨ i = 5 ∨ i = 6 ∨ i = 7 ∨ i = 8 ∨ i = 9 ∨ i = 10 ∨ i = 11 ∨ i = 12 ∨ i = 13 ∨ i = 14 ∨ i = 15 ∨ i = 16 ∨ i = 17 ∨ i = 18 ∨ i = 19 ∨ i = 20 ∨ i = 21 ∨ i = 22 := by omega
      rcases cs with rfl | rfl | rfl | rfl | rfl | rfl | rfl | rfl | rfl | rfl | rfl | rfl | rfl | rfl | rfl | rfl | rfl | rfl | rfl | rfl | rfl | rfl | rfl
      · exact PySem.PErr.exm_base eB iB tB Y0
      · exact PySem.PErr.exm_base eB iB tB Y1
      · exact PySem.PErr.exm_base eB iB tB Y2
      · exact PySem.PErr.exm_base eB iB tB Y3
      · exact PySem.PErr.exm_base eB iB tB Y4
      · exact PySem.PErr.exm_base eB iB tB Y5
      · exact PySem.PErr.exm_base eB iB tB Y6
      · exact PySem.PErr.exm_base eB iB tB Y7
      · exact PySem.PErr.exm_base eB iB tB Y8
      · exact PySem.PErr.exm_base eB iB tB Y9
      · exact PySem.PErr.exm_base eB iB tB Y10
      · exact PySem.PErr.exm_base eB iB tB Y11
      · exact PySem.PErr.exm_base eB iB tB Y12
      · exact PySem.PErr.exm_base eB iB tB Y13
      · exact PySem.PErr.exm_base eB iB tB Y14
      · exact PySem.PErr.exm_base eB iB tB Y15
      · exact PySem.PErr.exm_base eB iB tB Y16
      · exact PySem.PErr.exm_base eB iB tB Y17
      · exact PySem.PErr.exm_base eB iB tB Y18
      · exact PySem.PErr.exm_base eB iB tB Y19
      · exact PySem.PErr.exm_base eB iB tB Y20
      · exact PySem.PErr.exm_base eB iB tB Y21
      · exact PySem.PErr.exm_base eB iB tB Y22
  have F0 := fun_mk (st := s_law_box) lf0 cf0 kf0
  have b0 := F0.binds (ps := ["script", "k"]) fun _ _ _ _ _ _ us hl => match us, hl with | [_, _], _ => rfl
  have F1 := fun_mk (st := s_law_take) lf1 cf1 kf1
  have b1 := F1.binds (ps := ["box", "many"]) fun _ _ _ _ _ _ us hl => match us, hl with | [_, _], _ => rfl
  have F2 := fun_mk (st := s_law_pick) lf2 cf2 kf2
  have b2 := F2.binds (ps := ["box", "some"]) fun _ _ _ _ _ _ us hl => match us, hl with | [_, _], _ => rfl
  have F3 := fun_mk (st := s_law_raise_a) lf3 cf3 kf3
  have b3 := F3.binds (ps := ["number", "thing"]) fun _ _ _ _ _ _ us hl => match us, hl with | [_, _], _ => rfl
  have F4 := fun_mk (st := s_law_raise_b) lf4 cf4 kf4
  have b4 := F4.binds (ps := ["number", "thing"]) fun _ _ _ _ _ _ us hl => match us, hl with | [_, _], _ => rfl
  have F5 := fun_mk (st := s_law_raise_c) lf5 cf5 kf5
  have b5 := F5.binds (ps := ["number", "thing"]) fun _ _ _ _ _ _ us hl => match us, hl with | [_, _], _ => rfl
  have F6 := fun_mk (st := s_law_raise) lf6 cf6 kf6
  have b6 := F6.binds (ps := ["number", "thing"]) fun _ _ _ _ _ _ us hl => match us, hl with | [_, _], _ => rfl
  have F7 := fun_mk (st := s_law_caught_a) lf7 cf7 kf7
  have b7 := F7.binds (ps := ["number", "thing"]) fun _ _ _ _ _ _ us hl => match us, hl with | [_, _], _ => rfl
  have F8 := fun_mk (st := s_law_caught_b) lf8 cf8 kf8
  have b8 := F8.binds (ps := ["number", "thing"]) fun _ _ _ _ _ _ us hl => match us, hl with | [_, _], _ => rfl
  have F9 := fun_mk (st := s_law_caught_c) lf9 cf9 kf9
  have b9 := F9.binds (ps := ["number", "thing"]) fun _ _ _ _ _ _ us hl => match us, hl with | [_, _], _ => rfl
  have F10 := fun_mk (st := s_law_is_base) lf10 cf10 kf10
  have b10 := F10.binds (ps := ["number", "thing"]) fun _ _ _ _ _ _ us hl => match us, hl with | [_, _], _ => rfl
  have F11 := fun_mk (st := slaw) lf11 cf11 kf11
  have b11 := F11.binds (ps := ["script"]) fun _ _ _ _ _ _ us hl => match us, hl with | [_], _ => rfl
  refine ⟨PySem.W.fnOf "law" "law" (defArgs slaw) (defBody slaw) (defScope slaw) .none kVf11 dcf11 pmf11 anf11 cdf11 ctf11, fun s v => .of_eq rfl, fun base _ _ => ?_⟩
  have E_raise : Dfn P w K mg base (L2.CX P w) 2 "_law_raise" ["number", "thing"] (spRaise _ 0 23) _ _ := ⟨ok_raise F6 T ⟨ok_raise_a F3 T, PySem.W.mg_of X G af3, kf3, b3⟩ ⟨ok_raise_b F4 T, PySem.W.mg_of X G af4, kf4, b4⟩ ⟨ok_raise_c F5 T, PySem.W.mg_of X G af5, kf5, b5⟩, PySem.W.mg_of X G af6, kf6, b6⟩
  have E_a : Dfn P w K mg base (L2.CX P w) 3 "_law_caught_a" ["number", "thing"] (spCaught _ 8) _ _ := ⟨ok_caught_a F7 T E_raise, PySem.W.mg_of X G af7, kf7, b7⟩
  have E_b : Dfn P w K mg base (L2.CX P w) 4 "_law_caught_b" ["number", "thing"] (spCaught _ 16) _ _ := ⟨ok_caught_b F8 T E_a, PySem.W.mg_of X G af8, kf8, b8⟩
  have E_c : Dfn P w K mg base CX0 5 "_law_caught_c" ["number", "thing"] (spCaught _ 23) _ _ := ⟨ok_caught_c F9 T E_b, PySem.W.mg_of X G af9, kf9, b9⟩
  have E_base : Dfn P w K mg base CX0 3 "_law_is_base" ["number", "thing"] spIsBase _ _ := ⟨ok_is_base F10 T E_raise, PySem.W.mg_of X G af10, kf10, b10⟩
  have E_take : Dfn P w K mg base CX0 1 "_law_take" ["box", "many"] spTake _ _ := ⟨ok_take F1 T, PySem.W.mg_of X G af1, kf1, b1⟩
  have E_pick : Dfn P w K mg base CX0 2 "_law_pick" ["box", "some"] spPick _ _ := ⟨ok_pick F2 T E_take, PySem.W.mg_of X G af2, kf2, b2⟩
  have E_box : Dfn P w K mg base CX0 1 "_law_box" ["script", "k"] (spBox K) _ _ := ⟨ok_box F0 T, PySem.W.mg_of X G af0, kf0, b0⟩
  exact ok_law F11 T E_box E_pick E_c E_base
theorem walk {l : PySem.W.OpenLaw} {q : Program} {loose : List Str} {XP : (Str → Option Value) → Heap → Prop} {YP : World → Heap → Prop} {d : DefRec} {K : Params → PySem.W.Frag} (hn : l.most = some 63) (hdf : d.params.defaults = [])
    (hY : ∀ (w : World) (h : Heap), YP w h → (K w.params).In h)
    (F : ∀ (w : World) (mg : Str → Option Value) (fa : Addr) (h : Heap), (K w.params).In h → h.Ns mainGlobals mg → mg d.name = some (.ref fa) →
      ∃ fd : FuncData, (∀ (s : Shared) (u : Value), BindsTo s fd ⟨[u], []⟩ [("script", u)]) ∧ ∀ base : Heap, (K w.params).In base → base.Ns mainGlobals mg → FnOk l.prog w (K w.params) mg base CX0 6 fa fd ["script"] (spLaw (K w.params))) :
    PySem.W.WalkO q loose XP YP l.row.toRowW d [] (fun f vs => PySem.call f vs) :=
  L2.walk_of (n := 63) (k := 6) (x := "script") (CX := fun _ => CX0) (sp := fun w => spLaw (K w.params)) hn (by decide) hdf ⟨rfl, by decide, by decide⟩ hY F (fun _ _ a ns hl _ hS => ⟨a, ns, rfl, hS, hl, fun _ => rfl⟩) fun _ _ _ _ _ z => z
end K00

open PySem PySem.W PyProof.Rows in
set_option maxRecDepth 100000 in
set_option maxHeartbeats 0 in
theorem PySem.Challenge.cw_leastpromise_k00_whole_errors_and_what_t_holds : PySem.Challenge.rw_leastpromise_k00_whole_errors_and_what_t.Holds := by
  w_on; o_law; k_head; (case hw => w_witness2)
  k_fill
  refine K00.walk (l := PySem.Challenge.rw_leastpromise_k00_whole_errors_and_what_t) rfl rfl (fun w h Y => PySem.W.kIn_of Y) ?F
  case F =>
    intro w mg fa h KX G hmg
    refine' K00.all_mk KX G hmg ?aB ?eB ?iB ?tB ?a0 ?x0 ?s0 ?ga0 ?gg0 ?k0 ?e0 ?t0 ?h0 ?nf0 ?i0 ?ti0 ?l0 ?ci0 ?a1 ?x1 ?s1 ?ga1 ?gg1 ?k1 ?e1 ?t1 ?h1 ?nf1 ?i1 ?ti1 ?l1 ?ci1 ?a2 ?x2 ?s2 ?ga2 ?gg2 ?k2 ?e2 ?t2 ?h2 ?nf2 ?i2 ?ti2 ?l2 ?ci2 ?a3 ?x3 ?s3 ?ga3 ?gg3 ?k3 ?e3 ?t3 ?h3 ?nf3 ?i3 ?ti3 ?l3 ?ci3 ?a4 ?x4 ?s4 ?ga4 ?gg4 ?k4 ?e4 ?t4 ?h4 ?nf4 ?i4 ?ti4 ?l4 ?ci4 ?a5 ?x5 ?s5 ?ga5 ?gg5 ?k5 ?e5 ?t5 ?h5 ?nf5 ?i5 ?ti5 ?l5 ?ci5 ?a6 ?x6 ?s6 ?ga6 ?gg6 ?k6 ?e6 ?t6 ?h6 ?nf6 ?i6 ?ti6 ?l6 ?ci6 ?a7 ?x7 ?s7 ?ga7 ?gg7 ?k7 ?e7 ?t7 ?h7 ?nf7 ?i7 ?ti7 ?l7 ?ci7 ?a8 ?x8 ?s8 ?ga8 ?gg8 ?k8 ?e8 ?t8 ?h8 ?nf8 ?i8 ?ti8 ?l8 ?ci8 ?a9 ?x9 ?s9 ?ga9 ?gg9 ?k9 ?e9 ?t9 ?h9 ?nf9 ?i9 ?ti9 ?l9 ?ci9 ?a10 ?x10 ?s10 ?ga10 ?gg10 ?k10 ?e10 ?t10 ?h10 ?nf10 ?i10 ?ti10 ?l10 ?ci10 ?a11 ?x11 ?s11 ?ga11 ?gg11 ?k11 ?e11 ?t11 ?h11 ?nf11 ?i11 ?ti11 ?l11 ?ci11 ?a12 ?x12 ?s12 ?ga12 ?gg12 ?k12 ?e12 ?t12 ?h12 ?nf12 ?i12 ?ti12 ?l12 ?ci12 ?a13 ?x13 ?s13 ?ga13 ?gg13 ?k13 ?e13 ?t13 ?h13 ?nf13 ?i13 ?ti13 ?l13 ?ci13 ?a14 ?x14 ?s14 ?ga14 ?gg14 ?k14 ?e14 ?t14 ?h14 ?nf14 ?i14 ?ti14 ?l14 ?ci14 ?a15 ?x15 ?s15 ?ga15 ?gg15 ?k15 ?e15 ?t15 ?h15 ?nf15 ?i15 ?ti15 ?l15 ?ci15 ?a16 ?x16 ?s16 ?ga16 ?gg16 ?k16 ?e16 ?t16 ?h16 ?nf16 ?i16 ?ti16 ?l16 ?ci16 ?a17 ?x17 ?s17 ?ga17 ?gg17 ?k17 ?e17 ?t17 ?h17 ?nf17 ?i17 ?ti17 ?l17 ?ci17 ?a18 ?x18 ?s18 ?ga18 ?gg18 ?k18 ?e18 ?t18 ?h18 ?nf18 ?i18 ?ti18 ?l18 ?ci18 ?a19 ?x19 ?s19 ?ga19 ?gg19 ?k19 ?e19 ?t19 ?h19 ?nf19 ?i19 ?ti19 ?l19 ?ci19 ?a20 ?x20 ?s20 ?ga20 ?gg20 ?k20 ?e20 ?t20 ?h20 ?nf20 ?i20 ?ti20 ?l20 ?ci20 ?a21 ?x21 ?s21 ?ga21 ?gg21 ?k21 ?e21 ?t21 ?h21 ?nf21 ?i21 ?ti21 ?l21 ?ci21 ?a22 ?x22 ?s22 ?ga22 ?gg22 ?k22 ?e22 ?t22 ?h22 ?i22 ?ti22 ?l22 ?ci22 ?af0 ?lf0 ?cf0 ?kf0 ?af1 ?lf1 ?cf1 ?kf1 ?af2 ?lf2 ?cf2 ?kf2 ?af3 ?lf3 ?cf3 ?kf3 ?af4 ?lf4 ?cf4 ?kf4 ?af5 ?lf5 ?cf5 ?kf5 ?af6 ?lf6 ?cf6 ?kf6 ?af7 ?lf7 ?cf7 ?kf7 ?af8 ?lf8 ?cf8 ?kf8 ?af9 ?lf9 ?cf9 ?kf9 ?af10 ?lf10 ?cf10 ?kf10 ?af11 ?lf11 ?cf11 ?kf11 ?zlen ?zabs ?zint ?zrange ?nd
    (case aB => k_is)
    (case eB => k_is)
    (case iB => k_is)
    (case tB => k_is)
    (case a0 => k_is)
    (case x0 => k_is)
    (case s0 => k_is)
    (case ga0 => k_is)
    (case gg0 => k_is)
    (case k0 => k_is)
    (case e0 => k_is)
    (case t0 => k_is)
    (case h0 => k_is)
    (case nf0 => k_is)
    (case i0 => k_is)
    (case ti0 => k_is)
    (case l0 => k_is)
    (case ci0 => k_is)
    (case a1 => k_is)
    (case x1 => k_is)
    (case s1 => k_is)
    (case ga1 => k_is)
    (case gg1 => k_is)
    (case k1 => k_is)
    (case e1 => k_is)
    (case t1 => k_is)
    (case h1 => k_is)
    (case nf1 => k_is)
    (case i1 => k_is)
    (case ti1 => k_is)
    (case l1 => k_is)
    (case ci1 => k_is)
    (case a2 => k_is)
    (case x2 => k_is)
    (case s2 => k_is)
    (case ga2 => k_is)
    (case gg2 => k_is)
    (case k2 => k_is)
    (case e2 => k_is)
    (case t2 => k_is)
    (case h2 => k_is)
    (case nf2 => k_is)
    (case i2 => k_is)
    (case ti2 => k_is)
    (case l2 => k_is)
    (case ci2 => k_is)
    (case a3 => k_is)
    (case x3 => k_is)
    (case s3 => k_is)
    (case ga3 => k_is)
    (case gg3 => k_is)
    (case k3 => k_is)
    (case e3 => k_is)
    (case t3 => k_is)
    (case h3 => k_is)
    (case nf3 => k_is)
    (case i3 => k_is)
    (case ti3 => k_is)
    (case l3 => k_is)
    (case ci3 => k_is)
    (case a4 => k_is)
    (case x4 => k_is)
    (case s4 => k_is)
    (case ga4 => k_is)
    (case gg4 => k_is)
    (case k4 => k_is)
    (case e4 => k_is)
    (case t4 => k_is)
    (case h4 => k_is)
    (case nf4 => k_is)
    (case i4 => k_is)
    (case ti4 => k_is)
    (case l4 => k_is)
    (case ci4 => k_is)
    (case a5 => k_is)
    (case x5 => k_is)
    (case s5 => k_is)
    (case ga5 => k_is)
    (case gg5 => k_is)
    (case k5 => k_is)
    (case e5 => k_is)
    (case t5 => k_is)
    (case h5 => k_is)
    (case nf5 => k_is)
    (case i5 => k_is)
    (case ti5 => k_is)
    (case l5 => k_is)
    (case ci5 => k_is)
    (case a6 => k_is)
    (case x6 => k_is)
    (case s6 => k_is)
    (case ga6 => k_is)
    (case gg6 => k_is)
    (case k6 => k_is)
    (case e6 => k_is)
    (case t6 => k_is)
    (case h6 => k_is)
    (case nf6 => k_is)
    (case i6 => k_is)
    (case ti6 => k_is)
    (case l6 => k_is)
    (case ci6 => k_is)
    (case a7 => k_is)
    (case x7 => k_is)
    (case s7 => k_is)
    (case ga7 => k_is)
    (case gg7 => k_is)
    (case k7 => k_is)
    (case e7 => k_is)
    (case t7 => k_is)
    (case h7 => k_is)
    (case nf7 => k_is)
    (case i7 => k_is)
    (case ti7 => k_is)
    (case l7 => k_is)
    (case ci7 => k_is)
    (case a8 => k_is)
    (case x8 => k_is)
    (case s8 => k_is)
    (case ga8 => k_is)
    (case gg8 => k_is)
    (case k8 => k_is)
    (case e8 => k_is)
    (case t8 => k_is)
    (case h8 => k_is)
    (case nf8 => k_is)
    (case i8 => k_is)
    (case ti8 => k_is)
    (case l8 => k_is)
    (case ci8 => k_is)
    (case a9 => k_is)
    (case x9 => k_is)
    (case s9 => k_is)
    (case ga9 => k_is)
    (case gg9 => k_is)
    (case k9 => k_is)
    (case e9 => k_is)
    (case t9 => k_is)
    (case h9 => k_is)
    (case nf9 => k_is)
    (case i9 => k_is)
    (case ti9 => k_is)
    (case l9 => k_is)
    (case ci9 => k_is)
    (case a10 => k_is)
    (case x10 => k_is)
    (case s10 => k_is)
    (case ga10 => k_is)
    (case gg10 => k_is)
    (case k10 => k_is)
    (case e10 => k_is)
    (case t10 => k_is)
    (case h10 => k_is)
    (case nf10 => k_is)
    (case i10 => k_is)
    (case ti10 => k_is)
    (case l10 => k_is)
    (case ci10 => k_is)
    (case a11 => k_is)
    (case x11 => k_is)
    (case s11 => k_is)
    (case ga11 => k_is)
    (case gg11 => k_is)
    (case k11 => k_is)
    (case e11 => k_is)
    (case t11 => k_is)
    (case h11 => k_is)
    (case nf11 => k_is)
    (case i11 => k_is)
    (case ti11 => k_is)
    (case l11 => k_is)
    (case ci11 => k_is)
    (case a12 => k_is)
    (case x12 => k_is)
    (case s12 => k_is)
    (case ga12 => k_is)
    (case gg12 => k_is)
    (case k12 => k_is)
    (case e12 => k_is)
    (case t12 => k_is)
    (case h12 => k_is)
    (case nf12 => k_is)
    (case i12 => k_is)
    (case ti12 => k_is)
    (case l12 => k_is)
    (case ci12 => k_is)
    (case a13 => k_is)
    (case x13 => k_is)
    (case s13 => k_is)
    (case ga13 => k_is)
    (case gg13 => k_is)
    (case k13 => k_is)
    (case e13 => k_is)
    (case t13 => k_is)
    (case h13 => k_is)
    (case nf13 => k_is)
    (case i13 => k_is)
    (case ti13 => k_is)
    (case l13 => k_is)
    (case ci13 => k_is)
    (case a14 => k_is)
    (case x14 => k_is)
    (case s14 => k_is)
    (case ga14 => k_is)
    (case gg14 => k_is)
    (case k14 => k_is)
    (case e14 => k_is)
    (case t14 => k_is)
    (case h14 => k_is)
    (case nf14 => k_is)
    (case i14 => k_is)
    (case ti14 => k_is)
    (case l14 => k_is)
    (case ci14 => k_is)
    (case a15 => k_is)
    (case x15 => k_is)
    (case s15 => k_is)
    (case ga15 => k_is)
    (case gg15 => k_is)
    (case k15 => k_is)
    (case e15 => k_is)
    (case t15 => k_is)
    (case h15 => k_is)
    (case nf15 => k_is)
    (case i15 => k_is)
    (case ti15 => k_is)
    (case l15 => k_is)
    (case ci15 => k_is)
    (case a16 => k_is)
    (case x16 => k_is)
    (case s16 => k_is)
    (case ga16 => k_is)
    (case gg16 => k_is)
    (case k16 => k_is)
    (case e16 => k_is)
    (case t16 => k_is)
    (case h16 => k_is)
    (case nf16 => k_is)
    (case i16 => k_is)
    (case ti16 => k_is)
    (case l16 => k_is)
    (case ci16 => k_is)
    (case a17 => k_is)
    (case x17 => k_is)
    (case s17 => k_is)
    (case ga17 => k_is)
    (case gg17 => k_is)
    (case k17 => k_is)
    (case e17 => k_is)
    (case t17 => k_is)
    (case h17 => k_is)
    (case nf17 => k_is)
    (case i17 => k_is)
    (case ti17 => k_is)
    (case l17 => k_is)
    (case ci17 => k_is)
    (case a18 => k_is)
    (case x18 => k_is)
    (case s18 => k_is)
    (case ga18 => k_is)
    (case gg18 => k_is)
    (case k18 => k_is)
    (case e18 => k_is)
    (case t18 => k_is)
    (case h18 => k_is)
    (case nf18 => k_is)
    (case i18 => k_is)
    (case ti18 => k_is)
    (case l18 => k_is)
    (case ci18 => k_is)
    (case a19 => k_is)
    (case x19 => k_is)
    (case s19 => k_is)
    (case ga19 => k_is)
    (case gg19 => k_is)
    (case k19 => k_is)
    (case e19 => k_is)
    (case t19 => k_is)
    (case h19 => k_is)
    (case nf19 => k_is)
    (case i19 => k_is)
    (case ti19 => k_is)
    (case l19 => k_is)
    (case ci19 => k_is)
    (case a20 => k_is)
    (case x20 => k_is)
    (case s20 => k_is)
    (case ga20 => k_is)
    (case gg20 => k_is)
    (case k20 => k_is)
    (case e20 => k_is)
    (case t20 => k_is)
    (case h20 => k_is)
    (case nf20 => k_is)
    (case i20 => k_is)
    (case ti20 => k_is)
    (case l20 => k_is)
    (case ci20 => k_is)
    (case a21 => k_is)
    (case x21 => k_is)
    (case s21 => k_is)
    (case ga21 => k_is)
    (case gg21 => k_is)
    (case k21 => k_is)
    (case e21 => k_is)
    (case t21 => k_is)
    (case h21 => k_is)
    (case nf21 => k_is)
    (case i21 => k_is)
    (case ti21 => k_is)
    (case l21 => k_is)
    (case ci21 => k_is)
    (case a22 => k_is)
    (case x22 => k_is)
    (case s22 => k_is)
    (case ga22 => k_is)
    (case gg22 => k_is)
    (case k22 => k_is)
    (case e22 => k_is)
    (case t22 => k_is)
    (case h22 => k_is)
    (case i22 => k_is)
    (case ti22 => k_is)
    (case l22 => k_is)
    (case ci22 => k_is)
    (case af0 => k_is)
    (case lf0 => k_is)
    (case cf0 => k_is)
    (case kf0 => k_is)
    (case af1 => k_is)
    (case lf1 => k_is)
    (case cf1 => k_is)
    (case kf1 => k_is)
    (case af2 => k_is)
    (case lf2 => k_is)
    (case cf2 => k_is)
    (case kf2 => k_is)
    (case af3 => k_is)
    (case lf3 => k_is)
    (case cf3 => k_is)
    (case kf3 => k_is)
    (case af4 => k_is)
    (case lf4 => k_is)
    (case cf4 => k_is)
    (case kf4 => k_is)
    (case af5 => k_is)
    (case lf5 => k_is)
    (case cf5 => k_is)
    (case kf5 => k_is)
    (case af6 => k_is)
    (case lf6 => k_is)
    (case cf6 => k_is)
    (case kf6 => k_is)
    (case af7 => k_is)
    (case lf7 => k_is)
    (case cf7 => k_is)
    (case kf7 => k_is)
    (case af8 => k_is)
    (case lf8 => k_is)
    (case cf8 => k_is)
    (case kf8 => k_is)
    (case af9 => k_is)
    (case lf9 => k_is)
    (case cf9 => k_is)
    (case kf9 => k_is)
    (case af10 => k_is)
    (case lf10 => k_is)
    (case cf10 => k_is)
    (case kf10 => k_is)
    (case af11 => k_is)
    (case lf11 => k_is)
    (case cf11 => k_is)
    (case kf11 => k_is)
    (case zlen => k_is)
    (case zabs => k_is)
    (case zint => k_is)
    (case zrange => k_is)
    (case nd => first | decide | exact ⟨by decide, by decide⟩)
