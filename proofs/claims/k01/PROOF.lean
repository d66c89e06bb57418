import PyProof.Rows.All
import Wide.All
import OpenK.AllK
import Wide.FinOn
import HandS.ForExc
import HandS.TryMany
import HandS.Evl
import HandS.IsInst
import HandS.ForMost
import HandS.MakeKwOnly
import HandS.Iter
import HandS.EndTab
import HandS.Lambda
import HandS.Deep
import HandS.NoneIn
import HandS.TupAny
import HandS.Wide
import HandS.TupMul
import PyProof.ReprRoads
import HandS.Conv
import PySem.Challenge.RW_leastpromise_k01_whole_sheets_told_by_li
set_option Elab.async false
set_option linter.all false
set_option maxRecDepth 100000
set_option maxHeartbeats 4000000
/-! Errors of one family: classes over one own class over Exception, each with an __init__ that stores one field. -/
namespace PySem
namespace PErr
open PySem.W PySem.Calls PyProof.Rows
abbrev tailE : List Value := [.type "Exception", .type "BaseException", .type "object"]
abbrev mroE (C B : Addr) : List Value := .ref C :: .ref B :: tailE
theorem tail_has (B : Addr) (X : String) : (Value.ref B :: tailE).contains (.type X) = tailE.contains (.type X) := by
  rw [List.contains_cons]; rfl
/-- what the written part says of an error class -/
structure Cl (K : Frag) (mg : Str → Option Value) (x : Str) (C B : Addr) : Prop where
  gC : mg x = some (.ref C)
  cls : ∃ nm q N bs sn sub ab col dd k0 k1 k2 k3 k5, K.lookup C = some (excClassObj nm q C N bs (.ref B :: tailE) true sn sub ab col dd k0 k1 k2 k3 k5 "Exception.__new__")
  sa : findIn K (.ref C) "__setattr__" = some (some (.builtin "object.__setattr__"))
  ga : findIn K (.ref C) "__getattribute__" = some (some (.builtin "BaseException.__getattribute__"))
  gg : findIn K (.ref C) "__getattr__" = some none
  kC : keepIn K (.ref C) = true
  exC : subIn K (.ref C) (.type "BaseException") = some true
  tyC : typeIn K (.ref C) = some (.type "type")
  hdC : hasDictIn K C = true
theorem one_size (v : Value) : [v].length ≤ sizeLine := by
  rw [sizeLine_eq]
  exact (by decide : 1 ≤ 16777216)
theorem ldC {M : Model} {s : Shared} {name : Str} {scope : Scope} {L a : Addr} {cd : Value} {m : Str → Option Value} {x : Str} {pos : Pos} {v : Value} {Q : Value → Shared → Prop} {A : Around} {E : Value → Shared → Prop} (hn : s.heap.Ns L m) (hv : m x = some v) (h : Q v s)
    (hk : scope.kind = .function := by rfl) (hl : (envOfC name scope L a cd).kindOf x = some .local := by rfl) (hd : (x == ("__debug__" : Str)) = false := by decide) :
    wpAny M A (eval (.Name x pos) (envOfC name scope L a cd)) Q E s := wpAny_Name (wpAny_loadName_local hk hl hn hv h) hd
open Builtin Builtin.ObjectAttr in
/-- self.name = v on an exception of the family that has no dict yet -/
theorem osa {prog : Program} {w : World} {A : Around} {R : Result → Shared → Prop} {hp : Heap} {g : Array GenState} {d : Drawn} {t : Nat} {os : OsState}
    {K : W.Frag} {name : Str} {tk : Tok} {v : Value} {x C B : Addr} {fv : Array Value} {cd : ClassData}
    (X : K.In hp) (hx : hp.get? x = some { cls := .ref C, data := .fields fv }) (hcd : W.clsIn K C = some cd) (hm : cd.mro = mroE C B) (hh : cd.hasDict = true) (ha : W.findIn K (.ref C) name = some none)
    (hq : ∀ h' tk' dx, (∀ b o, b ≠ x → hp.get? b = some o → h'.get? b = some o) → hp.objs.size ≤ dx → dx ≠ x → h'.get? x = some { cls := .ref C, dict := some dx, data := .fields fv } →
      h'.Ns1 dx (fun y => if y = name then some v else none) → R (.ok (.ret .none)) ⟨h', g, d, tk', os⟩) :
    codeAny (model prog w) A (.call (.builtin "object.__setattr__") ⟨[.ref x, .str name tk, v], []⟩) R ⟨hp, g, d, t, os⟩ := by
  have I : W.InstAt hp x { cls := .ref C, data := .fields fv } C none := ⟨hx, rfl, rfl, trivial⟩
  have hxs : x ≠ hp.objs.size := Nat.ne_of_lt (Heap.lt_size hx)
  have SF := F.store_object
  have hob : (mroE C B).contains (.type "object") = true := by
    rw [List.contains_cons, tail_has]
    exact (Bool.or_eq_true _ _).mpr (.inr (by decide +kernel))
  have hmo : W.mroIn K C (.type "object") = some true := by
    unfold W.mroIn
    rw [hcd, Option.bind_some, hm, if_neg (show ¬ (List.isEmpty (mroE C B) = true) from Bool.false_ne_true), hob]
  have isO : W.Looks (model prog w) hp (isInstance (.ref x) (.type "object")) true := I.type.andThen (W.looks_mroIn X hmo)
  refine codeAny_call_builtin SF.slot.plain SF.entry ?_
  refine @W.check_slot (model prog w) _ _ ⟨hp, g, d, t, os⟩ "object.__setattr__" "object" "__setattr__" (.ref x) [.str name tk, v] [] _ SF.kind SF.split isO (SF.args (.ref x) (.str name tk) v) ?_
  have hmr : W.Looks (model prog w) hp (mroOf (.ref C)) cd.mro := (W.looks_clsIn X hcd).andThen .now
  have hpass : refuseLoop (.ref x) "__setattr__" cd.mro = pure () := by
    rw [hm, refuseLoop_ref, refuseLoop_ref]
    exact F.store_Exception.passes _
  rw [W.osa_eq, refuse_eq]
  refine wpAny_bind (wpAny_bind (I.type.at (wpAny_bind (hmr.at ?_))))
  rw [hpass]
  have LN : W.Looks (model prog w) hp (storeTaker? none) none := .now
  refine wpAny_pure (wpAny_bind (I.type.at (wpAny_bind ((W.looks_findIn X ha).at (wpAny_bind (LN.at ?_))))))
  show wpAny _ _ (storeInOwnDict (.ref x) (.ref C) (.str name tk) name v false) _ _ _
  have hcls : W.Looks (model prog w) hp (classData C) cd := W.looks_clsIn X hcd
  obtain ⟨nm, bs, mro, ns, qn, hd, sn, sb, ab, col, del⟩ := cd
  dsimp only at hh
  subst hh
  unfold storeInOwnDict ownDictForStores
  repeat (first | with_reducible refine HandSPX.store_in_new ?_ ?_ | with_reducible refine wpAny_loadPart_at hx ?_ | with_reducible refine hcls.at ?_ | wp_step)
  · exact ⟨_, #[], _, (Heap.get?_update_ne _ _ _ _ hxs.symm).trans (Heap.get?_push_at rfl rfl), rfl, fun e he => absurd he (by simp), fun _ => rfl⟩
  · intro h' tk' hn' hs
    have hx₁ : (hp.push { cls := .type "dict", data := .dict #[] }).get? x = some { cls := .ref C, data := .fields fv } := Heap.get?_push_of_some _ hx
    refine hq h' tk' hp.objs.size (fun b o hb ho => ?_) (Nat.le_refl _) hxs.symm ?_ hn'
    · exact (hs.2 b (Nat.ne_of_lt (Heap.lt_size ho))).trans ((Heap.get?_update_ne _ _ _ _ hb).trans (Heap.get?_push_of_some _ ho))
    · exact (hs.2 x hxs).trans (Heap.get?_update_self _ hx₁ rfl)
end PErr
end PySem

namespace PySem
namespace PErrA
open PySem.W PySem.Calls PyProof.Rows PySem.PErr
/-! ### the text of __init__(self, at): self.at = at -/
def args (p1 p2 : Pos) : Arguments := { posonlyargs := [], args := [⟨"self", none, p1⟩, ⟨"at", none, p2⟩], vararg := none, kwonlyargs := [], kw_defaults := [], kwarg := none, defaults := [] }
def body (q1 q2 q3 q4 : Pos) : List Stmt := [.Assign [.Attribute (.Name "self" q1) "at" q2] (.Name "at" q3) q4]
def scop : Scope := { kind := .function, names := [(PySem.Str.ofString "self", .local), (PySem.Str.ofString "at", .local)], isGenerator := false, isCoroutine := false, more := [] }
/-- what the written part says of the class named x at C (its base at B) and of its __init__ at fI -/
structure Txt (K : Frag) (mg : Str → Option Value) (x q : Str) (C B fI : Addr) : Prop where
  base : PySem.PErr.Cl K mg x C B
  noN : findIn K (.ref C) "at" = some none
  iC : findIn K (.ref C) "__init__" = some (some (.ref fI))
  tC : typeIn K (.ref fI) = some (.type "function")
  fn : ∃ (oc : Value) (od : Option Addr) (doc pm : Value) (an : Option Addr) (cdv ct : Value) (osl : Array (Option Value)) (p1 p2 q1 q2 q3 q4 : Pos),
    K.lookup fI = some ⟨oc, od, .func (fnOf "__init__" q (args p1 p2) (body q1 q2 q3 q4) scop .none .none doc pm an cdv ct), osl⟩ ∧ codeIn K cdv q = true
/-- what __init__ leaves of a fresh exception at x -/
structure InitEnd (h h' : Heap) (x C dx t1 : Addr) (v : Value) : Prop where
  keep : ∀ b o, b ≠ x → h.get? b = some o → h'.get? b = some o
  obj : h'.get? x = some { cls := .ref C, dict := some dx, data := .fields #[.ref t1, .none, .none, .none, .bool false, .none] }
  dbig : h.objs.size ≤ dx
  dne : dx ≠ x
  ns : h'.Ns1 dx (fun y => if y = "at" then some v else none)
structure OwnMade (h h' : Heap) (e C d : Addr) (v : Value) : Prop where
  keep : ∀ b o, h.get? b = some o → h'.get? b = some o
  new : h.objs.size ≤ e
  obj : ∃ oe vs, h'.get? e = some oe ∧ oe.cls = .ref C ∧ oe.dict = some d ∧ oe.data = .fields vs ∧ vs[1]? = some .none
  dbig : h.objs.size ≤ d
  dne : d ≠ e
  ns : h'.Ns1 d (fun y => if y = "at" then some v else none)
section
variable {prog : Program} {w : World} {A : Around} {E : Value → Shared → Prop} {R : Result → Shared → Prop} {s : Shared} {K : Frag} {mg : Str → Option Value} {C B fI : Addr} {cn q : Str}
theorem init_ok (T : Txt K mg cn q C B fI) {x t0 : Addr} {v : Value} {args : Args} (hba : ∀ (p1 p2 q1 q2 q3 q4 : Pos) (doc pm : Value) (an : Option Addr) (cdv ct : Value) (s : Shared), BindsTo s (fnOf "__init__" q (PErrA.args p1 p2) (body q1 q2 q3 q4) scop .none .none doc pm an cdv ct) args [("self", .ref x), ("at", v)]) (X : K.In s.heap) (hlim : s.heap.NoLimit) (hx : s.heap.get? x = some (HandSPX.excO C t0)) (hroom : A.depth < recursionLimit)
    (hq : ∀ h' tk dx, InitEnd s.heap h' x C dx t0 v → R (.ok (.ret .none)) { s with heap := h', toks := tk }) :
    codeAny (model prog w) A (.call (.ref fI) args) R s := by
  obtain ⟨oc, od, doc, pm, an, cdv, ct, osl, p1, p2, q1, q2, q3, q4, ho, hcd⟩ := T.fn
  obtain ⟨nm, qq, N, bs, sn, sub, ab, col, dd, k0, k1, k2, k3, k5, hC⟩ := T.base.cls
  have hcl : clsIn K C = some { name := nm, bases := bs, mro := mroE C B, ns := N, qualname := qq, hasDict := true, slotNames := sn, subclasses := sub, abstract := ab, collection := col, hasDel := false } := by unfold clsIn; rw [hC] <;> rfl
  refine Att.call_fn (binds := [("self", .ref x), ("at", v)]) X hlim ho hcd hroom (hba p1 p2 q1 q2 q3 q4 doc pm an cdv ct s) (by first | rfl | decide | with_unfolding_all rfl) (fun s₁ IC => ?_) rfl rfl rfl
  obtain ⟨h₁, tk₁, rfl⟩ := IC.toInCall.same
  have k : ∀ b o, s.heap.get? b = some o → h₁.get? b = some o := IC.toInCall.keep
  have hn := IC.toInCall.ns
  have X₁ : K.In h₁ := X.keeps k
  have hx₁ := k _ _ hx
  show wpAny _ _ (execs _ _) _ _ _
  refine wpAny_execs_cons (plainObj_wpAny_Assign_Attribute ?_)
  refine PErr.ldC (v := v) hn (by first | rfl | with_unfolding_all rfl | kernel_rfl) (PErr.ldC (v := .ref x) hn (by first | rfl | with_unfolding_all rfl | kernel_rfl) ?_)
  refine set_plain X₁ (ox := HandSPX.excO C t0) (od := none) ⟨hx₁, rfl, rfl, trivial⟩ T.base.sa ?_
  refine PErr.osa X₁ hx₁ hcl rfl rfl T.noN (fun h₃ tk₃ dx k₃ dn dne hx₃ hn₃ => ?_)
  show wpAny _ _ (execs _ _) _ _ _
  have z : s.heap.objs.size < h₁.objs.size := hn.lt
  exact wpAny_execs_nil (hq h₃ tk₃ dx ⟨fun b o hb e => k₃ b o hb (k b o e), hx₃, Nat.le_of_lt (Nat.lt_of_lt_of_le z dn), dne, hn₃⟩)
theorem made_ok (T : Txt K mg cn q C B fI) {v : Value} (X : K.In s.heap) (hlim : s.heap.NoLimit) (hroom : A.depth + 1 < recursionLimit)
    (hq : ∀ h' tk e d, OwnMade s.heap h' e C d v → R (.ok (.ret (.ref e))) { s with heap := h', toks := tk }) :
    codeAny (model prog w) A (.call (.ref C) ⟨[v], []⟩) R s := by
  obtain ⟨nm, qq, N, bs, sn, sub, ab, col, dd, k0, k1, k2, k3, k5, hC⟩ := T.base.cls
  obtain ⟨hp, g, dr, tk, os⟩ := s
  have k : ∀ b o, hp.get? b = some o → ((hp.push (kdv_tup [v])).push (HandSPX.excO C hp.objs.size)).get? b = some o := fun b o e => Heap.get?_push_of_some _ (Heap.get?_push_of_some _ e)
  have hget : ((hp.push (kdv_tup [v])).push (HandSPX.excO C hp.objs.size)).get? (hp.objs.size + 1) = some (HandSPX.excO C hp.objs.size) := by heap_get
  refine HandSPX.call_own F.excBase_Exception (fun X => PErr.tail_has B X) (X _ _ hC) (looks_findIn X T.iC) (fun self => bind_fn X self T.tC) (PErr.one_size v) ?_
  refine init_ok (s := ⟨(hp.push (kdv_tup [v])).push (HandSPX.excO C hp.objs.size), g, dr, tk, os⟩) T (v := v) (fun _ _ _ _ _ _ _ _ _ _ _ _ => BindsTo.of_eq (by first | rfl | with_unfolding_all rfl)) (X.keeps k) (hlim.keeps k) hget ?_ fun h' tk' dx ⟨k', hx, dn, dne, hns⟩ => ?_
  · show A.depth + 1 < recursionLimit
    exact hroom
  · have old : ∀ b o, hp.get? b = some o → h'.get? b = some o := fun b o e => k' b o (Nat.ne_of_lt (Nat.lt_succ_of_lt (Heap.lt_size e))) (k b o e)
    have z : hp.objs.size + 1 + 1 ≤ dx := by
      first
        | (simpa only [Heap.size_push] using dn)
        | exact dn
        | (have q := dn; rw [Heap.size_push, Heap.size_push] at q; exact q)
    exact ⟨rfl, hq h' tk' (hp.objs.size + 1) dx ⟨old, Nat.le_succ _, ⟨_, _, hx, rfl, rfl, rfl, rfl⟩, Nat.le_trans (Nat.le_trans (Nat.le_succ _) (Nat.le_succ _)) z, dne, hns⟩⟩
end
end PErrA
end PySem
namespace L2
open PySem PySem.Spec PyProof.Rows
theorem relO_A {v : V} {v' : Value} (r : RelV v v') (f : Str) : RelO (List.lookup f [(("at" : Str), v)]) (if f = "at" then some v' else none) := by
  by_cases hw : f = "at"
  · subst hw
    rw [if_pos rfl]
    have q : List.lookup ("at" : Str) [(("at" : Str), v)] = some v := by simp [List.lookup]
    rw [q]
    exact r
  · rw [if_neg hw]
    have qw : (f == ("at" : Str)) = false := by simpa using hw
    have q2 : List.lookup f [(("at" : Str), v)] = none := by simp [List.lookup, qw]
    rw [q2]
    trivial
section
variable {X : Cx} {C B fI : Addr} {cn q : Str}
/-- C(e) -/
def tMkA (C : Addr) (ta : TA) : L2.St → Hp → XK → Prop := fun σ H Q => ta σ H fun vs H1 => ∃ v, vs = [v] ∧ ∀ d, H1 d = none → Q (.ref C) (some d) (upd H1 d (.xd [(("at" : Str), v)]))
theorem pmk_A {a : Expr} {ta : TA} {p pos : Pos} {k : Nat} (T : PySem.PErrA.Txt X.K X.mg cn q C B fI) (hr : Room k X.A) (ha : PA X [a] ta) (hg : Gl X cn) (hdb : (cn == ("__debug__" : Str)) = false)
    (he : starEach (a :: []) X.env = (false, eval a X.env) :: starEach [] X.env := by rfl) (hpl : (backTo pos (starEach [] X.env)).any (·.1) = false := by rfl) :
    PMk X (.Call (.Name cn p) [a] [] pos) (tMkA C ta) := by
  intro pins s σ H Q I h
  refine wpAny_Call_Name_kw (ld_glob I hg T.base.gC ?_ hdb)
  refine PySem.W.callWith_K (h₀ := X.base) I.ok.mod.kin T.base.kC (thn (ha.run pos pins s σ H _ I h) fun us s1 hh => ?_) he hpl
  obtain ⟨vs, H1, I1, r1, v, ev, q1⟩ := hh
  subst ev
  refine ⟨I1.kIn, ?_⟩
  cases r1 with
  | cons rv rn =>
    rename_i v' us'
    cases rn
    show wpAny _ _ (call (.ref C) [v']) _ _ _
    have hlim := I1.nolimit
    obtain ⟨hp, g, dr, tk, os⟩ := s1
    refine wpAny_call (PySem.PErrA.made_ok T I1.kIn hlim (by have := hr.dp; omega) fun h' tk' e d M => ?_)
    show MkP X pins σ Q (.ref e) ⟨h', g, dr, tk', os⟩
    obtain ⟨oe, fv, hoe, hc, hd, hdat, h1⟩ := M.obj
    have hns := M.ns
    obtain ⟨G', g1, g2⟩ := restrict h' fun b => decide (b ≠ e)
    have gk : ∀ b, b ≠ e → G'.get? b = h'.get? b := fun b hb => g1 b (decide_eq_true hb)
    have ge : G'.get? e = none := g2 e (by simp)
    have old : ∀ b o, hp.get? b = some o → G'.get? b = some o := fun b o q => (gk b (Nat.ne_of_lt (Nat.lt_of_lt_of_le (Heap.lt_size q) M.new))).trans (M.keep b o q)
    have ob : ObjOk X.prog X.w (upd H1 d (.xd [(("at" : Str), v)])) G' d (.xd [(("at" : Str), v)]) :=
      ⟨_, hns.at (fun o q => (gk d M.dne).trans q), fun f => relO_A rv f⟩
    have J : Inv X pins σ (upd H1 d (.xd [(("at" : Str), v)])) ⟨G', g, dr, tk', os⟩ := I1.laid (t' := tk') old M.dbig ob
    refine ⟨e, oe, fv, ⟨G', g, dr, tk', os⟩, _, .ref C, some d, rfl, J, fun b o q => ?_, ge, hoe, ⟨hc, hd⟩, hdat, h1, ?_, rfl, I1.bare, raises_own T.base.exC T.base.tyC, q1 d (I1.hok.fresh M.dbig)⟩
    · by_cases hb : b = e
      · have q' : G'.get? b = some o := q
        rw [hb, ge] at q'; cases q'
      · exact (gk b hb).symm.trans q
    · rw [upd_ne (Ne.symm M.dne)]
      exact I1.hok.fresh M.new
/-- raise C(e) -/
def tRaiseA (C : Addr) (W : WX) (ta : TA) : TS := fun _ σ H => tMkA C ta σ H fun cls d H' => W cls d σ H'
theorem ps_raise_A {a : Expr} {ta : TA} {W : WX} {p pos pos2 : Pos} {k : Nat} (hc : X.calm = true) (T : PySem.PErrA.Txt X.K X.mg cn q C B fI) (hr : Room k X.A) (tk : Takes X W) (ha : PA X [a] ta) (hg : Gl X cn) (hdb : (cn == ("__debug__" : Str)) = false)
    (he : starEach (a :: []) X.env = (false, eval a X.env) :: starEach [] X.env := by rfl) (hpl : (backTo pos (starEach [] X.env)).any (·.1) = false := by rfl) :
    PS X (.Raise (some (.Call (.Name cn p) [a] [] pos)) none pos2) (tRaiseA C W ta) := ps_raise hc tk (pmk_A T hr ha hg hdb he hpl)
/-- e.at, e the exception that the suite holds -/
def tFldA (K : PySem.W.Frag) (mg : Str → Option Value) (a : Addr) (cls : Value) (d : Option Addr) (te : TE) : TE := fun σ H Q => te σ H fun x H1 => x = .ref a ∧ ∃ (cn q : Str) (C B fI : Addr), PySem.PErrA.Txt K mg cn q C B fI ∧ cls = .ref C ∧ ∃ (dd : Addr) (v : V), d = some dd ∧ H1 dd = some (.xd [(("at" : Str), v)]) ∧ Q v H1
theorem pe_fld_A {a : Addr} {oe : Obj} {cls : Value} {d : Option Addr} {pn : List (Addr × Obj)} {e : Expr} {te : TE} {pos : Pos} (hz : Zc cls d oe) (hf : ∃ vs, oe.data = .fields vs) (he : PE (X.suite a ((a, oe) :: pn)) e te)
    (hb : attributeBase e "at" X.env (eval e X.env) = eval e X.env := by rfl) :
    PE (X.suite a ((a, oe) :: pn)) (.Attribute e "at" pos) (tFldA X.K X.mg a cls d te) := by
  refine ⟨fun pins s σ H Q I h => ?_⟩
  refine attr_of hb (thn (he.run pins s σ H _ I h) fun u s1 hh => ?_)
  obtain ⟨x, H1, I1, rx, ex, cn, q, C, B, fI, T, ec, dd, v, ed, ea, qq⟩ := hh
  subst ex
  obtain rfl : u = Value.ref a := rx
  subst ec
  subst ed
  obtain ⟨ha, _⟩ := I1.pin (a, oe) (List.mem_append_left _ List.mem_cons_self)
  obtain ⟨vs, hd⟩ := hf
  have hx : ObjOk X.prog X.w H1 s1.heap dd (.xd [(("at" : Str), v)]) := I1.hok dd _ ea
  obtain ⟨mA, hns, hr⟩ := hx
  obtain ⟨od, ho, hl⟩ := lookIn_ns hns
  have l : List.lookup ("at" : Str) [(("at" : Str), v)] = some v := by simp [List.lookup]
  obtain ⟨u, hu, ru⟩ := RelO.some_of (v := v) (o := mA "at") (by rw [← l]; exact hr "at")
  have J : PySem.W.InstAt s1.heap a oe C (some od) := ⟨ha, hz.1, by unfold PySem.W.notCls; rw [hd] <;> rfl, by rw [hz.2]; exact ho⟩
  exact HandSPX.exc_get I1.kIn J T.base.ga T.base.gg T.base.exC (PySem.W.findObj_own T.base.hdC T.noN rfl (by rw [hl, hu])) (handed_of ru) ⟨v, H1, I1.tok _, ru, qq⟩
end
end L2

namespace PySem
namespace PErrW
open PySem.W PySem.Calls PyProof.Rows PySem.PErr
/-! ### the text of __init__(self, word): self.word = word -/
def args (p1 p2 : Pos) : Arguments := { posonlyargs := [], args := [⟨"self", none, p1⟩, ⟨"word", none, p2⟩], vararg := none, kwonlyargs := [], kw_defaults := [], kwarg := none, defaults := [] }
def body (q1 q2 q3 q4 : Pos) : List Stmt := [.Assign [.Attribute (.Name "self" q1) "word" q2] (.Name "word" q3) q4]
def scop : Scope := { kind := .function, names := [(PySem.Str.ofString "self", .local), (PySem.Str.ofString "word", .local)], isGenerator := false, isCoroutine := false, more := [] }
/-- what the written part says of the class named x at C (its base at B) and of its __init__ at fI -/
structure Txt (K : Frag) (mg : Str → Option Value) (x q : Str) (C B fI : Addr) : Prop where
  base : PySem.PErr.Cl K mg x C B
  noN : findIn K (.ref C) "word" = some none
  iC : findIn K (.ref C) "__init__" = some (some (.ref fI))
  tC : typeIn K (.ref fI) = some (.type "function")
  fn : ∃ (oc : Value) (od : Option Addr) (doc pm : Value) (an : Option Addr) (cdv ct : Value) (osl : Array (Option Value)) (p1 p2 q1 q2 q3 q4 : Pos),
    K.lookup fI = some ⟨oc, od, .func (fnOf "__init__" q (args p1 p2) (body q1 q2 q3 q4) scop .none .none doc pm an cdv ct), osl⟩ ∧ codeIn K cdv q = true
/-- what __init__ leaves of a fresh exception at x -/
structure InitEnd (h h' : Heap) (x C dx t1 : Addr) (v : Value) : Prop where
  keep : ∀ b o, b ≠ x → h.get? b = some o → h'.get? b = some o
  obj : h'.get? x = some { cls := .ref C, dict := some dx, data := .fields #[.ref t1, .none, .none, .none, .bool false, .none] }
  dbig : h.objs.size ≤ dx
  dne : dx ≠ x
  ns : h'.Ns1 dx (fun y => if y = "word" then some v else none)
structure OwnMade (h h' : Heap) (e C d : Addr) (v : Value) : Prop where
  keep : ∀ b o, h.get? b = some o → h'.get? b = some o
  new : h.objs.size ≤ e
  obj : ∃ oe vs, h'.get? e = some oe ∧ oe.cls = .ref C ∧ oe.dict = some d ∧ oe.data = .fields vs ∧ vs[1]? = some .none
  dbig : h.objs.size ≤ d
  dne : d ≠ e
  ns : h'.Ns1 d (fun y => if y = "word" then some v else none)
section
variable {prog : Program} {w : World} {A : Around} {E : Value → Shared → Prop} {R : Result → Shared → Prop} {s : Shared} {K : Frag} {mg : Str → Option Value} {C B fI : Addr} {cn q : Str}
theorem init_ok (T : Txt K mg cn q C B fI) {x t0 : Addr} {v : Value} {args : Args} (hba : ∀ (p1 p2 q1 q2 q3 q4 : Pos) (doc pm : Value) (an : Option Addr) (cdv ct : Value) (s : Shared), BindsTo s (fnOf "__init__" q (PErrW.args p1 p2) (body q1 q2 q3 q4) scop .none .none doc pm an cdv ct) args [("self", .ref x), ("word", v)]) (X : K.In s.heap) (hlim : s.heap.NoLimit) (hx : s.heap.get? x = some (HandSPX.excO C t0)) (hroom : A.depth < recursionLimit)
    (hq : ∀ h' tk dx, InitEnd s.heap h' x C dx t0 v → R (.ok (.ret .none)) { s with heap := h', toks := tk }) :
    codeAny (model prog w) A (.call (.ref fI) args) R s := by
  obtain ⟨oc, od, doc, pm, an, cdv, ct, osl, p1, p2, q1, q2, q3, q4, ho, hcd⟩ := T.fn
  obtain ⟨nm, qq, N, bs, sn, sub, ab, col, dd, k0, k1, k2, k3, k5, hC⟩ := T.base.cls
  have hcl : clsIn K C = some { name := nm, bases := bs, mro := mroE C B, ns := N, qualname := qq, hasDict := true, slotNames := sn, subclasses := sub, abstract := ab, collection := col, hasDel := false } := by unfold clsIn; rw [hC] <;> rfl
  refine Att.call_fn (binds := [("self", .ref x), ("word", v)]) X hlim ho hcd hroom (hba p1 p2 q1 q2 q3 q4 doc pm an cdv ct s) (by first | rfl | decide | with_unfolding_all rfl) (fun s₁ IC => ?_) rfl rfl rfl
  obtain ⟨h₁, tk₁, rfl⟩ := IC.toInCall.same
  have k : ∀ b o, s.heap.get? b = some o → h₁.get? b = some o := IC.toInCall.keep
  have hn := IC.toInCall.ns
  have X₁ : K.In h₁ := X.keeps k
  have hx₁ := k _ _ hx
  show wpAny _ _ (execs _ _) _ _ _
  refine wpAny_execs_cons (plainObj_wpAny_Assign_Attribute ?_)
  refine PErr.ldC (v := v) hn (by first | rfl | with_unfolding_all rfl | kernel_rfl) (PErr.ldC (v := .ref x) hn (by first | rfl | with_unfolding_all rfl | kernel_rfl) ?_)
  refine set_plain X₁ (ox := HandSPX.excO C t0) (od := none) ⟨hx₁, rfl, rfl, trivial⟩ T.base.sa ?_
  refine PErr.osa X₁ hx₁ hcl rfl rfl T.noN (fun h₃ tk₃ dx k₃ dn dne hx₃ hn₃ => ?_)
  show wpAny _ _ (execs _ _) _ _ _
  have z : s.heap.objs.size < h₁.objs.size := hn.lt
  exact wpAny_execs_nil (hq h₃ tk₃ dx ⟨fun b o hb e => k₃ b o hb (k b o e), hx₃, Nat.le_of_lt (Nat.lt_of_lt_of_le z dn), dne, hn₃⟩)
theorem made_ok (T : Txt K mg cn q C B fI) {v : Value} (X : K.In s.heap) (hlim : s.heap.NoLimit) (hroom : A.depth + 1 < recursionLimit)
    (hq : ∀ h' tk e d, OwnMade s.heap h' e C d v → R (.ok (.ret (.ref e))) { s with heap := h', toks := tk }) :
    codeAny (model prog w) A (.call (.ref C) ⟨[v], []⟩) R s := by
  obtain ⟨nm, qq, N, bs, sn, sub, ab, col, dd, k0, k1, k2, k3, k5, hC⟩ := T.base.cls
  obtain ⟨hp, g, dr, tk, os⟩ := s
  have k : ∀ b o, hp.get? b = some o → ((hp.push (kdv_tup [v])).push (HandSPX.excO C hp.objs.size)).get? b = some o := fun b o e => Heap.get?_push_of_some _ (Heap.get?_push_of_some _ e)
  have hget : ((hp.push (kdv_tup [v])).push (HandSPX.excO C hp.objs.size)).get? (hp.objs.size + 1) = some (HandSPX.excO C hp.objs.size) := by heap_get
  refine HandSPX.call_own F.excBase_Exception (fun X => PErr.tail_has B X) (X _ _ hC) (looks_findIn X T.iC) (fun self => bind_fn X self T.tC) (PErr.one_size v) ?_
  refine init_ok (s := ⟨(hp.push (kdv_tup [v])).push (HandSPX.excO C hp.objs.size), g, dr, tk, os⟩) T (v := v) (fun _ _ _ _ _ _ _ _ _ _ _ _ => BindsTo.of_eq (by first | rfl | with_unfolding_all rfl)) (X.keeps k) (hlim.keeps k) hget ?_ fun h' tk' dx ⟨k', hx, dn, dne, hns⟩ => ?_
  · show A.depth + 1 < recursionLimit
    exact hroom
  · have old : ∀ b o, hp.get? b = some o → h'.get? b = some o := fun b o e => k' b o (Nat.ne_of_lt (Nat.lt_succ_of_lt (Heap.lt_size e))) (k b o e)
    have z : hp.objs.size + 1 + 1 ≤ dx := by
      first
        | (simpa only [Heap.size_push] using dn)
        | exact dn
        | (have q := dn; rw [Heap.size_push, Heap.size_push] at q; exact q)
    exact ⟨rfl, hq h' tk' (hp.objs.size + 1) dx ⟨old, Nat.le_succ _, ⟨_, _, hx, rfl, rfl, rfl, rfl⟩, Nat.le_trans (Nat.le_trans (Nat.le_succ _) (Nat.le_succ _)) z, dne, hns⟩⟩
end
end PErrW
end PySem
namespace L2
open PySem PySem.Spec PyProof.Rows
theorem relO_W {v : V} {v' : Value} (r : RelV v v') (f : Str) : RelO (List.lookup f [(("word" : Str), v)]) (if f = "word" then some v' else none) := by
  by_cases hw : f = "word"
  · subst hw
    rw [if_pos rfl]
    have q : List.lookup ("word" : Str) [(("word" : Str), v)] = some v := by simp [List.lookup]
    rw [q]
    exact r
  · rw [if_neg hw]
    have qw : (f == ("word" : Str)) = false := by simpa using hw
    have q2 : List.lookup f [(("word" : Str), v)] = none := by simp [List.lookup, qw]
    rw [q2]
    trivial
section
variable {X : Cx} {C B fI : Addr} {cn q : Str}
/-- C(e) -/
def tMkW (C : Addr) (ta : TA) : L2.St → Hp → XK → Prop := fun σ H Q => ta σ H fun vs H1 => ∃ v, vs = [v] ∧ ∀ d, H1 d = none → Q (.ref C) (some d) (upd H1 d (.xd [(("word" : Str), v)]))
theorem pmk_W {a : Expr} {ta : TA} {p pos : Pos} {k : Nat} (T : PySem.PErrW.Txt X.K X.mg cn q C B fI) (hr : Room k X.A) (ha : PA X [a] ta) (hg : Gl X cn) (hdb : (cn == ("__debug__" : Str)) = false)
    (he : starEach (a :: []) X.env = (false, eval a X.env) :: starEach [] X.env := by rfl) (hpl : (backTo pos (starEach [] X.env)).any (·.1) = false := by rfl) :
    PMk X (.Call (.Name cn p) [a] [] pos) (tMkW C ta) := by
  intro pins s σ H Q I h
  refine wpAny_Call_Name_kw (ld_glob I hg T.base.gC ?_ hdb)
  refine PySem.W.callWith_K (h₀ := X.base) I.ok.mod.kin T.base.kC (thn (ha.run pos pins s σ H _ I h) fun us s1 hh => ?_) he hpl
  obtain ⟨vs, H1, I1, r1, v, ev, q1⟩ := hh
  subst ev
  refine ⟨I1.kIn, ?_⟩
  cases r1 with
  | cons rv rn =>
    rename_i v' us'
    cases rn
    show wpAny _ _ (call (.ref C) [v']) _ _ _
    have hlim := I1.nolimit
    obtain ⟨hp, g, dr, tk, os⟩ := s1
    refine wpAny_call (PySem.PErrW.made_ok T I1.kIn hlim (by have := hr.dp; omega) fun h' tk' e d M => ?_)
    show MkP X pins σ Q (.ref e) ⟨h', g, dr, tk', os⟩
    obtain ⟨oe, fv, hoe, hc, hd, hdat, h1⟩ := M.obj
    have hns := M.ns
    obtain ⟨G', g1, g2⟩ := restrict h' fun b => decide (b ≠ e)
    have gk : ∀ b, b ≠ e → G'.get? b = h'.get? b := fun b hb => g1 b (decide_eq_true hb)
    have ge : G'.get? e = none := g2 e (by simp)
    have old : ∀ b o, hp.get? b = some o → G'.get? b = some o := fun b o q => (gk b (Nat.ne_of_lt (Nat.lt_of_lt_of_le (Heap.lt_size q) M.new))).trans (M.keep b o q)
    have ob : ObjOk X.prog X.w (upd H1 d (.xd [(("word" : Str), v)])) G' d (.xd [(("word" : Str), v)]) :=
      ⟨_, hns.at (fun o q => (gk d M.dne).trans q), fun f => relO_W rv f⟩
    have J : Inv X pins σ (upd H1 d (.xd [(("word" : Str), v)])) ⟨G', g, dr, tk', os⟩ := I1.laid (t' := tk') old M.dbig ob
    refine ⟨e, oe, fv, ⟨G', g, dr, tk', os⟩, _, .ref C, some d, rfl, J, fun b o q => ?_, ge, hoe, ⟨hc, hd⟩, hdat, h1, ?_, rfl, I1.bare, raises_own T.base.exC T.base.tyC, q1 d (I1.hok.fresh M.dbig)⟩
    · by_cases hb : b = e
      · have q' : G'.get? b = some o := q
        rw [hb, ge] at q'; cases q'
      · exact (gk b hb).symm.trans q
    · rw [upd_ne (Ne.symm M.dne)]
      exact I1.hok.fresh M.new
/-- raise C(e) -/
def tRaiseW (C : Addr) (W : WX) (ta : TA) : TS := fun _ σ H => tMkW C ta σ H fun cls d H' => W cls d σ H'
theorem ps_raise_W {a : Expr} {ta : TA} {W : WX} {p pos pos2 : Pos} {k : Nat} (hc : X.calm = true) (T : PySem.PErrW.Txt X.K X.mg cn q C B fI) (hr : Room k X.A) (tk : Takes X W) (ha : PA X [a] ta) (hg : Gl X cn) (hdb : (cn == ("__debug__" : Str)) = false)
    (he : starEach (a :: []) X.env = (false, eval a X.env) :: starEach [] X.env := by rfl) (hpl : (backTo pos (starEach [] X.env)).any (·.1) = false := by rfl) :
    PS X (.Raise (some (.Call (.Name cn p) [a] [] pos)) none pos2) (tRaiseW C W ta) := ps_raise hc tk (pmk_W T hr ha hg hdb he hpl)
/-- e.word, e the exception that the suite holds -/
def tFldW (K : PySem.W.Frag) (mg : Str → Option Value) (a : Addr) (cls : Value) (d : Option Addr) (te : TE) : TE := fun σ H Q => te σ H fun x H1 => x = .ref a ∧ ∃ (cn q : Str) (C B fI : Addr), PySem.PErrW.Txt K mg cn q C B fI ∧ cls = .ref C ∧ ∃ (dd : Addr) (v : V), d = some dd ∧ H1 dd = some (.xd [(("word" : Str), v)]) ∧ Q v H1
theorem pe_fld_W {a : Addr} {oe : Obj} {cls : Value} {d : Option Addr} {pn : List (Addr × Obj)} {e : Expr} {te : TE} {pos : Pos} (hz : Zc cls d oe) (hf : ∃ vs, oe.data = .fields vs) (he : PE (X.suite a ((a, oe) :: pn)) e te)
    (hb : attributeBase e "word" X.env (eval e X.env) = eval e X.env := by rfl) :
    PE (X.suite a ((a, oe) :: pn)) (.Attribute e "word" pos) (tFldW X.K X.mg a cls d te) := by
  refine ⟨fun pins s σ H Q I h => ?_⟩
  refine attr_of hb (thn (he.run pins s σ H _ I h) fun u s1 hh => ?_)
  obtain ⟨x, H1, I1, rx, ex, cn, q, C, B, fI, T, ec, dd, v, ed, ea, qq⟩ := hh
  subst ex
  obtain rfl : u = Value.ref a := rx
  subst ec
  subst ed
  obtain ⟨ha, _⟩ := I1.pin (a, oe) (List.mem_append_left _ List.mem_cons_self)
  obtain ⟨vs, hd⟩ := hf
  have hx : ObjOk X.prog X.w H1 s1.heap dd (.xd [(("word" : Str), v)]) := I1.hok dd _ ea
  obtain ⟨mA, hns, hr⟩ := hx
  obtain ⟨od, ho, hl⟩ := lookIn_ns hns
  have l : List.lookup ("word" : Str) [(("word" : Str), v)] = some v := by simp [List.lookup]
  obtain ⟨u, hu, ru⟩ := RelO.some_of (v := v) (o := mA "word") (by rw [← l]; exact hr "word")
  have J : PySem.W.InstAt s1.heap a oe C (some od) := ⟨ha, hz.1, by unfold PySem.W.notCls; rw [hd] <;> rfl, by rw [hz.2]; exact ho⟩
  exact HandSPX.exc_get I1.kIn J T.base.ga T.base.gg T.base.exC (PySem.W.findObj_own T.base.hdC T.noN rfl (by rw [hl, hu])) (handed_of ru) ⟨v, H1, I1.tok _, ru, qq⟩
end
end L2

/-! try .. except A as e: .. except B: .. : several clauses, each with or without a name. -/
namespace L2
open PySem PySem.Spec PyProof.Rows
/-- a suite of a clause: what it wishes, the exception at a; oi: the slot of its name -/
abbrev Suit := Addr → Value → Option Addr → TS
def atSuite (oi : Option Nat) (ts : Suit) (a : Addr) (cls : Value) (d : Option Addr) (D : Ends) (σ : L2.St) (H : Hp) : Prop := match oi with
  | none => ts a cls d D σ H
  | some i => ts a cls d { nx := fun s1 h1 => D.nx (s1.set i none) h1, rt := D.rt, bk := fun s1 h1 => D.bk (s1.set i none) h1, ct := fun s1 h1 => D.ct (s1.set i none) h1 } (σ.set i (some (.ref a))) H
def wHd (K : PySem.W.Frag) (Wo : WX) (D : Ends) : List (Value × Option Nat × Suit) → WX
  | [] => Wo
  | (c, oi, ts) :: r => fun cls d σ H => ∃ b, PySem.W.exmOne K cls c = some b ∧ (b = true → ∀ a, H a = none → atSuite oi ts a cls d D σ H) ∧ (b = false → wHd K Wo D r cls d σ H)
inductive Hds (X : Cx) : List ExceptHandler → List (Value × Option Nat × Suit) → Prop
  | nil : Hds X [] []
  | bare {x : Str} {c : Value} {ts : Suit} {b₀ : Stmt} {suite : List Stmt} {np pp : Pos} {hds : List ExceptHandler} {l : List (Value × Option Nat × Suit)} (hc : Names X x c)
      (hsu : ∀ (a : Addr) (oe : Obj) (cls : Value) (d : Option Addr) (pn : List (Addr × Obj)), Zc cls d oe → (∃ vs, oe.data = .fields vs) → PSs (X.suite a ((a, oe) :: pn)) (b₀ :: suite) (ts a cls d)) (r : Hds X hds l) :
      Hds X (.ExceptHandler (some (.Name x np)) none (b₀ :: suite) pp :: hds) ((c, none, ts) :: l)
  | named {x n : Str} {c : Value} {i : Nat} {ts : Suit} {b₀ : Stmt} {suite : List Stmt} {np pp : Pos} {hds : List ExceptHandler} {l : List (Value × Option Nat × Suit)} (hc : Names X x c) (hi : X.N[i]? = some n) (hl : X.env.kindOf n = some .local)
      (hsu : ∀ (a : Addr) (oe : Obj) (cls : Value) (d : Option Addr) (pn : List (Addr × Obj)), Zc cls d oe → (∃ vs, oe.data = .fields vs) → PSs (X.suite a ((a, oe) :: pn)) (b₀ :: suite) (ts a cls d)) (r : Hds X hds l) :
      Hds X (.ExceptHandler (some (.Name x np)) (some n) (b₀ :: suite) pp :: hds) ((c, some i, ts) :: l)
section
variable {X : Cx} {body : List Stmt} {h₀ : ExceptHandler} {hds : List ExceptHandler} {l : List (Value × Option Nat × Suit)} {pos : Pos} {tb : WX → TS} {Wo : WX}
theorem ps_try_hd (hs : X.stack = X.env :: X.outer) (hf : X.env.frame = some X.env.locals) (hN : X.N.Nodup) (tk : Takes X Wo)
    (hb : ∀ (W : WX) (pn : List (Addr × Obj)) (xe : Value → Shared → Prop), Takes (X.tr pn xe) W → PassesOwn (model X.prog X.w) X.A X.env xe → PSs (X.tr pn xe) body (tb W))
    (hh : Hds X (h₀ :: hds) l) : PS X (.Try body (h₀ :: hds) [] [] pos) (fun D σ H => tb (wHd X.K Wo D l) D σ H) := by
  refine ⟨fun pins s σ H D I h => ?_⟩
  have ok := I.ok
  have hfr : X.A.frames = some (X.env :: X.outer) := by rw [ok.frames, hs]
  refine wpAny_Try_except ?_
  refine wpAny_mono ((hb (wHd X.K Wo D l) (X.pn ++ pins) (fun e t₁ => wpAny (model X.prog X.w) X.A (noteFrame e X.env) (fun _ t₂ => wpAny (model X.prog X.w) X.A (setFlight e none) (fun _ t₃ =>
    wpAny (model X.prog X.w) X.A (handleBy e X.env (h₀ :: hds)) (SP X pins D) X.xe t₃) X.xe t₂) X.xe t₁) (fun u s' xx => ?_) PassesOwn.looking).run [] s σ H D (I.toTry _) h) (fun f s1 hsp => ?_) (fun e s1 he => he)
  · obtain ⟨a, B, sI, pins', σ', H', cls, d, rfl, J', nb, up, sky, na, os, ag, w⟩ := xx
    have J : Inv X pins σ' H' sI := J'.ofTry ok
    rw [hs] at sky
    show wpAny (model X.prog X.w) X.A (noteFrame (.ref a) X.env) _ _ _
    refine Sky.land Zc.steady hfr hf sky fun h3 fl3 up3 => ?_
    have J3 : Inv X pins σ' H' { s' with heap := h3 } := J.landed nb fl3.1 (up.trans up3) os ag
    obtain ⟨oe3, vs3, he3, hz3, hd3⟩ := fl3.there
    have nfr : a ∉ frs (X.env :: X.outer) := fun hm => by
      obtain ⟨_, o', e', hnf⟩ := fl3.2.2.1.mem hm
      rw [he3] at e'
      cases e'
      exact hnf _ hd3
    have nL : a ≠ X.env.locals := fun z => nfr (List.mem_filterMap.mpr ⟨X.env, List.mem_cons_self, by rw [hf, z]⟩)
    have nF : a ∉ X.fs := fun hm => by
      obtain ⟨e, he, q⟩ := List.mem_filterMap.mp hm
      exact nfr (List.mem_filterMap.mpr ⟨e, List.mem_cons_of_mem _ he, q⟩)
    have S3 := J3.suite he3 hd3 na nL nF
    have LT : PySem.W.Looks (model X.prog X.w) h3 (typeOf (.ref a)) cls := fun A Q E s k q => wpAny_typeOf_ref (k _ _ he3) (by rw [hz3.1]; exact q)
    have tst : ∀ {x : Str} {c : Value} {np : Pos} {Q : Value → Shared → Prop} {E : Value → Shared → Prop}, Names X x c → Q c { s' with heap := h3 } → wpAny (model X.prog X.w) (X.A.mark (some (.ref a))) (eval (.Name x np) X.env) Q E { s' with heap := h3 } := fun {x c np Q E} hc q => by
      obtain ⟨hg, hdbg, hm | ⟨hm, hv, hnn⟩⟩ := hc
      · exact ld_glob (X := X.suite a ((a, oe3) :: (X.pn ++ pins))) S3 hg hm q hdbg
      · exact ld_blt (X := X.suite a ((a, oe3) :: (X.pn ++ pins))) S3 hg hm hv q hnn hdbg
    have go : ∀ {hd2 : List ExceptHandler} {l2 : List (Value × Option Nat × Suit)}, Hds X hd2 l2 → wHd X.K Wo D l2 cls d σ' H' → wpAny (model X.prog X.w) X.A (handleBy (.ref a) X.env hd2) (SP X pins D) X.xe { s' with heap := h3 } := by
      intro hd2 l2 hk
      induction hk with
      | nil =>
        intro w
        refine wpAny_handleBy_nil ?_
        obtain ⟨k1, k2, k3, oe, vs, T, oT, tr, he, hz, hd, h1, hr⟩ := id fl3
        unfold PySem.passOn
        refine wpAny_bind (wpAny_field he hd h1 ?_)
        rw [if_neg (show ¬ ((Value.ref T == Value.none) = true) from by simp)]
        have fin : wpAny (model X.prog X.w) X.A (setFlight (.ref a) X.env.frame) (fun _ s4 => wpAny (model X.prog X.w) X.A (throw (.ref a) : Sem Flow) (SP X pins D) X.xe s4) X.xe { s' with heap := h3 } := by
          rw [hf]
          refine HandSPX.setFlight_upZ fl3 fun h4 hh4 up4 => wpAny_throw (tk _ _ ?_)
          exact ⟨a, B, sI, pins, σ', H', cls, d, rfl, J, nb, (up.trans up3).trans up4, .inr (.inr (by rw [hs]; exact hh4)), na, os, ag, w⟩
        first | exact wpAny_bind (wpAny_pure (wpAny_bind fin)) | exact wpAny_bind fin
      | @bare x c ts b₀ suite np pp hds2 l2 hc hsu r ih =>
        intro w
        obtain ⟨b, hb1, hyes, hno⟩ := w
        have LM := PySem.W.exm_one (M := model X.prog X.w) (J3.kIn) LT hb1
        refine wpAny_handleBy_cons (codeAny_handlers_test (tst hc (LM.here ?_))) (by intro q; cases q)
        cases b with
        | false =>
          show wpAny _ X.A (handleBy (.ref a) X.env hds2) _ _ _
          exact ih (hno rfl)
        | true =>
          refine codeAny_handlers_suite (HandSPX.lands_againZ fl3 fun h4 fl4 up4 => ?_)
          have J4 : Inv X pins σ' H' { s' with heap := h4 } := J.landed nb fl4.1 ((up.trans up3).trans up4) os ag
          obtain ⟨oe4, vs4, he4, hz4, hd4⟩ := fl4.there
          refine wpAny_mono ((hsu a oe4 cls d (X.pn ++ pins) hz4 ⟨_, hd4⟩).run [] _ _ H' _ (J4.suite he4 hd4 na nL nF) (hyes rfl a na)) (fun f s6 hsp => ?_) (fun _ _ z => False.elim z)
          cases f with
          | ret u =>
            obtain ⟨v6, σ6, H6, S6, r6, q6⟩ := hsp
            exact ⟨_, _, _, S6.unsuite ok, r6, q6⟩
          | next => obtain ⟨σ6, H6, S6, q6⟩ := hsp; exact ⟨_, _, S6.unsuite ok, q6⟩
          | brk => obtain ⟨σ6, H6, S6, q6⟩ := hsp; exact ⟨_, _, S6.unsuite ok, q6⟩
          | cont => obtain ⟨σ6, H6, S6, q6⟩ := hsp; exact ⟨_, _, S6.unsuite ok, q6⟩
      | @named x n c i ts b₀ suite np pp hds2 l2 hc hi hln hsu r ih =>
        intro w
        obtain ⟨b, hb1, hyes, hno⟩ := w
        have LM := PySem.W.exm_one (M := model X.prog X.w) (J3.kIn) LT hb1
        refine wpAny_handleBy_cons (codeAny_handlers_test (tst hc (LM.here ?_))) (by intro q; cases q)
        cases b with
        | false =>
          show wpAny _ X.A (handleBy (.ref a) X.env hds2) _ _ _
          exact ih (hno rfl)
        | true =>
          refine codeAny_handlers_suite_as (HandSPX.lands_againZ fl3 fun h4 fl4 up4 => ?_)
          have J4 : Inv X pins σ' H' { s' with heap := h4 } := J.landed nb fl4.1 ((up.trans up3).trans up4) os ag
          obtain ⟨oe4, vs4, he4, hz4, hd4⟩ := fl4.there
          refine store_ok (X := X.suite a ((a, oe4) :: (X.pn ++ pins))) (v := .ref a) (J4.suite he4 hd4 na nL nF) hN hi (.inl hln) rfl (fun s5 S5 => ?_) (.inr hln)
          refine wpAny_mono ((hsu a oe4 cls d (X.pn ++ pins) hz4 ⟨_, hd4⟩).run [] s5 _ H' _ S5 (hyes rfl a na)) (fun f s6 hsp => ?_) (fun _ _ z => False.elim z)
          have gone : ∀ {σ6 : L2.St} {H6 : Hp} {Q : Shared → Prop}, Inv (X.suite a ((a, oe4) :: (X.pn ++ pins))) [] σ6 H6 s6 → (∀ s7, Inv X pins (σ6.set i none) H6 s7 → Q s7) →
              wpAny (model X.prog X.w) X.A (do bindName X.env n .none; unbindBehindTheSuite X.env n pp) (fun _ s7 => Q s7) X.xe s6 := fun {σ6 H6 Q} S6 hq => gone_ok (S6.unsuite ok) hN hi hln hq
          cases f with
          | ret u =>
            obtain ⟨v6, σ6, H6, S6, r6, q6⟩ := hsp
            exact gone S6 fun s7 J7 => ⟨_, _, _, J7, r6, q6⟩
          | next => obtain ⟨σ6, H6, S6, q6⟩ := hsp; exact gone S6 fun s7 J7 => ⟨_, _, J7, q6⟩
          | brk => obtain ⟨σ6, H6, S6, q6⟩ := hsp; exact gone S6 fun s7 J7 => ⟨_, _, J7, q6⟩
          | cont => obtain ⟨σ6, H6, S6, q6⟩ := hsp; exact gone S6 fun s7 J7 => ⟨_, _, J7, q6⟩
    exact go hh w
  · cases f with
    | ret u =>
      obtain ⟨v, σ', H', J', r, q⟩ := hsp
      exact ⟨v, σ', H', J'.ofTry ok, r, q⟩
    | next => obtain ⟨σ', H', J', q⟩ := hsp; exact wpAny_execs_nil ⟨σ', H', J'.ofTry ok, q⟩
    | brk => obtain ⟨σ', H', J', q⟩ := hsp; exact ⟨σ', H', J'.ofTry ok, q⟩
    | cont => obtain ⟨σ', H', J', q⟩ := hsp; exact ⟨σ', H', J'.ofTry ok, q⟩
end
end L2

/-! try with several clauses: the wish of a clause may lean on how many names there are. -/
namespace L2
open PySem PySem.Spec PyProof.Rows
def wLen (n : Nat) (W : WX) : WX := fun cls d σ H => σ.length = n → W cls d σ H
section
variable {X : Cx} {body : List Stmt} {h₀ : ExceptHandler} {hds : List ExceptHandler} {l : List (Value × Option Nat × Suit)} {pos : Pos} {tb : WX → TS} {Wo : WX}
theorem ps_try_len (hs : X.stack = X.env :: X.outer) (hf : X.env.frame = some X.env.locals) (hN : X.N.Nodup) (tk : Takes X Wo)
    (hb : ∀ (W : WX) (pn : List (Addr × Obj)) (xe : Value → Shared → Prop), Takes (X.tr pn xe) W → PassesOwn (model X.prog X.w) X.A X.env xe → PSs (X.tr pn xe) body (tb W))
    (hh : Hds X (h₀ :: hds) l) : PS X (.Try body (h₀ :: hds) [] [] pos) (fun D σ H => tb (wLen X.N.length (wHd X.K Wo D l)) D σ H) := by
  refine ⟨fun pins s σ H D I h => ?_⟩
  have ok := I.ok
  have hfr : X.A.frames = some (X.env :: X.outer) := by rw [ok.frames, hs]
  refine wpAny_Try_except ?_
  refine wpAny_mono ((hb (wLen X.N.length (wHd X.K Wo D l)) (X.pn ++ pins) (fun e t₁ => wpAny (model X.prog X.w) X.A (noteFrame e X.env) (fun _ t₂ => wpAny (model X.prog X.w) X.A (setFlight e none) (fun _ t₃ =>
    wpAny (model X.prog X.w) X.A (handleBy e X.env (h₀ :: hds)) (SP X pins D) X.xe t₃) X.xe t₂) X.xe t₁) (fun u s' xx => ?_) PassesOwn.looking).run [] s σ H D (I.toTry _) h) (fun f s1 hsp => ?_) (fun e s1 he => he)
  · obtain ⟨a, B, sI, pins', σ', H', cls, d, rfl, J', nb, up, sky, na, os, ag, w0⟩ := xx
    have w := w0 J'.len
    have J : Inv X pins σ' H' sI := J'.ofTry ok
    rw [hs] at sky
    show wpAny (model X.prog X.w) X.A (noteFrame (.ref a) X.env) _ _ _
    refine Sky.land Zc.steady hfr hf sky fun h3 fl3 up3 => ?_
    have J3 : Inv X pins σ' H' { s' with heap := h3 } := J.landed nb fl3.1 (up.trans up3) os ag
    obtain ⟨oe3, vs3, he3, hz3, hd3⟩ := fl3.there
    have nfr : a ∉ frs (X.env :: X.outer) := fun hm => by
      obtain ⟨_, o', e', hnf⟩ := fl3.2.2.1.mem hm
      rw [he3] at e'
      cases e'
      exact hnf _ hd3
    have nL : a ≠ X.env.locals := fun z => nfr (List.mem_filterMap.mpr ⟨X.env, List.mem_cons_self, by rw [hf, z]⟩)
    have nF : a ∉ X.fs := fun hm => by
      obtain ⟨e, he, q⟩ := List.mem_filterMap.mp hm
      exact nfr (List.mem_filterMap.mpr ⟨e, List.mem_cons_of_mem _ he, q⟩)
    have S3 := J3.suite he3 hd3 na nL nF
    have LT : PySem.W.Looks (model X.prog X.w) h3 (typeOf (.ref a)) cls := fun A Q E s k q => wpAny_typeOf_ref (k _ _ he3) (by rw [hz3.1]; exact q)
    have tst : ∀ {x : Str} {c : Value} {np : Pos} {Q : Value → Shared → Prop} {E : Value → Shared → Prop}, Names X x c → Q c { s' with heap := h3 } → wpAny (model X.prog X.w) (X.A.mark (some (.ref a))) (eval (.Name x np) X.env) Q E { s' with heap := h3 } := fun {x c np Q E} hc q => by
      obtain ⟨hg, hdbg, hm | ⟨hm, hv, hnn⟩⟩ := hc
      · exact ld_glob (X := X.suite a ((a, oe3) :: (X.pn ++ pins))) S3 hg hm q hdbg
      · exact ld_blt (X := X.suite a ((a, oe3) :: (X.pn ++ pins))) S3 hg hm hv q hnn hdbg
    have go : ∀ {hd2 : List ExceptHandler} {l2 : List (Value × Option Nat × Suit)}, Hds X hd2 l2 → wHd X.K Wo D l2 cls d σ' H' → wpAny (model X.prog X.w) X.A (handleBy (.ref a) X.env hd2) (SP X pins D) X.xe { s' with heap := h3 } := by
      intro hd2 l2 hk
      induction hk with
      | nil =>
        intro w
        refine wpAny_handleBy_nil ?_
        obtain ⟨k1, k2, k3, oe, vs, T, oT, tr, he, hz, hd, h1, hr⟩ := id fl3
        unfold PySem.passOn
        refine wpAny_bind (wpAny_field he hd h1 ?_)
        rw [if_neg (show ¬ ((Value.ref T == Value.none) = true) from by simp)]
        have fin : wpAny (model X.prog X.w) X.A (setFlight (.ref a) X.env.frame) (fun _ s4 => wpAny (model X.prog X.w) X.A (throw (.ref a) : Sem Flow) (SP X pins D) X.xe s4) X.xe { s' with heap := h3 } := by
          rw [hf]
          refine HandSPX.setFlight_upZ fl3 fun h4 hh4 up4 => wpAny_throw (tk _ _ ?_)
          exact ⟨a, B, sI, pins, σ', H', cls, d, rfl, J, nb, (up.trans up3).trans up4, .inr (.inr (by rw [hs]; exact hh4)), na, os, ag, w⟩
        first | exact wpAny_bind (wpAny_pure (wpAny_bind fin)) | exact wpAny_bind fin
      | @bare x c ts b₀ suite np pp hds2 l2 hc hsu r ih =>
        intro w
        obtain ⟨b, hb1, hyes, hno⟩ := w
        have LM := PySem.W.exm_one (M := model X.prog X.w) (J3.kIn) LT hb1
        refine wpAny_handleBy_cons (codeAny_handlers_test (tst hc (LM.here ?_))) (by intro q; cases q)
        cases b with
        | false =>
          show wpAny _ X.A (handleBy (.ref a) X.env hds2) _ _ _
          exact ih (hno rfl)
        | true =>
          refine codeAny_handlers_suite (HandSPX.lands_againZ fl3 fun h4 fl4 up4 => ?_)
          have J4 : Inv X pins σ' H' { s' with heap := h4 } := J.landed nb fl4.1 ((up.trans up3).trans up4) os ag
          obtain ⟨oe4, vs4, he4, hz4, hd4⟩ := fl4.there
          refine wpAny_mono ((hsu a oe4 cls d (X.pn ++ pins) hz4 ⟨_, hd4⟩).run [] _ _ H' _ (J4.suite he4 hd4 na nL nF) (hyes rfl a na)) (fun f s6 hsp => ?_) (fun _ _ z => False.elim z)
          cases f with
          | ret u =>
            obtain ⟨v6, σ6, H6, S6, r6, q6⟩ := hsp
            exact ⟨_, _, _, S6.unsuite ok, r6, q6⟩
          | next => obtain ⟨σ6, H6, S6, q6⟩ := hsp; exact ⟨_, _, S6.unsuite ok, q6⟩
          | brk => obtain ⟨σ6, H6, S6, q6⟩ := hsp; exact ⟨_, _, S6.unsuite ok, q6⟩
          | cont => obtain ⟨σ6, H6, S6, q6⟩ := hsp; exact ⟨_, _, S6.unsuite ok, q6⟩
      | @named x n c i ts b₀ suite np pp hds2 l2 hc hi hln hsu r ih =>
        intro w
        obtain ⟨b, hb1, hyes, hno⟩ := w
        have LM := PySem.W.exm_one (M := model X.prog X.w) (J3.kIn) LT hb1
        refine wpAny_handleBy_cons (codeAny_handlers_test (tst hc (LM.here ?_))) (by intro q; cases q)
        cases b with
        | false =>
          show wpAny _ X.A (handleBy (.ref a) X.env hds2) _ _ _
          exact ih (hno rfl)
        | true =>
          refine codeAny_handlers_suite_as (HandSPX.lands_againZ fl3 fun h4 fl4 up4 => ?_)
          have J4 : Inv X pins σ' H' { s' with heap := h4 } := J.landed nb fl4.1 ((up.trans up3).trans up4) os ag
          obtain ⟨oe4, vs4, he4, hz4, hd4⟩ := fl4.there
          refine store_ok (X := X.suite a ((a, oe4) :: (X.pn ++ pins))) (v := .ref a) (J4.suite he4 hd4 na nL nF) hN hi (.inl hln) rfl (fun s5 S5 => ?_) (.inr hln)
          refine wpAny_mono ((hsu a oe4 cls d (X.pn ++ pins) hz4 ⟨_, hd4⟩).run [] s5 _ H' _ S5 (hyes rfl a na)) (fun f s6 hsp => ?_) (fun _ _ z => False.elim z)
          have gone : ∀ {σ6 : L2.St} {H6 : Hp} {Q : Shared → Prop}, Inv (X.suite a ((a, oe4) :: (X.pn ++ pins))) [] σ6 H6 s6 → (∀ s7, Inv X pins (σ6.set i none) H6 s7 → Q s7) →
              wpAny (model X.prog X.w) X.A (do bindName X.env n .none; unbindBehindTheSuite X.env n pp) (fun _ s7 => Q s7) X.xe s6 := fun {σ6 H6 Q} S6 hq => gone_ok (S6.unsuite ok) hN hi hln hq
          cases f with
          | ret u =>
            obtain ⟨v6, σ6, H6, S6, r6, q6⟩ := hsp
            exact gone S6 fun s7 J7 => ⟨_, _, _, J7, r6, q6⟩
          | next => obtain ⟨σ6, H6, S6, q6⟩ := hsp; exact gone S6 fun s7 J7 => ⟨_, _, J7, q6⟩
          | brk => obtain ⟨σ6, H6, S6, q6⟩ := hsp; exact gone S6 fun s7 J7 => ⟨_, _, J7, q6⟩
          | cont => obtain ⟨σ6, H6, S6, q6⟩ := hsp; exact gone S6 fun s7 J7 => ⟨_, _, J7, q6⟩
    exact go hh w
  · cases f with
    | ret u =>
      obtain ⟨v, σ', H', J', r, q⟩ := hsp
      exact ⟨v, σ', H', J'.ofTry ok, r, q⟩
    | next => obtain ⟨σ', H', J', q⟩ := hsp; exact wpAny_execs_nil ⟨σ', H', J'.ofTry ok, q⟩
    | brk => obtain ⟨σ', H', J', q⟩ := hsp; exact ⟨σ', H', J'.ofTry ok, q⟩
    | cont => obtain ⟨σ', H', J', q⟩ := hsp; exact ⟨σ', H', J'.ofTry ok, q⟩
end
end L2

namespace PySem
namespace PErr
open PySem.W PySem.Calls PyProof.Rows
section
variable {prog : Program} {w : World} {M : Model} {A : Around} {E : Value → Shared → Prop} {R : Result → Shared → Prop} {h : Heap} {g : Array GenState} {d : Drawn} {t : Nat} {os : OsState}
variable {nm q : Str} {C B N : Addr} {bs : List Value} {sn : List Str} {sub : List Value} {ab : Bool} {col : Option Bool} {dd : Option Addr} {k0 k1 k2 k3 k5 : Option Value} {kw : List (Str × Value)}
theorem contB (C B : Addr) (X : String) : (Value.ref C :: .ref B :: tailE).contains (.type X) = tailE.contains (.type X) := by
  rw [List.contains_cons, tail_has]; rfl
abbrev clsO (nm q : Str) (C B N : Addr) (bs : List Value) (sn : List Str) (sub : List Value) (ab : Bool) (col : Option Bool) (dd : Option Addr) (k0 k1 k2 k3 k5 : Option Value) : Obj := excClassObj nm q C N bs (.ref B :: tailE) true sn sub ab col dd k0 k1 k2 k3 k5 "Exception.__new__"
theorem check_kw {Q : Unit → Shared → Prop} (hC : h.get? C = some (clsO nm q C B N bs sn sub ab col dd k0 k1 k2 k3 k5)) (hq : Q () ⟨h, g, d, t, os⟩) :
    wpAny M A (checkBuiltinCall "Exception.__new__" ⟨[.ref C], kw⟩) Q E ⟨h, g, d, t, os⟩ := by
  have FB := F.excBase_Exception
  have star := FB.noStar
  have hc : (Value.ref C :: .ref B :: tailE).contains (.type "Exception") = true := by rw [contB]; decide +kernel
  simp only [checkBuiltinCall, FB.newKind, FB.newSplit, FB.newRow]
  repeat (first
    | refine wpAny_loadPart_at hC ?_
    | (refine wpAny_isSubtype_exc hC ?_; rw [hc])
    | refine wpAny_staticBase_exc hC ?_
    | refine wpAny_madeBy_exc hC ?_
    | simp only [bne_self_eq_false, Bool.false_eq_true, if_false]
    | wp_step)
  exact hq
theorem new_kw (hC : h.get? C = some (clsO nm q C B N bs sn sub ab col dd k0 k1 k2 k3 k5))
    (hq : R (.ok (.ret (.ref (h.objs.size + 1)))) ⟨(h.push (kdv_tup [])).push (HandSPX.excO C h.objs.size), g, d, t, os⟩) :
    codeAny (model prog w) A (.builtin "Exception.__new__" ⟨[.ref C], kw⟩) R ⟨h, g, d, t, os⟩ := by
  have FB := F.excBase_Exception
  have ends := FB.ends
  have hc : (Value.ref C :: .ref B :: tailE).contains (.type "Exception") = true := by rw [contB]; decide +kernel
  have hcA : (Value.ref C :: .ref B :: tailE).contains (.type "AttributeError") = false := by rw [contB]; decide +kernel
  have hcN : (Value.ref C :: .ref B :: tailE).contains (.type "NameError") = false := by rw [contB]; decide +kernel
  refine codeAny_builtinAt FB.entry ?_
  unfold Builtin.«BaseException.__new__»
  refine wpAt_bind ?_
  show wpAt _ _ _ (stack >>= _) _ _ _
  refine wpAt_bind (wpAt_stack fun p below => wpAt_of_wpAny ?_)
  wp_walk
  refine wpAt_of_wpAny ?_
  rw [FB.owner]
  repeat (first
    | with_reducible refine wpAny_madeHere_exc FB.canon hC ?_
    | with_reducible refine wpAny_loadPart_at hC ?_
    | (with_reducible refine wpAny_isSubtype_exc hC ?_; first | rw [hc] | rw [hcA] | rw [hcN])
    | wp_step)
  show R _ _
  rw [Heap.size_push]
  exact hq
theorem type_kw {fI : Addr} {Q : Fin → Shared → Prop}
    (hC : h.get? C = some (clsO nm q C B N bs sn sub ab col dd k0 k1 k2 k3 k5))
    (hi : W.Looks (model prog w) h (typeLookup (.ref C) "__init__") (some (.ref fI))) (hb : ∀ self, W.Looks (model prog w) h (bindSpecial (.ref fI) self) (.ref fI, [self]))
    (hq : codeAny (model prog w) A (.call (.ref fI) ⟨[.ref (h.objs.size + 1)], kw⟩)
      (fun r s' => match r with | .ok (.ret v) => v = .none ∧ Q (.done (.ret (.ref (h.objs.size + 1)))) s' | .ok _ => False | .error e => E e s')
      ⟨(h.push (kdv_tup [])).push (HandSPX.excO C h.objs.size), g, d, t, os⟩) :
    wpAny (model prog w) A (Builtin.«type.__call__» ⟨[.ref C], kw⟩) Q E ⟨h, g, d, t, os⟩ := by
  have FB := F.excBase_Exception
  repeat (first | with_reducible refine wpAny_loadPart_at hC ?_ | with_reducible refine wpAny_madeBy_exc hC ?_ | wp_step)
  refine codeAny_call_builtin_code (Code.quiet_builtin _ FB.quiet) (check_kw hC ?_)
  refine new_kw hC ?_
  show wpAny _ _ _ _ _ _
  have k : ∀ b o, h.get? b = some o → ((h.push (kdv_tup [])).push (HandSPX.excO C h.objs.size)).get? b = some o := fun b o e => Heap.get?_push_of_some _ (Heap.get?_push_of_some _ e)
  have hC₁ := k _ _ hC
  have hget : ((h.push (kdv_tup [])).push (HandSPX.excO C h.objs.size)).get? (h.objs.size + 1) = some (HandSPX.excO C h.objs.size) := by heap_get
  have hcC : (Value.ref C :: .ref B :: tailE).contains (.ref C) = true := by simp
  have i1 := hi.keeps k
  have b1 := (hb (.ref (h.objs.size + 1))).keeps k
  unfold isInstance
  repeat (first | with_reducible refine wpAny_loadPart_at hget ?_ | (with_reducible refine wpAny_isSubtype_exc hC₁ ?_; rw [hcC]) | wp_step)
  show wpAny _ _ (typeLookup (.ref C) _) _ _ _
  refine i1.at (wpAny_holding (wpAny_bind (b1.at (wpAny_bind (wpAny_call (codeAny_mono hq fun r s' z => ?_))))))
  rcases r with e | (v | _ | _ | _) <;> first | exact z | exact z.elim | skip
  obtain ⟨rfl, z⟩ := z
  first
    | exact wpAny_pure (wpAny_pure z)
    | (wp_walk; exact z)
theorem call_kw {fI : Addr}
    (hC : h.get? C = some (clsO nm q C B N bs sn sub ab col dd k0 k1 k2 k3 k5))
    (hi : W.Looks (model prog w) h (typeLookup (.ref C) "__init__") (some (.ref fI))) (hb : ∀ self, W.Looks (model prog w) h (bindSpecial (.ref fI) self) (.ref fI, [self]))
    (hq : codeAny (model prog w) (A.under (.builtin "type.__call__" ⟨[.ref C], kw⟩)) (.call (.ref fI) ⟨[.ref (h.objs.size + 1)], kw⟩) (W.InitBack (h.objs.size + 1) R)
      ⟨(h.push (kdv_tup [])).push (HandSPX.excO C h.objs.size), g, d, t, os⟩) :
    codeAny (model prog w) A (.call (.ref C) ⟨[], kw⟩) R ⟨h, g, d, t, os⟩ := by
  have f1 := tc_lookup
  have f2 := tc_bind (.ref C)
  have hTy : (⟨h, g, d, t, os⟩ : Shared).TypeIs (.ref C) "type" := ⟨_, hC, rfl⟩
  refine codeAny_of_tree ?_
  show wpAny _ _ (callAny (.ref C) _) _ _ _
  repeat (any_goals (first | assumption | with_reducible refine wpAny_loadPart_at hC ?_ | wp_step))
  refine ⟨rfl, ?_⟩
  refine codeAny_call_builtin_at (Code.quiet_builtin _ (by decide +kernel)) entry_typeCall (wpAny_check_type_call_sub hC (type_kw hC hi hb ?_))
  exact codeAny_mono hq fun r s' z => by rcases r with e | (v | _ | _ | _) <;> exact z
end
end PErr
end PySem

/-! C(at=e).at, C one of the errors. -/

namespace PySem
namespace PErrA
open PySem.W PySem.Calls PyProof.Rows PySem.PErr
section
variable {prog : Program} {w : World} {A : Around} {R : Result → Shared → Prop} {s : Shared} {K : Frag} {mg : Str → Option Value} {C B fI : Addr} {cn q : Str}
theorem made_kw (T : Txt K mg cn q C B fI) {v : Value} (X : K.In s.heap) (hlim : s.heap.NoLimit) (hroom : A.depth + 1 < recursionLimit)
    (hq : ∀ h' tk e d, OwnMade s.heap h' e C d v → R (.ok (.ret (.ref e))) { s with heap := h', toks := tk }) : codeAny (model prog w) A (.call (.ref C) ⟨[], [("at", v)]⟩) R s := by
  obtain ⟨nm, qq, N, bs, sn, sub, ab, col, dd, k0, k1, k2, k3, k5, hC⟩ := T.base.cls
  obtain ⟨hp, g, dr, tk, os⟩ := s
  have kk : ∀ b o, hp.get? b = some o → ((hp.push (kdv_tup [])).push (HandSPX.excO C hp.objs.size)).get? b = some o := fun b o e => Heap.get?_push_of_some _ (Heap.get?_push_of_some _ e)
  have at1 : ((hp.push (kdv_tup [])).push (HandSPX.excO C hp.objs.size)).get? (hp.objs.size + 1) = some (HandSPX.excO C hp.objs.size) := by heap_get
  refine PErr.call_kw (X _ _ hC) (looks_findIn X T.iC) (fun self => bind_fn X self T.tC) ?_
  refine init_ok (s := ⟨(hp.push (kdv_tup [])).push (HandSPX.excO C hp.objs.size), g, dr, tk, os⟩) T (v := v) (fun _ _ _ _ _ _ _ _ _ _ _ _ => BindsTo.of_eq (by first | rfl | with_unfolding_all rfl)) (X.keeps kk) (hlim.keeps kk) at1 hroom ?_
  intro h' tk' dx Z
  obtain ⟨k', hx, dn, dne, hns⟩ := Z
  have old : ∀ b o, hp.get? b = some o → h'.get? b = some o := fun b o e => k' b o (Nat.ne_of_lt (Nat.lt_succ_of_lt (Heap.lt_size e))) (kk b o e)
  have z : hp.objs.size + 1 + 1 ≤ dx := by
    have q := dn
    first | (rw [Heap.size_push, Heap.size_push] at q; exact q) | exact q
  exact ⟨rfl, hq h' tk' (hp.objs.size + 1) dx ⟨old, Nat.le_succ _, ⟨_, _, hx, rfl, rfl, rfl, rfl⟩, Nat.le_trans (Nat.le_trans (Nat.le_succ _) (Nat.le_succ _)) z, dne, hns⟩⟩
end
end PErrA
end PySem
namespace L2
open PySem PySem.Spec PyProof.Rows
section
variable {X : Cx} {C B fI : Addr} {cn q : Str}
/-- C(at=e).at -/
def tKwFldA (te : TE) : TE := fun σ H Q => tCons te tNil σ H fun vs H1 => ∃ v, vs = [v] ∧ ∀ d, H1 d = none → Q v (upd H1 d (.xd [(("at" : Str), v)]))
theorem pe_kwfld_A {e : Expr} {te : TE} {p pos apos kpos : Pos} {k : Nat} (T : PySem.PErrA.Txt X.K X.mg cn q C B fI) (hr : Room k X.A) (he : PE X e te) (hg : Gl X cn) (hdb : (cn == ("__debug__" : Str)) = false)
    (hb : attributeBase (.Call (.Name cn p) [] [⟨some "at", e, kpos⟩] pos) "at" X.env (eval (.Call (.Name cn p) [] [⟨some "at", e, kpos⟩] pos) X.env) = eval (.Call (.Name cn p) [] [⟨some "at", e, kpos⟩] pos) X.env := by rfl)
    (hall : (backToKw pos (keywordEach [⟨some "at", e, kpos⟩] X.env)).all (·.1.isSome) = true := by rfl) (hks : (backToKw pos (keywordEach [⟨some "at", e, kpos⟩] X.env)).filterMap (·.1) = [("at" : Str)] := by rfl)
    (hpl : ((backTo pos (starEach [] X.env)).any (·.1) || (backToKw pos (keywordEach [⟨some "at", e, kpos⟩] X.env)).any (·.1.isNone)) = false := by rfl) :
    PE X (.Attribute (.Call (.Name cn p) [] [⟨some "at", e, kpos⟩] pos) "at" apos) (tKwFldA te) := by
  refine ⟨fun pins s σ H Q I h => ?_⟩
  refine attr_of hb (wpAny_Call_Name_kw (ld_glob I hg T.base.gC ?_ hdb))
  refine PySem.W.callWith_KW0 (h₀ := X.base) I.ok.mod.kin T.base.kC hall (thn ((pk_cons he pk_nil).run pos pins s σ H _ I h) fun us s1 hh => ?_) hpl
  obtain ⟨vs, H1, I1, r1, v, ev, q1⟩ := hh
  subst ev
  rw [hks]
  cases r1 with
  | cons rv rn =>
    rename_i v' us'
    cases rn
    refine ⟨I1.kIn, ?_⟩
    show wpAny _ _ (call (.ref C) [] [(("at" : Str), v')]) _ _ _
    have hlim := I1.nolimit
    obtain ⟨hp, g, dr, tk, os⟩ := s1
    refine wpAny_call (PySem.PErrA.made_kw T I1.kIn hlim (by have := hr.dp; omega) fun h' tk' x d M => ?_)
    obtain ⟨oe, fv, hoe, hc, hd, hdat, h1⟩ := M.obj
    have J : Inv X pins σ (upd H1 d (.xd [(("at" : Str), v)])) ⟨h', g, dr, tk', os⟩ := I1.laid (t' := tk') M.keep M.dbig ⟨_, M.ns, fun f => relO_A rv f⟩
    obtain ⟨od, ho, hl⟩ := lookIn_ns M.ns
    have l2 : PySem.W.lookIn ("at" : Str) od = some (some v') := by rw [hl]; simp
    have IA : PySem.W.InstAt h' x oe C (some od) := ⟨hoe, hc, by unfold PySem.W.notCls; rw [hdat] <;> rfl, by rw [hd]; exact ho⟩
    exact HandSPX.exc_get (s := ⟨h', g, dr, tk', os⟩) J.kIn IA T.base.ga T.base.gg T.base.exC (PySem.W.findObj_own T.base.hdC T.noN rfl l2) (handed_of rv) ⟨v, _, J.tok _, rv, q1 d (I1.hok.fresh M.dbig)⟩
end
end L2

namespace PySem
namespace PErrW
open PySem.W PySem.Calls PyProof.Rows PySem.PErr
section
variable {prog : Program} {w : World} {A : Around} {R : Result → Shared → Prop} {s : Shared} {K : Frag} {mg : Str → Option Value} {C B fI : Addr} {cn q : Str}
theorem made_kw (T : Txt K mg cn q C B fI) {v : Value} (X : K.In s.heap) (hlim : s.heap.NoLimit) (hroom : A.depth + 1 < recursionLimit)
    (hq : ∀ h' tk e d, OwnMade s.heap h' e C d v → R (.ok (.ret (.ref e))) { s with heap := h', toks := tk }) : codeAny (model prog w) A (.call (.ref C) ⟨[], [("word", v)]⟩) R s := by
  obtain ⟨nm, qq, N, bs, sn, sub, ab, col, dd, k0, k1, k2, k3, k5, hC⟩ := T.base.cls
  obtain ⟨hp, g, dr, tk, os⟩ := s
  have kk : ∀ b o, hp.get? b = some o → ((hp.push (kdv_tup [])).push (HandSPX.excO C hp.objs.size)).get? b = some o := fun b o e => Heap.get?_push_of_some _ (Heap.get?_push_of_some _ e)
  have at1 : ((hp.push (kdv_tup [])).push (HandSPX.excO C hp.objs.size)).get? (hp.objs.size + 1) = some (HandSPX.excO C hp.objs.size) := by heap_get
  refine PErr.call_kw (X _ _ hC) (looks_findIn X T.iC) (fun self => bind_fn X self T.tC) ?_
  refine init_ok (s := ⟨(hp.push (kdv_tup [])).push (HandSPX.excO C hp.objs.size), g, dr, tk, os⟩) T (v := v) (fun _ _ _ _ _ _ _ _ _ _ _ _ => BindsTo.of_eq (by first | rfl | with_unfolding_all rfl)) (X.keeps kk) (hlim.keeps kk) at1 hroom ?_
  intro h' tk' dx Z
  obtain ⟨k', hx, dn, dne, hns⟩ := Z
  have old : ∀ b o, hp.get? b = some o → h'.get? b = some o := fun b o e => k' b o (Nat.ne_of_lt (Nat.lt_succ_of_lt (Heap.lt_size e))) (kk b o e)
  have z : hp.objs.size + 1 + 1 ≤ dx := by
    have q := dn
    first | (rw [Heap.size_push, Heap.size_push] at q; exact q) | exact q
  exact ⟨rfl, hq h' tk' (hp.objs.size + 1) dx ⟨old, Nat.le_succ _, ⟨_, _, hx, rfl, rfl, rfl, rfl⟩, Nat.le_trans (Nat.le_trans (Nat.le_succ _) (Nat.le_succ _)) z, dne, hns⟩⟩
end
end PErrW
end PySem
namespace L2
open PySem PySem.Spec PyProof.Rows
section
variable {X : Cx} {C B fI : Addr} {cn q : Str}
/-- C(word=e).word -/
def tKwFldW (te : TE) : TE := fun σ H Q => tCons te tNil σ H fun vs H1 => ∃ v, vs = [v] ∧ ∀ d, H1 d = none → Q v (upd H1 d (.xd [(("word" : Str), v)]))
theorem pe_kwfld_W {e : Expr} {te : TE} {p pos apos kpos : Pos} {k : Nat} (T : PySem.PErrW.Txt X.K X.mg cn q C B fI) (hr : Room k X.A) (he : PE X e te) (hg : Gl X cn) (hdb : (cn == ("__debug__" : Str)) = false)
    (hb : attributeBase (.Call (.Name cn p) [] [⟨some "word", e, kpos⟩] pos) "word" X.env (eval (.Call (.Name cn p) [] [⟨some "word", e, kpos⟩] pos) X.env) = eval (.Call (.Name cn p) [] [⟨some "word", e, kpos⟩] pos) X.env := by rfl)
    (hall : (backToKw pos (keywordEach [⟨some "word", e, kpos⟩] X.env)).all (·.1.isSome) = true := by rfl) (hks : (backToKw pos (keywordEach [⟨some "word", e, kpos⟩] X.env)).filterMap (·.1) = [("word" : Str)] := by rfl)
    (hpl : ((backTo pos (starEach [] X.env)).any (·.1) || (backToKw pos (keywordEach [⟨some "word", e, kpos⟩] X.env)).any (·.1.isNone)) = false := by rfl) :
    PE X (.Attribute (.Call (.Name cn p) [] [⟨some "word", e, kpos⟩] pos) "word" apos) (tKwFldW te) := by
  refine ⟨fun pins s σ H Q I h => ?_⟩
  refine attr_of hb (wpAny_Call_Name_kw (ld_glob I hg T.base.gC ?_ hdb))
  refine PySem.W.callWith_KW0 (h₀ := X.base) I.ok.mod.kin T.base.kC hall (thn ((pk_cons he pk_nil).run pos pins s σ H _ I h) fun us s1 hh => ?_) hpl
  obtain ⟨vs, H1, I1, r1, v, ev, q1⟩ := hh
  subst ev
  rw [hks]
  cases r1 with
  | cons rv rn =>
    rename_i v' us'
    cases rn
    refine ⟨I1.kIn, ?_⟩
    show wpAny _ _ (call (.ref C) [] [(("word" : Str), v')]) _ _ _
    have hlim := I1.nolimit
    obtain ⟨hp, g, dr, tk, os⟩ := s1
    refine wpAny_call (PySem.PErrW.made_kw T I1.kIn hlim (by have := hr.dp; omega) fun h' tk' x d M => ?_)
    obtain ⟨oe, fv, hoe, hc, hd, hdat, h1⟩ := M.obj
    have J : Inv X pins σ (upd H1 d (.xd [(("word" : Str), v)])) ⟨h', g, dr, tk', os⟩ := I1.laid (t' := tk') M.keep M.dbig ⟨_, M.ns, fun f => relO_W rv f⟩
    obtain ⟨od, ho, hl⟩ := lookIn_ns M.ns
    have l2 : PySem.W.lookIn ("word" : Str) od = some (some v') := by rw [hl]; simp
    have IA : PySem.W.InstAt h' x oe C (some od) := ⟨hoe, hc, by unfold PySem.W.notCls; rw [hdat] <;> rfl, by rw [hd]; exact ho⟩
    exact HandSPX.exc_get (s := ⟨h', g, dr, tk', os⟩) J.kIn IA T.base.ga T.base.gg T.base.exC (PySem.W.findObj_own T.base.hdC T.noN rfl l2) (handed_of rv) ⟨v, _, J.tok _, rv, q1 d (I1.hok.fresh M.dbig)⟩
end
end L2

/-! An error whose __init__ takes nothing and does nothing. -/
namespace PySem
namespace PErr0
open PySem.W PySem.Calls PyProof.Rows PySem.PErr
def args (p1 : Pos) : Arguments := { posonlyargs := [], args := [⟨"self", none, p1⟩], vararg := none, kwonlyargs := [], kw_defaults := [], kwarg := none, defaults := [] }
def scop : Scope := { kind := .function, names := [(PySem.Str.ofString "self", .local)], isGenerator := false, isCoroutine := false, more := [] }
structure Txt (K : Frag) (mg : Str → Option Value) (x q : Str) (C B fI : Addr) : Prop where
  base : PySem.PErr.Cl K mg x C B
  iC : findIn K (.ref C) "__init__" = some (some (.ref fI))
  tC : typeIn K (.ref fI) = some (.type "function")
  fn : ∃ (oc : Value) (od : Option Addr) (doc pm : Value) (an : Option Addr) (cdv ct : Value) (osl : Array (Option Value)) (p1 q1 : Pos),
    K.lookup fI = some ⟨oc, od, .func (fnOf "__init__" q (args p1) [.Pass q1] scop .none .none doc pm an cdv ct), osl⟩ ∧ codeIn K cdv q = true
section
variable {prog : Program} {w : World} {A : Around} {R : Result → Shared → Prop} {s : Shared} {K : Frag} {mg : Str → Option Value} {C B fI : Addr} {cn q : Str}
theorem made0 (T : Txt K mg cn q C B fI) (X : K.In s.heap) (hlim : s.heap.NoLimit) (hroom : A.depth + 1 < recursionLimit)
    (hq : ∀ h' tk e t0, (∀ b o, s.heap.get? b = some o → h'.get? b = some o) → s.heap.objs.size ≤ e → h'.get? e = some (HandSPX.excO C t0) → R (.ok (.ret (.ref e))) { s with heap := h', toks := tk }) : codeAny (model prog w) A (.call (.ref C) ⟨[], []⟩) R s := by
  obtain ⟨nm, qq, N, bs, sn, sub, ab, col, dd, k0, k1, k2, k3, k5, hC⟩ := T.base.cls
  obtain ⟨oc, od, doc, pm, an, cdv, ct, osl, p1, q1, ho, hcd⟩ := T.fn
  obtain ⟨hp, g, dr, tk, os⟩ := s
  have kk : ∀ b o, hp.get? b = some o → ((hp.push (kdv_tup [])).push (HandSPX.excO C hp.objs.size)).get? b = some o := fun b o e => Heap.get?_push_of_some _ (Heap.get?_push_of_some _ e)
  have at1 : ((hp.push (kdv_tup [])).push (HandSPX.excO C hp.objs.size)).get? (hp.objs.size + 1) = some (HandSPX.excO C hp.objs.size) := by heap_get
  refine PErr.call_kw (X _ _ hC) (looks_findIn X T.iC) (fun self => bind_fn X self T.tC) ?_
  refine Att.call_fn (s := ⟨(hp.push (kdv_tup [])).push (HandSPX.excO C hp.objs.size), g, dr, tk, os⟩) (binds := [("self", .ref (hp.objs.size + 1))]) (X.keeps kk) (hlim.keeps kk) ho hcd hroom (BindsTo.of_eq (by first | rfl | with_unfolding_all rfl)) (by first | rfl | decide | with_unfolding_all rfl) (fun s₁ IC => ?_) rfl rfl rfl
  obtain ⟨h₁, tk₁, rfl⟩ := IC.toInCall.same
  have k : ∀ b o, ((hp.push (kdv_tup [])).push (HandSPX.excO C hp.objs.size)).get? b = some o → h₁.get? b = some o := IC.toInCall.keep
  show wpAny _ _ (execs _ _) _ _ _
  refine wpAny_execs_cons (wpAny_Pass (wpAny_execs_nil ⟨rfl, hq h₁ tk₁ (hp.objs.size + 1) hp.objs.size (fun b o e => k b o (kk b o e)) (Nat.le_succ _) (k _ _ at1)⟩))
end
end PErr0
end PySem
namespace L2
open PySem PySem.Spec PyProof.Rows
section
variable {X : Cx} {C B fI : Addr} {cn q : Str}
theorem pmk_0 {p pos : Pos} {k : Nat} (T : PySem.PErr0.Txt X.K X.mg cn q C B fI) (hr : Room k X.A) (hg : Gl X cn) (hdb : (cn == ("__debug__" : Str)) = false) :
    PMk X (.Call (.Name cn p) [] [] pos) (fun _ H Q => Q (.ref C) none H) := by
  intro pins s σ H Q I h
  refine wpAny_Call_Name_kw (ld_glob I hg T.base.gC ?_ hdb)
  refine PySem.W.callWith_K0 I.kIn T.base.kC ?_
  show wpAny _ _ (call (.ref C) []) _ _ _
  have hlim := I.nolimit
  have kin := I.kIn
  obtain ⟨hp, g, dr, tk, os⟩ := s
  refine wpAny_call (PySem.PErr0.made0 T kin hlim (by have := hr.dp; omega) fun h' tk' e t0 kp en hoe => ?_)
  show MkP X pins σ Q (.ref e) ⟨h', g, dr, tk', os⟩
  obtain ⟨G', g1, g2⟩ := restrict h' fun b => decide (b ≠ e)
  have gk : ∀ b, b ≠ e → G'.get? b = h'.get? b := fun b hb => g1 b (decide_eq_true hb)
  have ge : G'.get? e = none := g2 e (by simp)
  have old : ∀ b o, hp.get? b = some o → G'.get? b = some o := fun b o q => (gk b (Nat.ne_of_lt (Nat.lt_of_lt_of_le (Heap.lt_size q) en))).trans (kp b o q)
  have J : Inv X pins σ H ⟨G', g, dr, tk', os⟩ := I.kept (t' := tk') old
  refine ⟨e, _, _, ⟨G', g, dr, tk', os⟩, H, .ref C, none, rfl, J, fun b o q => ?_, ge, hoe, ⟨rfl, rfl⟩, rfl, rfl, I.hok.fresh en, rfl, I.bare, raises_own T.base.exC T.base.tyC, h⟩
  by_cases hb : b = e
  · have q' : G'.get? b = some o := q
    rw [hb, ge] at q'
    cases q'
  · exact (gk b hb).symm.trans q
def tRaise0 (C : Addr) (W : WX) : TS := fun _ σ H => W (.ref C) none σ H
theorem ps_raise_0 {W : WX} {p pos pos2 : Pos} {k : Nat} (hc : X.calm = true) (T : PySem.PErr0.Txt X.K X.mg cn q C B fI) (hr : Room k X.A) (tk : Takes X W) (hg : Gl X cn) (hdb : (cn == ("__debug__" : Str)) = false) :
    PS X (.Raise (some (.Call (.Name cn p) [] [] pos)) none pos2) (tRaise0 C W) := ps_raise hc tk (pmk_0 T hr hg hdb)
end
end L2

/-! A def that is known by its promise, called. -/
namespace L2
open PySem PySem.Spec PyProof.Rows
structure Dfn (P : Program) (w : World) (K : PySem.W.Frag) (mg : Str → Option Value) (base : Heap) (CX : CXT) (lv : Nat) (x : Str) (ps : List Str) (sp : Sp) (fa : Addr) (fd : FuncData) : Prop where
  ok : FnOk P w K mg base CX lv fa fd ps sp
  g : mg x = some (.ref fa)
  kp : PySem.W.keepIn K (.ref fa) = true
  b : Binds K fd ps []
section
variable {X : Cx} {lv : Nat} {x : Str} {ps : List Str} {sp : Sp} {fa : Addr} {fd : FuncData} {e : Expr} {es : List Expr} {t : TA} {p pos : Pos}
theorem pe_d (D : Dfn X.prog X.w X.K X.mg X.base CX0 lv x ps sp fa fd) (hr : Room lv X.A) (ha : PA X (e :: es) t) (hg : Gl X x := by rfl)
    (hdb : (x == ("__debug__" : Str)) = false := by decide) (he : starEach (e :: es) X.env = (false, eval e X.env) :: starEach es X.env := by rfl) (hpl : (backTo pos (starEach es X.env)).any (·.1) = false := by rfl) :
    PE X (.Call (.Name x p) (e :: es) [] pos) (tCall sp [] E0 t) := pe_call D.ok hr hg D.g D.kp D.b .nil pass0 ha hdb he hpl
theorem pe_d0 (D : Dfn X.prog X.w X.K X.mg X.base CX0 lv x ps sp fa fd) (hr : Room lv X.A) (hg : Gl X x := by rfl) (hdb : (x == ("__debug__" : Str)) = false := by decide) :
    PE X (.Call (.Name x p) [] [] pos) (tCall sp [] E0 tNil) := pe_call0 D.ok hr hg D.g D.kp D.b .nil pass0 hdb
theorem pe_dS {W : WX} (D : Dfn X.prog X.w X.K X.mg X.base (L2.CX X.prog X.w) lv x ps sp fa fd) (hr : Room lv X.A) (tk : Takes X W) (ha : PA X (e :: es) t) (hg : Gl X x := by rfl)
    (hdb : (x == ("__debug__" : Str)) = false := by decide) (he : starEach (e :: es) X.env = (false, eval e X.env) :: starEach es X.env := by rfl) (hpl : (backTo pos (starEach es X.env)).any (·.1) = false := by rfl) :
    PE X (.Call (.Name x p) (e :: es) [] pos) (tCallS sp (WE W) t) := pe_callS D.ok hr hg D.g D.kp D.b (fun σ => passAt tk σ) ha hdb he hpl
end
/-! ### tests whose answer is known -/
section
variable {σ : L2.St} {H : Hp} {D : Ends} {t u : TS} {i : Nat} {n j : Int}
theorem ife_yes (h0 : σ[i]? = some (some (.int n))) (e : n = j) (q : t D σ H) : tIfS (tTest (tOp rEq (tVar i) (tC (.int j)))) t u D σ H := by
  refine ⟨_, h0, rfl, _, rfl, ?_⟩
  rw [decide_eq_true (by rw [e])]
  exact iteT q
theorem ife_no (h0 : σ[i]? = some (some (.int n))) (e : n ≠ j) (q : u D σ H) : tIfS (tTest (tOp rEq (tVar i) (tC (.int j)))) t u D σ H := by
  refine ⟨_, h0, rfl, _, rfl, ?_⟩
  rw [decide_eq_false (fun z => e (V.int.inj z))]
  exact iteF q
end
end L2

namespace PySem
namespace PErr
open PySem.W PySem.Calls PyProof.Rows
section
variable {K : Frag} {mg : Str → Option Value} {x y : Str} {C B D : Addr}
theorem sub_cl (T : Cl K mg x C B) : subIn K (.ref C) (.ref D) = some (decide (C = D) || decide (B = D)) := by
  obtain ⟨nm, q, N, bs, sn, sub, ab, col, dd, k0, k1, k2, k3, k5, hC⟩ := T.cls
  have hcl : clsIn K C = some { name := nm, bases := bs, mro := mroE C B, ns := N, qualname := q, hasDict := true, slotNames := sn, subclasses := sub, abstract := ab, collection := col, hasDel := false } := by unfold clsIn; rw [hC] <;> rfl
  show mroIn K C (.ref D) = _
  unfold mroIn
  rw [hcl, Option.bind_some, if_neg (show ¬ (List.isEmpty (mroE C B) = true) from Bool.false_ne_true)]
  have e : (mroE C B).contains (.ref D) = (decide (C = D) || decide (B = D)) := by
    rw [List.contains_cons, List.contains_cons]
    have e1 : ∀ A : Addr, ((Value.ref D == Value.ref A) : Bool) = decide (A = D) := fun A => by
      by_cases h : A = D
      · subst h; simp
      · rw [decide_eq_false h]; simpa using fun z => h z.symm
    rw [e1, e1]
    have e3 : tailE.contains (.ref D) = false := by simp
    rw [e3, Bool.or_false]
  rw [e]
theorem cls_some (T : Cl K mg x C B) : (clsIn K C).isSome = true := by
  obtain ⟨nm, q, N, bs, sn, sub, ab, col, dd, k0, k1, k2, k3, k5, hC⟩ := T.cls
  unfold clsIn
  rw [hC] <;> rfl
theorem exm_of (h1 : subIn K (.ref D) (.type "BaseException") = some true) (h2 : (clsIn K D).isSome = true) (h3 : typeIn K (.ref D) = some (.type "type")) (T : Cl K mg x C B) : exmOne K (.ref C) (.ref D) = some (decide (C = D) || decide (B = D)) := by
  have e1 : (subIn K (.ref D) (.type "BaseException") == some true) = true := by rw [h1] <;> rfl
  have e2 : ((clsIn K D).isSome && typeIn K (.ref D) == some (.type "type")) = true := by rw [h2, h3] <;> rfl
  show (if (subIn K (.ref D) (.type "BaseException") == some true) = true then (if ((clsIn K D).isSome && typeIn K (.ref D) == some (.type "type")) = true then subIn K (.ref C) (.ref D) else none) else none) = _
  rw [if_pos e1, if_pos e2, sub_cl T]
/-- an error of one class, a clause that names another one of the family -/
theorem exm_cl (T : Cl K mg x C B) (U : Cl K mg y D B) (n : B ≠ D) : exmOne K (.ref C) (.ref D) = some (decide (C = D)) := by
  rw [exm_of U.exC (cls_some U) U.tyC T, decide_eq_false n, Bool.or_false]
theorem exm_base (h1 : subIn K (.ref B) (.type "BaseException") = some true) (h2 : (clsIn K B).isSome = true) (h3 : typeIn K (.ref B) = some (.type "type")) (T : Cl K mg x C B) : exmOne K (.ref C) (.ref B) = some true := by
  rw [exm_of h1 h2 h3 T, decide_eq_true rfl, Bool.or_true]
end
end PErr
end PySem

/-! f(x=a, y=b): all arguments by name. -/
namespace L2
open PySem PySem.Spec PyProof.Rows
def sel {α : Type} (is : List Nat) (xs : List α) : List α := is.filterMap fun i => xs[i]?
theorem sel_vals {vs : List V} {us : List Value} (r : Vals vs us) : ∀ is : List Nat, Vals (sel is vs) (sel is us)
  | [] => .nil
  | i :: is => by
    have key : (vs[i]? = none ∧ us[i]? = none) ∨ ∃ v u, vs[i]? = some v ∧ us[i]? = some u ∧ RelV v u := by
      clear is
      induction r generalizing i with
      | nil => exact .inl ⟨rfl, rfl⟩
      | cons h t ih =>
        cases i with
        | zero => exact .inr ⟨_, _, rfl, rfl, h⟩
        | succ i => exact ih i
    unfold sel
    rw [List.filterMap_cons, List.filterMap_cons]
    rcases key with ⟨h1, h2⟩ | ⟨v, u, h1, h2, h3⟩
    · rw [h1, h2]; exact sel_vals r is
    · rw [h1, h2]; exact .cons h3 (sel_vals r is)
def KOnly (K : PySem.W.Frag) (fd : FuncData) (ps ks : List Str) (is : List Nat) : Prop := ∀ (s : Shared) (ws : List Value), K.In s.heap → ws.length = ks.length → BindsTo s fd { pos := [], kw := ks.zip ws } (ps.zip (sel is ws))
theorem Fun.konly {K : PySem.W.Frag} {x qual : Str} {st : Stmt} {f : Addr} {fd : FuncData} {ps ks : List Str} {is : List Nat} (F : Fun K x qual st f fd)
    (h : ∀ (kV doc pm : Value) (an : Option Addr) (cdv ct : Value) (ws : List Value), ws.length = ks.length → bindArgs (PySem.W.fnOf x qual (defArgs st) (defBody st) (defScope st) .none kV doc pm an cdv ct) { pos := [], kw := ks.zip ws } = pure (ps.zip (sel is ws))) : KOnly K fd ps ks is := by
  obtain ⟨oc, od, kV, doc, pm, an, cdv, ct, osl, rfl, lk, hcd⟩ := F.ex
  intro s ws _ hl
  exact BindsTo.of_eq (h kV doc pm an cdv ct ws hl)
section
variable {X : Cx} {CX : CXT} {k : Nat} {f : Addr} {fd : FuncData} {ps ks : List Str} {sp : Sp} {E : L2.St → XK} {x : Str} {p pos : Pos} {kws : List Keyword} {tk : TA} {is : List Nat}
theorem run_kw {pins : List (Addr × Obj)} {σ : L2.St} {H : Hp} {s : Shared} {Q : VK} {ws : List Value} {zs : List V} (F : FnOk X.prog X.w X.K X.mg X.base CX k f fd ps sp) (hr : Room k X.A) (hb : KOnly X.K fd ps ks is) (hx : PassesAt CX X σ (E σ)) (I : Inv X pins σ H s) (r : Vals zs ws) (hl : zs.length = ks.length) (h : sp (sel is zs) H Q (E σ)) :
    wpAny (model X.prog X.w) X.A (call (.ref f) [] (ks.zip ws)) (EP X pins σ Q) X.xe s := by
  have r2 := sel_vals r is
  have b := hb s ws I.kIn (by rw [← r.length]; exact hl)
  refine wpAny_call (codeAny_mono (F.run X.A X.stack s H { pos := [], kw := ks.zip ws } _ _ Q (E σ) hr I.env0 b r2 h) fun r s' hq => ?_)
  rcases r with e | (_ | _ | _ | u)
  · exact hx pins H s e s' I hq
  · exact False.elim hq
  · exact False.elim hq
  · exact False.elim hq
  · exact I.after hq
def tCallKw (n : Nat) (is : List Nat) (sp : Sp) (E : L2.St → XK) (tk : TA) : TE := fun σ H Q => tk σ H fun zs H1 => zs.length = n ∧ sp (sel is zs) H1 Q (E σ)
theorem pe_kwS (F : FnOk X.prog X.w X.K X.mg X.base CX k f fd ps sp) (hr : Room k X.A) (hg : Gl X x) (hm : X.mg x = some (.ref f)) (hk : PySem.W.keepIn X.K (.ref f) = true) (hb : KOnly X.K fd ps ks is) (hx : ∀ σ, PassesAt CX X σ (E σ)) (hkw : PK X kws tk)
    (hall : (backToKw pos (keywordEach kws X.env)).all (·.1.isSome) = true := by rfl) (hks : (backToKw pos (keywordEach kws X.env)).filterMap (·.1) = ks := by rfl) (hdb : (x == ("__debug__" : Str)) = false := by decide)
    (hpl : ((backTo pos (starEach [] X.env)).any (·.1) || (backToKw pos (keywordEach kws X.env)).any (·.1.isNone)) = false := by rfl) :
    PE X (.Call (.Name x p) [] kws pos) (tCallKw ks.length is sp E tk) := by
  refine ⟨fun pins s σ H Q I h => ?_⟩
  refine wpAny_Call_Name_kw (ld_glob I hg hm ?_ hdb)
  refine PySem.W.callWith_KW0 (h₀ := X.base) I.ok.mod.kin hk hall (thn (hkw.run pos pins s σ H _ I h) fun ws s1 hh => ?_) hpl
  obtain ⟨zs, H1, I1, r1, hl, q1⟩ := hh
  rw [hks]
  exact ⟨I1.kIn, run_kw F hr hb (hx σ) I1 r1 hl q1⟩
end
end L2

namespace L2
open PySem PySem.Spec PyProof.Rows PySem.Calls
def tupIt (l : Addr) : Obj := { cls := Value.type "tuple_iterator", data := Data.fields #[Value.ref l, Value.int 0 0] }
def enumO (it : Addr) : Obj := { cls := Value.type "enumerate", data := Data.fields #[Value.none, Value.bool false, Value.ref it, rawInt 0, Value.none, Value.none] }
theorem meets_enumT (l : Addr) (items : Array Value) (n : Nat) :
  Meets (Builtin.«enumerate.__new__» { pos := [Value.type "enumerate", Value.ref l] }) fun _ R s =>
    (∃ o, s.heap.get? l = some o ∧ o.cls = .type "tuple" ∧ o.data = Data.seq items n) ∧
      R (Except.ok (Flow.ret (Value.ref (s.heap.push (tupIt l)).objs.size)))
        { s with heap := (s.heap.push (tupIt l)).push (enumO s.heap.objs.size) } := by
  refine Meets.of_wp fun prog w A R s h => ?_
  obtain ⟨hp, g, d, tk, os⟩ := s
  obtain ⟨⟨o, h1, h2, h3⟩, h⟩ := h
  have hsub := sub_enumerate
  unfold Builtin.«enumerate.__new__»
  wp_walk
  refine wpAny_stack_any fun st => wpAny_pure ?_
  have hT : ({ heap := hp, gens := g, drawn := d, toks := tk, os := os } : Shared).heap.IsTuple l items := ⟨o, h1, h2, n, h3⟩
  have fin : ∀ (it : Value), True := fun _ => trivial
  have go : ∀ {Q : Fin → Shared → Prop} {E : Value → Shared → Prop}, Q (.done (.ret (.ref (hp.push (tupIt l)).objs.size))) ⟨(hp.push (tupIt l)).push (enumO hp.objs.size), g, d, tk, os⟩ →
      wpAny (model prog w) A.in1 (do
          let __do_lift ← pyIter (.ref l)
          let __do_lift ← Builtin.SmallTypes.newRecord (Value.type "enumerate") (Builtin.SmallTypes.ownedTupleFields ++ [__do_lift, rawInt 0, Value.none, Value.none])
          ret __do_lift) Q E ⟨hp, g, d, tk, os⟩ := fun {Q E} q => by
    refine wpAny_bind (wpAny_pyIter_tuple hT ?_)
    wp_walk
    exact q
  split
  · simp only []
    split
    · refine wpAny_bind (wpAny_of_eq (show _ = pure (Value.ref l, none) from rfl) ?_)
      exact go ⟨_, rfl, h⟩
    · refine wpAny_bind (wpAny_of_eq (show _ = pure (Value.ref l, none) from rfl) ?_)
      exact go ⟨_, rfl, h⟩
  · simp only []
    split
    · refine wpAny_bind (wpAny_of_eq (show _ = pure (Value.ref l, none) from rfl) ?_)
      exact go ⟨_, rfl, h⟩
    · refine wpAny_bind (wpAny_of_eq (show _ = pure (Value.ref l, none) from rfl) ?_)
      exact go ⟨_, rfl, h⟩

theorem slotargs1 (it : Addr) : slotArgs "__next__" 0 { pos := [Value.ref it] } = pure (Value.ref it, []) := by
  first | rfl | (unfold slotArgs; simp [checkArgs])
section
variable {prog : Program} {w : World} {A : Around} {E : Value → Shared → Prop} {s : Shared} {it l : Addr} {i : Nat} {items : Array Value} {x : Value} {Q : Value → Shared → Prop}
theorem nextOf_tuple_item (hit : s.heap.IsTupleIter it l i) (hl : s.heap.IsTuple l items) (hx : items[i]? = some x)
    (hQ : ∀ h' : Heap, h'.IsTupleIter it l (i + 1) → Heap.SameBut it s.heap h' → Q x { s with heap := h' }) : wpAny (model prog w) A (Builtin.SmallTypes.nextOf (.ref it)) Q E s := by
  obtain ⟨o, ho, hc, hd⟩ := id hit
  obtain ⟨ol, hol, hcl, nl, hdl⟩ := hl
  refine wpAny_bind (wpAny_callSpecial?_slot hit.typeIs F.slot_tuple_iterator_next (wpAny_call_entry F.slot_tuple_iterator_next hit.typeIs F.entry_tuple_iterator_next ?_ (F.args_tuple_iterator_next_1 _)))
  refine wpAny_bind (wpAny_of_eq (slotargs1 it) ?_)
  refine wpAny_bind (wpAny_field ho hd rfl ?_)
  show wpAny _ _ (if _ then _ else _) _ _ _
  rw [if_neg (by exact Bool.false_ne_true)]
  refine wpAny_bind (wpAny_field ho hd rfl ?_)
  refine wpAny_bind (wpAny_seqItems hol hdl ?_)
  show wpAny _ _ (match items[i]? with | some x => _ | none => _) _ _ _
  rw [hx]
  refine wpAny_bind (wpAny_setField ho hd (by simp) (wpAny_pure ⟨x, rfl, wpAny_pure (hQ _ ⟨_, Heap.get?_update_self _ ho (Obj.isFreed_of_fields (Obj.data_mapFields hd _)), (Obj.cls_mapFields o _).trans hc, ?_⟩ (Heap.SameBut.update s.heap it _))⟩))
  rw [Obj.data_mapFields hd]
  rfl
theorem nextOf_tuple_end (hh : A.handled = none) (hit : s.heap.IsTupleIter it l i) (hl : s.heap.IsTuple l items) (hx : items[i]? = none)
    (hE : ∀ (h' : Heap) (e : Addr), Heap.ExtBut it s.heap h' → (∃ o, h'.get? e = some o ∧ o.cls = Value.type "StopIteration") → E (.ref e) { s with heap := h' }) : wpAny (model prog w) A (Builtin.SmallTypes.nextOf (.ref it)) Q E s := by
  obtain ⟨o, ho, hc, hd⟩ := id hit
  obtain ⟨ol, hol, hcl, nl, hdl⟩ := hl
  refine wpAny_bind (wpAny_callSpecial?_slot hit.typeIs F.slot_tuple_iterator_next (wpAny_call_entry F.slot_tuple_iterator_next hit.typeIs F.entry_tuple_iterator_next ?_ (F.args_tuple_iterator_next_1 _)))
  refine wpAny_bind (wpAny_of_eq (slotargs1 it) ?_)
  refine wpAny_bind (wpAny_field ho hd rfl ?_)
  show wpAny _ _ (if _ then _ else _) _ _ _
  rw [if_neg (by exact Bool.false_ne_true)]
  refine wpAny_bind (wpAny_field ho hd rfl ?_)
  refine wpAny_bind (wpAny_seqItems hol hdl ?_)
  show wpAny _ _ (match items[i]? with | some x => _ | none => _) _ _ _
  rw [hx]
  refine wpAny_bind (wpAny_rule (wpAny_bind (wpAny_setField ho hd (by simp) ?_)))
  unfold Builtin.SmallTypes.stopIteration
  wp_walk
  unfold raiseNew
  refine wpAny_bind (wpAny_handled ?_)
  rw [show A.in1.handled = none from hh]
  refine wpAny_throw ?_
  refine hE _ _ (fun b ob hb q => ?_) ⟨_, Heap.get?_push_size _ rfl, rfl⟩
  exact Heap.get?_push_of_some _ (Heap.get?_push_of_some _ ((Heap.get?_update_ne _ _ _ _ hb).trans q))
theorem draws_tup (hh : A.handled = none) (it l : Addr) (hne : l ≠ it) (items : Array Value) : Draws prog w A it [it, l] items.size (fun i v => items[i]? = some v) fun i h => h.IsTupleIter it l i ∧ h.IsTuple l items where
  live := fun _ _ st => by obtain ⟨o, ho, _⟩ := st.1; exact ⟨o, ho⟩
  frame := fun _ _ _ st hk => ⟨st.1.at fun o e => hk it (by simp) o e, by
    obtain ⟨o, h1, h2⟩ := st.2
    exact ⟨o, hk l (by simp) o h1, h2⟩⟩
  item := fun i s Q E hi st hQ => nextOf_tuple_item st.1 st.2 (Array.getElem?_eq_getElem hi) fun h' hit' hs' => hQ _ h' s.toks (Array.getElem?_eq_getElem hi) ⟨hit', by
    obtain ⟨o, h1, h2⟩ := st.2
    exact ⟨o, hs'.extBut _ _ hne h1, h2⟩⟩ hs'
  done := fun s Q E st hE => nextOf_tuple_end hh st.1 st.2 (Array.getElem?_eq_none (Nat.le_refl _)) hE
theorem draws_end (hh : A.handled = none) (it l : Addr) (hne : l ≠ it) (items : Array Value) (hx : items[i]? = none) : Draws prog w A it [it, l] 0 (fun _ _ => False) fun _ h => h.IsTupleIter it l i ∧ h.IsTuple l items where
  live := fun _ _ st => by obtain ⟨o, ho, _⟩ := st.1; exact ⟨o, ho⟩
  frame := fun _ _ _ st hk => ⟨st.1.at fun o e => hk it (by simp) o e, by
    obtain ⟨o, h1, h2⟩ := st.2
    exact ⟨o, hk l (by simp) o h1, h2⟩⟩
  item := fun i s Q E hi st hQ => absurd hi (Nat.not_lt_zero _)
  done := fun s Q E st hE => nextOf_tuple_end hh st.1 st.2 hx hE
theorem call_enumerate_tup {Q : Value → Shared → Prop} (hl : s.heap.IsTuple l items)
    (h : ∀ h' : Heap, IsEnum h' (s.heap.objs.size + 1) s.heap.objs.size 0 Value.none → h'.IsTupleIter s.heap.objs.size l 0 → h'.objs.size = s.heap.objs.size + 2 → (∀ (b : Addr) (o : Obj), s.heap.get? b = some o → h'.get? b = some o) → Q (.ref (s.heap.objs.size + 1)) { s with heap := h' }) :
    wpAny (model prog w) A (call (Value.type "enumerate") [Value.ref l]) Q E s := by
  obtain ⟨o, h1, h2, n, h3⟩ := hl
  refine callType_new F.called_enumerate (by decide) (F.typeCall_enumerate_1 _) (F.newCall_enumerate_1 _) (fun obj => F.args_object_init_2 obj _) F.entry_enumerate_new (meets_enumT l items n) ⟨⟨o, h1, h2, h3⟩, ?_⟩
  have hz := Heap.size_push s.heap (tupIt l)
  have he := Heap.get?_push_size (s.heap.push (tupIt l)) (o := enumO s.heap.objs.size) rfl
  rw [hz] at he
  show Shared.TypeIs _ _ _ ∧ _
  rw [hz]
  refine ⟨⟨_, he, rfl⟩, h _ he ⟨_, Heap.get?_push_of_some _ (Heap.get?_push_size s.heap rfl), rfl, rfl⟩ ?_ fun b o e => Heap.get?_push_of_some _ (Heap.get?_push_of_some _ e)⟩
  rw [Heap.size_push, hz]
end
def IteT (K : PySem.W.Frag) (a : Addr) : It :=
  { go := fun i H => ∃ xs x, SqT K H a xs ∧ xs[i]? = some x,
    yld := fun i H v H' => ∃ T x, v = V.ref T ∧ H T = none ∧ H' = upd H T (HO.tup [V.int i, x]) ∧ ∀ (xs : List V), SqT K H a xs → xs[i]? = some x,
    stop := fun i H => ∃ xs, SqT K H a xs ∧ xs.length ≤ i }
theorem turn_enumT {P : Program} {w : World} {K : PySem.W.Frag} {elts : List Expr} {kk : Nat} {tpos : Pos} (a e it : Addr) :
    Turn P w K (Expr.Tuple elts kk tpos) (IteT K a) [e, it] e fun i h => (∃ old, IsEnum h e it (i : Nat) old) ∧ h.IsTupleIter it a i ∧ e ≠ it where
  mem := by simp
  obj := fun i h st b hb => by
    obtain ⟨⟨old, he⟩, ⟨o, ho, hc, hd⟩, hne⟩ := st
    rcases List.mem_cons.mp hb with rfl | hb
    · exact ⟨_, he, fun v q => by cases q⟩
    · rcases List.mem_cons.mp hb with rfl | hb
      · exact ⟨o, ho, fun v q => by rw [hd] at q; cases q⟩
      · cases hb
  keep := fun i h h' st k => by
    obtain ⟨⟨old, he⟩, hit, hne⟩ := st
    exact ⟨⟨old, k e (by simp) _ he⟩, hit.at fun o q => k it (by simp) o q, hne⟩
  item := fun X hP hw hK hc i pins s σ H E I hf st hg => by
    subst hP hw hK
    obtain ⟨⟨old, he⟩, hit, hne⟩ := st
    obtain ⟨xs, x, hq, hx⟩ := hg
    obtain ⟨its, rv, p, hz⟩ := I.tuple hq
    obtain ⟨u, hu, ru⟩ := rv.get hx
    have p' : s.heap.IsTuple a its.toArray := p
    obtain ⟨oa, hoa, hca, na, hda⟩ := id p'
    have hel := Heap.lt_size he
    have hil : it < s.heap.objs.size := by obtain ⟨o, ho, _⟩ := id hit; exact Heap.lt_size ho
    have nai : a ≠ it := fun z => by
      obtain ⟨o, ho, hc, _⟩ := id hit
      rw [z, ho] at hoa
      cases hoa
      rw [hc] at hca
      exact absurd hca (by decide)
    have nae : e ≠ a := fun z => by
      rw [← z] at hoa
      rw [he] at hoa
      cases hoa
      exact absurd (show Value.type "enumerate" = Value.type "tuple" from hca) (by decide)
    have hi : i < its.toArray.size := by
      have := List.getElem?_eq_some_iff.mp hu
      obtain ⟨h, _⟩ := this
      simpa using h
    refine wpAny_pyNext_enum_itemD (draws_tup (A := X.A.in1) (I.ok.hd hc) it a nai its.toArray) he ⟨hit, p'⟩ hi hne (by simp [hne, nae]) fun x' h' tk hP ho St' hT hsz hk => ⟨_, rfl, wpAny_letOwnedTupleGo_enum ho fun h'' he' sb => ?_⟩
    have hxu : x' = u := by
      have : its[i]? = some x' := by simpa using hP
      rw [hu] at this
      cases this
      rfl
    subst hxu
    have hT2 : h''.get? s.heap.objs.size = some { cls := Value.type "tuple", data := Data.seq #[Value.int (i : Nat) tk, x'] } := (sb.right _ (Nat.ne_of_gt hel)).trans hT
    have new : ObjOk X.prog X.w (upd H s.heap.objs.size (HO.tup [V.int i, x])) h'' s.heap.objs.size (HO.tup [V.int i, x]) := ⟨by show 2 ≤ sizeLine; decide, [Value.int i tk, x'], .cons ⟨tk, rfl⟩ (.cons ru .nil), _, hT2, rfl, 0, rfl⟩
    have I1 := I.turnedNew (t' := tk + 1) (fun b ob hb q => (sb.right b fun z => hb (by simp [z])).trans (hk b ob (fun z => hb (by simp [z])) (fun z => hb (by simp [z])) q)) hf (Nat.le_refl _) new
    refine ⟨V.ref s.heap.objs.size, _, I1, rfl, ⟨_, x, rfl, I.hok.fresh (Nat.le_refl _), rfl, fun ys hy => ?_⟩, ⟨⟨x', ?_⟩, ?_, hne⟩, fun b hb => ?_⟩
    · rw [I.tuple_inj hy hq]
      exact hx
    · have e1 : ((i + 1 : Nat) : Int) = (i : Int) + 1 := by omega
      rw [e1]
      exact he'
    · exact St'.1.at fun o q => (sb.right it (Ne.symm hne)).trans q
    · have : b < s.heap.objs.size := by
        rcases List.mem_cons.mp hb with rfl | hb
        · exact hel
        · rcases List.mem_cons.mp hb with rfl | hb
          · exact hil
          · cases hb
      rw [upd_ne (Nat.ne_of_lt this)]
      exact (hf b hb).1
  done := fun X hP hw hK hc i pins s σ H E I hf st hg => by
    subst hP hw hK
    obtain ⟨⟨old, he⟩, hit, hne⟩ := st
    obtain ⟨xs, hq, hx⟩ := hg
    obtain ⟨its, rv, p, hz⟩ := I.tuple hq
    have p' : s.heap.IsTuple a its.toArray := p
    obtain ⟨oa, hoa, hca, na, hda⟩ := id p'
    obtain ⟨f0, f1, f2, f3, f4, f5⟩ := hf it (by simp)
    have nai : a ≠ it := fun z => by
      obtain ⟨o, ho, hc, _⟩ := id hit
      rw [z, ho] at hoa
      cases hoa
      rw [hc] at hca
      exact absurd hca (by decide)
    have hl := rv.length
    have hn : its.toArray[i]? = none := by
      rw [List.getElem?_toArray]
      exact List.getElem?_eq_none (by omega)
    exact wpAny_pyNext_enum_endD (draws_end (A := X.A.in1) (I.ok.hd hc) it a nai its.toArray hn) he ⟨hit, p'⟩ fun h' eb => ⟨rfl, I.turned (fun b o hb q => eb b o hb q) f0 f1 f3 f4 f5⟩
  self := fun A i s Q E st h => by
    obtain ⟨⟨old, he⟩, _⟩ := st
    exact wpAny_pyIter_enum he h
def iEnumT (K : PySem.W.Frag) (ta : TA) : TI := fun σ H R => ta σ H fun vs H1 => ∃ a xs, vs = [.ref a] ∧ SqT K H1 a xs ∧ R (IteT K a) H1
theorem pi_enumT {X : Cx} {e : Expr} {ta : TA} {p pos tpos : Pos} {elts : List Expr} {kk : Nat} (hg : Gl X "enumerate") (hm : X.mg "enumerate" = none) (ha : PA X [e] ta) (hs : starEach [e] X.env = [(false, eval e X.env)] := by rfl) :
    PI X (.Tuple elts kk tpos) (.Call (.Name "enumerate" p) [e] [] pos) (iEnumT X.K ta) := by
  refine ⟨fun pins s σ H R I h => ?_⟩
  refine PyProof.Rows.Call_ (ld_blt I hg hm PyProof.Rows.boot_enumerate (PyProof.Rows.callWith_type1 (thn (ha.run pos pins s σ H _ I h) fun us s1 hh => ?_) hs rfl) (by decide) (by decide)) rfl
  obtain ⟨vs, H1, I1, r1, a, xs, rfl, hq, q⟩ := hh
  cases r1 with
  | cons r rr =>
    cases rr
    cases r
    obtain ⟨its, rv, p', hz⟩ := I1.tuple hq
    refine call_enumerate_tup (items := its.toArray) p' fun h' he hit hsz hk => wpAny_pyIter_enum he ?_
    have I2 := I1.kept (t' := s1.toks) hk
    refine ⟨s1.heap.objs.size + 1, [s1.heap.objs.size + 1, s1.heap.objs.size], _, IteT X.K a, H1, rfl, I2, turn_enumT a (s1.heap.objs.size + 1) s1.heap.objs.size, ⟨⟨Value.none, he⟩, hit, Nat.succ_ne_self _⟩, fun b hb => ?_, q⟩
    have hle : s1.heap.objs.size ≤ b := by
      rcases List.mem_cons.mp hb with rfl | hb
      · exact Nat.le_add_right _ _
      · rcases List.mem_cons.mp hb with rfl | hb
        · exact Nat.le_refl _
        · cases hb
    exact I1.fpOk hle (I1.hok.fresh hle)
end L2

/-! A def that is called where nothing is being shown: repr may be told. -/
namespace L2
open PySem PySem.Spec PyProof.Rows
structure FnG (P : Program) (w : World) (K : PySem.W.Frag) (mg : Str → Option Value) (base : Heap) (CX : CXT) (k : Nat) (f : Addr) (fd : FuncData) (ps : List Str) (sp : Sp) : Prop where
  len : ∀ (vs : List V) (H : Hp) (Q : VK) (E : XK), sp vs H Q E → vs.length = ps.length
  run : ∀ (A : Around) (outer : List Env) (s : Shared) (H : Hp) (args : Args) (us : List Value) (vs : List V) (Q : VK) (E : XK), A.guards = some [] → Room k A → Env0 P w K mg base A outer s H → BindsTo s fd args (ps.zip us) → Vals vs us → sp vs H Q E → codeAny (model P w) A (Code.call (.ref f) args) (CR CX outer P w H s Q E) s
section
variable {CX : CXT} {P : Program} {w : World} {K : PySem.W.Frag} {mg : Str → Option Value} {base : Heap} {k : Nat} {f : Addr} {name qual : Str} {params : Arguments} {body : List Stmt} {scope : Scope} {dV kV doc pm cdv ct oc : Value} {an od : Option Addr} {osl : Array (Option Value)} {N ps : List Str} {sp : Sp}
theorem fn_ofG (lk : K.lookup f = some { cls := oc, dict := od, data := Data.func (PySem.W.fnOf name qual params body scope dV kV doc pm an cdv ct), slots := osl }) (hcd : PySem.W.codeIn K cdv qual = true) (S : FnScope N ps scope)
    (len : ∀ (vs : List V) (H : Hp) (Q : VK) (E : XK), sp vs H Q E → vs.length = ps.length)
    (hbody : ∀ (A : Around) (outer : List Env) (s : Shared) (H : Hp) (vs : List V) (Q : VK) (E : XK), A.guards = some [] → Room k (A.deeper (envOfC qual scope s.heap.objs.size f cdv)) → sp vs H Q E → ∃ t, PSs (cxOf CX P w K mg base N qual scope f cdv A outer s H E) body t ∧ t { nx := fun _ H' => Q .non H', rt := Q } (L2.start N vs) H) :
    FnG P w K mg base CX (k + 1) f (PySem.W.fnOf name qual params body scope dV kV doc pm an cdv ct) ps sp := by
  refine ⟨len, fun A outer s H args us vs Q E hg hr e0 hb r hsp => ?_⟩
  have hl := len vs H Q E hsp
  have KX := PySem.W.Frag.In.keeps e0.mod.kin fun b o e => (e0.bs b o e).1
  have lim := Heap.NoLimit.keeps e0.mod.nolimit fun b o e => (e0.bs b o e).1
  refine codeAny_call_function hr.depth (KX f _ lk) rfl S.co S.gen rfl (PySem.W.codeRec_of KX hcd) (hb (model P w) A.in1 _ _ (wpAny_newFunctionEnv_cells S.kind (fun x hy => ?_) fun env he s1 x => ?_))
  · obtain ⟨n, v⟩ := x
    rcases S.par n (List.of_mem_zip hy).1 with q | q
    · exact .inl q
    · exact .inr ⟨q, PySem.W.cellsFrom_some scope.names (s.heap.objs.size + 1) [] (.inl q)⟩
  · subst he
    refine ⟨lim.keeps x.toInCall.keep, codeAny_func ?_⟩
    obtain ⟨t, ht, hq⟩ := hbody A outer s H vs Q E hg (hr.deeper _) hsp
    have I : Inv (cxOf CX P w K mg base N qual scope f cdv A outer s H E) [] (L2.start N vs) H s1 := inv_start S hr.hd e0 hl r x
    refine wpAny_mono (ht.run [] s1 (L2.start N vs) H { nx := fun _ H' => Q .non H', rt := Q } I hq) (fun fl s' hs => ?_) fun e s' hs => hs
    have fin : ∀ {σ' : L2.St} {H' : Hp} {v : V} {u : Value}, Inv (cxOf CX P w K mg base N qual scope f cdv A outer s H E) [] σ' H' s' → RelV v u → Q v H' → CE outer P w H s Q u s' := fun {σ' H' v u} J rv q => ⟨v, H', J.os, J.bare, J.base, J.hok, rv, q⟩
    cases fl with
    | next => obtain ⟨σ', H', J, q⟩ := hs; exact fin J (v := .non) rfl q
    | brk => obtain ⟨_, _, _, q⟩ := hs; exact q.elim
    | cont => obtain ⟨_, _, _, q⟩ := hs; exact q.elim
    | ret u => obtain ⟨v, σ', H', J, rv, q⟩ := hs; exact fin J rv q
end
theorem Fun.okG {P : Program} {w : World} {K : PySem.W.Frag} {mg : Str → Option Value} {base : Heap} {x qual : Str} {st : Stmt} {f : Addr} {fd : FuncData} {N ps : List Str} {k : Nat} {sp : Sp} (F : Fun K x qual st f fd) (S : FnScope N ps (defScope st))
    (len : ∀ (vs : List V) (H : Hp) (Q : VK) (E : XK), sp vs H Q E → vs.length = ps.length)
    (hbody : ∀ (cdv : Value) (A : Around) (outer : List Env) (s : Shared) (H : Hp) (vs : List V) (Q : VK) (E : XK), A.guards = some [] → Room k (A.deeper (envOfC qual (defScope st) s.heap.objs.size f cdv)) → sp vs H Q E → ∃ t, PSs (cxOf CX0 P w K mg base N qual (defScope st) f cdv A outer s H E).nox (defBody st) t ∧ t { nx := fun _ H' => Q .non H', rt := Q } (L2.start N vs) H) :
    FnG P w K mg base CX0 (k + 1) f fd ps sp := by
  obtain ⟨oc, od, kV, doc, pm, an, cdv, ct, osl, rfl, lk, hcd⟩ := F.ex
  refine fn_ofG lk hcd S len fun A outer s H vs Q E hg hr hsp => ?_
  obtain ⟨t, h, q⟩ := hbody cdv A outer s H vs Q E hg hr hsp
  exact ⟨t, h.nox, q⟩

theorem law_callG {P : Program} {w : World} {K : PySem.W.Frag} {mg mb : Str → Option Value} {CX : CXT} {k : Nat} {fa a : Addr} {cs : List (Addr × Addr)} {fd : FuncData} {x : Str} {sp : Sp} {s₁ : Shared} {vs : List Value} {ns : List Int}
    (KX : K.In s₁.heap) (hns : s₁.heap.Ns mainGlobals mg) (hb : s₁.heap.Ns builtinsNs mb) (hbb : ∀ x : Str, x ≠ "__name__" → mb x = bootBuiltins x) (hlim : s₁.heap.NoLimit) (hg : s₁.gens = #[])
    (hT : ∀ p ∈ cs, s₁.heap.get? p.2 = some { cls := Value.none, data := Data.fields #[] }) (nT : ∀ p ∈ cs, K.lookup p.2 = none) (C : ∀ p ∈ cs, PySem.W.CodeHd s₁.heap p.1 p.2)
    (hbm : ∃ bm ob, mg "__builtins__" = some (Value.ref bm) ∧ bm ≠ builtinsNs ∧ s₁.heap.get? bm = some ob ∧ ob.cls = Value.type "module" ∧ ob.dict = some builtinsNs ∧ ob.data = Data.plain)
    (ha : s₁.heap.get? a = some { cls := Value.type "list", data := Data.seq vs.toArray }) (hi : IntsAre vs ns) (hl : ns.length ≤ sizeLine) (hr : Room k callerA)
    (F : ∀ base : Heap, K.In base → base.Ns mainGlobals mg → (∀ p ∈ cs, LamX.TabB base mg p.1 p.2) → FnG P w K mg base CX k fa fd [x] sp)
    (hbind : ∀ (s : Shared) (u : Value), BindsTo s fd { pos := [u] } [(x, u)])
    (hsp : ∀ H : Hp, (∀ p ∈ cs, H p.2 = some (HO.tbl #[])) → SqL K H a (ns.map V.int) → sp [V.ref a] H (fun v _ => v = V.bl true) fun _ _ _ => False)
    (hCX : ∀ (H : Hp) (e : Value) (s' : Shared), CX [] H s₁ (fun _ _ _ => False) e s' → False) :
    codeAny (model P w) callerA (Code.call (Value.ref fa) { pos := [Value.ref a] }) (fun r s' => r = Except.ok (Flow.ret (Value.bool true)) ∧ OldK s₁.heap s'.heap ∧ s'.os = s₁.os ∧ AllBare s'.gens) s₁ := by
  have rv := vals_ints hi
  have tabO : ∀ {b : Addr} {o : Obj}, b ∈ cs.map (·.2) → s₁.heap.get? b = some o → o = { cls := Value.none, data := Data.fields #[] } := fun {b o} hb e => by
    obtain ⟨p, hp, ep⟩ := List.mem_map.mp hb
    rw [← ep, hT p hp] at e
    cases e
    rfl
  have aT : a ∉ cs.map (·.2) := fun z => by
    have := tabO z ha
    exact absurd (congrArg Obj.data this) (by intro q; cases q)
  have core : ∀ H : Hp, (∀ p ∈ cs, H p.2 = some (HO.tbl #[])) → (∀ b, H b = none ∨ b ∈ cs.map (·.2) ∨ ∃ ob xs, H b = some (HO.frz ob (HO.lst xs))) → SqL K H a (ns.map V.int) → HOk P w H s₁.heap → (∀ b, H b ≠ none → b = a ∨ b ∈ cs.map (·.2)) → (H a ≠ none → K.lookup a = none) →
      codeAny (model P w) callerA (Code.call (Value.ref fa) { pos := [Value.ref a] }) (fun r s' => r = Except.ok (Flow.ret (Value.bool true)) ∧ OldK s₁.heap s'.heap ∧ s'.os = s₁.os ∧ AllBare s'.gens) s₁ := by
    intro H hH hO hS hok hA hK
    have noD : ∀ {b : Addr} {o : Obj}, s₁.heap.get? b = some o → (∀ vs n, o.data ≠ Data.seq vs n) → o.data ≠ Data.fields #[] → H b = none := fun {b o} e h1 h2 => by
      cases hh : H b with
      | none => rfl
      | some u =>
        rcases hA b (by rw [hh]; simp) with rfl | hb
        · rw [ha] at e
          cases e
          exact absurd rfl (h1 _ _)
        · have := tabO hb e
          subst this
          exact absurd rfl h2
    have nsK : ∀ {b : Addr} {m : Str → Option Value}, s₁.heap.Ns b m → (hidT s₁.heap H).Ns b m := fun {b m} h => by
      obtain ⟨o, es, ep, e, d, r⟩ := h
      exact ⟨o, es, ep, hidT_get e (noD e (fun vs n z => by rw [d] at z; cases z) (fun z => by rw [d] at z; cases z)), d, r⟩
    have hKb : K.In (hidT s₁.heap H) := fun b o e => by
      refine hidT_get (KX b o e) ?_
      cases hh : H b with
      | none => rfl
      | some u =>
        rcases hA b (by rw [hh]; simp) with rfl | hb
        · rw [hK (by rw [hh]; simp)] at e
          cases e
        · obtain ⟨p, hp, ep⟩ := List.mem_map.mp hb
          rw [← ep, nT p hp] at e
          cases e
    have hM : Mod K mg (hidT s₁.heap H) := ⟨hKb, nsK hns, ⟨mb, nsK hb, hbb⟩, by obtain ⟨mc, h1, h2⟩ := hlim; exact ⟨mc, nsK h1, h2⟩⟩
    have TB : ∀ p ∈ cs, LamX.TabB (hidT s₁.heap H) mg p.1 p.2 := fun p hp => by
      have hTp := hT p hp
      refine ⟨?_, ?_, fun z => ?_⟩
      · obtain ⟨o, us, file, tf, flags, tg, inF, text, tt, e1, r1, r2, r3, r⟩ := C p hp
        refine ⟨o, us, file, tf, flags, tg, inF, text, tt, hidT_get e1 (noD e1 (fun vs n z => by rw [r2] at z; cases z) (fun z => ?_)), r1, r2, r3, r⟩
        rw [r2] at z
        cases z
        cases r3
      · obtain ⟨bm, ob, b1, b2, b3, b4, b5, b6⟩ := hbm
        refine ⟨bm, ob, b1, b2, fun z => ?_, fun z => ?_, hidT_get b3 (noD b3 (fun vs n z => by rw [b6] at z; cases z) (fun z => by rw [b6] at z; cases z)), b4, b5, b6⟩
        · obtain ⟨o, es, ep, e, d, r⟩ := hns
          rw [z, e] at b3
          cases b3
          rw [b6] at d
          cases d
        · rw [z, hTp] at b3
          cases b3
          cases b4
      · obtain ⟨o, es, ep, e, d, r⟩ := hns
        rw [z, hTp] at e
        cases e
        cases d
    have e0 : Env0 P w K mg (hidT s₁.heap H) callerA [] s₁ H := ⟨rfl, hM, fun b o e => of_hidT e, Nat.le_of_eq (hidT_size s₁.heap H), trivial, fun b hb => absurd hb (by simp [frs]), hok, AllBare.of_eq hg⟩
    refine codeAny_mono ((F (hidT s₁.heap H) hKb (nsK hns) TB).run callerA [] s₁ H { pos := [Value.ref a] } [Value.ref a] [V.ref a] (fun v _ => v = V.bl true) (fun _ _ _ => False) rfl hr e0 (hbind s₁ (Value.ref a)) (.cons rfl .nil) (hsp H hH hS)) fun r s' h => ?_
    rcases r with e | (_ | _ | _ | u)
    · exact (hCX H e s' h).elim
    · exact False.elim h
    · exact False.elim h
    · exact False.elim h
    · obtain ⟨v, H', os, bare, un, hok', r', q⟩ := h
      have q' : v = V.bl true := q
      subst q'
      have ru : u = Value.bool true := r'
      subst ru
      have key : ∀ (b : Addr) (o : Obj), b ∉ cs.map (·.2) → s₁.heap.get? b = some o → s'.heap.get? b = some o := fun b o nb e => by
        cases hh : H b with
        | none => exact un.keep b o e hh (by simp [frs]) (by simp)
        | some u =>
          rcases hO b with z | z | ⟨ob, xs, z⟩
          · rw [hh] at z; cases z
          · exact absurd z nb
          · have z2 := un.frzs b ob (HO.lst xs) z
            have e1 := (hok b _ z).1
            have e2 := (hok' b _ z2).1
            rw [e] at e1
            cases e1
            exact e2
      have grown : ∀ p ∈ cs, ∃ more, s'.heap.get? p.2 = some { cls := Value.none, data := Data.fields more } := fun p hp => by
        obtain ⟨more, z⟩ := un.tbls p.2 #[] (hH p hp)
        exact ⟨_, hok' p.2 _ z⟩
      refine ⟨rfl, ⟨fun b o e => ?_, fun b o e => ?_⟩, os, bare⟩
      · by_cases hb : b ∈ cs.map (·.2)
        · obtain ⟨p, hp, rfl⟩ := List.mem_map.mp hb
          obtain ⟨more, hm⟩ := grown p hp
          have eo := tabO hb e
          subst eo
          exact .inr (.inl ⟨Heap.TableAt.isCodeTable (PySem.W.CodeHd.tab (C p hp) (hT p hp)), rfl, #[], more, rfl, by rw [Array.empty_append]; exact hm⟩)
        · exact .inl (key b o hb e)
      · by_cases hb : b ∈ cs.map (·.2)
        · obtain ⟨p, hp, rfl⟩ := List.mem_map.mp hb
          obtain ⟨more, hm⟩ := grown p hp
          exact ⟨_, hm⟩
        · exact ⟨o, key b o hb e⟩
  cases hk : K.lookup a with
  | none =>
    refine core (fun b => if b = a then some (HO.frz { cls := Value.type "list", data := Data.seq vs.toArray } (HO.lst (ns.map V.int))) else if b ∈ cs.map (·.2) then some (HO.tbl #[]) else none) (fun p hp => ?_) (fun b => ?_) (.inl (.inr ⟨_, if_pos rfl⟩)) (fun b u z => ?_) (fun b z => ?_) fun _ => hk
    · have hm : p.2 ∈ cs.map (·.2) := List.mem_map.mpr ⟨p, hp, rfl⟩
      show (if p.2 = a then _ else _) = _
      rw [if_neg (fun z => aT (by rw [← z]; exact hm)), if_pos hm]
    · by_cases h1 : b = a
      · exact .inr (.inr ⟨_, _, if_pos h1⟩)
      · by_cases h2 : b ∈ cs.map (·.2)
        · exact .inr (.inl h2)
        · exact .inl (by show (if b = a then _ else _) = _; rw [if_neg h1, if_neg h2])
    · dsimp only at z
      by_cases h1 : b = a
      · subst h1
        rw [if_pos rfl] at z
        cases z
        exact ⟨ha, by rw [List.length_map]; exact hl, vs, 0, rv, ha⟩
      · rw [if_neg h1] at z
        by_cases h2 : b ∈ cs.map (·.2)
        · rw [if_pos h2] at z
          cases z
          obtain ⟨p, hp, rfl⟩ := List.mem_map.mp h2
          exact hT p hp
        · rw [if_neg h2] at z
          cases z
    · by_cases h1 : b = a
      · exact .inl h1
      · by_cases h2 : b ∈ cs.map (·.2)
        · exact .inr h2
        · exact absurd (by show (if b = a then _ else _) = _; rw [if_neg h1, if_neg h2]) z
  | some o =>
    have e := KX a o hk
    rw [ha] at e
    cases e
    refine core (fun b => if b ∈ cs.map (·.2) then some (HO.tbl #[]) else none) (fun p hp => if_pos (List.mem_map.mpr ⟨p, hp, rfl⟩)) (fun b => ?_) (.inr ⟨_, vs.toArray, 0, hk, rfl, rfl, rfl, ?_, ?_⟩) (fun b u z => ?_) (fun b z => ?_) fun z => absurd (if_neg aT) z
    · by_cases h2 : b ∈ cs.map (·.2)
      · exact .inr (.inl h2)
      · exact .inl (if_neg h2)
    · have := rv.length
      rw [List.length_map] at this
      show vs.toArray.size ≤ _
      rw [List.size_toArray, ← this]
      exact hl
    · exact rv
    · dsimp only at z
      by_cases h2 : b ∈ cs.map (·.2)
      · rw [if_pos h2] at z
        cases z
        obtain ⟨p, hp, rfl⟩ := List.mem_map.mp h2
        exact hT p hp
      · rw [if_neg h2] at z
        cases z
    · by_cases h2 : b ∈ cs.map (·.2)
      · exact .inr h2
      · exact absurd (if_neg h2) z
/-- what is asked of the law's own def -/
def LawAtG (l : PySem.W.OpenLaw) (w : World) (K : PySem.W.Frag) (CX : CXT) (k n : Nat) (x : Str) (mg : Str → Option Value) (fa : Addr) (h : Heap) : Prop :=
  ∃ (fd : FuncData) (cs : List (Addr × Addr)) (sp : Sp), (∀ p ∈ cs, h.get? p.2 = some { cls := Value.none, data := Data.fields #[] }) ∧ (∀ p ∈ cs, K.lookup p.2 = none) ∧ (∀ p ∈ cs, PySem.W.CodeHd h p.1 p.2) ∧
    (∀ (s : Shared) (u : Value), BindsTo s fd { pos := [u] } [(x, u)]) ∧
    (∀ (H : Hp) (a : Addr) (ns : List Int), ns.length ≤ n → (∀ z ∈ ns, Builtin.Int.intBits z ≤ 1048576) → (∀ p ∈ cs, H p.2 = some (HO.tbl #[])) → SqL K H a (ns.map V.int) → sp [V.ref a] H (fun v _ => v = V.bl true) fun _ _ _ => False) ∧
    ∀ base : Heap, K.In base → base.Ns mainGlobals mg → (∀ p ∈ cs, LamX.TabB base mg p.1 p.2) → FnG l.prog w K mg base CX k fa fd [x] sp
theorem walk_ofG {l : PySem.W.OpenLaw} {n k : Nat} {q : Program} {loose : List Str} {XP : (Str → Option Value) → Heap → Prop} {YP : World → Heap → Prop} {d : DefRec} {K : Params → PySem.W.Frag} {CX : World → CXT} {x : Str}
    (hn : l.most = some n) (hn2 : n ≤ sizeLine) (hdf : d.params.defaults = []) (hr : Room k callerA) (hY : ∀ (w : World) (h : Heap), YP w h → (K w.params).In h)
    (F : ∀ (w : World) (mg : Str → Option Value) (fa : Addr) (h : Heap), YP w h → (K w.params).In h → h.Ns mainGlobals mg → mg d.name = some (Value.ref fa) → LawAtG l w (K w.params) (CX w) k n x mg fa h)
    (hCX : ∀ (w : World) (H : Hp) (s : Shared) (e : Value) (s' : Shared), CX w [] H s (fun _ _ _ => False) e s' → False) :
    PySem.W.WalkO q loose XP YP l.row.toRowW d [] fun f vs => call f vs := by
  refine Att.attach_callB hn hdf fun w s₀ s₁ mg mb fa o pm cd doc a vs ns G Y ho hd hcd hmg hobj hints hlen hbits hg => ?_
  have KX := hY w s₁.heap Y
  obtain ⟨fd, cs, sp, hT, nT, C, hb, hsp, hF⟩ := F w mg fa s₁.heap Y KX G.T.g hmg
  exact law_callG KX G.T.g G.T.b G.T.builtins G.T.nolimit hg hT nT C G.T.bmain hobj hints (Nat.le_trans hlen hn2) hr hF hb (fun H hH hS => hsp H a ns hlen hbits hH hS) fun H e s' => hCX w H s₁ e s'
end L2

/-! Pure data over the hand layer: what a reading gives, told by plain functions over PyData. -/
namespace Pd
open PySem L2 Evl

/-- what is known of the program: its written objects, the tables of code objects -/
structure PKt where
  K : PySem.W.Frag
  T : List (Addr × Str)
instance : CoeOut PKt PySem.W.Frag := ⟨PKt.K⟩
/-- there is an object, and no table -/
def Th (H : Hp) (a : Addr) : Prop := ∃ o, H a = some o ∧ ∀ ps, o ≠ .tbl ps
theorem Th.of {H : Hp} {a : Addr} {o : HO} (h : H a = some o) (n : ∀ ps, o ≠ .tbl ps) : Th H a := ⟨o, h, n⟩
theorem Th.no {H : Hp} {a : Addr} (h : H a = none) : ¬ Th H a := fun ⟨o, e, _⟩ => by rw [h] at e; cases e
theorem Th.lst {H : Hp} {a : Addr} {xs : List V} (h : H a = some (HO.lst xs)) : Th H a := ⟨HO.lst xs, h, fun ps z => HO.noConfusion z⟩
theorem Th.upd {H : Hp} {p : Addr} {o : HO} (n : ∀ ps, o ≠ .tbl ps) {a : Addr} (h : Th H a) : Th (L2.upd H p o) a := by
  by_cases e : a = p
  · subst e; exact ⟨o, L2.upd_same, n⟩
  · obtain ⟨u, h1, h2⟩ := h
    exact ⟨u, by rw [L2.upd_ne e]; exact h1, h2⟩
theorem tabs_new {T : List (Addr × Str)} {H : Hp} {p : Addr} {o : HO} (hp : H p = Option.none) (t : LamX.Tabs T H) : LamX.Tabs T (L2.upd H p o) := t.ext fun b u h => by rw [L2.upd_ne (L2.ne_of_none h hp)]; exact h
theorem tabs_mut {T : List (Addr × Str)} {H : Hp} {p : Addr} {xs : List V} {o : HO} (hp : H p = Option.some (HO.lst xs)) (t : LamX.Tabs T H) : LamX.Tabs T (L2.upd H p o) := by
  intro q hq
  obtain ⟨ps, h1, h2, h3⟩ := t q hq
  refine ⟨ps, by rw [L2.upd_ne (fun e => by rw [e, hp] at h1; cases h1)]; exact h1, h2, fun pos cv hc => ?_⟩
  obtain ⟨c, e, hc⟩ := h3 pos cv hc
  exact ⟨c, e, by rw [L2.upd_ne (fun z => by rw [z, hp] at hc; cases hc)]; exact hc⟩
/-- no table stands in it -/
def Nt (F : Hp) : Prop := ∀ a ps, F a ≠ some (HO.tbl ps)
theorem Nt.upd {F : Hp} {p : Addr} {o : HO} (h : Nt F) (n : ∀ ps, o ≠ .tbl ps) : Nt (L2.upd F p o) := fun a ps z => by
  by_cases e : a = p
  · subst e
    rw [L2.upd_same] at z
    exact n ps (Option.some.inj z)
  · rw [L2.upd_ne e] at z
    exact h a ps z
theorem Nt.lst {F : Hp} {p : Addr} {xs : List V} (h : Nt F) : Nt (L2.upd F p (HO.lst xs)) := h.upd fun ps z => by cases z
/-- a tuple that stands in F, or is written -/
def TupZ (K : PySem.W.Frag) (F : Hp) (a : Addr) (xs : List V) : Prop := F a = some (HO.tup xs) ∨ ∃ o its n, List.lookup a K = some o ∧ o.cls = Value.type "tuple" ∧ o.data = Data.seq its n ∧ its.size ≤ sizeLine ∧ Vals xs its.toList
/-- a list that is looked at alone -/
def LstZ (K : PySem.W.Frag) (F : Hp) (a : Addr) (xs : List V) : Prop := SqL K F a xs
theorem TupZ.mono {K : PySem.W.Frag} {F F' : Hp} {a : Addr} {xs : List V} (e : Ex F F') (h : TupZ K F a xs) : TupZ K F' a xs := h.imp (fun h => e _ _ h) id
theorem TupZ.sq {K : PySem.W.Frag} {F H : Hp} {a : Addr} {xs : List V} (h : TupZ K F a xs) (e : Ex F H) : SqT K H a xs := h.imp (fun h => .inl (e _ _ h)) id
theorem LstZ.mono {K : PySem.W.Frag} {F F' : Hp} {a : Addr} {xs : List V} (e : Ex F F') (h : LstZ K F a xs) : LstZ K F' a xs := by
  rcases h with (h | ⟨u, h⟩) | h
  · exact .inl (.inl (e _ _ h))
  · exact .inl (.inr ⟨u, e _ _ h⟩)
  · exact .inr h
theorem LstZ.sq {K : PySem.W.Frag} {F H : Hp} {a : Addr} {xs : List V} (h : LstZ K F a xs) (e : Ex F H) : SqL K H a xs := LstZ.mono e h
/-! ### data that stands in a heap F -/
mutual
inductive Dq (K : PKt) (F : Hp) : V → PyData → Prop
  | non : Dq K F .non .none
  | bl (b : Bool) : Dq K F (.bl b) (.bool b)
  | int (i : Int) : Dq K F (.int i) (.int i)
  | str (x : Str) : Dq K F (.str x) (.str x)
  | lst {a : Addr} {xs : List V} {ds : List PyData} : F a = some (.lst xs) → DqAll K F xs ds → Dq K F (.ref a) (.list ds)
  | tup {a : Addr} {xs : List V} {ds : List PyData} : TupZ K.K F a xs → DqAll K F xs ds → Dq K F (.ref a) (.tuple ds)
  | scr {a : Addr} {xs : List V} {ds : List PyData} : LstZ K.K F a xs → DqAll K F xs ds → Dq K F (.ref a) (.dict [(.none, .list ds)])
inductive DqAll (K : PKt) (F : Hp) : List V → List PyData → Prop
  | nil : DqAll K F [] []
  | cons {v : V} {vs : List V} {d : PyData} {ds : List PyData} : Dq K F v d → DqAll K F vs ds → DqAll K F (v :: vs) (d :: ds)
end
section
variable {K : PKt} {F F' : Hp}
mutual
theorem Dq.mono (e : Ex F F') : ∀ {v : V} {d : PyData}, Dq K F v d → Dq K F' v d
  | _, _, .non => .non
  | _, _, .bl b => .bl b
  | _, _, .int i => .int i
  | _, _, .str x => .str x
  | _, _, .lst h a => .lst (e _ _ h) (DqAll.mono e a)
  | _, _, .tup h a => .tup (h.mono e) (DqAll.mono e a)
  | _, _, .scr h a => .scr (h.mono e) (DqAll.mono e a)
theorem DqAll.mono (e : Ex F F') : ∀ {vs : List V} {ds : List PyData}, DqAll K F vs ds → DqAll K F' vs ds
  | _, _, .nil => .nil
  | _, _, .cons h t => .cons (Dq.mono e h) (DqAll.mono e t)
end
mutual
theorem Dq.dp : ∀ {v : V} {d : PyData}, Dq K F v d → d.canLay0 = true → Dp K.K F v d
  | _, _, .non, _ => .non
  | _, _, .bl b, _ => .bl b
  | _, _, .int i, _ => .int i
  | _, _, .str x, _ => .str x
  | _, _, .lst h a, e => .lst (SqL.of h) (DqAll.dp a e)
  | _, _, .tup h a, e => .tup (h.sq (Ex.refl F)) (DqAll.dp a e)
  | _, _, .scr _ _, e => by cases e
theorem DqAll.dp : ∀ {vs : List V} {ds : List PyData}, DqAll K F vs ds → PyData.canLayAll0 ds = true → DpAll K.K F vs ds
  | _, _, .nil, _ => .nil
  | _, _, .cons h t, e => by
    have e' : (_ && _) = true := e
    rw [Bool.and_eq_true] at e'
    exact .cons (Dq.dp h e'.1) (DqAll.dp t e'.2)
end
theorem Dq.dpS {v : V} {d : PyData} (h : Dq K F v d) (e : SeqAt.shaped d = true) : Dp K.K F v d := h.dp (by unfold SeqAt.shaped at e; rw [Bool.and_eq_true] at e; exact e.1)
theorem DqAll.length : ∀ {vs : List V} {ds : List PyData}, DqAll K F vs ds → vs.length = ds.length
  | _, _, .nil => rfl
  | _, _, .cons _ t => congrArg (· + 1) (DqAll.length t)
theorem DqAll.get : ∀ {vs : List V} {ds : List PyData} {i : Nat} {d : PyData}, DqAll K F vs ds → ds[i]? = some d → ∃ v, vs[i]? = some v ∧ Dq K F v d
  | _, _, _, _, .nil, e => by simp at e
  | _, _, 0, _, .cons h _, e => by simp at e; subst e; exact ⟨_, rfl, h⟩
  | _, _, i + 1, d, .cons _ t, e => by
    obtain ⟨v, h1, h2⟩ := DqAll.get (i := i) (d := d) t (by simpa using e)
    exact ⟨v, by simpa using h1, h2⟩
theorem DqAll.getv : ∀ {vs : List V} {ds : List PyData} {i : Nat} {v : V}, DqAll K F vs ds → vs[i]? = some v → ∃ d, ds[i]? = some d ∧ Dq K F v d
  | _, _, _, _, .nil, e => by simp at e
  | _, _, 0, _, .cons h _, e => by simp at e; subst e; exact ⟨_, rfl, h⟩
  | _, _, i + 1, d, .cons _ t, e => by
    obtain ⟨v, h1, h2⟩ := DqAll.getv (i := i) (v := d) t (by simpa using e)
    exact ⟨v, by simpa using h1, h2⟩
theorem DqAll.append : ∀ {vs ws : List V} {ds es : List PyData}, DqAll K F vs ds → DqAll K F ws es → DqAll K F (vs ++ ws) (ds ++ es)
  | _, _, _, _, .nil, s => s
  | _, _, _, _, .cons r t, s => .cons r (DqAll.append t s)
theorem DqAll.one {v : V} {d : PyData} (h : Dq K F v d) : DqAll K F [v] [d] := .cons h .nil
theorem DqAll.take : ∀ {vs : List V} {ds : List PyData} (n : Nat), DqAll K F vs ds → DqAll K F (vs.take n) (ds.take n)
  | _, _, 0, _ => .nil
  | _, _, _ + 1, .nil => .nil
  | _, _, n + 1, .cons r t => .cons r (DqAll.take n t)
theorem DqAll.drop : ∀ {vs : List V} {ds : List PyData} (n : Nat), DqAll K F vs ds → DqAll K F (vs.drop n) (ds.drop n)
  | _, _, 0, r => r
  | _, _, _ + 1, .nil => .nil
  | _, _, n + 1, .cons _ t => DqAll.drop n t
theorem DqAll.set {v : V} {d : PyData} (h : Dq K F v d) : ∀ {vs : List V} {ds : List PyData} (n : Nat), DqAll K F vs ds → DqAll K F (vs.set n v) (ds.set n d)
  | _, _, _, .nil => .nil
  | _, _, 0, .cons _ t => .cons h t
  | _, _, n + 1, .cons r t => .cons r (DqAll.set h n t)
theorem DqAll.reverse {vs : List V} {ds : List PyData} (h : DqAll K F vs ds) : DqAll K F vs.reverse ds.reverse := by
  induction ds generalizing vs with
  | nil => cases h; exact .nil
  | cons d ds ih =>
    cases h with
    | cons r t =>
      rw [List.reverse_cons, List.reverse_cons]
      exact (ih t).append (.one r)
theorem DqAll.rep {vs : List V} {ds : List PyData} (h : DqAll K F vs ds) : ∀ k : Nat, DqAll K F (List.replicate k vs).flatten (List.replicate k ds).flatten
  | 0 => .nil
  | k + 1 => by
    rw [List.replicate_succ, List.replicate_succ, List.flatten_cons, List.flatten_cons]
    exact h.append (DqAll.rep h k)
end

/-! ### slots -/
/-- what a name of the def holds: nothing known; data that nobody changes any more; a list of its own (orig: the very one that the def was handed) -/
inductive Sl where
  | no
  | fro (d : PyData)
  | own (orig : Bool) (ds : List PyData)
abbrev Rho := List Sl

structure RS (K : PKt) (F H : Hp) (σ : L2.St) (ρ : Rho) : Prop where
  len : ρ.length = σ.length
  tab : LamX.Tabs K.T H
  nt : Nt F
  ex : Ex F H
  fro : ∀ (i : Nat) (d : PyData), ρ[i]? = some (.fro d) → ∃ v, σ[i]? = some (some v) ∧ Dq K F v d
  own : ∀ (i : Nat) (t : Bool) (ds : List PyData), ρ[i]? = some (.own t ds) → ∃ a vs, σ[i]? = some (some (.ref a)) ∧ F a = none ∧ H a = some (.lst vs) ∧ DqAll K F vs ds
  apart : ∀ (i j : Nat) (t u : Bool) (ds es : List PyData) (a : Addr), i ≠ j → ρ[i]? = some (.own t ds) → ρ[j]? = some (.own u es) → σ[i]? = some (some (.ref a)) → σ[j]? = some (some (.ref a)) → False
def Ow (σ : L2.St) (ρ : Rho) (a : Addr) : Prop := ∃ (i : Nat) (t : Bool) (ds : List PyData), ρ[i]? = some (.own t ds) ∧ σ[i]? = some (some (.ref a))

structure Go (T : List (Addr × Str)) (O : Addr → Prop) (F H F' H' : Hp) : Prop where
  fr : Ex F F'
  ex : Ex F' H'
  keep : ∀ a o, H a = some o → (∀ ps, o ≠ .tbl ps) → ¬ O a → H' a = some o
  low : ∀ a, F a = none → Th H a → ¬ O a → F' a = none
  tab : LamX.Tabs T H → LamX.Tabs T H'
  nt : Nt F → Nt F'
section
variable {T : List (Addr × Str)} {O O1 : Addr → Prop} {F H F1 H1 F2 H2 : Hp}
theorem Go.refl (e : Ex F H) : Go T O F H F H := ⟨Ex.refl F, e, fun _ _ h _ _ => h, fun _ h _ _ => h, id, id⟩
theorem Go.thr (a : Go T O F H F1 H1) {x : Addr} (h : Th H x) (n : ¬ O x) : Th H1 x := by
  obtain ⟨o, h1, h2⟩ := h
  exact ⟨o, a.keep x o h1 h2 n, h2⟩
theorem Go.keepL (a : Go T O F H F1 H1) {x : Addr} {xs : List V} (h : H x = some (.lst xs)) (n : ¬ O x) : H1 x = some (.lst xs) := a.keep x _ h (fun ps z => by cases z) n
theorem Go.lowL (a : Go T O F H F1 H1) {x : Addr} {xs : List V} (f : F x = none) (h : H x = some (.lst xs)) (n : ¬ O x) : F1 x = none := a.low x f (Th.lst h) n
theorem Go.trans (a : Go T O F H F1 H1) (b : Go T O1 F1 H1 F2 H2) (s : ∀ x, O1 x → O x ∨ ¬ Th H x) : Go T O F H F2 H2 := by
  have no1 : ∀ x, Th H x → ¬ O x → ¬ O1 x := fun x h1 h2 h3 => (s x h3).elim h2 fun z => z h1
  refine ⟨a.fr.trans b.fr, b.ex, fun x o h k n => ?_, fun x h1 h2 n => ?_, fun t => b.tab (a.tab t), fun h => b.nt (a.nt h)⟩
  · exact b.keep x o (a.keep x o h k n) k (no1 x ⟨o, h, k⟩ n)
  · exact b.low x (a.low x h1 h2 n) (a.thr h2 n) (no1 x h2 n)
end
/-- behind an expression -/
structure Nx (K : PKt) (σ : L2.St) (ρ ρ' : Rho) (F H F' H' : Hp) : Prop where
  rs : RS K F' H' σ ρ'
  go : Go K.T (Ow σ ρ) F H F' H'
  sub : ∀ (i : Nat) (t : Bool) (ds : List PyData), ρ'[i]? = some (.own t ds) → ∃ es, ρ[i]? = some (.own t es)
  thr : ∀ a, Th H a → Th H' a
section
variable {K : PKt} {σ : L2.St} {ρ ρ1 ρ2 : Rho} {F H F1 H1 F2 H2 : Hp}
theorem Nx.ow (n : Nx K σ ρ ρ1 F H F1 H1) {a : Addr} (h : Ow σ ρ1 a) : Ow σ ρ a := by
  obtain ⟨i, t, ds, h1, h2⟩ := h
  obtain ⟨es, h3⟩ := n.sub i t ds h1
  exact ⟨i, t, es, h3, h2⟩
theorem Nx.refl (r : RS K F H σ ρ) : Nx K σ ρ ρ F H F H := ⟨r, Go.refl r.ex, fun _ _ ds h => ⟨ds, h⟩, fun _ h => h⟩
theorem Nx.trans (a : Nx K σ ρ ρ1 F H F1 H1) (b : Nx K σ ρ1 ρ2 F1 H1 F2 H2) : Nx K σ ρ ρ2 F H F2 H2 :=
  ⟨b.rs, a.go.trans b.go fun _ h => .inl (a.ow h), fun i t ds h => by
    obtain ⟨es, h1⟩ := b.sub i t ds h
    exact a.sub i t es h1, fun x h => b.thr x (a.thr x h)⟩
theorem RS.ow_there (r : RS K F H σ ρ) {a : Addr} (h : Ow σ ρ a) : Th H a := by
  obtain ⟨i, t, ds, h1, h2⟩ := h
  obtain ⟨b, vs, e1, e2, e3, e4⟩ := r.own i t ds h1
  rw [h2] at e1; cases e1
  exact Th.lst e3
theorem RS.ow_low (r : RS K F H σ ρ) {a : Addr} (h : Ow σ ρ a) : F a = none := by
  obtain ⟨i, t, ds, h1, h2⟩ := h
  obtain ⟨b, vs, e1, e2, e3, e4⟩ := r.own i t ds h1
  rw [h2] at e1; cases e1
  exact e2
/-- a new object that is frozen at once -/
theorem RS.new (r : RS K F H σ ρ) {p : Addr} {o : HO} (hp : H p = none) (nt : ∀ ps, o ≠ .tbl ps) : Nx K σ ρ ρ F H (upd F p o) (upd H p o) := by
  have fp : F p = none := fresh_back r.ex hp
  have nOw : ∀ a, Ow σ ρ a → a ≠ p := fun a h e => Th.no hp (by rw [← e]; exact r.ow_there h)
  refine ⟨⟨r.len, tabs_new hp r.tab, r.nt.upd nt, fun a u h => ?_, fun i d h => ?_, fun i t ds h => ?_, r.apart⟩, ⟨Ex.new fp, fun a u h => ?_, fun a u h _ _ => ?_, fun a h1 h2 _ => ?_, fun t => tabs_new hp t, fun h => h.upd nt⟩, fun _ _ ds h => ⟨ds, h⟩, fun a h => h.upd nt⟩
  · by_cases e : a = p
    · subst e; rw [upd_same] at h; rw [upd_same]; exact h
    · rw [upd_ne e] at h; rw [upd_ne e]; exact r.ex a u h
  · obtain ⟨v, h1, h2⟩ := r.fro i d h
    exact ⟨v, h1, h2.mono (Ex.new fp)⟩
  · obtain ⟨a, vs, h1, h2, h3, h4⟩ := r.own i t ds h
    have ne : a ≠ p := nOw a ⟨i, t, ds, h, h1⟩
    exact ⟨a, vs, h1, by rw [upd_ne ne]; exact h2, by rw [upd_ne ne]; exact h3, h4.mono (Ex.new fp)⟩
  · by_cases e : a = p
    · subst e; rw [upd_same] at h; rw [upd_same]; exact h
    · rw [upd_ne e] at h; rw [upd_ne e]; exact r.ex a u h
  · rw [upd_ne (ne_of_none h hp)]; exact h
  · rw [upd_ne (fun e => Th.no hp (by rw [← e]; exact h2))]; exact h1
/-- a new object that stays its maker's -/
theorem RS.newOwn (r : RS K F H σ ρ) {p : Addr} {o : HO} (hp : H p = none) (nt : ∀ ps, o ≠ .tbl ps) : Nx K σ ρ ρ F H F (upd H p o) := by
  have fp : F p = none := fresh_back r.ex hp
  have nOw : ∀ a, Ow σ ρ a → a ≠ p := fun a h e => Th.no hp (by rw [← e]; exact r.ow_there h)
  refine ⟨⟨r.len, tabs_new hp r.tab, r.nt, Ex.mut r.ex fp, r.fro, fun i t ds h => ?_, r.apart⟩, ⟨Ex.refl F, Ex.mut r.ex fp, fun a u h _ _ => ?_, fun a h1 h2 _ => h1, fun t => tabs_new hp t, id⟩, fun _ _ ds h => ⟨ds, h⟩, fun a h => h.upd nt⟩
  · obtain ⟨a, vs, h1, h2, h3, h4⟩ := r.own i t ds h
    exact ⟨a, vs, h1, h2, by rw [upd_ne (nOw a ⟨i, t, ds, h, h1⟩)]; exact h3, h4⟩
  · rw [upd_ne (ne_of_none h hp)]; exact h
/-- a list that is nobody's is frozen -/
theorem RS.freeze (r : RS K F H σ ρ) {p : Addr} {o : HO} (nt : ∀ ps, o ≠ .tbl ps) (hp : H p = some o) (fp : F p = none) (no : ¬ Ow σ ρ p) : RS K (upd F p o) H σ ρ := by
  refine ⟨r.len, r.tab, r.nt.upd nt, fun a u h => ?_, fun i d h => ?_, fun i t ds h => ?_, r.apart⟩
  · by_cases e : a = p
    · subst e; rw [upd_same] at h; rw [hp]; exact h
    · rw [upd_ne e] at h; exact r.ex a u h
  · obtain ⟨v, h1, h2⟩ := r.fro i d h
    exact ⟨v, h1, h2.mono (Ex.new fp)⟩
  · obtain ⟨a, vs, h1, h2, h3, h4⟩ := r.own i t ds h
    exact ⟨a, vs, h1, by rw [upd_ne (fun e => no (by rw [← e]; exact ⟨i, t, ds, h, h1⟩))]; exact h2, h3, h4.mono (Ex.new fp)⟩
end

end Pd

namespace Pd
open PySem L2 Evl
/-! ### outcomes -/
/-- the classes of errors by number, the field that each keeps -/
structure EC where
  C : Nat → Addr
  fld : Nat → Str
inductive Ou (α : Type) where
  | ok (a : α) (ρ : Rho)
  | ex (c : Nat) (d : PyData) (ρ : Rho)
def bnd {α β : Type} (x : Option (Ou α)) (k : α → Rho → Option (Ou β)) : Option (Ou β) := match x with
  | none => none
  | some (.ok a ρ) => k a ρ
  | some (.ex c d ρ) => some (.ex c d ρ)
theorem bnd_ok {α β : Type} (a : α) (ρ : Rho) (k : α → Rho → Option (Ou β)) : bnd (some (.ok a ρ)) k = k a ρ := rfl
/-- an error of number c that keeps d -/
def Xr (K : PKt) (ec : EC) (F H : Hp) (c : Nat) (d : PyData) (cls : Value) (dd : Option Addr) : Prop := cls = .ref (ec.C c) ∧ ∃ a v, dd = some a ∧ H a = some (.xd [(ec.fld c, v)]) ∧ Dq K F v d
def Fail (K : PKt) (ec : EC) (W : WX) (σ : L2.St) (ρ : Rho) (F H : Hp) {α : Type} (o : Ou α) : Prop :=
  ∀ (c : Nat) (d : PyData) (ρ1 : Rho), o = .ex c d ρ1 → ∀ (cls : Value) (dd : Option Addr) (F1 H1 : Hp), Nx K σ ρ ρ1 F H F1 H1 → Xr K ec F1 H1 c d cls dd → W cls dd σ H1
section
variable {K : PKt} {ec : EC} {W : WX} {σ : L2.St} {ρ ρ1 ρ2 : Rho} {F H F1 H1 F2 H2 : Hp} {α β : Type}
theorem Fail.step {o : Ou α} (h : Fail K ec W σ ρ F H o) (n : Nx K σ ρ ρ1 F H F1 H1) : Fail K ec W σ ρ1 F1 H1 o := fun c d ρ2 e cls dd F2 H2 m x => h c d ρ2 e cls dd F2 H2 (n.trans m) x
theorem Fail.ex {c : Nat} {d : PyData} {ρ1 : Rho} (h : Fail K ec W σ ρ F H (.ex c d ρ1 : Ou α)) : Fail K ec W σ ρ F H (.ex c d ρ1 : Ou β) := fun c' d' ρ' e => by
  cases e
  exact h c d ρ1 rfl
theorem Fail.ok {a : α} {ρ1 : Rho} : Fail K ec W σ ρ F H (.ok a ρ1) := fun c d ρ' e => by cases e
end
abbrev DE := Rho → Option (Ou PyData)
abbrev DL := Rho → Option (Ou (List PyData))
abbrev DB := Rho → Option (Ou Bool)
def Ed (K : PKt) (ec : EC) (W : WX) (te : TE) (f : DE) : Prop := ∀ (F H : Hp) (σ : L2.St) (ρ : Rho) (o : Ou PyData), RS K F H σ ρ → f ρ = some o → ∀ Q : VK,
  (∀ d ρ', o = .ok d ρ' → ∀ v F' H', Nx K σ ρ ρ' F H F' H' → Dq K F' v d → Q v H') → Fail K ec W σ ρ F H o → te σ H Q
/-- a new list -/
def Eo (K : PKt) (ec : EC) (W : WX) (te : TE) (f : DL) : Prop := ∀ (F H : Hp) (σ : L2.St) (ρ : Rho) (o : Ou (List PyData)), RS K F H σ ρ → f ρ = some o → ∀ Q : VK,
  (∀ ds ρ', o = .ok ds ρ' → ∀ a vs F' H', Nx K σ ρ ρ' F H F' H' → ¬ Th H a → F' a = none → H' a = some (.lst vs) → DqAll K F' vs ds → Q (.ref a) H') → Fail K ec W σ ρ F H o → te σ H Q
def Et (K : PKt) (ec : EC) (W : WX) (tt : TT) (f : DB) : Prop := ∀ (F H : Hp) (σ : L2.St) (ρ : Rho) (o : Ou Bool), RS K F H σ ρ → f ρ = some o → ∀ Q : Bool → Hp → Prop,
  (∀ b ρ', o = .ok b ρ' → ∀ F' H', Nx K σ ρ ρ' F H F' H' → Q b H') → Fail K ec W σ ρ F H o → tt σ H Q
def Ea (K : PKt) (ec : EC) (W : WX) (ta : TA) (f : DL) : Prop := ∀ (F H : Hp) (σ : L2.St) (ρ : Rho) (o : Ou (List PyData)), RS K F H σ ρ → f ρ = some o → ∀ Q : List V → Hp → Prop,
  (∀ ds ρ', o = .ok ds ρ' → ∀ vs F' H', Nx K σ ρ ρ' F H F' H' → DqAll K F' vs ds → Q vs H') → Fail K ec W σ ρ F H o → ta σ H Q
section
variable {K : PKt} {ec : EC} {W : WX} {te ta tb tc : TE} {tt tu : TT} {tl : TA} {f g h : DE} {fb gb : DB} {fl gl : DL} {β : Type} {F H : Hp} {σ : L2.St} {ρ : Rho} {o : Ou β}
theorem Ed.go (hh : Ed K ec W te f) (rs : RS K F H σ ρ) {k : PyData → Rho → Option (Ou β)} (e : bnd (f ρ) k = some o) (fl : Fail K ec W σ ρ F H o) {Q : VK}
    (hk : ∀ d ρ1 v F1 H1, Nx K σ ρ ρ1 F H F1 H1 → Dq K F1 v d → k d ρ1 = some o → Fail K ec W σ ρ1 F1 H1 o → Q v H1) : te σ H Q := by
  unfold bnd at e
  cases ef : f ρ with
  | none => rw [ef] at e; cases e
  | some x =>
    rw [ef] at e
    cases x with
    | ok d ρ1 => exact hh F H σ ρ _ rs ef Q (fun d' ρ' e' v F' H' n dv => by cases e'; exact hk d ρ1 v F' H' n dv e (fl.step n)) Fail.ok
    | ex c d ρ1 => cases e; exact hh F H σ ρ _ rs ef Q (fun d' ρ' e' => by cases e') fl.ex
theorem Eo.go (hh : Eo K ec W te fl) (rs : RS K F H σ ρ) {k : List PyData → Rho → Option (Ou β)} (e : bnd (fl ρ) k = some o) (hf : Fail K ec W σ ρ F H o) {Q : VK}
    (hk : ∀ ds ρ1 a vs F1 H1, Nx K σ ρ ρ1 F H F1 H1 → ¬ Th H a → F1 a = none → H1 a = some (.lst vs) → DqAll K F1 vs ds → k ds ρ1 = some o → Fail K ec W σ ρ1 F1 H1 o → Q (.ref a) H1) : te σ H Q := by
  unfold bnd at e
  cases ef : fl ρ with
  | none => rw [ef] at e; cases e
  | some x =>
    rw [ef] at e
    cases x with
    | ok d ρ1 => exact hh F H σ ρ _ rs ef Q (fun d' ρ' e' a vs F' H' n h1 h2 h3 h4 => by cases e'; exact hk d ρ1 a vs F' H' n h1 h2 h3 h4 e (hf.step n)) Fail.ok
    | ex c d ρ1 => cases e; exact hh F H σ ρ _ rs ef Q (fun d' ρ' e' => by cases e') hf.ex
theorem Et.go (hh : Et K ec W tt fb) (rs : RS K F H σ ρ) {k : Bool → Rho → Option (Ou β)} (e : bnd (fb ρ) k = some o) (hf : Fail K ec W σ ρ F H o) {Q : Bool → Hp → Prop}
    (hk : ∀ b ρ1 F1 H1, Nx K σ ρ ρ1 F H F1 H1 → k b ρ1 = some o → Fail K ec W σ ρ1 F1 H1 o → Q b H1) : tt σ H Q := by
  unfold bnd at e
  cases ef : fb ρ with
  | none => rw [ef] at e; cases e
  | some x =>
    rw [ef] at e
    cases x with
    | ok d ρ1 => exact hh F H σ ρ _ rs ef Q (fun d' ρ' e' F' H' n => by cases e'; exact hk d ρ1 F' H' n e (hf.step n)) Fail.ok
    | ex c d ρ1 => cases e; exact hh F H σ ρ _ rs ef Q (fun d' ρ' e' => by cases e') hf.ex
theorem Ea.go (hh : Ea K ec W tl fl) (rs : RS K F H σ ρ) {k : List PyData → Rho → Option (Ou β)} (e : bnd (fl ρ) k = some o) (hf : Fail K ec W σ ρ F H o) {Q : List V → Hp → Prop}
    (hk : ∀ ds ρ1 vs F1 H1, Nx K σ ρ ρ1 F H F1 H1 → DqAll K F1 vs ds → k ds ρ1 = some o → Fail K ec W σ ρ1 F1 H1 o → Q vs H1) : tl σ H Q := by
  unfold bnd at e
  cases ef : fl ρ with
  | none => rw [ef] at e; cases e
  | some x =>
    rw [ef] at e
    cases x with
    | ok d ρ1 => exact hh F H σ ρ _ rs ef Q (fun d' ρ' e' vs F' H' n dv => by cases e'; exact hk d ρ1 vs F' H' n dv e (hf.step n)) Fail.ok
    | ex c d ρ1 => cases e; exact hh F H σ ρ _ rs ef Q (fun d' ρ' e' => by cases e') hf.ex
/-- the end of a rule: a value that stands already; a new object -/
theorem fin {d : PyData} {v : V} (rs : RS K F H σ ρ) {o : Ou PyData} (e : (some (.ok d ρ) : Option (Ou PyData)) = some o) {Q : VK} (hq : ∀ d ρ', o = .ok d ρ' → ∀ v F' H', Nx K σ ρ ρ' F H F' H' → Dq K F' v d → Q v H') (dv : Dq K F v d) : Q v H := by
  cases e
  exact hq d ρ rfl v F H (Nx.refl rs) dv
theorem finN {d : PyData} {p : Addr} {ob : HO} (nt : ∀ ps, ob ≠ .tbl ps) (rs : RS K F H σ ρ) {o : Ou PyData} (e : (some (.ok d ρ) : Option (Ou PyData)) = some o) {Q : VK} (hq : ∀ d ρ', o = .ok d ρ' → ∀ v F' H', Nx K σ ρ ρ' F H F' H' → Dq K F' v d → Q v H') (hp : H p = none) (dv : Dq K (upd F p ob) (.ref p) d) : Q (.ref p) (upd H p ob) := by
  cases e
  exact hq d ρ rfl _ _ _ (rs.new hp nt) dv
theorem step_q {ρ1 : Rho} {F1 H1 : Hp} {o : Ou PyData} {Q : VK} (n : Nx K σ ρ ρ1 F H F1 H1) (hq : ∀ d ρ', o = .ok d ρ' → ∀ v F' H', Nx K σ ρ ρ' F H F' H' → Dq K F' v d → Q v H') : ∀ d ρ', o = .ok d ρ' → ∀ v F' H', Nx K σ ρ1 ρ' F1 H1 F' H' → Dq K F' v d → Q v H' :=
  fun d ρ' e v F' H' m dv => hq d ρ' e v F' H' (n.trans m) dv
/-! ### expressions -/
def listM (f : DL) : DE := fun ρ => bnd (f ρ) fun ds ρ1 => some (.ok (.list ds) ρ1)
theorem Eo.ed (hh : Eo K ec W te fl) : Ed K ec W te (listM fl) := by
  intro F H σ ρ o r e Q q hf
  refine hh.go r e hf fun ds ρ1 a vs F1 H1 n ha fa h1 da e1 _ => ?_
  cases e1
  have no : ¬ Ow σ ρ1 a := fun w => ha (r.ow_there (n.ow w))
  have nf := Ex.new (o := HO.lst vs) fa
  refine q _ _ rfl (.ref a) (upd F1 a (.lst vs)) H1 ⟨n.rs.freeze (fun ps z => by cases z) h1 fa no, ⟨n.go.fr.trans nf, (n.rs.freeze (fun ps z => by cases z) h1 fa no).ex, n.go.keep, fun b h1 h2 h3 => ?_, n.go.tab, fun h => (n.go.nt h).lst⟩, n.sub, n.thr⟩ (.lst upd_same (da.mono nf))
  rw [upd_ne (fun e => ha (by rw [← e]; exact h2))]
  exact n.go.low b h1 h2 h3
def varM (i : Nat) : DE := fun ρ => match ρ[i]? with | some (.fro d) => some (.ok d ρ) | _ => none
theorem ed_var {i : Nat} : Ed K ec W (tVar i) (varM i) := by
  intro F H σ ρ o r e Q q hf
  unfold varM at e
  split at e
  · rename_i d0 h0
    obtain ⟨v, h1, h2⟩ := r.fro i _ h0
    exact ⟨v, h1, fin r e q h2⟩
  · cases e
/-- a name's own list, let go -/
def letM (i : Nat) : DE := fun ρ => match ρ[i]? with | some (.own _ ds) => some (.ok (.list ds) (ρ.set i (.fro (.list ds)))) | some (.fro d) => some (.ok d ρ) | _ => none
theorem ed_let {i : Nat} : Ed K ec W (tVar i) (letM i) := by
  intro F H σ ρ o r e Q q hf
  unfold letM at e
  split at e
  · rename_i t ds h0
    cases e
    obtain ⟨a, vs, h1, h2, h3, h4⟩ := r.own i t ds h0
    have hi : i < ρ.length := (List.getElem?_eq_some_iff.mp h0).1
    have nf := Ex.new (o := HO.lst vs) h2
    have ap : ∀ (j : Nat) (u : Bool) (es : List PyData) (b : Addr) , j ≠ i → ρ[j]? = some (.own u es) → σ[j]? = some (some (.ref b)) → b ≠ a := fun j u es b hj e1 e2 e3 => by
      subst e3
      exact r.apart i j t u ds es b (Ne.symm hj) h0 e1 h1 e2
    have get : ∀ {j : Nat} {s : Sl}, (ρ.set i (.fro (.list ds)))[j]? = some s → (j = i ∧ s = .fro (.list ds)) ∨ (j ≠ i ∧ ρ[j]? = some s) := fun {j s} e => by
      by_cases hj : j = i
      · subst hj
        rw [List.getElem?_set_self hi] at e
        cases e
        exact .inl ⟨rfl, rfl⟩
      · rw [List.getElem?_set_ne (Ne.symm hj)] at e
        exact .inr ⟨hj, e⟩
    refine ⟨.ref a, h1, q _ _ rfl (.ref a) (upd F a (.lst vs)) H ⟨⟨?_, r.tab, r.nt.lst, fun b u hb => ?_, fun j d hj => ?_, fun j u es hj => ?_, fun j k u w es ws b hjk e1 e2 => ?_⟩, ⟨nf, fun b u hb => ?_, fun _ _ x _ _ => x, fun b x1 x2 x3 => ?_, id, fun h => h.lst⟩, fun j u es hj => ?_, fun _ x => x⟩ (.lst upd_same (h4.mono nf))⟩
    · rw [List.length_set]; exact r.len
    · by_cases hb' : b = a
      · subst hb'; rw [upd_same] at hb; rw [h3]; exact hb
      · rw [upd_ne hb'] at hb; exact r.ex b u hb
    · rcases get hj with ⟨rfl, hd⟩ | ⟨_, hj⟩
      · cases hd
        exact ⟨.ref a, h1, .lst upd_same (h4.mono nf)⟩
      · obtain ⟨v, x1, x2⟩ := r.fro j d hj
        exact ⟨v, x1, x2.mono nf⟩
    · rcases get hj with ⟨rfl, hd⟩ | ⟨hne, hj⟩
      · cases hd
      · obtain ⟨b, ws, x1, x2, x3, x4⟩ := r.own j u es hj
        exact ⟨b, ws, x1, by rw [upd_ne (ap j u es b hne hj x1)]; exact x2, x3, x4.mono nf⟩
    · rcases get e1 with ⟨rfl, hd⟩ | ⟨_, e1⟩
      · cases hd
      · rcases get e2 with ⟨rfl, hd⟩ | ⟨_, e2⟩
        · cases hd
        · exact r.apart j k u w es ws b hjk e1 e2
    · by_cases hb' : b = a
      · subst hb'; rw [upd_same] at hb; rw [h3]; exact hb
      · rw [upd_ne hb'] at hb; exact r.ex b u hb
    · rw [upd_ne (fun e => x3 (by rw [e]; exact ⟨i, t, ds, h0, h1⟩))]; exact x1
    · rcases get hj with ⟨rfl, hd⟩ | ⟨_, hj⟩
      · cases hd
      · exact ⟨es, hj⟩
  · rename_i d0 h0
    obtain ⟨v, h1, h2⟩ := r.fro i _ h0
    exact ⟨v, h1, fin r e q h2⟩
  · cases e
def conM (d : PyData) : DE := fun ρ => some (.ok d ρ)
theorem ed_con {v : V} {d : PyData} (h : ∀ F, Dq K F v d) : Ed K ec W (tC v) (conM d) := by
  intro F H σ ρ o r e Q q hf
  exact fin r e q (h F)
theorem ed_int {i : Int} : Ed K ec W (tC (.int i)) (conM (.int i)) := ed_con fun _ => .int i
theorem ed_bl {b : Bool} : Ed K ec W (tC (.bl b)) (conM (.bool b)) := ed_con fun _ => .bl b
theorem ed_non : Ed K ec W (tC .non) (conM .none) := ed_con fun _ => .non
theorem ed_str {x : Str} : Ed K ec W (tC (.str x)) (conM (.str x)) := ed_con fun _ => .str x
/-! ### operations by values -/
def OpD (K : PKt) (r : R2) (op : PyData → PyData → Option PyData) : Prop := ∀ (F H : Hp) (v w : V) (a b d : PyData), Ex F H → Dq K F v a → Dq K F w b → op a b = some d → ∀ Q : VK,
  (∀ u, Dq K F u d → Q u H) → (∀ p ob, (∀ ps, ob ≠ .tbl ps) → H p = none → Dq K (upd F p ob) (.ref p) d → Q (.ref p) (upd H p ob)) → r v w H Q
def opM (op : PyData → PyData → Option PyData) (f g : DE) : DE := fun ρ => bnd (f ρ) fun a ρ1 => bnd (g ρ1) fun b ρ2 => (op a b).map fun d => .ok d ρ2
theorem ed_op {r : R2} {op : PyData → PyData → Option PyData} (hr : OpD K r op) (ha : Ed K ec W ta f) (hb : Ed K ec W tb g) : Ed K ec W (tOp r ta tb) (opM op f g) := by
  intro F H σ ρ o rs e Q q hf
  refine ha.go rs e hf fun a ρ1 v F1 H1 n1 dv e1 hf1 => ?_
  refine hb.go n1.rs e1 hf1 fun b ρ2 w F2 H2 n2 dw e2 hf2 => ?_
  cases eo : op a b with
  | none => rw [eo] at e2; cases e2
  | some d =>
    rw [eo] at e2
    exact hr F2 H2 v w a b d n2.rs.ex (dv.mono n2.go.fr) dw eo Q (fun u du => fin n2.rs e2 (step_q (n1.trans n2) q) du) fun p ob nt hp dp => finN nt n2.rs e2 (step_q (n1.trans n2) q) hp dp
/-- one-place -/
def UnD (K : PKt) (r : V → Hp → VK → Prop) (op : PyData → Option PyData) : Prop := ∀ (F H : Hp) (v : V) (a d : PyData), Ex F H → Dq K F v a → op a = some d → ∀ Q : VK, (∀ u, Dq K F u d → Q u H) → (∀ p ob, (∀ ps, ob ≠ .tbl ps) → H p = none → Dq K (upd F p ob) (.ref p) d → Q (.ref p) (upd H p ob)) → r v H Q
def unM (op : PyData → Option PyData) (f : DE) : DE := fun ρ => bnd (f ρ) fun a ρ1 => (op a).map fun d => .ok d ρ1
theorem ed_un {r : V → Hp → VK → Prop} {op : PyData → Option PyData} (hr : UnD K r op) (ha : Ed K ec W ta f) : Ed K ec W (tUn r ta) (unM op f) := by
  intro F H σ ρ o rs e Q q hf
  refine ha.go rs e hf fun a ρ1 v F1 H1 n1 dv e1 hf1 => ?_
  cases eo : op a with
  | none => rw [eo] at e1; cases e1
  | some d =>
    rw [eo] at e1
    exact hr F1 H1 v a d n1.rs.ex dv eo Q (fun u du => fin n1.rs e1 (step_q n1 q) du) fun p ob nt hp dp => finN nt n1.rs e1 (step_q n1 q) hp dp
/-- calls of built-ins by values -/
def CaD (K : PKt) (r : List V → Hp → VK → Prop) (op : List PyData → Option PyData) : Prop := ∀ (F H : Hp) (vs : List V) (as : List PyData) (d : PyData), Ex F H → DqAll K F vs as → op as = some d → ∀ Q : VK, (∀ u, Dq K F u d → Q u H) → (∀ p ob, (∀ ps, ob ≠ .tbl ps) → H p = none → Dq K (upd F p ob) (.ref p) d → Q (.ref p) (upd H p ob)) → r vs H Q
def caM (op : List PyData → Option PyData) (f : DL) : DE := fun ρ => bnd (f ρ) fun as ρ1 => (op as).map fun d => .ok d ρ1
theorem ed_ca {r : List V → Hp → VK → Prop} {op : List PyData → Option PyData} (hr : CaD K r op) (ha : Ea K ec W tl fl) : Ed K ec W (tCB r tl) (caM op fl) := by
  intro F H σ ρ o rs e Q q hf
  refine ha.go rs e hf fun as ρ1 vs F1 H1 n1 dv e1 hf1 => ?_
  cases eo : op as with
  | none => rw [eo] at e1; cases e1
  | some d =>
    rw [eo] at e1
    exact hr F1 H1 vs as d n1.rs.ex dv eo Q (fun u du => fin n1.rs e1 (step_q n1 q) du) fun p ob nt hp dp => finN nt n1.rs e1 (step_q n1 q) hp dp
/-! ### arguments, displays -/
def nilM : DL := fun ρ => some (.ok [] ρ)
def consM (f : DE) (g : DL) : DL := fun ρ => bnd (f ρ) fun a ρ1 => bnd (g ρ1) fun as ρ2 => some (.ok (a :: as) ρ2)
theorem ea_nil : Ea K ec W tNil nilM := by
  intro F H σ ρ o rs e Q q hf
  cases e
  exact q [] ρ rfl [] F H (Nx.refl rs) .nil
theorem ea_cons (ha : Ed K ec W ta f) (hr : Ea K ec W tl fl) : Ea K ec W (tCons ta tl) (consM f fl) := by
  intro F H σ ρ o rs e Q q hf
  refine ha.go rs e hf fun a ρ1 v F1 H1 n1 dv e1 hf1 => ?_
  refine hr.go n1.rs e1 hf1 fun as ρ2 vs F2 H2 n2 ds e2 hf2 => ?_
  cases e2
  exact q _ _ rfl _ F2 H2 (n1.trans n2) (.cons (dv.mono n2.go.fr) ds)
def tupM (f : DL) : DE := fun ρ => bnd (f ρ) fun as ρ1 => if as.length ≤ 100000 then some (.ok (.tuple as) ρ1) else none
theorem ed_tup (ha : Ea K ec W tl fl) : Ed K ec W (tTup tl) (tupM fl) := by
  intro F H σ ρ o rs e Q q hf
  refine ha.go rs e hf fun as ρ1 vs F1 H1 n1 ds e1 hf1 => ?_
  split at e1
  · rename_i hz
    refine ⟨by rw [ds.length]; exact sz_of hz, fun p hp => ?_⟩
    exact finN (fun ps z => by cases z) n1.rs e1 (step_q n1 q) hp (.tup (.inl upd_same) (ds.mono (Ex.new (fresh_back n1.rs.ex hp))))
  · cases e1
def lstM (f : DL) : DL := fun ρ => bnd (f ρ) fun as ρ1 => if as.length ≤ 100000 then some (.ok as ρ1) else none
theorem eo_lst (ha : Ea K ec W tl fl) : Eo K ec W (tLst tl) (lstM fl) := by
  intro F H σ ρ o rs e Q q hf
  refine ha.go rs e hf fun as ρ1 vs F1 H1 n1 ds e1 hf1 => ?_
  split at e1
  · rename_i hz
    cases e1
    refine ⟨by rw [ds.length]; exact sz_of hz, fun p hp => ?_⟩
    exact q _ _ rfl p vs F1 _ (n1.trans (n1.rs.newOwn hp fun ps z => by cases z)) (fun z => Th.no hp (n1.thr p z)) (fresh_back n1.rs.ex hp) upd_same ds
  · cases e1
/-! ### tests, and, or, not, if -/
def boolM (f : DE) : DB := fun ρ => bnd (f ρ) fun d ρ1 => match d with | .bool b => some (.ok b ρ1) | _ => none
theorem et_B (ha : Ed K ec W te f) : Et K ec W (tB te) (boolM f) := by
  intro F H σ ρ o rs e Q q hf
  refine ha.go rs e hf fun d ρ1 v F1 H1 n1 dv e1 hf1 => ?_
  cases dv with
  | bl b => cases e1; exact ⟨b, rfl, q _ _ rfl F1 H1 n1⟩
  | _ => cases e1
theorem et_test (ha : Ed K ec W te f) : Et K ec W (tTest te) (boolM f) := by
  intro F H σ ρ o rs e Q q hf
  refine ha.go rs e hf fun d ρ1 v F1 H1 n1 dv e1 hf1 => ?_
  cases dv with
  | bl b => cases e1; exact ⟨b, rfl, q _ _ rfl F1 H1 n1⟩
  | _ => cases e1
def andB (f g : DB) : DB := fun ρ => bnd (f ρ) fun b ρ1 => if b then g ρ1 else some (.ok false ρ1)
def orB (f g : DB) : DB := fun ρ => bnd (f ρ) fun b ρ1 => if b then some (.ok true ρ1) else g ρ1
def notB (f : DB) : DB := fun ρ => bnd (f ρ) fun b ρ1 => some (.ok (!b) ρ1)
theorem et_and (ha : Et K ec W tt fb) (hb : Et K ec W tu gb) : Et K ec W (tAnd tt tu) (andB fb gb) := by
  intro F H σ ρ o rs e Q q hf
  refine ha.go rs e hf fun b ρ1 F1 H1 n1 e1 hf1 => ?_
  cases b with
  | true => exact hb F1 H1 σ ρ1 o n1.rs e1 Q (fun b ρ' ee F' H' m => q b ρ' ee F' H' (n1.trans m)) hf1
  | false => cases e1; exact q _ _ rfl F1 H1 n1
theorem et_or (ha : Et K ec W tt fb) (hb : Et K ec W tu gb) : Et K ec W (tOr tt tu) (orB fb gb) := by
  intro F H σ ρ o rs e Q q hf
  refine ha.go rs e hf fun b ρ1 F1 H1 n1 e1 hf1 => ?_
  cases b with
  | false => exact hb F1 H1 σ ρ1 o n1.rs e1 Q (fun b ρ' ee F' H' m => q b ρ' ee F' H' (n1.trans m)) hf1
  | true => cases e1; exact q _ _ rfl F1 H1 n1
theorem et_not (ha : Et K ec W tt fb) : Et K ec W (tNot tt) (notB fb) := by
  intro F H σ ρ o rs e Q q hf
  refine ha.go rs e hf fun b ρ1 F1 H1 n1 e1 hf1 => ?_
  cases e1
  exact q _ _ rfl F1 H1 n1
/-- as values -/
def andV (f g : DE) : DE := fun ρ => bnd (f ρ) fun d ρ1 => match d with | .bool true => g ρ1 | .bool false => some (.ok (.bool false) ρ1) | _ => none
def orV (f g : DE) : DE := fun ρ => bnd (f ρ) fun d ρ1 => match d with | .bool false => g ρ1 | .bool true => some (.ok (.bool true) ρ1) | _ => none
def notV (f : DE) : DE := fun ρ => bnd (f ρ) fun d ρ1 => match d with | .bool b => some (.ok (.bool (!b)) ρ1) | _ => none
theorem ed_and (ha : Ed K ec W ta f) (hb : Ed K ec W tb g) : Ed K ec W (tAndV ta tb) (andV f g) := by
  intro F H σ ρ o rs e Q q hf
  refine ha.go rs e hf fun d ρ1 v F1 H1 n1 dv e1 hf1 => ?_
  cases dv with
  | bl b =>
    cases b with
    | true => exact ⟨true, rfl, hb F1 H1 σ ρ1 o n1.rs e1 Q (step_q n1 q) hf1⟩
    | false => exact ⟨false, rfl, fin n1.rs e1 (step_q n1 q) (.bl false)⟩
  | _ => cases e1
theorem ed_or (ha : Ed K ec W ta f) (hb : Ed K ec W tb g) : Ed K ec W (tOrV ta tb) (orV f g) := by
  intro F H σ ρ o rs e Q q hf
  refine ha.go rs e hf fun d ρ1 v F1 H1 n1 dv e1 hf1 => ?_
  cases dv with
  | bl b =>
    cases b with
    | false => exact ⟨false, rfl, hb F1 H1 σ ρ1 o n1.rs e1 Q (step_q n1 q) hf1⟩
    | true => exact ⟨true, rfl, fin n1.rs e1 (step_q n1 q) (.bl true)⟩
  | _ => cases e1
theorem ed_not (ha : Ed K ec W ta f) : Ed K ec W (tNotV ta) (notV f) := by
  intro F H σ ρ o rs e Q q hf
  refine ha.go rs e hf fun d ρ1 v F1 H1 n1 dv e1 hf1 => ?_
  cases dv with
  | bl b => exact ⟨b, rfl, fin n1.rs e1 (step_q n1 q) (.bl (!b))⟩
  | _ => cases e1
def ifM (t : DB) (f g : DE) : DE := fun ρ => bnd (t ρ) fun b ρ1 => if b then f ρ1 else g ρ1
theorem ed_if (ht : Et K ec W tt fb) (ha : Ed K ec W ta f) (hb : Ed K ec W tb g) : Ed K ec W (tIf tt ta tb) (ifM fb f g) := by
  intro F H σ ρ o rs e Q q hf
  refine ht.go rs e hf fun b ρ1 F1 H1 n1 e1 hf1 => ?_
  cases b with
  | true => exact ha F1 H1 σ ρ1 o n1.rs e1 Q (step_q n1 q) hf1
  | false => exact hb F1 H1 σ ρ1 o n1.rs e1 Q (step_q n1 q) hf1
end
end Pd

namespace Pd
open PySem L2 Evl
/-! ### statements -/
structure Sx (K : PKt) (σ : L2.St) (ρ : Rho) (σ' : L2.St) (ρ' : Rho) (F H F' H' : Hp) : Prop where
  rs : RS K F' H' σ' ρ'
  go : Go K.T (Ow σ ρ) F H F' H'
  sub : ∀ (i : Nat) (t : Bool) (ds : List PyData), ρ'[i]? = some (.own t ds) → (∃ es, ρ[i]? = some (.own t es) ∧ σ'[i]? = σ[i]?) ∨ (t = false ∧ ∃ a, σ'[i]? = some (some (.ref a)) ∧ ¬ Th H a)
  thr : ∀ a, Th H a → Th H' a
  len : σ'.length = σ.length
section
variable {K : PKt} {σ σ1 σ2 : L2.St} {ρ ρ1 ρ2 : Rho} {F H F1 H1 F2 H2 : Hp}
theorem Nx.sx (n : Nx K σ ρ ρ1 F H F1 H1) : Sx K σ ρ σ ρ1 F H F1 H1 := ⟨n.rs, n.go, fun i t ds h => .inl ((n.sub i t ds h).elim fun es e => ⟨es, e, rfl⟩), n.thr, rfl⟩
theorem Sx.ow (a : Sx K σ ρ σ1 ρ1 F H F1 H1) {x : Addr} (h : Ow σ1 ρ1 x) : Ow σ ρ x ∨ ¬ Th H x := by
  obtain ⟨i, t, ds, h1, h2⟩ := h
  rcases a.sub i t ds h1 with ⟨es, e1, e2⟩ | ⟨_, b, e1, e2⟩
  · exact .inl ⟨i, t, es, e1, by rw [← e2]; exact h2⟩
  · rw [h2] at e1
    cases e1
    exact .inr e2
theorem Sx.trans (a : Sx K σ ρ σ1 ρ1 F H F1 H1) (b : Sx K σ1 ρ1 σ2 ρ2 F1 H1 F2 H2) : Sx K σ ρ σ2 ρ2 F H F2 H2 := by
  refine ⟨b.rs, a.go.trans b.go fun x h => a.ow h, fun i t ds h => ?_, fun x h => b.thr x (a.thr x h), b.len.trans a.len⟩
  rcases b.sub i t ds h with ⟨es, e1, e2⟩ | ⟨et, x, e1, e2⟩
  · rcases a.sub i t es e1 with ⟨es', e3, e4⟩ | ⟨et, x, e3, e4⟩
    · exact .inl ⟨es', e3, e2.trans e4⟩
    · exact .inr ⟨et, x, e2.trans e3, e4⟩
  · exact .inr ⟨et, x, e1, fun z => e2 (a.thr x z)⟩
end
theorem get_set {α : Type} {l : List α} {i j : Nat} {x y : α} (h : (l.set i x)[j]? = some y) : (j = i ∧ y = x ∧ i < l.length) ∨ (j ≠ i ∧ l[j]? = some y) := by
  by_cases hj : j = i
  · subst hj
    by_cases hl : j < l.length
    · rw [List.getElem?_set_self hl] at h
      cases h
      exact .inl ⟨rfl, rfl, hl⟩
    · rw [List.getElem?_eq_none (by rw [List.length_set]; omega)] at h
      cases h
  · rw [List.getElem?_set_ne (Ne.symm hj)] at h
    exact .inr ⟨hj, h⟩
section
variable {K : PKt} {σ : L2.St} {ρ : Rho} {F H : Hp}
/-- a name is stored: data -/
theorem RS.setF (r : RS K F H σ ρ) {i : Nat} {v : V} {d : PyData} (dv : Dq K F v d) : Sx K σ ρ (σ.set i (some v)) (ρ.set i (.fro d)) F H F H := by
  refine ⟨⟨by rw [List.length_set, List.length_set]; exact r.len, r.tab, r.nt, r.ex, fun j e h => ?_, fun j t ds h => ?_, fun j k t u ds es a hjk h1 h2 h3 h4 => ?_⟩, Go.refl r.ex, fun j t ds h => ?_, fun _ h => h, List.length_set ..⟩
  · rcases get_set h with ⟨rfl, e', hl⟩ | ⟨hj, h⟩
    · cases e'
      exact ⟨v, by rw [List.getElem?_set_self (by rw [← r.len]; exact hl)], dv⟩
    · rw [List.getElem?_set_ne (Ne.symm hj)]
      exact r.fro j e h
  · rcases get_set h with ⟨rfl, e', hl⟩ | ⟨hj, h⟩
    · cases e'
    · rw [List.getElem?_set_ne (Ne.symm hj)]
      exact r.own j t ds h
  · rcases get_set h1 with ⟨rfl, e', hl⟩ | ⟨hj, h1⟩
    · cases e'
    · rcases get_set h2 with ⟨rfl, e', hl⟩ | ⟨hk, h2⟩
      · cases e'
      · rw [List.getElem?_set_ne (Ne.symm hj)] at h3
        rw [List.getElem?_set_ne (Ne.symm hk)] at h4
        exact r.apart j k t u ds es a hjk h1 h2 h3 h4
  · rcases get_set h with ⟨rfl, e', hl⟩ | ⟨hj, h⟩
    · cases e'
    · exact .inl ⟨ds, h, by rw [List.getElem?_set_ne (Ne.symm hj)]⟩
/-- a name is stored: a list of its own, fresh ahead of H0 -/
theorem RS.setO (r : RS K F H σ ρ) {i : Nat} {a : Addr} {vs : List V} {ds : List PyData} (fa : F a = none) (ha : H a = some (.lst vs)) (da : DqAll K F vs ds) (no : ¬ Ow σ ρ a) : RS K F H (σ.set i (some (.ref a))) (ρ.set i (.own false ds)) := by
  refine ⟨by rw [List.length_set, List.length_set]; exact r.len, r.tab, r.nt, r.ex, fun j e h => ?_, fun j t es h => ?_, fun j k t u es ws b hjk h1 h2 h3 h4 => ?_⟩
  · rcases get_set h with ⟨rfl, e', hl⟩ | ⟨hj, h⟩
    · cases e'
    · rw [List.getElem?_set_ne (Ne.symm hj)]
      exact r.fro j e h
  · rcases get_set h with ⟨rfl, e', hl⟩ | ⟨hj, h⟩
    · cases e'
      exact ⟨a, vs, by rw [List.getElem?_set_self (by rw [← r.len]; exact hl)], fa, ha, da⟩
    · rw [List.getElem?_set_ne (Ne.symm hj)]
      exact r.own j t es h
  · have key : ∀ {j : Nat} {t : Bool} {es : List PyData}, (ρ.set i (.own false ds))[j]? = some (.own t es) → (σ.set i (some (.ref a)))[j]? = some (some (.ref b)) → (j = i ∧ b = a) ∨ (j ≠ i ∧ ρ[j]? = some (.own t es) ∧ σ[j]? = some (some (.ref b))) := fun {j t es} h1 h3 => by
      rcases get_set h1 with ⟨rfl, e', hl⟩ | ⟨hj, h1⟩
      · rw [List.getElem?_set_self (by rw [← r.len]; exact hl)] at h3
        cases h3
        exact .inl ⟨rfl, rfl⟩
      · rw [List.getElem?_set_ne (Ne.symm hj)] at h3
        exact .inr ⟨hj, h1, h3⟩
    rcases key h1 h3 with ⟨rfl, e1⟩ | ⟨hj, a1, a2⟩
    · rcases key h2 h4 with ⟨rfl, e2⟩ | ⟨hk, b1, b2⟩
      · exact hjk rfl
      · subst e1
        exact no ⟨k, u, ws, b1, b2⟩
    · rcases key h2 h4 with ⟨rfl, e2⟩ | ⟨hk, b1, b2⟩
      · subst e2
        exact no ⟨j, t, es, a1, a2⟩
      · exact r.apart j k t u es ws b hjk a1 b1 a2 b2
/-- a name's own list is changed -/
theorem RS.mut (r : RS K F H σ ρ) {i : Nat} {t : Bool} {ds es : List PyData} {a : Addr} {vs : List V} (hi : ρ[i]? = some (.own t ds)) (ha : σ[i]? = some (some (.ref a))) (dv : DqAll K F vs es) : Nx K σ ρ (ρ.set i (.own t es)) F H F (upd H a (.lst vs)) := by
  have hlt : i < ρ.length := (List.getElem?_eq_some_iff.mp hi).1
  have w : Ow σ ρ a := ⟨i, t, ds, hi, ha⟩
  have fa := r.ow_low w
  obtain ⟨a', vs', ea, _, hL, _⟩ := r.own i t ds hi
  rw [ha] at ea
  cases ea
  refine ⟨⟨by rw [List.length_set]; exact r.len, tabs_mut hL r.tab, r.nt, Ex.mut r.ex fa, fun j d h => ?_, fun j u ws h => ?_, fun j k u u' ws xs b hjk h1 h2 h3 h4 => ?_⟩, ⟨Ex.refl F, Ex.mut r.ex fa, fun b o h _ n => ?_, fun b h _ _ => h, fun t => tabs_mut hL t, id⟩, fun j u ws h => ?_, fun b h => h.upd fun ps z => by cases z⟩
  · rcases get_set h with ⟨rfl, e', hl⟩ | ⟨hj, h⟩
    · cases e'
    · exact r.fro j d h
  · rcases get_set h with ⟨rfl, e', hl⟩ | ⟨hj, h⟩
    · cases e'
      exact ⟨a, vs, ha, fa, upd_same, dv⟩
    · obtain ⟨b, xs, h1, h2, h3, h4⟩ := r.own j u ws h
      have ne : b ≠ a := fun e => by
        subst e
        exact r.apart j i u t ws ds b hj h hi h1 ha
      exact ⟨b, xs, h1, h2, by rw [upd_ne ne]; exact h3, h4⟩
  · have get : ∀ {j : Nat} {u : Bool} {ws : List PyData}, (ρ.set i (.own t es))[j]? = some (.own u ws) → ∃ ws', ρ[j]? = some (.own u ws') := fun {j u ws} h => by
      rcases get_set h with ⟨rfl, e', hl⟩ | ⟨hj, h⟩
      · cases e'
        exact ⟨ds, hi⟩
      · exact ⟨ws, h⟩
    obtain ⟨w1, g1⟩ := get h1
    obtain ⟨w2, g2⟩ := get h2
    exact r.apart j k u u' w1 w2 b hjk g1 g2 h3 h4
  · rw [upd_ne (fun e => n (by rw [e]; exact w))]; exact h
  · rcases get_set h with ⟨rfl, e', hl⟩ | ⟨hj, h⟩
    · cases e'
      exact ⟨ds, hi⟩
    · exact ⟨ws, h⟩
end
inductive Oc where
  | nx (ρ : Rho)
  | rt (d : PyData) (ρ : Rho)
  | ro (ds : List PyData) (ρ : Rho)
  | bk (ρ : Rho)
  | ct (ρ : Rho)
  | ex (c : Nat) (d : PyData) (ρ : Rho)
abbrev DS := Rho → Option Oc
def Pst (K : PKt) (ec : EC) (W : WX) (σ : L2.St) (ρ : Rho) (F H : Hp) (D : Ends) : Oc → Prop
  | .nx ρ' => ∀ σ' F' H', Sx K σ ρ σ' ρ' F H F' H' → D.nx σ' H'
  | .bk ρ' => ∀ σ' F' H', Sx K σ ρ σ' ρ' F H F' H' → D.bk σ' H'
  | .ct ρ' => ∀ σ' F' H', Sx K σ ρ σ' ρ' F H F' H' → D.ct σ' H'
  | .rt d ρ' => ∀ v σ' F' H', Sx K σ ρ σ' ρ' F H F' H' → Dq K F' v d → D.rt v H'
  | .ro ds ρ' => ∀ a vs σ' F' H', Sx K σ ρ σ' ρ' F H F' H' → ¬ Th H a → F' a = none → H' a = some (.lst vs) → DqAll K F' vs ds → D.rt (.ref a) H'
  | .ex c d ρ' => ∀ cls dd σ' F' H', Sx K σ ρ σ' ρ' F H F' H' → Xr K ec F' H' c d cls dd → W cls dd σ' H'
def Sd (K : PKt) (ec : EC) (W : WX) (ts : TS) (g : DS) : Prop := ∀ (F H : Hp) (σ : L2.St) (ρ : Rho) (oc : Oc), RS K F H σ ρ → g ρ = some oc → ∀ D : Ends, Pst K ec W σ ρ F H D oc → ts D σ H
section
variable {K : PKt} {ec : EC} {W : WX} {te ta tb : TE} {tt : TT} {t u : TS} {f g : DE} {fb : DB} {fl : DL} {gs hs : DS} {σ σ1 : L2.St} {ρ ρ1 : Rho} {F H F1 H1 : Hp} {D : Ends}
theorem none_back (h : ∀ a, Th H a → Th H1 a) {a : Addr} (e : ¬ Th H1 a) : ¬ Th H a := fun z => e (h a z)
theorem Pst.step {oc : Oc} (h : Pst K ec W σ ρ F H D oc) (s : Sx K σ ρ σ1 ρ1 F H F1 H1) : Pst K ec W σ1 ρ1 F1 H1 D oc := by
  cases oc with
  | nx ρ' => exact fun σ' F' H' m => h σ' F' H' (s.trans m)
  | bk ρ' => exact fun σ' F' H' m => h σ' F' H' (s.trans m)
  | ct ρ' => exact fun σ' F' H' m => h σ' F' H' (s.trans m)
  | rt d ρ' => exact fun v σ' F' H' m dv => h v σ' F' H' (s.trans m) dv
  | ro ds ρ' => exact fun a vs σ' F' H' m h1 h2 h3 h4 => h a vs σ' F' H' (s.trans m) (none_back s.thr h1) h2 h3 h4
  | ex c d ρ' => exact fun cls dd σ' F' H' m x => h cls dd σ' F' H' (s.trans m) x
/-- an expression's error is the statement's -/
def bndS {α : Type} (x : Option (Ou α)) (k : α → Rho → Option Oc) : Option Oc := match x with
  | none => none
  | some (.ok a ρ) => k a ρ
  | some (.ex c d ρ) => some (.ex c d ρ)
theorem Ed.goS (hh : Ed K ec W te f) (rs : RS K F H σ ρ) {k : PyData → Rho → Option Oc} {oc : Oc} (e : bndS (f ρ) k = some oc) (hp : Pst K ec W σ ρ F H D oc) {Q : VK}
    (hk : ∀ d ρ1 v F1 H1, Nx K σ ρ ρ1 F H F1 H1 → Dq K F1 v d → k d ρ1 = some oc → Pst K ec W σ ρ1 F1 H1 D oc → Q v H1) : te σ H Q := by
  unfold bndS at e
  cases ef : f ρ with
  | none => rw [ef] at e; cases e
  | some x =>
    rw [ef] at e
    cases x with
    | ok d ρ1 => exact hh F H σ ρ _ rs ef Q (fun d' ρ' e' v F' H' n dv => by cases e'; exact hk d ρ1 v F' H' n dv e (hp.step n.sx)) Fail.ok
    | ex c d ρ1 =>
      cases e
      exact hh F H σ ρ _ rs ef Q (fun d' ρ' e' => by cases e') fun c' d' ρ' e' cls dd F' H' n x => by
        cases e'
        exact hp cls dd σ F' H' n.sx x
theorem Eo.goS (hh : Eo K ec W te fl) (rs : RS K F H σ ρ) {k : List PyData → Rho → Option Oc} {oc : Oc} (e : bndS (fl ρ) k = some oc) (hp : Pst K ec W σ ρ F H D oc) {Q : VK}
    (hk : ∀ ds ρ1 a vs F1 H1, Nx K σ ρ ρ1 F H F1 H1 → ¬ Th H a → F1 a = none → H1 a = some (.lst vs) → DqAll K F1 vs ds → k ds ρ1 = some oc → Pst K ec W σ ρ F H D oc → Q (.ref a) H1) : te σ H Q := by
  unfold bndS at e
  cases ef : fl ρ with
  | none => rw [ef] at e; cases e
  | some x =>
    rw [ef] at e
    cases x with
    | ok d ρ1 => exact hh F H σ ρ _ rs ef Q (fun d' ρ' e' a vs F' H' n h1 h2 h3 h4 => by cases e'; exact hk d ρ1 a vs F' H' n h1 h2 h3 h4 e hp) Fail.ok
    | ex c d ρ1 =>
      cases e
      exact hh F H σ ρ _ rs ef Q (fun d' ρ' e' => by cases e') fun c' d' ρ' e' cls dd F' H' n x => by
        cases e'
        exact hp cls dd σ F' H' n.sx x
theorem Et.goS (hh : Et K ec W tt fb) (rs : RS K F H σ ρ) {k : Bool → Rho → Option Oc} {oc : Oc} (e : bndS (fb ρ) k = some oc) (hp : Pst K ec W σ ρ F H D oc) {Q : Bool → Hp → Prop}
    (hk : ∀ b ρ1 F1 H1, Nx K σ ρ ρ1 F H F1 H1 → k b ρ1 = some oc → Pst K ec W σ ρ1 F1 H1 D oc → Q b H1) : tt σ H Q := by
  unfold bndS at e
  cases ef : fb ρ with
  | none => rw [ef] at e; cases e
  | some x =>
    rw [ef] at e
    cases x with
    | ok d ρ1 => exact hh F H σ ρ _ rs ef Q (fun d' ρ' e' F' H' n => by cases e'; exact hk d ρ1 F' H' n e (hp.step n.sx)) Fail.ok
    | ex c d ρ1 =>
      cases e
      exact hh F H σ ρ _ rs ef Q (fun d' ρ' e' => by cases e') fun c' d' ρ' e' cls dd F' H' n x => by
        cases e'
        exact hp cls dd σ F' H' n.sx x
def seqS (f g : DS) : DS := fun ρ => match f ρ with
  | some (.nx ρ1) => g ρ1
  | x => x
theorem sd_seq (h1 : Sd K ec W t gs) (h2 : Sd K ec W u hs) : Sd K ec W (tSeq t u) (seqS gs hs) := by
  intro F H σ ρ oc rs e D hp
  unfold seqS at e
  show t { D with nx := u D } σ H
  cases ef : gs ρ with
  | none => rw [ef] at e; cases e
  | some x =>
    rw [ef] at e
    refine h1 F H σ ρ x rs ef _ ?_
    cases x with
    | nx ρ1 => exact fun σ' F' H' s => h2 F' H' σ' ρ1 oc s.rs e D (hp.step s)
    | bk ρ1 => cases e; exact hp
    | ct ρ1 => cases e; exact hp
    | rt d ρ1 => cases e; exact hp
    | ro ds ρ1 => cases e; exact hp
    | ex c d ρ1 => cases e; exact hp
def nextS : DS := fun ρ => some (.nx ρ)
theorem sd_next : Sd K ec W tNext nextS := by
  intro F H σ ρ oc rs e D hp
  cases e
  exact hp σ F H (Nx.refl rs).sx
def breakS : DS := fun ρ => some (.bk ρ)
def contS : DS := fun ρ => some (.ct ρ)
theorem sd_break : Sd K ec W tBreak breakS := by
  intro F H σ ρ oc rs e D hp
  cases e
  exact hp σ F H (Nx.refl rs).sx
theorem sd_cont : Sd K ec W tCont contS := by
  intro F H σ ρ oc rs e D hp
  cases e
  exact hp σ F H (Nx.refl rs).sx
def asgS (i : Nat) (f : DE) : DS := fun ρ => bndS (f ρ) fun d ρ1 => some (.nx (ρ1.set i (.fro d)))
theorem sd_asg {i : Nat} (h : Ed K ec W te f) : Sd K ec W (tAsg te (gName i)) (asgS i f) := by
  intro F H σ ρ oc rs e D hp
  refine h.goS rs e hp fun d ρ1 v F1 H1 n dv e1 hp1 => ?_
  cases e1
  exact hp1 _ F1 H1 (n.rs.setF dv)
def asgO (i : Nat) (f : DL) : DS := fun ρ => bndS (f ρ) fun ds ρ1 => some (.nx (ρ1.set i (.own false ds)))
theorem sd_asgO {i : Nat} (h : Eo K ec W te fl) : Sd K ec W (tAsg te (gName i)) (asgO i fl) := by
  intro F H σ ρ oc rs e D hp
  refine h.goS rs e hp fun ds ρ1 a vs F1 H1 n ha fa h1 da e1 hp1 => ?_
  cases e1
  have no : ¬ Ow σ ρ1 a := fun w => ha (rs.ow_there (n.ow w))
  refine hp1 _ F1 H1 ⟨n.rs.setO fa h1 da no, n.go, fun j t es h => ?_, n.thr, List.length_set ..⟩
  rcases get_set h with ⟨rfl, e', hl⟩ | ⟨hj, h⟩
  · cases e'
    exact .inr ⟨rfl, a, by rw [List.getElem?_set_self (by rw [← n.rs.len]; exact hl)], ha⟩
  · obtain ⟨ws, h'⟩ := n.sub j t es h
    exact .inl ⟨ws, h', by rw [List.getElem?_set_ne (Ne.symm hj)]⟩
def dropS (f : DE) : DS := fun ρ => bndS (f ρ) fun _ ρ1 => some (.nx ρ1)
theorem sd_drop (h : Ed K ec W te f) : Sd K ec W (tDrop te) (dropS f) := by
  intro F H σ ρ oc rs e D hp
  refine h.goS rs e hp fun d ρ1 v F1 H1 n dv e1 hp1 => ?_
  cases e1
  exact hp1 _ F1 H1 (Nx.refl n.rs).sx
def retS (f : DE) : DS := fun ρ => bndS (f ρ) fun d ρ1 => some (.rt d ρ1)
theorem sd_ret (h : Ed K ec W te f) : Sd K ec W (tRet te) (retS f) := by
  intro F H σ ρ oc rs e D hp
  refine h.goS rs e hp fun d ρ1 v F1 H1 n dv e1 hp1 => ?_
  cases e1
  exact hp1 v _ F1 H1 (Nx.refl n.rs).sx dv
/-- a new list is returned -/
def retO (f : DL) : DS := fun ρ => bndS (f ρ) fun ds ρ1 => some (.ro ds ρ1)
theorem sd_retO (h : Eo K ec W te fl) : Sd K ec W (tRet te) (retO fl) := by
  intro F H σ ρ oc rs e D hp
  refine h.goS rs e hp fun ds ρ1 a vs F1 H1 n ha fa h1 da e1 _ => ?_
  cases e1
  exact hp a vs σ F1 H1 n.sx ha fa h1 da
def retN : DS := fun ρ => some (.rt .none ρ)
theorem sd_retN : Sd K ec W tRetN retN := by
  intro F H σ ρ oc rs e D hp
  cases e
  exact hp .non σ F H (Nx.refl rs).sx .non
def ifS (c : DB) (f g : DS) : DS := fun ρ => bndS (c ρ) fun b ρ1 => if b then f ρ1 else g ρ1
theorem sd_if (hc : Et K ec W tt fb) (h1 : Sd K ec W t gs) (h2 : Sd K ec W u hs) : Sd K ec W (tIfS tt t u) (ifS fb gs hs) := by
  intro F H σ ρ oc rs e D hp
  refine hc.goS rs e hp fun b ρ1 F1 H1 n e1 hp1 => ?_
  cases b with
  | true => exact h1 F1 H1 σ ρ1 oc n.rs e1 D hp1
  | false => exact h2 F1 H1 σ ρ1 oc n.rs e1 D hp1
/-- never reached -/
def neverS : DS := fun _ => none
theorem sd_never : Sd K ec W tNever neverS := by
  intro F H σ ρ oc rs e D hp
  cases e
/-- x.append(e), x a list of its own -/
def appS (i : Nat) (f : DE) : DS := fun ρ => match ρ[i]? with
  | some (.own _ _) => bndS (f ρ) fun d ρ1 => match ρ1[i]? with
    | some (.own t ds) => if ds.length < 100000 then some (.nx (ρ1.set i (.own t (ds ++ [d])))) else none
    | _ => none
  | _ => none
theorem sd_app {i : Nat} (h : Ed K ec W te f) : Sd K ec W (tDrop (tBM K "list" rAppend (tVar i) (tCons te tNil))) (appS i f) := by
  intro F H σ ρ oc rs e D hp
  unfold appS at e
  split at e
  · rename_i t0 ds0 h0
    obtain ⟨a, vs, h1, h2, h3, h4⟩ := rs.own i t0 ds0 h0
    refine ⟨.ref a, h1, .inl ⟨rfl, _, SqL.of h3⟩, ?_⟩
    refine h.goS rs e hp fun d ρ1 v F1 H1 n dv e1 hp1 => ?_
    split at e1
    · rename_i t ds hh
      split at e1
      · rename_i hz
        cases e1
        obtain ⟨b, ws, g1, g2, g3, g4⟩ := n.rs.own i t ds hh
        rw [h1] at g1
        cases g1
        exact ⟨a, ws, v, rfl, rfl, g3, sz_lt (by rw [g4.length]; exact hz), hp1 _ F1 _ (n.rs.mut hh h1 (g4.append (.one dv))).sx⟩
      · cases e1
    · cases e1
  · cases e
end
end Pd

namespace Pd
open PySem L2 Evl
/-! ### targets -/
abbrev DG := PyData → Rho → Option Rho
def Gd (K : PKt) (is : List Nat) (g : TG) (tg : DG) : Prop := ∀ (F H : Hp) (σ : L2.St) (ρ : Rho) (v : V) (d : PyData) (ρ' : Rho), RS K F H σ ρ → Dq K F v d → tg d ρ = some ρ' → ∀ Q : L2.St → Hp → Prop, (∀ σ', Sx K σ ρ σ' ρ' F H F H → (∀ j, j ∉ is → σ'[j]? = σ[j]?) → Q σ' H) → g v σ H Q
def Gds (K : PKt) (is : List Nat) (g : TGs) (tg : List PyData → Rho → Option Rho) : Prop := ∀ (F H : Hp) (σ : L2.St) (ρ : Rho) (vs : List V) (ds : List PyData) (ρ' : Rho), RS K F H σ ρ → DqAll K F vs ds → tg ds ρ = some ρ' → ∀ Q : L2.St → Hp → Prop, (∀ σ', Sx K σ ρ σ' ρ' F H F H → (∀ j, j ∉ is → σ'[j]? = σ[j]?) → Q σ' H) → g vs σ H Q
section
variable {K : PKt} {is js : List Nat} {g g1 : TG} {gs : TGs} {tg : DG} {tgs : List PyData → Rho → Option Rho}
def nameG (i : Nat) : DG := fun d ρ => some (ρ.set i (.fro d))
theorem gd_name {i : Nat} : Gd K [i] (gName i) (nameG i) := by
  intro F H σ ρ v d ρ' rs dv e Q hq
  cases e
  exact hq _ (rs.setF dv) fun j hj => List.getElem?_set_ne fun z => hj (by rw [z]; exact List.mem_singleton.mpr rfl)
def nilG : List PyData → Rho → Option Rho := fun ds ρ => match ds with | [] => some ρ | _ => none
def consG (a : DG) (b : List PyData → Rho → Option Rho) : List PyData → Rho → Option Rho := fun ds ρ => match ds with | [] => none | d :: r => (a d ρ).bind (b r)
theorem gds_nil : Gds K [] gNil nilG := by
  intro F H σ ρ vs ds ρ' rs dv e Q hq
  cases dv with
  | nil => cases e; exact ⟨rfl, hq _ (Nx.refl rs).sx fun _ _ => rfl⟩
  | cons _ _ => cases e
theorem gds_cons (h : Gd K is g tg) (hs : Gds K js gs tgs) : Gds K (is ++ js) (gCons g gs) (consG tg tgs) := by
  intro F H σ ρ vs ds ρ' rs dv e Q hq
  cases dv with
  | nil => cases e
  | cons d0 dr =>
    rename_i v vr d r
    refine ⟨v, vr, rfl, ?_⟩
    have e' : (tg d ρ).bind (tgs r) = some ρ' := e
    cases e1 : tg d ρ with
    | none => rw [e1] at e'; cases e'
    | some ρ1 =>
      rw [e1] at e'
      exact h F H σ ρ v d ρ1 rs d0 e1 _ fun σ1 s1 o1 => hs F H σ1 ρ1 vr r ρ' s1.rs dr e' Q fun σ2 s2 o2 => hq σ2 (s1.trans s2) fun j hj => (o2 j fun z => hj (List.mem_append_right _ z)).trans (o1 j fun z => hj (List.mem_append_left _ z))
def seqG (tgs : List PyData → Rho → Option Rho) : DG := fun d ρ => match d with | .tuple ds => tgs ds ρ | .list ds => tgs ds ρ | _ => none
def tupG (tgs : List PyData → Rho → Option Rho) : DG := fun d ρ => match d with | .tuple ds => tgs ds ρ | _ => none
inductive Ln : Nat → (List PyData → Rho → Option Rho) → Prop
  | nil : Ln 0 nilG
  | cons {n : Nat} {a : DG} {b : List PyData → Rho → Option Rho} : Ln n b → Ln (n + 1) (consG a b)
theorem Ln.len {n : Nat} (h : Ln n tgs) : ∀ {ds : List PyData} {ρ ρ' : Rho}, tgs ds ρ = some ρ' → ds.length = n := by
  induction h with
  | nil =>
    intro ds ρ ρ' e
    cases ds with
    | nil => rfl
    | cons _ _ => cases e
  | cons _ ih =>
    rename_i n a b _
    intro ds ρ ρ' e
    cases ds with
    | nil => cases e
    | cons d r =>
      have e' : (a d ρ).bind (b r) = some ρ' := e
      cases e1 : a d ρ with
      | none => rw [e1] at e'; cases e'
      | some ρ1 =>
        rw [e1] at e'
        exact congrArg (· + 1) (ih e')
theorem gd_tup {n : Nat} (h : Gds K is gs tgs) (hn : Ln n tgs) : Gd K is (gTup K n gs) (tupG tgs) := by
  intro F H σ ρ v d ρ' rs dv e Q hq
  cases dv with
  | tup ha hs => exact ⟨_, _, rfl, TupZ.sq ha (rs.ex), by rw [hs.length]; exact hn.len e, h F H σ ρ _ _ ρ' rs hs e Q hq⟩
  | _ => cases e
theorem gd_seq {n : Nat} (h : Gds K is gs tgs) (hn : Ln n tgs) : Gd K is (fun v σ H Q => gTup K n gs v σ H Q ∨ gUnl K n gs v σ H Q) (seqG tgs) := by
  intro F H σ ρ v d ρ' rs dv e Q hq
  cases dv with
  | tup ha hs => exact .inl ⟨_, _, rfl, TupZ.sq ha (rs.ex), by rw [hs.length]; exact hn.len e, h F H σ ρ _ _ ρ' rs hs e Q hq⟩
  | lst ha hs => exact .inr ⟨_, _, rfl, SqL.of (rs.ex _ _ ha), by rw [hs.length]; exact hn.len e, h F H σ ρ _ _ ρ' rs hs e Q hq⟩
  | _ => cases e
/-- a list or a tuple -/
def gOr (a b : TG) : TG := fun v σ H Q => a v σ H Q ∨ b v σ H Q
theorem pg_or {X : Cx} {e : Expr} {a b : TG} (h1 : PG X e a) (h2 : PG X e b) : PG X e (gOr a b) := by
  constructor
  intro pins s σ H v u Q I r h
  rcases h with h | h
  · exact h1.run pins s σ H v u Q I r h
  · exact h2.run pins s σ H v u Q I r h
end
end Pd

namespace Pd
open PySem L2 Evl
/-! ### iterators -/
/-- what an iterator gives, as data -/
structure Itd (K : PKt) (F : Hp) (J : It) (ds : List PyData) : Prop where
  stop : ∀ i H1, Ex F H1 → ds.length ≤ i → J.stop i H1
  go : ∀ i d H1, Ex F H1 → ds[i]? = some d → J.go i H1
  yld : ∀ i d F1 H1 x H2, Ex F F1 → Ex F1 H1 → ds[i]? = some d → J.yld i H1 x H2 → (H2 = H1 ∧ Dq K F1 x d) ∨ ∃ p ob, (∀ ps, ob ≠ .tbl ps) ∧ x = .ref p ∧ H1 p = none ∧ H2 = upd H1 p ob ∧ Dq K (upd F1 p ob) (.ref p) d
def Id (K : PKt) (ec : EC) (W : WX) (wi : TI) (f : DL) : Prop := ∀ (F H : Hp) (σ : L2.St) (ρ : Rho) (o : Ou (List PyData)), RS K F H σ ρ → f ρ = some o → ∀ R : It → Hp → Prop,
  (∀ ds ρ', o = .ok ds ρ' → ∀ J F' H', Nx K σ ρ ρ' F H F' H' → Itd K F' J ds → R J H') → Fail K ec W σ ρ F H o → wi σ H R
section
variable {K : PKt} {ec : EC} {W : WX} {te ta tb : TE} {tl : TA} {f : DE} {fl : DL} {F H : Hp} {a : Addr} {xs : List V} {ds : List PyData}
theorem itd_list (h : F a = some (.lst xs)) (hs : DqAll K F xs ds) : Itd K F (Itl K a) ds := by
  refine ⟨fun i H1 e hl => ⟨xs, SqL.of (e _ _ h), by rw [hs.length]; exact hl⟩, fun i d H1 e hd => ?_, fun i d F1 H1 x H2 e1 e2 hd hy => ?_⟩
  · obtain ⟨v, h1, _⟩ := hs.get hd
    exact ⟨xs, v, SqL.of (e _ _ h), h1⟩
  · obtain ⟨v, h1, h2⟩ := hs.get hd
    have := hy.2 xs (SqL.of (e2 _ _ (e1 _ _ h)))
    rw [h1] at this
    cases this
    exact .inl ⟨hy.1, h2.mono e1⟩
theorem itd_tup (h : TupZ K.K F a xs) (hs : DqAll K F xs ds) : Itd K F (Itt K a) ds := by
  refine ⟨fun i H1 e hl => ⟨xs, TupZ.sq h e, by rw [hs.length]; exact hl⟩, fun i d H1 e hd => ?_, fun i d F1 H1 x H2 e1 e2 hd hy => ?_⟩
  · obtain ⟨v, h1, _⟩ := hs.get hd
    exact ⟨xs, v, TupZ.sq h e, h1⟩
  · obtain ⟨v, h1, h2⟩ := hs.get hd
    have := hy.2 xs (TupZ.sq (TupZ.mono e1 h) e2)
    rw [h1] at this
    cases this
    exact .inl ⟨hy.1, h2.mono e1⟩
/-- the numbers lo, lo + 1, .. -/
def rangeD (lo : Int) (n : Nat) : List PyData := (List.range n).map fun i => .int (lo + (i : Nat))
theorem rangeD_get {lo : Int} {n i : Nat} {d : PyData} (h : (rangeD lo n)[i]? = some d) : i < n ∧ d = .int (lo + (i : Nat)) := by
  unfold rangeD at h
  rw [List.getElem?_map] at h
  by_cases hi : i < n
  · rw [List.getElem?_range hi] at h
    cases h
    exact ⟨hi, rfl⟩
  · rw [List.getElem?_eq_none (by rw [List.length_range]; omega)] at h
    cases h
theorem itd_range {lo : Int} {n : Nat} : Itd K F (Itr lo n) (rangeD lo n) := by
  refine ⟨fun i H1 e hl => ?_, fun i d H1 e hd => (rangeD_get hd).1, fun i d F1 H1 x H2 e1 e2 hd hy => ?_⟩
  · have : n ≤ i := by
      have h : (rangeD lo n).length ≤ i := hl
      unfold rangeD at h
      rwa [List.length_map, List.length_range] at h
    exact this
  · have k := (rangeD_get hd).2
    subst k
    refine .inl ⟨hy.1, ?_⟩
    rw [hy.2]
    exact .int _
def enumD (k : Nat) : List PyData → List PyData
  | [] => []
  | d :: r => .tuple [.int (k : Nat), d] :: enumD (k + 1) r
theorem enumD_length : ∀ (ds : List PyData) (k : Nat), (enumD k ds).length = ds.length
  | [], _ => rfl
  | _ :: r, k => congrArg (· + 1) (enumD_length r (k + 1))
theorem enumD_get : ∀ {ds : List PyData} {k i : Nat} {d : PyData}, (enumD k ds)[i]? = some d → ∃ e, ds[i]? = some e ∧ d = .tuple [.int ((k + i : Nat) : Int), e]
  | [], _, _, _, h => by cases h
  | e :: r, k, 0, d, h => by cases h; exact ⟨e, rfl, rfl⟩
  | e :: r, k, i + 1, d, h => by
    obtain ⟨e', h1, h2⟩ := enumD_get (ds := r) (k := k + 1) (i := i) (d := d) h
    exact ⟨e', h1, by rw [h2, Nat.add_assoc, Nat.add_comm 1 i]⟩
theorem itd_enum (h : F a = some (.lst xs)) (hs : DqAll K F xs ds) : Itd K F (Ite K a) (enumD 0 ds) := by
  refine ⟨fun i H1 e hl => ⟨xs, SqL.of (e _ _ h), by rw [hs.length, ← enumD_length ds 0]; exact hl⟩, fun i d H1 e hd => ?_, fun i d F1 H1 x H2 e1 e2 hd hy => ?_⟩
  · obtain ⟨e0, k1, _⟩ := enumD_get hd
    obtain ⟨v, h1, _⟩ := hs.get k1
    exact ⟨xs, v, SqL.of (e _ _ h), h1⟩
  · obtain ⟨e0, k1, rfl⟩ := enumD_get hd
    obtain ⟨v, h1, h2⟩ := hs.get k1
    obtain ⟨T, y, rfl, hT, rfl, hy2⟩ := hy
    have := hy2 xs (SqL.of (e2 _ _ (e1 _ _ h)))
    rw [h1] at this
    cases this
    refine .inr ⟨T, _, (fun ps z => by cases z), rfl, hT, rfl, .tup (.inl upd_same) (.cons ?_ (.cons ((h2.mono e1).mono (Ex.new (fresh_back e2 hT))) .nil))⟩
    rw [Nat.zero_add]
    exact .int _
/-! ### what is gone through -/
def listI (f : DE) : DL := fun ρ => bnd (f ρ) fun d ρ1 => match d with | .list ds => some (.ok ds ρ1) | _ => none
def tupI (f : DE) : DL := fun ρ => bnd (f ρ) fun d ρ1 => match d with | .tuple ds => some (.ok ds ρ1) | _ => none
def seqI (f : DE) : DL := fun ρ => bnd (f ρ) fun d ρ1 => match d with | .list ds => some (.ok ds ρ1) | .tuple ds => some (.ok ds ρ1) | _ => none
theorem id_list (h : Ed K ec W te f) : Id K ec W (iList K te) (listI f) := by
  intro F H σ ρ o rs e R q hf
  refine h.go rs e hf fun d ρ1 v F1 H1 n1 dv e1 hf1 => ?_
  cases dv with
  | lst ha hs => cases e1; exact ⟨_, rfl, ⟨_, SqL.of (n1.rs.ex _ _ ha)⟩, q _ _ rfl _ F1 H1 n1 (itd_list ha hs)⟩
  | _ => cases e1
theorem id_tup (h : Ed K ec W te f) : Id K ec W (iTup K te) (tupI f) := by
  intro F H σ ρ o rs e R q hf
  refine h.go rs e hf fun d ρ1 v F1 H1 n1 dv e1 hf1 => ?_
  cases dv with
  | tup ha hs => cases e1; exact ⟨_, rfl, ⟨_, TupZ.sq ha (n1.rs.ex)⟩, q _ _ rfl _ F1 H1 n1 (itd_tup ha hs)⟩
  | _ => cases e1
/-- a list or a tuple: which of both is known ahead -/
def iOr (a b : TI) : TI := fun σ H R => a σ H R ∨ b σ H R
theorem pi_or {X : Cx} {tg e : Expr} {a b : TI} (h1 : PI X tg e a) (h2 : PI X tg e b) : PI X tg e (iOr a b) := by
  constructor
  intro pins s σ H R I h
  rcases h with h | h
  · exact h1.run pins s σ H R I h
  · exact h2.run pins s σ H R I h
theorem id_or {wa wb : TI} {fa fb : DL} (ha : Id K ec W wa fa) (hb : Id K ec W wb fb) {fl : DL} (hs : ∀ ρ o, fl ρ = some o → fa ρ = some o ∨ fb ρ = some o) : Id K ec W (iOr wa wb) fl := by
  intro F H σ ρ o rs e R q hf
  rcases hs ρ o e with h | h
  · exact .inl (ha F H σ ρ o rs h R q hf)
  · exact .inr (hb F H σ ρ o rs h R q hf)
theorem id_seq (h : Ed K ec W te f) : Id K ec W (iOr (iList K te) (iTup K te)) (seqI f) := by
  refine id_or (id_list h) (id_tup h) fun ρ o e => ?_
  unfold seqI at e
  unfold listI tupI
  cases ef : f ρ with
  | none => rw [ef] at e; cases e
  | some x =>
    rw [ef] at e
    cases x with
    | ex c d ρ1 => exact .inl e
    | ok d ρ1 =>
      cases d with
      | list ds => exact .inl e
      | tuple ds => exact .inr e
      | _ => cases e
def rng1I (fl : DL) : DL := fun ρ => bnd (fl ρ) fun as ρ1 => match as with | [.int j] => if j < 1000000 then some (.ok (rangeD 0 j.toNat) ρ1) else none | _ => none
def rng2I (fl : DL) : DL := fun ρ => bnd (fl ρ) fun as ρ1 => match as with | [.int i, .int j] => if -1000000 < i ∧ i < 1000000 ∧ -1000000 < j ∧ j < 1000000 then some (.ok (rangeD i (j - i).toNat) ρ1) else none | _ => none
/-- range(n), n not below -1000000 -/
theorem id_rng1 (h : Ea K ec W tl fl) : Id K ec W (iRng1 tl) (fun ρ => bnd (fl ρ) fun as ρ1 => match as with | [.int j] => if -1000000 < j ∧ j < 1000000 then some (.ok (rangeD 0 j.toNat) ρ1) else none | _ => none) := by
  intro F H σ ρ o rs e R q hf
  refine h.go rs e hf fun as ρ1 vs F1 H1 n1 dv e1 hf1 => ?_
  split at e1
  · rename_i j
    split at e1
    · rename_i hj
      cases e1
      cases dv with
      | cons d0 dr =>
        cases d0 with
        | int _ =>
          cases dr with
          | nil => exact ⟨j, rfl, by omega, by omega, q _ _ rfl _ F1 H1 n1 itd_range⟩
    · cases e1
  · cases e1
theorem id_rng2 (h : Ea K ec W tl fl) : Id K ec W (iRng2 tl) (rng2I fl) := by
  intro F H σ ρ o rs e R q hf
  refine h.go rs e hf fun as ρ1 vs F1 H1 n1 dv e1 hf1 => ?_
  split at e1
  · rename_i i j
    split at e1
    · rename_i hj
      cases e1
      cases dv with
      | cons d0 dr =>
        cases d0 with
        | int _ =>
          cases dr with
          | cons d1 d2 =>
            cases d1 with
            | int _ =>
              cases d2 with
              | nil => exact ⟨i, j, rfl, ⟨by omega, by omega, by omega, by omega⟩, q _ _ rfl _ F1 H1 n1 itd_range⟩
    · cases e1
  · cases e1
def enumI (fl : DL) : DL := fun ρ => bnd (fl ρ) fun as ρ1 => match as with | [.list ds] => some (.ok (enumD 0 ds) ρ1) | _ => none
theorem id_enum (h : Ea K ec W tl fl) : Id K ec W (iEnum K tl) (enumI fl) := by
  intro F H σ ρ o rs e R q hf
  refine h.go rs e hf fun as ρ1 vs F1 H1 n1 dv e1 hf1 => ?_
  split at e1
  · cases e1
    cases dv with
    | cons d0 dr =>
      cases d0 with
      | lst ha hs =>
        cases dr with
        | nil => exact ⟨_, _, rfl, SqL.of (n1.rs.ex _ _ ha), q _ _ rfl _ F1 H1 n1 (itd_enum ha hs)⟩
  · cases e1
/-! ### for -/
def loopS (tg : DG) (body : DS) : List PyData → DS
  | [], ρ => some (.nx ρ)
  | d :: ds, ρ => match tg d ρ with
    | none => none
    | some ρ1 => match body ρ1 with
      | some (.nx ρ2) => loopS tg body ds ρ2
      | some (.ct ρ2) => loopS tg body ds ρ2
      | some (.bk ρ2) => some (.nx ρ2)
      | x => x
def forS (fl : DL) (tg : DG) (body : DS) : DS := fun ρ => bndS (fl ρ) fun ds ρ1 => loopS tg body ds ρ1
theorem Id.goS {wi : TI} {σ : L2.St} {ρ : Rho} {D : Ends} (hh : Id K ec W wi fl) (rs : RS K F H σ ρ) {k : List PyData → Rho → Option Oc} {oc : Oc} (e : bndS (fl ρ) k = some oc) (hp : Pst K ec W σ ρ F H D oc) {R : It → Hp → Prop}
    (hk : ∀ ds ρ1 J F1 H1, Nx K σ ρ ρ1 F H F1 H1 → Itd K F1 J ds → k ds ρ1 = some oc → Pst K ec W σ ρ1 F1 H1 D oc → R J H1) : wi σ H R := by
  unfold bndS at e
  cases ef : fl ρ with
  | none => rw [ef] at e; cases e
  | some x =>
    rw [ef] at e
    cases x with
    | ok d ρ1 => exact hh F H σ ρ _ rs ef R (fun d' ρ' e' J F' H' n dv => by cases e'; exact hk d ρ1 J F' H' n dv e (hp.step n.sx)) Fail.ok
    | ex c d ρ1 =>
      cases e
      exact hh F H σ ρ _ rs ef R (fun d' ρ' e' => by cases e') fun c' d' ρ' e' cls dd F' H' n x => by
        cases e'
        exact hp cls dd σ F' H' n.sx x
/-- a new frozen object behind a statement's part -/
theorem Sx.new {σ : L2.St} {ρ : Rho} (r : RS K F H σ ρ) {p : Addr} {o : HO} (hp : H p = none) (nt : ∀ ps, o ≠ .tbl ps) : Sx K σ ρ σ ρ F H (upd F p o) (upd H p o) := (r.new hp nt).sx
theorem sd_for {wi : TI} {is : List Nat} {g : TG} {tg : DG} {ts : TS} {gs : DS} (hi : Id K ec W wi fl) (hg : Gd K is g tg) (hb : Sd K ec W ts gs) : Sd K ec W (tFor wi g ts) (forS fl tg gs) := by
  intro F H σ ρ oc rs e D hp
  refine hi.goS rs e hp fun ds ρ1 J F1 H1 n1 it e1 hp1 => ?_
  refine ⟨fun i m σ' H' => ∃ ρ' F', Sx K σ ρ1 σ' ρ' F1 H1 F' H' ∧ loopS tg gs (ds.drop i) ρ' = some oc ∧ m = ds.length - i, ⟨ds.length, ρ1, F1, (Nx.refl n1.rs).sx, e1, rfl⟩, ?_⟩
  rintro i m σ2 H2 ⟨ρ2, F2, s2, e2, rfl⟩
  have ex2 : Ex F1 H2 := s2.go.fr.trans s2.rs.ex
  by_cases hlt : i < ds.length
  · refine .inr ⟨it.go i ds[i] H2 ex2 (List.getElem?_eq_getElem hlt), fun σ' H' => ∃ ρ' F', Sx K σ ρ1 σ' ρ' F1 H1 F' H' ∧ loopS tg gs (ds.drop (i + 1)) ρ' = some oc, ?_, ?_⟩
    · rintro σ' H' ⟨ρ', F', s', e'⟩
      exact ⟨ds.length - (i + 1), by omega, ρ', F', s', e', rfl⟩
    · intro x H3 hy
      rw [List.drop_eq_getElem_cons hlt] at e2
      unfold loopS at e2
      have main : ∀ F3, Sx K σ ρ1 σ2 ρ2 F1 H1 F3 H3 → Dq K F3 x ds[i] → g x σ2 H3 fun σ4 H4 => ts { nx := fun σ' H' => ∃ ρ' F', Sx K σ ρ1 σ' ρ' F1 H1 F' H' ∧ loopS tg gs (ds.drop (i + 1)) ρ' = some oc, rt := D.rt, bk := D.nx, ct := fun σ' H' => ∃ ρ' F', Sx K σ ρ1 σ' ρ' F1 H1 F' H' ∧ loopS tg gs (ds.drop (i + 1)) ρ' = some oc } σ4 H4 := by
        intro F3 s3 dx
        cases et : tg ds[i] ρ2 with
        | none => rw [et] at e2; cases e2
        | some ρ3 =>
          rw [et] at e2
          refine hg F3 H3 σ2 ρ2 x ds[i] ρ3 s3.rs dx et _ fun σ4 s4 _ => ?_
          have s5 := s3.trans s4
          cases eb : gs ρ3 with
          | none => simp only [eb] at e2; cases e2
          | some ob =>
            simp only [eb] at e2
            refine hb F3 H3 σ4 ρ3 ob s4.rs eb _ ?_
            cases ob with
            | nx ρ' => exact fun σ' F' H' s' => ⟨ρ', F', s5.trans s', e2⟩
            | ct ρ' => exact fun σ' F' H' s' => ⟨ρ', F', s5.trans s', e2⟩
            | bk ρ' =>
              cases e2
              exact fun σ' F' H' s' => hp1 σ' F' H' (s5.trans s')
            | rt d ρ' =>
              cases e2
              exact fun v σ' F' H' s' dv => hp1 v σ' F' H' (s5.trans s') dv
            | ro ds ρ' =>
              cases e2
              exact fun a vs σ' F' H' s' h1 h2 h3 h4 => hp1 a vs σ' F' H' (s5.trans s') (none_back s5.thr h1) h2 h3 h4
            | ex c d ρ' =>
              cases e2
              exact fun cls dd σ' F' H' s' x => hp1 cls dd σ' F' H' (s5.trans s') x
      rcases it.yld i ds[i] F2 H2 x H3 s2.go.fr s2.rs.ex (List.getElem?_eq_getElem hlt) hy with ⟨rfl, dx⟩ | ⟨p, ob, nt, rfl, hpn, rfl, dx⟩
      · exact main F2 s2 dx
      · exact main (upd F2 p ob) (s2.trans (Sx.new s2.rs hpn nt)) dx
  · refine .inl ⟨it.stop i H2 ex2 (by omega), ?_⟩
    rw [List.drop_eq_nil_of_le (by omega)] at e2
    cases e2
    exact hp1 σ2 F2 H2 s2
end
end Pd

namespace Pd
open PySem L2 Evl
/-! ### a comprehension's own names -/
theorem wipe_length (σ : L2.St) : ∀ vs : List Nat, (wipe σ vs).length = σ.length
  | [] => rfl
  | i :: r => by
    show ((wipe σ r).set i none).length = _
    rw [List.length_set, wipe_length σ r]
theorem wipe_in (σ : L2.St) {j : Nat} : ∀ {vs : List Nat}, j ∈ vs → j < σ.length → (wipe σ vs)[j]? = some none
  | i :: r, h, hl => by
    show ((wipe σ r).set i none)[j]? = _
    by_cases e : j = i
    · subst e
      rw [List.getElem?_set_self (by rw [wipe_length]; exact hl)]
    · rw [List.getElem?_set_ne (Ne.symm e)]
      rcases List.mem_cons.mp h with h | h
      · exact absurd h e
      · exact wipe_in σ h hl
theorem wipe_out (σ : L2.St) {j : Nat} : ∀ {vs : List Nat}, j ∉ vs → (wipe σ vs)[j]? = σ[j]?
  | [], _ => rfl
  | i :: r, h => by
    show ((wipe σ r).set i none)[j]? = _
    rw [List.getElem?_set_ne fun e => h (by rw [e]; exact List.mem_cons_self)]
    exact wipe_out σ fun m => h (List.mem_cons_of_mem _ m)
theorem wipe_ext {σ τ : L2.St} {vs : List Nat} (hl : τ.length = σ.length) (h : ∀ j, j ∉ vs → τ[j]? = σ[j]?) : wipe τ vs = wipe σ vs := by
  apply List.ext_getElem?
  intro j
  by_cases hj : j ∈ vs
  · by_cases hn : j < σ.length
    · rw [wipe_in σ hj hn, wipe_in τ hj (by rw [hl]; exact hn)]
    · rw [List.getElem?_eq_none (by rw [wipe_length]; omega), List.getElem?_eq_none (by rw [wipe_length]; omega)]
  · rw [wipe_out σ hj, wipe_out τ hj, h j hj]
def wipeR (ρ : Rho) : List Nat → Rho
  | [] => ρ
  | i :: r => (wipeR ρ r).set i .no
theorem wipeR_length (ρ : Rho) : ∀ vs : List Nat, (wipeR ρ vs).length = ρ.length
  | [] => rfl
  | i :: r => by
    show ((wipeR ρ r).set i _).length = _
    rw [List.length_set, wipeR_length ρ r]
theorem wipeR_get (ρ : Rho) {j : Nat} {s : Sl} (hs : s ≠ .no) : ∀ {vs : List Nat}, (wipeR ρ vs)[j]? = some s → j ∉ vs ∧ ρ[j]? = some s
  | [], h => ⟨List.not_mem_nil, h⟩
  | i :: r, h => by
    rcases get_set (l := wipeR ρ r) h with ⟨_, e, _⟩ | ⟨hj, h⟩
    · exact absurd e hs
    · obtain ⟨a, b⟩ := wipeR_get ρ hs h
      exact ⟨fun m => (List.mem_cons.mp m).elim hj a, b⟩
section
variable {K : PKt} {ec : EC} {W : WX} {F H F1 H1 : Hp} {σ τ : L2.St} {ρ ρ1 : Rho} {vs : List Nat}
/-- names outside vs are alike in σ and τ -/
theorem RS.wipe (r : RS K F H σ ρ) (hl : τ.length = σ.length) (h : ∀ j, j ∉ vs → τ[j]? = σ[j]?) : RS K F H τ (wipeR ρ vs) := by
  refine ⟨by rw [wipeR_length, hl]; exact r.len, r.tab, r.nt, r.ex, fun i d e => ?_, fun i t ds e => ?_, fun i j t u ds es a hij e1 e2 e3 e4 => ?_⟩
  · obtain ⟨a, b⟩ := wipeR_get ρ (by intro z; cases z) e
    rw [h i a]
    exact r.fro i d b
  · obtain ⟨a, b⟩ := wipeR_get ρ (by intro z; cases z) e
    rw [h i a]
    exact r.own i t ds b
  · obtain ⟨a1, b1⟩ := wipeR_get ρ (by intro z; cases z) e1
    obtain ⟨a2, b2⟩ := wipeR_get ρ (by intro z; cases z) e2
    rw [h i a1] at e3
    rw [h j a2] at e4
    exact r.apart i j t u ds es a hij b1 b2 e3 e4
/-- behind a part of a comprehension: its state, its owned lists within the outer ones -/
structure Cx2 (K : PKt) (σ : L2.St) (ρ : Rho) (τ : L2.St) (ρ' : Rho) (F H F' H' : Hp) : Prop where
  rs : RS K F' H' τ ρ'
  go : Go K.T (Ow σ ρ) F H F' H'
  sub : ∀ (i : Nat) (t : Bool) (ds : List PyData), ρ'[i]? = some (.own t ds) → ∃ es, ρ[i]? = some (.own t es) ∧ τ[i]? = σ[i]?
  thr : ∀ a, Th H a → Th H' a
theorem Cx2.ow (c : Cx2 K σ ρ τ ρ1 F H F1 H1) {a : Addr} (h : Ow τ ρ1 a) : Ow σ ρ a := by
  obtain ⟨i, t, ds, h1, h2⟩ := h
  obtain ⟨es, h3, h4⟩ := c.sub i t ds h1
  exact ⟨i, t, es, h3, by rw [← h4]; exact h2⟩
theorem Cx2.nx (c : Cx2 K σ ρ τ ρ1 F H F1 H1) {ρ2 : Rho} {F2 H2 : Hp} (n : Nx K τ ρ1 ρ2 F1 H1 F2 H2) : Cx2 K σ ρ τ ρ2 F H F2 H2 :=
  ⟨n.rs, c.go.trans n.go fun x h => .inl (c.ow h), fun i t ds h => (n.sub i t ds h).elim fun es e => c.sub i t es e, fun x h => n.thr x (c.thr x h)⟩
/-- a target's names are new: what they hold is no list of the outer def's own -/
theorem Cx2.sx (c : Cx2 K σ ρ τ ρ1 F H F1 H1) {υ : L2.St} {ρ2 : Rho} (n : Sx K τ ρ1 υ ρ2 F1 H1 F1 H1) (ht : ∀ a, F1 a = none → H1 a ≠ none → True) (hs : ∀ (i : Nat) (t : Bool) (ds : List PyData), ρ2[i]? = some (.own t ds) → ∃ es, ρ1[i]? = some (.own t es) ∧ υ[i]? = τ[i]?) : Cx2 K σ ρ υ ρ2 F H F1 H1 :=
  ⟨n.rs, c.go, fun i t ds h => (hs i t ds h).elim fun es e => (c.sub i t es e.1).elim fun es' e' => ⟨es', e'.1, e.2.trans e'.2⟩, c.thr⟩
theorem Cx2.wipe (c : Cx2 K σ ρ τ ρ1 F H F1 H1) {υ : L2.St} (hl : υ.length = τ.length) (h : ∀ j, j ∉ vs → υ[j]? = τ[j]?) : Cx2 K σ ρ υ (wipeR ρ1 vs) F H F1 H1 :=
  ⟨c.rs.wipe hl h, c.go, fun i t ds e => by
    obtain ⟨a, b⟩ := wipeR_get ρ1 (by intro z; cases z) e
    obtain ⟨es, e1, e2⟩ := c.sub i t ds b
    exact ⟨es, e1, by rw [h i a, e2]⟩, c.thr⟩
theorem Cx2.toNx (c : Cx2 K σ ρ σ ρ1 F H F1 H1) : Nx K σ ρ ρ1 F H F1 H1 := ⟨c.rs, c.go, fun i t ds h => (c.sub i t ds h).elim fun es e => ⟨es, e.1⟩, c.thr⟩
theorem Nx.toC (n : Nx K σ ρ ρ1 F H F1 H1) : Cx2 K σ ρ σ ρ1 F H F1 H1 := ⟨n.rs, n.go, fun i t ds h => (n.sub i t ds h).elim fun es e => ⟨es, e, rfl⟩, n.thr⟩
/-- a new frozen object -/
theorem Cx2.new (c : Cx2 K σ ρ τ ρ1 F H F1 H1) {p : Addr} {o : HO} (hp : H1 p = none) (nt : ∀ ps, o ≠ .tbl ps) : Cx2 K σ ρ τ ρ1 F H (upd F1 p o) (upd H1 p o) := c.nx (c.rs.new hp nt)
/-- a list that is nobody's is changed -/
theorem Cx2.other (c : Cx2 K σ ρ τ ρ1 F H F1 H1) {p : Addr} {o : HO} (hL : H1 p = none ∨ ∃ xs, H1 p = some (.lst xs)) (nt : ∀ ps, o ≠ .tbl ps) (hF : F1 p = none) (h0 : ¬ Th H p) (no : ¬ Ow τ ρ1 p) : Cx2 K σ ρ τ ρ1 F H F1 (upd H1 p o) := by
  have tab : ∀ T, LamX.Tabs T H1 → LamX.Tabs T (upd H1 p o) := fun T t => hL.elim (fun h => tabs_new h t) fun ⟨xs, h⟩ => tabs_mut h t
  refine ⟨⟨c.rs.len, tab _ c.rs.tab, c.rs.nt, Ex.mut c.rs.ex hF, c.rs.fro, fun i t ds h => ?_, c.rs.apart⟩, ⟨c.go.fr, Ex.mut c.rs.ex hF, fun a u h k n => ?_, c.go.low, fun t => tab _ (c.go.tab t), c.go.nt⟩, c.sub, fun a h => (c.thr a h).upd nt⟩
  · obtain ⟨a, vs, h1, h2, h3, h4⟩ := c.rs.own i t ds h
    exact ⟨a, vs, h1, h2, by rw [upd_ne (fun e => no (by rw [← e]; exact ⟨i, t, ds, h, h1⟩))]; exact h3, h4⟩
  · rw [upd_ne (fun e => h0 (by rw [← e]; exact ⟨u, h, k⟩))]
    exact c.go.keep a u h k n
end
/-! ### comprehensions -/
def bnd0 {α β : Type} (x : Option (Ou α)) (k : α → Rho → Option β) : Option β := match x with
  | some (.ok a ρ) => k a ρ
  | _ => none
theorem bnd0_ok {α β : Type} (a : α) (ρ : Rho) (k : α → Rho → Option β) : bnd0 (some (.ok a ρ)) k = k a ρ := rfl
def lcL (tg : DG) (tt : DB) (e : DE) (vs : List Nat) : List PyData → List PyData → Rho → Option (List PyData × Rho)
  | [], acc, ρ => some (acc, ρ)
  | d :: ds, acc, ρ => match tg d ρ with
    | none => none
    | some ρ1 => bnd0 (tt ρ1) fun b ρ2 => if b = true then bnd0 (e ρ2) fun y ρ3 => if acc.length < 100000 then lcL tg tt e vs ds (acc ++ [y]) (wipeR ρ3 vs) else none else lcL tg tt e vs ds acc (wipeR ρ2 vs)
def lcM (fl : DL) (tg : DG) (tt : DB) (e : DE) (vs : List Nat) : DL := fun ρ => bnd (fl ρ) fun ds ρ1 => (lcL tg tt e vs ds [] (wipeR ρ1 vs)).map fun r => .ok r.1 (wipeR r.2 vs)
section
variable {K : PKt} {ec : EC} {W : WX} {te : TE} {tt : TT} {wi : TI} {g : TG} {tg : DG} {f : DE} {fb : DB} {fl : DL} {is vs : List Nat} {F H F1 H1 : Hp} {σ τ : L2.St} {ρ ρ1 : Rho} {β : Type}
theorem Id.go (hh : Id K ec W wi fl) (rs : RS K F H σ ρ) {k : List PyData → Rho → Option (Ou β)} {o : Ou β} (e : bnd (fl ρ) k = some o) (hf : Fail K ec W σ ρ F H o) {R : It → Hp → Prop}
    (hk : ∀ ds ρ1 J F1 H1, Nx K σ ρ ρ1 F H F1 H1 → Itd K F1 J ds → k ds ρ1 = some o → Fail K ec W σ ρ1 F1 H1 o → R J H1) : wi σ H R := by
  unfold bnd at e
  cases ef : fl ρ with
  | none => rw [ef] at e; cases e
  | some x =>
    rw [ef] at e
    cases x with
    | ok d ρ1 => exact hh F H σ ρ _ rs ef R (fun d' ρ' e' J F' H' n dv => by cases e'; exact hk d ρ1 J F' H' n dv e (hf.step n)) Fail.ok
    | ex c d ρ1 => cases e; exact hh F H σ ρ _ rs ef R (fun d' ρ' e' => by cases e') hf.ex
theorem Ed.go0 (hh : Ed K ec W te f) (rs : RS K F H σ ρ) {k : PyData → Rho → Option β} {o : β} (e : bnd0 (f ρ) k = some o) {Q : VK}
    (hk : ∀ d ρ1 v F1 H1, Nx K σ ρ ρ1 F H F1 H1 → Dq K F1 v d → k d ρ1 = some o → Q v H1) : te σ H Q := by
  unfold bnd0 at e
  split at e
  · rename_i d ρ1 ef
    exact hh F H σ ρ _ rs ef Q (fun d' ρ' e' v F' H' n dv => by cases e'; exact hk d ρ1 v F' H' n dv e) Fail.ok
  · cases e
theorem Et.go0 (hh : Et K ec W tt fb) (rs : RS K F H σ ρ) {k : Bool → Rho → Option β} {o : β} (e : bnd0 (fb ρ) k = some o) {Q : Bool → Hp → Prop}
    (hk : ∀ b ρ1 F1 H1, Nx K σ ρ ρ1 F H F1 H1 → k b ρ1 = some o → Q b H1) : tt σ H Q := by
  unfold bnd0 at e
  split at e
  · rename_i d ρ1 ef
    exact hh F H σ ρ _ rs ef Q (fun d' ρ' e' F' H' n => by cases e'; exact hk d ρ1 F' H' n e) Fail.ok
  · cases e
theorem Id.go0 (hh : Id K ec W wi fl) (rs : RS K F H σ ρ) {k : List PyData → Rho → Option β} {o : β} (e : bnd0 (fl ρ) k = some o) {R : It → Hp → Prop}
    (hk : ∀ ds ρ1 J F1 H1, Nx K σ ρ ρ1 F H F1 H1 → Itd K F1 J ds → k ds ρ1 = some o → R J H1) : wi σ H R := by
  unfold bnd0 at e
  split at e
  · rename_i d ρ1 ef
    exact hh F H σ ρ _ rs ef R (fun d' ρ' e' J F' H' n dv => by cases e'; exact hk d ρ1 J F' H' n dv e) Fail.ok
  · cases e
/-- no name of these is left for a list of the def's own -/
theorem Gd.c2 (hg : Gd K is g tg) (hv : ∀ i ∈ is, i ∈ vs) {υ : L2.St} (hw : wipe υ vs = wipe τ vs) (hl : υ.length = τ.length) (c : Cx2 K σ ρ υ ρ1 F H F1 H1) (hno : ∀ (i : Nat) (t : Bool) (ds : List PyData), ρ1[i]? = some (.own t ds) → i ∉ vs) {x : V} {d : PyData} (dx : Dq K F1 x d) {ρ2 : Rho} (e : tg d ρ1 = some ρ2) {Q : L2.St → Hp → Prop}
    (hk : ∀ υ2, wipe υ2 vs = wipe τ vs → υ2.length = τ.length → (∀ j, j ∉ vs → υ2[j]? = υ[j]?) → Cx2 K σ ρ υ2 ρ2 F H F1 H1 → Q υ2 H1) : g x υ H1 Q := by
  refine hg F1 H1 υ ρ1 x d ρ2 c.rs dx e Q fun υ2 s2 o2 => ?_
  have oo : ∀ j, j ∉ vs → υ2[j]? = υ[j]? := fun j hj => o2 j fun m => hj (hv j m)
  refine hk υ2 ((wipe_ext s2.len oo).trans hw) (s2.len.trans hl) oo ⟨s2.rs, c.go, fun i t ds h => ?_, c.thr⟩
  rcases s2.sub i t ds h with ⟨es, e1, e2⟩ | ⟨_, a, e1, e2⟩
  · obtain ⟨es', e3, e4⟩ := c.sub i t es e1
    exact ⟨es', e3, e2.trans e4⟩
  · obtain ⟨b, ws, g1, g2, g3, g4⟩ := s2.rs.own i t ds h
    rw [e1] at g1
    cases g1
    exact absurd (Th.lst g3) e2
theorem wipeR_no {ρ : Rho} {i : Nat} {t : Bool} {ds : List PyData} (h : (wipeR ρ vs)[i]? = some (.own t ds)) : i ∉ vs := (wipeR_get ρ (by intro z; cases z) h).1
theorem eo_lc (hi : Id K ec W wi fl) (hg : Gd K is g tg) (hv : ∀ i ∈ is, i ∈ vs) (ht : Et K ec W tt fb) (he : Ed K ec W te f) : Eo K ec W (tLc wi g tt te vs) (lcM fl tg fb f vs) := by
  intro F H σ ρ o rs e Q q hf
  refine hi.go rs e hf fun ds ρ1 J F1 H1 n1 it e1 hf1 => ?_
  cases el : lcL tg fb f vs ds [] (wipeR ρ1 vs) with
  | none => rw [el] at e1; cases e1
  | some r =>
    rw [el] at e1
    cases e1
    obtain ⟨out, ρo⟩ := r
    intro A hA
    have hA0 : ¬ Th H A := fun z => Th.no hA (n1.thr A z)
    have fA : F1 A = none := fresh_back n1.rs.ex hA
    have c1 : Cx2 K σ ρ (wipe σ vs) (wipeR ρ1 vs) F H F1 H1 := n1.toC.wipe (wipe_length σ vs) fun j hj => wipe_out σ hj
    have noA : ∀ {τ : L2.St} {ρ' : Rho} {F' H' : Hp}, Cx2 K σ ρ τ ρ' F H F' H' → ¬ Ow τ ρ' A := fun c w => hA0 (rs.ow_there (c.ow w))
    have c2 : Cx2 K σ ρ (wipe σ vs) (wipeR ρ1 vs) F H F1 (upd H1 A (.lst [])) := c1.other (.inl hA) (fun ps z => by cases z) fA hA0 (noA c1)
    refine ⟨fun i m H' => ∃ ρ' F' acc accv, Cx2 K σ ρ (wipe σ vs) ρ' F H F' H' ∧ Ex F1 F' ∧ F' A = none ∧ H' A = some (.lst accv) ∧ DqAll K F' accv acc ∧ (∀ (i : Nat) (t : Bool) (ds : List PyData), ρ'[i]? = some (.own t ds) → i ∉ vs) ∧ lcL tg fb f vs (ds.drop i) acc ρ' = some (out, ρo) ∧ m = ds.length - i,
      ⟨ds.length, _, F1, [], [], c2, Ex.refl F1, fA, upd_same, .nil, fun i t ds h => wipeR_no h, el, rfl⟩, ?_⟩
    rintro i m H2 ⟨ρ2, F2, acc, accv, c2, x2, fA2, hA2, dA2, no2, e2, rfl⟩
    have ex2 : Ex F1 H2 := x2.trans c2.rs.ex
    by_cases hlt : i < ds.length
    · refine .inr ⟨it.go i ds[i] H2 ex2 (List.getElem?_eq_getElem hlt), fun H' => ∃ ρ' F' acc accv, Cx2 K σ ρ (wipe σ vs) ρ' F H F' H' ∧ Ex F1 F' ∧ F' A = none ∧ H' A = some (.lst accv) ∧ DqAll K F' accv acc ∧ (∀ (i : Nat) (t : Bool) (ds : List PyData), ρ'[i]? = some (.own t ds) → i ∉ vs) ∧ lcL tg fb f vs (ds.drop (i + 1)) acc ρ' = some (out, ρo), ?_, ?_⟩
      · rintro H' ⟨ρ', F', acc, accv, k1, k2, k3, k4, k5, k6, k7⟩
        exact ⟨ds.length - (i + 1), by omega, ρ', F', acc, accv, k1, k2, k3, k4, k5, k6, k7, rfl⟩
      · intro x H3 hy
        rw [List.drop_eq_getElem_cons hlt] at e2
        unfold lcL at e2
        have main : ∀ F3, Cx2 K σ ρ (wipe σ vs) ρ2 F H F3 H3 → Ex F1 F3 → F3 A = none → H3 A = some (.lst accv) → DqAll K F3 accv acc → Dq K F3 x ds[i] → g x (wipe σ vs) H3 fun σ2 H2 => wipe σ2 vs = wipe σ vs ∧ tt σ2 H2 fun b H3 => if b = true then te σ2 H3 fun y H4 => ∃ acc, H4 A = some (HO.lst acc) ∧ acc.length < sizeLine ∧ (∃ ρ' F' acc' accv', Cx2 K σ ρ (wipe σ vs) ρ' F H F' (upd H4 A (HO.lst (acc ++ [y]))) ∧ Ex F1 F' ∧ F' A = none ∧ (upd H4 A (HO.lst (acc ++ [y]))) A = some (.lst accv') ∧ DqAll K F' accv' acc' ∧ (∀ (i : Nat) (t : Bool) (ds : List PyData), ρ'[i]? = some (.own t ds) → i ∉ vs) ∧ lcL tg fb f vs (ds.drop (i + 1)) acc' ρ' = some (out, ρo)) else (∃ ρ' F' acc accv, Cx2 K σ ρ (wipe σ vs) ρ' F H F' H3 ∧ Ex F1 F' ∧ F' A = none ∧ H3 A = some (.lst accv) ∧ DqAll K F' accv acc ∧ (∀ (i : Nat) (t : Bool) (ds : List PyData), ρ'[i]? = some (.own t ds) → i ∉ vs) ∧ lcL tg fb f vs (ds.drop (i + 1)) acc ρ' = some (out, ρo)) := by
          intro F3 c3 x3 fA3 hA3 dA3 dx
          cases et : tg ds[i] ρ2 with
          | none => rw [et] at e2; cases e2
          | some ρ3 =>
            rw [et] at e2
            refine hg.c2 (τ := wipe σ vs) hv rfl rfl c3 no2 dx et fun υ hw hl ho c4 => ⟨hw.trans (wipe_ext (wipe_length σ vs) fun j hj => wipe_out σ hj), ?_⟩
            refine ht.go0 c4.rs e2 fun b ρ5 F5 H5 n5 e5 => ?_
            have c5 := c4.nx n5
            have fA5 : F5 A = none := n5.go.lowL fA3 hA3 (noA c4)
            have hA5 : H5 A = some (.lst accv) := n5.go.keepL hA3 (noA c4)
            have back : ∀ j, j ∉ vs → (wipe σ vs)[j]? = υ[j]? := fun j hj => (ho j hj).symm
            cases b with
            | false =>
              rw [if_neg (by decide)] at e5 ⊢
              exact ⟨wipeR ρ5 vs, F5, acc, accv, c5.wipe hl.symm back, x3.trans n5.go.fr, fA5, hA5, dA3.mono n5.go.fr, fun i t ds h => wipeR_no h, e5⟩
            | true =>
              rw [if_pos rfl] at e5 ⊢
              refine he.go0 c5.rs e5 fun y ρ6 v F6 H6 n6 dv e6 => ?_
              split at e6
              · rename_i hz
                have c6 := c5.nx n6
                have fA6 : F6 A = none := n6.go.lowL fA5 hA5 (noA c5)
                have hA6 : H6 A = some (.lst accv) := n6.go.keepL hA5 (noA c5)
                have c7 : Cx2 K σ ρ (wipe σ vs) (wipeR ρ6 vs) F H F6 H6 := c6.wipe hl.symm back
                have da : DqAll K F6 accv acc := (dA3.mono n5.go.fr).mono n6.go.fr
                exact ⟨accv, hA6, sz_lt (by rw [da.length]; exact hz), wipeR ρ6 vs, F6, acc ++ [y], accv ++ [v], c7.other (.inr ⟨_, hA6⟩) (fun ps z => by cases z) fA6 hA0 (noA c7), (x3.trans n5.go.fr).trans n6.go.fr, fA6, upd_same, da.append (.one dv), fun i t ds h => wipeR_no h, e6⟩
              · cases e6
        rcases it.yld i ds[i] F2 H2 x H3 x2 c2.rs.ex (List.getElem?_eq_getElem hlt) hy with ⟨rfl, dx⟩ | ⟨p, ob, nt, rfl, hpn, rfl, dx⟩
        · exact main F2 c2 x2 fA2 hA2 dA2 dx
        · have npA : A ≠ p := fun z => by rw [z] at hA2; rw [hA2] at hpn; cases hpn
          exact main (upd F2 p ob) (c2.new hpn nt) (x2.trans (Ex.new (fresh_back c2.rs.ex hpn))) (by rw [upd_ne npA]; exact fA2) (by rw [upd_ne npA]; exact hA2) (dA2.mono (Ex.new (fresh_back c2.rs.ex hpn))) dx
    · refine .inl ⟨it.stop i H2 ex2 (by omega), ?_⟩
      rw [List.drop_eq_nil_of_le (by omega)] at e2
      cases e2
      have c3 : Cx2 K σ ρ σ (wipeR ρo vs) F H F2 H2 := c2.wipe (wipe_length σ vs).symm fun j hj => (wipe_out σ hj).symm
      exact q _ _ rfl A accv F2 H2 c3.toNx hA0 fA2 hA2 dA2
end
end Pd

namespace Pd
open PySem L2 Evl
/-! ### comprehensions of two fors -/
def lc2I (tg1 : DG) (tt1 : DB) (e : DE) (vs1 : List Nat) : List PyData → List PyData → Rho → Option (List PyData × Rho) := lcL tg1 tt1 e vs1
def lc2L (tg : DG) (tt : DB) (fl1 : DL) (tg1 : DG) (tt1 : DB) (e : DE) (vs vs1 : List Nat) : List PyData → List PyData → Rho → Option (List PyData × Rho)
  | [], acc, ρ => some (acc, ρ)
  | d :: ds, acc, ρ => match tg d ρ with
    | none => none
    | some ρ1 => bnd0 (tt ρ1) fun b ρ2 => if b = true then bnd0 (fl1 ρ2) fun ds1 ρ3 => (lc2I tg1 tt1 e vs1 ds1 acc (wipeR ρ3 vs1)).bind fun r => lc2L tg tt fl1 tg1 tt1 e vs vs1 ds r.1 (wipeR r.2 vs) else lc2L tg tt fl1 tg1 tt1 e vs vs1 ds acc (wipeR ρ2 vs)
def lc2M (fl : DL) (tg : DG) (tt : DB) (fl1 : DL) (tg1 : DG) (tt1 : DB) (e : DE) (vs vs1 : List Nat) : DL := fun ρ => bnd (fl ρ) fun ds ρ1 => (lc2L tg tt fl1 tg1 tt1 e vs vs1 ds [] (wipeR ρ1 vs)).map fun r => .ok r.1 (wipeR r.2 vs)
section
variable {K : PKt} {ec : EC} {W : WX} {te : TE} {tt tt1 : TT} {wi wi1 : TI} {g g1 : TG} {tg tg1 : DG} {f : DE} {fb fb1 : DB} {fl fl1 : DL} {is is1 vs vs1 : List Nat} {F Hb F1 H1 : Hp} {σ τ : L2.St} {ρ ρ1 : Rho} {β : Type}
/-- what the accumulating list A is, and where -/
structure Acc (K : PKt) (F1 : Hp) (A : Addr) (vs : List Nat) (F' H' : Hp) (acc : List PyData) (ρ' : Rho) : Prop where
  x : Ex F1 F'
  fA : F' A = none
  da : ∃ accv, H' A = some (.lst accv) ∧ DqAll K F' accv acc
  no : ∀ (i : Nat) (t : Bool) (ds : List PyData), ρ'[i]? = some (.own t ds) → i ∉ vs
theorem eo_lc2 (hi : Id K ec W wi fl) (hg : Gd K is g tg) (hv : ∀ i ∈ is, i ∈ vs) (ht : Et K ec W tt fb) (hi1 : Id K ec W wi1 fl1) (hg1 : Gd K is1 g1 tg1) (hv1 : ∀ i ∈ is1, i ∈ vs1) (hvv : ∀ i ∈ vs1, i ∈ vs) (ht1 : Et K ec W tt1 fb1) (he : Ed K ec W te f) : Eo K ec W (tLc2 wi g tt wi1 g1 tt1 te vs vs1) (lc2M fl tg fb fl1 tg1 fb1 f vs vs1) := by
  intro F Hb σ ρ o rs e Q q hf
  refine hi.go rs e hf fun ds ρ1 J F1 H1 n1 it e1 hf1 => ?_
  cases el : lc2L tg fb fl1 tg1 fb1 f vs vs1 ds [] (wipeR ρ1 vs) with
  | none => rw [el] at e1; cases e1
  | some r =>
    rw [el] at e1
    cases e1
    obtain ⟨out, ρo⟩ := r
    intro A hA
    have hA0 : ¬ Th Hb A := fun z => Th.no hA (n1.thr A z)
    have fA : F1 A = none := fresh_back n1.rs.ex hA
    have c1 : Cx2 K σ ρ (wipe σ vs) (wipeR ρ1 vs) F Hb F1 H1 := n1.toC.wipe (wipe_length σ vs) fun j hj => wipe_out σ hj
    have noA : ∀ {τ : L2.St} {ρ' : Rho} {F' H' : Hp}, Cx2 K σ ρ τ ρ' F Hb F' H' → ¬ Ow τ ρ' A := fun c w => hA0 (rs.ow_there (c.ow w))
    have c2 : Cx2 K σ ρ (wipe σ vs) (wipeR ρ1 vs) F Hb F1 (upd H1 A (.lst [])) := c1.other (.inl hA) (fun ps z => by cases z) fA hA0 (noA c1)
    have accN : ∀ {τ : L2.St} {ρ' ρ'' : Rho} {F' H' F'' H'' : Hp} {acc : List PyData} {xs ys : List Nat}, Cx2 K σ ρ τ ρ' F Hb F' H' → Nx K τ ρ' ρ'' F' H' F'' H'' → Acc K F1 A xs F' H' acc ρ' → (∀ (i : Nat) (t : Bool) (ds : List PyData), ρ''[i]? = some (.own t ds) → i ∉ ys) → Acc K F1 A ys F'' H'' acc ρ'' := fun c n a no => by
      obtain ⟨accv, h1, h2⟩ := a.da
      exact ⟨a.x.trans n.go.fr, n.go.lowL a.fA h1 (noA c), ⟨accv, n.go.keepL h1 (noA c), h2.mono n.go.fr⟩, no⟩
    refine ⟨fun i m H' => ∃ ρ' F' acc, Cx2 K σ ρ (wipe σ vs) ρ' F Hb F' H' ∧ Acc K F1 A vs F' H' acc ρ' ∧ lc2L tg fb fl1 tg1 fb1 f vs vs1 (ds.drop i) acc ρ' = some (out, ρo) ∧ m = ds.length - i,
      ⟨ds.length, _, F1, [], c2, ⟨Ex.refl F1, fA, ⟨[], upd_same, .nil⟩, fun i t ds h => wipeR_no h⟩, el, rfl⟩, ?_⟩
    rintro i m H2 ⟨ρ2, F2, acc, c2, a2, e2, rfl⟩
    have ex2 : Ex F1 H2 := a2.x.trans c2.rs.ex
    by_cases hlt : i < ds.length
    · refine .inr ⟨it.go i ds[i] H2 ex2 (List.getElem?_eq_getElem hlt), fun H' => ∃ ρ' F' acc, Cx2 K σ ρ (wipe σ vs) ρ' F Hb F' H' ∧ Acc K F1 A vs F' H' acc ρ' ∧ lc2L tg fb fl1 tg1 fb1 f vs vs1 (ds.drop (i + 1)) acc ρ' = some (out, ρo), ?_, ?_⟩
      · rintro H' ⟨ρ', F', acc, k1, k2, k3⟩
        exact ⟨ds.length - (i + 1), by omega, ρ', F', acc, k1, k2, k3, rfl⟩
      · intro x H3 hy
        rw [List.drop_eq_getElem_cons hlt] at e2
        unfold lc2L at e2
        have main : ∀ F3, Cx2 K σ ρ (wipe σ vs) ρ2 F Hb F3 H3 → Acc K F1 A vs F3 H3 acc ρ2 → Dq K F3 x ds[i] → g x (wipe σ vs) H3 fun σ2 H2 => wipe σ2 vs = wipe σ vs ∧ tt σ2 H2 fun b H3 => if b = true then wi1 σ2 H3 fun J1 H4 => ∃ W1 : Nat → Nat → Hp → Prop, (∃ m, W1 0 m H4) ∧ ∀ (j k : Nat) (H : Hp), W1 j k H → J1.stop j H ∧ (∃ ρ' F' acc, Cx2 K σ ρ (wipe σ vs) ρ' F Hb F' H ∧ Acc K F1 A vs F' H acc ρ' ∧ lc2L tg fb fl1 tg1 fb1 f vs vs1 (ds.drop (i + 1)) acc ρ' = some (out, ρo)) ∨ J1.go j H ∧ ∃ Nx1 : Hp → Prop, (∀ H', Nx1 H' → ∃ k', k' < k ∧ W1 (j + 1) k' H') ∧ ∀ (x : V) (H' : Hp), J1.yld j H x H' → g1 x (wipe σ2 vs1) H' fun σ3 H5 => wipe σ3 vs1 = wipe σ2 vs1 ∧ tt1 σ3 H5 fun b H6 => if b = true then te σ3 H6 fun y H7 => ∃ acc, H7 A = some (HO.lst acc) ∧ acc.length < sizeLine ∧ Nx1 (upd H7 A (HO.lst (acc ++ [y]))) else Nx1 H6 else (∃ ρ' F' acc, Cx2 K σ ρ (wipe σ vs) ρ' F Hb F' H3 ∧ Acc K F1 A vs F' H3 acc ρ' ∧ lc2L tg fb fl1 tg1 fb1 f vs vs1 (ds.drop (i + 1)) acc ρ' = some (out, ρo)) := by
          intro F3 c3 a3 dx
          cases et : tg ds[i] ρ2 with
          | none => rw [et] at e2; cases e2
          | some ρ3 =>
            rw [et] at e2
            refine hg.c2 (τ := wipe σ vs) hv rfl rfl c3 a3.no dx et fun υ hw hl ho c4 => ⟨hw.trans (wipe_ext (wipe_length σ vs) fun j hj => wipe_out σ hj), ?_⟩
            have a4 : Acc K F1 A [] F3 H3 acc ρ3 := ⟨a3.x, a3.fA, a3.da, fun _ _ _ _ => List.not_mem_nil⟩
            refine ht.go0 c4.rs e2 fun b ρ5 F5 H5 n5 e5 => ?_
            have c5 := c4.nx n5
            have a5 : Acc K F1 A [] F5 H5 acc ρ5 := accN c4 n5 a4 fun _ _ _ _ => List.not_mem_nil
            have back : ∀ j, j ∉ vs → (wipe σ vs)[j]? = υ[j]? := fun j hj => (ho j hj).symm
            cases b with
            | false =>
              rw [if_neg (by decide)] at e5 ⊢
              exact ⟨wipeR ρ5 vs, F5, acc, c5.wipe hl.symm back, ⟨a5.x, a5.fA, a5.da, fun i t ds h => wipeR_no h⟩, e5⟩
            | true =>
              rw [if_pos rfl] at e5 ⊢
              refine hi1.go0 c5.rs e5 fun ds1 ρ6 J1 F6 H6 n6 it1 e6 => ?_
              have c6 := c5.nx n6
              have a6 : Acc K F1 A [] F6 H6 acc ρ6 := accN c5 n6 a5 fun _ _ _ _ => List.not_mem_nil
              cases el1 : lc2I tg1 fb1 f vs1 ds1 acc (wipeR ρ6 vs1) with
              | none => rw [el1] at e6; cases e6
              | some rr =>
                rw [el1] at e6
                obtain ⟨out1, ρr⟩ := rr
                have e6' : lc2L tg fb fl1 tg1 fb1 f vs vs1 (ds.drop (i + 1)) out1 (wipeR ρr vs) = some (out, ρo) := e6
                have c7 : Cx2 K σ ρ (wipe υ vs1) (wipeR ρ6 vs1) F Hb F6 H6 := c6.wipe (wipe_length υ vs1) fun j hj => wipe_out υ hj
                refine ⟨fun j k H' => ∃ ρ' F' acc', Cx2 K σ ρ (wipe υ vs1) ρ' F Hb F' H' ∧ Ex F6 F' ∧ Acc K F1 A vs1 F' H' acc' ρ' ∧ lcL tg1 fb1 f vs1 (ds1.drop j) acc' ρ' = some (out1, ρr) ∧ k = ds1.length - j, ⟨ds1.length, _, F6, acc, c7, Ex.refl F6, ⟨a6.x, a6.fA, a6.da, fun i t ds h => wipeR_no h⟩, el1, rfl⟩, ?_⟩
                rintro j k H8 ⟨ρ8, F8, acc8, c8, x8, a8, e8, rfl⟩
                by_cases hlt1 : j < ds1.length
                · refine .inr ⟨it1.go j ds1[j] H8 (x8.trans c8.rs.ex) (List.getElem?_eq_getElem hlt1), fun H' => ∃ ρ' F' acc', Cx2 K σ ρ (wipe υ vs1) ρ' F Hb F' H' ∧ Ex F6 F' ∧ Acc K F1 A vs1 F' H' acc' ρ' ∧ lcL tg1 fb1 f vs1 (ds1.drop (j + 1)) acc' ρ' = some (out1, ρr), ?_, ?_⟩
                  · rintro H' ⟨ρ', F', acc', k1, k2, k3, k4⟩
                    exact ⟨ds1.length - (j + 1), by omega, ρ', F', acc', k1, k2, k3, k4, rfl⟩
                  · intro x1 H9 hy1
                    rw [List.drop_eq_getElem_cons hlt1] at e8
                    unfold lcL at e8
                    have main1 : ∀ F9, Cx2 K σ ρ (wipe υ vs1) ρ8 F Hb F9 H9 → Ex F6 F9 → Acc K F1 A vs1 F9 H9 acc8 ρ8 → Dq K F9 x1 ds1[j] → g1 x1 (wipe υ vs1) H9 fun σ3 H5 => wipe σ3 vs1 = wipe υ vs1 ∧ tt1 σ3 H5 fun b H6 => if b = true then te σ3 H6 fun y H7 => ∃ acc, H7 A = some (HO.lst acc) ∧ acc.length < sizeLine ∧ (∃ ρ' F' acc', Cx2 K σ ρ (wipe υ vs1) ρ' F Hb F' (upd H7 A (HO.lst (acc ++ [y]))) ∧ Ex F6 F' ∧ Acc K F1 A vs1 F' (upd H7 A (HO.lst (acc ++ [y]))) acc' ρ' ∧ lcL tg1 fb1 f vs1 (ds1.drop (j + 1)) acc' ρ' = some (out1, ρr)) else (∃ ρ' F' acc', Cx2 K σ ρ (wipe υ vs1) ρ' F Hb F' H6 ∧ Ex F6 F' ∧ Acc K F1 A vs1 F' H6 acc' ρ' ∧ lcL tg1 fb1 f vs1 (ds1.drop (j + 1)) acc' ρ' = some (out1, ρr)) := by
                      intro F9 c9 x9 a9 dx1
                      cases et1 : tg1 ds1[j] ρ8 with
                      | none => rw [et1] at e8; cases e8
                      | some ρ10 =>
                        rw [et1] at e8
                        refine hg1.c2 (τ := wipe υ vs1) hv1 rfl rfl c9 a9.no dx1 et1 fun φ hw1 hl1 ho1 c10 => ⟨hw1.trans (wipe_ext (wipe_length υ vs1) fun j hj => wipe_out υ hj), ?_⟩
                        have a10 : Acc K F1 A [] F9 H9 acc8 ρ10 := ⟨a9.x, a9.fA, a9.da, fun _ _ _ _ => List.not_mem_nil⟩
                        refine ht1.go0 c10.rs e8 fun b ρ11 F11 H11 n11 e11 => ?_
                        have c11 := c10.nx n11
                        have a11 : Acc K F1 A [] F11 H11 acc8 ρ11 := accN c10 n11 a10 fun _ _ _ _ => List.not_mem_nil
                        have back1 : ∀ j, j ∉ vs1 → (wipe υ vs1)[j]? = φ[j]? := fun j hj => (ho1 j hj).symm
                        cases b with
                        | false =>
                          rw [if_neg (by decide)] at e11 ⊢
                          exact ⟨wipeR ρ11 vs1, F11, acc8, c11.wipe hl1.symm back1, x9.trans n11.go.fr, ⟨a11.x, a11.fA, a11.da, fun i t ds h => wipeR_no h⟩, e11⟩
                        | true =>
                          rw [if_pos rfl] at e11 ⊢
                          refine he.go0 c11.rs e11 fun y ρ12 v F12 H12 n12 dv e12 => ?_
                          split at e12
                          · rename_i hz
                            have c12 := c11.nx n12
                            obtain ⟨accv, hA12, da12⟩ := (accN c11 n12 a11 (ys := []) fun _ _ _ _ => List.not_mem_nil).da
                            have a12 := accN c11 n12 a11 (ys := []) fun _ _ _ _ => List.not_mem_nil
                            have c13 : Cx2 K σ ρ (wipe υ vs1) (wipeR ρ12 vs1) F Hb F12 H12 := c12.wipe hl1.symm back1
                            exact ⟨accv, hA12, sz_lt (by rw [da12.length]; exact hz), wipeR ρ12 vs1, F12, acc8 ++ [y], c13.other (.inr ⟨_, hA12⟩) (fun ps z => by cases z) a12.fA hA0 (noA c13), (x9.trans n11.go.fr).trans n12.go.fr, ⟨a12.x, a12.fA, ⟨_, upd_same, da12.append (.one dv)⟩, fun i t ds h => wipeR_no h⟩, e12⟩
                          · cases e12
                    rcases it1.yld j ds1[j] F8 H8 x1 H9 x8 c8.rs.ex (List.getElem?_eq_getElem hlt1) hy1 with ⟨rfl, dx1⟩ | ⟨p, ob, nt, rfl, hpn, rfl, dx1⟩
                    · exact main1 F8 c8 x8 a8 dx1
                    · exact main1 (upd F8 p ob) (c8.new hpn nt) (x8.trans (Ex.new (fresh_back c8.rs.ex hpn))) (accN c8 (c8.rs.new hpn nt) a8 a8.no) dx1
                · refine .inl ⟨it1.stop j H8 (x8.trans c8.rs.ex) (by omega), ?_⟩
                  rw [List.drop_eq_nil_of_le (by omega)] at e8
                  cases e8
                  refine ⟨wipeR ρr vs, F8, out1, c8.wipe ?_ fun j hj => ?_, ⟨a8.x, a8.fA, a8.da, fun i t ds h => wipeR_no h⟩, e6'⟩
                  · rw [wipe_length, wipe_length, hl, wipe_length]
                  · rw [wipe_out υ fun m => hj (hvv j m)]
                    exact back j hj
        rcases it.yld i ds[i] F2 H2 x H3 a2.x c2.rs.ex (List.getElem?_eq_getElem hlt) hy with ⟨rfl, dx⟩ | ⟨p, ob, nt, rfl, hpn, rfl, dx⟩
        · exact main F2 c2 a2 dx
        · obtain ⟨accv, hA2, dA2⟩ := a2.da
          exact main (upd F2 p ob) (c2.new hpn nt) (accN c2 (c2.rs.new hpn nt) a2 a2.no) dx
    · refine .inl ⟨it.stop i H2 ex2 (by omega), ?_⟩
      rw [List.drop_eq_nil_of_le (by omega)] at e2
      cases e2
      have c3 : Cx2 K σ ρ σ (wipeR ρo vs) F Hb F2 H2 := c2.wipe (wipe_length σ vs).symm fun j hj => (wipe_out σ hj).symm
      obtain ⟨accv, hA2, dA2⟩ := a2.da
      exact q _ _ rfl A accv F2 H2 c3.toNx hA0 a2.fA hA2 dA2
end
end Pd

namespace Pd
open PySem L2 Evl
/-! ### promises -/
abbrev FnQ := List PyData → Option PyData
inductive Rs where
  | ok (d : PyData)
  | er (c : Nat) (d : PyData)
abbrev FnE := List PyData → Option Rs
abbrev FnN := List PyData → Option (List PyData)
/-- box and further arguments to value and box -/
abbrev FnB := List PyData → List PyData → Option (PyData × List PyData)
def no1 : Addr → Prop := fun _ => False
def spQ (K : PKt) (n : Nat) (f : FnQ) : Sp := fun vs H Q _ => LamX.Tabs K.T H ∧ ∃ F ds d, Nt F ∧ Ex F H ∧ DqAll K F vs ds ∧ ds.length = n ∧ f ds = some d ∧ ∀ v F' H', Go K.T no1 F H F' H' → Dq K F' v d → Q v H'
def spE (K : PKt) (ec : EC) (n : Nat) (f : FnE) : Sp := fun vs H Q E => LamX.Tabs K.T H ∧ ∃ F ds r, Nt F ∧ Ex F H ∧ DqAll K F vs ds ∧ ds.length = n ∧ f ds = some r ∧
  (∀ d, r = .ok d → ∀ v F' H', Go K.T no1 F H F' H' → Dq K F' v d → Q v H') ∧ (∀ c d, r = .er c d → ∀ cls dd F' H', Go K.T no1 F H F' H' → Xr K ec F' H' c d cls dd → E cls dd H')
/-- a new list -/
def spN (K : PKt) (n : Nat) (f : FnN) : Sp := fun vs H Q _ => LamX.Tabs K.T H ∧ ∃ F ds es, Nt F ∧ Ex F H ∧ DqAll K F vs ds ∧ ds.length = n ∧ f ds = some es ∧ ∀ a ws F' H', Go K.T no1 F H F' H' → ¬ Th H a → F' a = none → H' a = some (.lst ws) → DqAll K F' ws es → Q (.ref a) H'
/-- the first argument is a list that is lent -/
def spB (K : PKt) (n : Nat) (f : FnB) : Sp := fun vs H Q _ => LamX.Tabs K.T H ∧ ∃ F a bs bd ws ds d bd', vs = .ref a :: ws ∧ Nt F ∧ Ex F H ∧ F a = none ∧ H a = some (.lst bs) ∧ DqAll K F bs bd ∧ DqAll K F ws ds ∧ ds.length = n ∧ f bd ds = some (d, bd') ∧
  ∀ v F' H' bs', Go K.T (· = a) F H F' H' → F' a = none → H' a = some (.lst bs') → DqAll K F' bs' bd' → Dq K F' v d → Q v H'
/-- the same, a new list is the value -/
abbrev FnBN := List PyData → List PyData → Option (List PyData × List PyData)
section
variable {K : PKt} {ec : EC} {W : WX} {F H F1 H1 : Hp} {σ : L2.St} {ρ : Rho} {te : TE} {tl : TA} {tt : TT} {ts : TS} {fl : DL} {f : DE} {fb : DB} {gs : DS}
theorem spQ.mono {n : Nat} {f g : FnQ} (h : ∀ ds d, ds.length = n → f ds = some d → g ds = some d) {vs : List V} {Q : VK} {E : XK} (s : spQ K n f vs H Q E) : spQ K n g vs H Q E := by
  obtain ⟨h0, F, ds, d, hnt, h1, h2, h3, h4, h5⟩ := s
  exact ⟨h0, F, ds, d, hnt, h1, h2, h3, h ds d h3 h4, h5⟩
theorem RS.back (r : RS K F H σ ρ) (g : Go K.T no1 F H F1 H1) : Nx K σ ρ ρ F H F1 H1 := by
  refine ⟨⟨r.len, g.tab r.tab, g.nt r.nt, g.ex, fun i d h => ?_, fun i t ds h => ?_, r.apart⟩, ⟨g.fr, g.ex, fun a o h k _ => g.keep a o h k id, fun a h1 h2 _ => g.low a h1 h2 id, g.tab, g.nt⟩, fun _ _ ds h => ⟨ds, h⟩, fun a h => g.thr h id⟩
  · obtain ⟨v, h1, h2⟩ := r.fro i d h
    exact ⟨v, h1, h2.mono g.fr⟩
  · obtain ⟨a, vs, h1, h2, h3, h4⟩ := r.own i t ds h
    exact ⟨a, vs, h1, g.lowL h2 h3 id, g.keepL h3 id, h4.mono g.fr⟩
/-- a name's own list was lent -/
theorem RS.lent (r : RS K F H σ ρ) {i : Nat} {t : Bool} {ds es : List PyData} {a : Addr} {ws : List V} (hi : ρ[i]? = some (.own t ds)) (ha : σ[i]? = some (some (.ref a))) (g : Go K.T (· = a) F H F1 H1) (fa : F1 a = none) (h1 : H1 a = some (.lst ws)) (dv : DqAll K F1 ws es) : Nx K σ ρ (ρ.set i (.own t es)) F H F1 H1 := by
  have w : Ow σ ρ a := ⟨i, t, ds, hi, ha⟩
  refine ⟨⟨by rw [List.length_set]; exact r.len, g.tab r.tab, g.nt r.nt, g.ex, fun j d h => ?_, fun j u ws h => ?_, fun j k u u' ws xs b hjk h1 h2 h3 h4 => ?_⟩, ⟨g.fr, g.ex, fun b o h k n => g.keep b o h k fun e => n (by rw [e]; exact w), fun b h1 h2 n => g.low b h1 h2 fun e => n (by rw [e]; exact w), g.tab, g.nt⟩, fun j u ws h => ?_, fun b h => ?_⟩
  · rcases get_set h with ⟨rfl, e', hl⟩ | ⟨hj, h⟩
    · cases e'
    · obtain ⟨v, x1, x2⟩ := r.fro j d h
      exact ⟨v, x1, x2.mono g.fr⟩
  · rcases get_set h with ⟨rfl, e', hl⟩ | ⟨hj, h⟩
    · cases e'
      exact ⟨a, _, ha, fa, h1, dv⟩
    · obtain ⟨b, xs, x1, x2, x3, x4⟩ := r.own j u ws h
      have ne : b ≠ a := fun e => by
        subst e
        exact r.apart j i u t ws ds b hj h hi x1 ha
      exact ⟨b, xs, x1, g.lowL x2 x3 ne, g.keepL x3 ne, x4.mono g.fr⟩
  · have get : ∀ {j : Nat} {u : Bool} {ws : List PyData}, (ρ.set i (.own t es))[j]? = some (.own u ws) → ∃ ws', ρ[j]? = some (.own u ws') := fun {j u ws} h => by
      rcases get_set h with ⟨rfl, e', hl⟩ | ⟨hj, h⟩
      · cases e'
        exact ⟨ds, hi⟩
      · exact ⟨ws, h⟩
    obtain ⟨w1, g1⟩ := get h1
    obtain ⟨w2, g2⟩ := get h2
    exact r.apart j k u u' w1 w2 b hjk g1 g2 h3 h4
  · rcases get_set h with ⟨rfl, e', hl⟩ | ⟨hj, h⟩
    · cases e'
      exact ⟨ds, hi⟩
    · exact ⟨ws, h⟩
  · by_cases e : b = a
    · rw [e]; exact Th.lst h1
    · exact g.thr h e
/-! ### calls -/
def callM (n : Nat) (fn : FnQ) (fl : DL) : DE := fun ρ => bnd (fl ρ) fun as ρ1 => if as.length = n then (fn as).map fun d => .ok d ρ1 else none
theorem ed_call {n : Nat} {fn : FnQ} {E : XK} (h : Ea K ec W tl fl) : Ed K ec W (tCall (spQ K n fn) [] E tl) (callM n fn fl) := by
  intro F H σ ρ o rs e Q q hf
  refine h.go rs e hf fun as ρ1 vs F1 H1 n1 dv e1 hf1 => ?_
  split at e1
  · rename_i hn
    cases ef : fn as with
    | none => rw [ef] at e1; cases e1
    | some d =>
      rw [ef] at e1
      cases e1
      exact ⟨n1.rs.tab, F1, as, d, n1.rs.nt, n1.rs.ex, by rw [List.append_nil]; exact dv, hn, ef, fun v F' H' g dv' => q d ρ1 rfl v F' H' (n1.trans (n1.rs.back g)) dv'⟩
  · cases e1
def callE (n : Nat) (fn : FnE) (fl : DL) : DE := fun ρ => bnd (fl ρ) fun as ρ1 => if as.length = n then (fn as).map fun r => match r with | .ok d => .ok d ρ1 | .er c d => .ex c d ρ1 else none
theorem ed_callE {n : Nat} {fn : FnE} (h : Ea K ec W tl fl) : Ed K ec W (tCallS (spE K ec n fn) (WE W) tl) (callE n fn fl) := by
  intro F H σ ρ o rs e Q q hf
  refine h.go rs e hf fun as ρ1 vs F1 H1 n1 dv e1 hf1 => ?_
  split at e1
  · rename_i hn
    cases ef : fn as with
    | none => rw [ef] at e1; cases e1
    | some r =>
      rw [ef] at e1
      refine ⟨n1.rs.tab, F1, as, r, n1.rs.nt, n1.rs.ex, dv, hn, ef, fun d er v F' H' g dv' => ?_, fun c d er cls dd F' H' g x => ?_⟩
      · subst er
        cases e1
        exact q d ρ1 rfl v F' H' (n1.trans (n1.rs.back g)) dv'
      · subst er
        cases e1
        exact hf1 c d ρ1 rfl cls dd F' H' (n1.rs.back g) x
  · cases e1
def callN (n : Nat) (fn : FnN) (fl : DL) : DL := fun ρ => bnd (fl ρ) fun as ρ1 => if as.length = n then (fn as).map fun d => .ok d ρ1 else none
theorem eo_call {n : Nat} {fn : FnN} {E : XK} (h : Ea K ec W tl fl) : Eo K ec W (tCall (spN K n fn) [] E tl) (callN n fn fl) := by
  intro F H σ ρ o rs e Q q hf
  refine h.go rs e hf fun as ρ1 vs F1 H1 n1 dv e1 hf1 => ?_
  split at e1
  · rename_i hn
    cases ef : fn as with
    | none => rw [ef] at e1; cases e1
    | some d =>
      rw [ef] at e1
      cases e1
      exact ⟨n1.rs.tab, F1, as, d, n1.rs.nt, n1.rs.ex, by rw [List.append_nil]; exact dv, hn, ef, fun a ws F' H' g ha fa h' dv' => q d ρ1 rfl a ws F' H' (n1.trans (n1.rs.back g)) (none_back n1.thr ha) fa h' dv'⟩
  · cases e1
def callB (n i : Nat) (fn : FnB) (fl : DL) : DE := fun ρ => match ρ[i]? with
  | some (.own _ _) => bnd (fl ρ) fun as ρ1 => match ρ1[i]? with
    | some (.own t bd) => if as.length = n then (fn bd as).map fun r => .ok r.1 (ρ1.set i (.own t r.2)) else none
    | _ => none
  | _ => none
theorem ed_callB {n i : Nat} {fn : FnB} {E : XK} (h : Ea K ec W tl fl) : Ed K ec W (tCall (spB K n fn) [] E (tCons (tVar i) tl)) (callB n i fn fl) := by
  intro F H σ ρ o rs e Q q hf
  unfold callB at e
  split at e
  · rename_i t0 ds0 h0
    obtain ⟨a, vs0, h1, h2, h3, h4⟩ := rs.own i t0 ds0 h0
    refine ⟨.ref a, h1, ?_⟩
    refine h.go rs e hf fun as ρ1 vs F1 H1 n1 dv e1 hf1 => ?_
    split at e1
    · rename_i t bd hh
      obtain ⟨b, ws, g1, g2, g3, g4⟩ := n1.rs.own i t bd hh
      rw [h1] at g1
      cases g1
      split at e1
      · rename_i hn
        cases ef : fn bd as with
        | none => rw [ef] at e1; cases e1
        | some r =>
          rw [ef] at e1
          cases e1
          refine ⟨n1.rs.tab, F1, a, ws, bd, vs, as, r.1, r.2, by rw [List.append_nil], n1.rs.nt, n1.rs.ex, g2, g3, g4, dv, hn, ef, fun v F' H' bs' g fa h' db dv' => ?_⟩
          exact q r.1 _ rfl v F' H' (n1.trans (n1.rs.lent hh h1 g fa h' db)) dv'
      · cases e1
    · cases e1
  · cases e
/-! ### raising -/
def raiseS (c : Nat) (f : DE) : DS := fun ρ => bndS (f ρ) fun d ρ1 => some (.ex c d ρ1)
theorem xr_new {c : Nat} {v : V} {d : PyData} (rs : RS K F H σ ρ) (dv : Dq K F v d) {a : Addr} (ha : H a = none) : Nx K σ ρ ρ F H F (upd H a (.xd [(ec.fld c, v)])) ∧ Xr K ec F (upd H a (.xd [(ec.fld c, v)])) c d (.ref (ec.C c)) (some a) :=
  ⟨rs.newOwn ha (fun ps z => by cases z), rfl, a, v, rfl, upd_same, dv⟩
theorem sd_raiseA {c : Nat} (hc : ec.fld c = "at") (h : Ed K ec W te f) : Sd K ec W (tRaiseA (ec.C c) W (tCons te tNil)) (raiseS c f) := by
  intro F H σ ρ oc rs e D hp
  refine h.goS rs e hp fun d ρ1 v F1 H1 n dv e1 hp1 => ?_
  cases e1
  refine ⟨v, rfl, fun a ha => ?_⟩
  have x := xr_new (ec := ec) (c := c) n.rs dv ha
  rw [hc] at x
  exact hp1 _ _ σ F1 _ x.1.sx x.2
/-! ### while -/
def whileN (c : DB) (b : DS) : Nat → DS
  | 0 => fun _ => none
  | n + 1 => fun ρ => bndS (c ρ) fun k ρ1 => if k = true then (match b ρ1 with
    | some (.nx ρ2) => whileN c b n ρ2
    | some (.ct ρ2) => whileN c b n ρ2
    | some (.bk ρ2) => some (.nx ρ2)
    | x => x) else some (.nx ρ1)
theorem sd_whileN {n : Nat} (hc : Et K ec W tt fb) (hb : Sd K ec W ts gs) : Sd K ec W (tWhile tt ts) (whileN fb gs n) := by
  intro F H σ ρ oc rs e D hp
  refine ⟨fun m σ' H' => ∃ ρ' F', Sx K σ ρ σ' ρ' F H F' H' ∧ whileN fb gs m ρ' = some oc, ⟨n, ρ, F, (Nx.refl rs).sx, e⟩, ?_⟩
  rintro m σ1 H1 ⟨ρ1, F1, s1, e1⟩
  cases m with
  | zero => cases e1
  | succ m =>
    unfold whileN at e1
    refine hc.goS s1.rs e1 (hp.step s1) fun b ρ2 F2 H2 n2 e2 hp2 => ?_
    have s2 := s1.trans n2.sx
    cases b with
    | false =>
      rw [if_neg (by decide)] at e2 ⊢
      cases e2
      exact hp2 σ1 F2 H2 (Nx.refl n2.rs).sx
    | true =>
      rw [if_pos rfl] at e2 ⊢
      refine ⟨fun σ' H' => ∃ ρ' F', Sx K σ ρ σ' ρ' F H F' H' ∧ whileN fb gs m ρ' = some oc, fun σ' H' ⟨ρ', F', a, b⟩ => ⟨m, Nat.lt_succ_self m, ρ', F', a, b⟩, ?_⟩
      cases eb : gs ρ2 with
      | none => rw [eb] at e2; cases e2
      | some ob =>
        rw [eb] at e2
        refine hb F2 H2 σ1 ρ2 ob n2.rs eb _ ?_
        cases ob with
        | nx ρ' => exact fun σ' F' H' s' => ⟨ρ', F', s2.trans s', e2⟩
        | ct ρ' => exact fun σ' F' H' s' => ⟨ρ', F', s2.trans s', e2⟩
        | bk ρ' => cases e2; exact fun σ' F' H' s' => hp2 σ' F' H' s'
        | rt d ρ' => cases e2; exact fun v σ' F' H' s' dv => hp2 v σ' F' H' s' dv
        | ro ds ρ' => cases e2; exact hp2
        | ex c d ρ' => cases e2; exact fun cls dd σ' F' H' s' x => hp2 cls dd σ' F' H' s' x
/-- with as many turns as are needed -/
noncomputable def whileS (c : DB) (b : DS) : DS := fun ρ => open Classical in if h : ∃ n, (whileN c b n ρ).isSome = true then whileN c b h.choose ρ else none
theorem sd_while (hc : Et K ec W tt fb) (hb : Sd K ec W ts gs) : Sd K ec W (tWhile tt ts) (whileS fb gs) := by
  intro F H σ ρ oc rs e D hp
  unfold whileS at e
  split at e
  · exact sd_whileN hc hb F H σ ρ oc rs e D hp
  · cases e
theorem whileN_up {c : DB} {b : DS} : ∀ {n m : Nat} {ρ : Rho} {oc : Oc}, n ≤ m → whileN c b n ρ = some oc → whileN c b m ρ = some oc
  | 0, _, _, _, _, e => by cases e
  | n + 1, 0, _, _, h, _ => absurd h (by omega)
  | n + 1, m + 1, ρ, oc, h, e => by
    unfold whileN bndS at e ⊢
    cases ec : c ρ with
    | none => rw [ec] at e; cases e
    | some x =>
      rw [ec] at e
      cases x with
      | ex c d ρ1 => exact e
      | ok k ρ1 =>
        cases k with
        | false => exact e
        | true =>
          simp only [if_true] at e ⊢
          cases eb : b ρ1 with
          | none => rw [eb] at e; cases e
          | some ob =>
            rw [eb] at e
            cases ob with
            | nx ρ' => exact whileN_up (by omega) e
            | ct ρ' => exact whileN_up (by omega) e
            | _ => exact e
theorem whileS_of {c : DB} {b : DS} {n : Nat} {ρ : Rho} {oc : Oc} (e : whileN c b n ρ = some oc) : whileS c b ρ = some oc := by
  have h : ∃ n, (whileN c b n ρ).isSome = true := ⟨n, by rw [e]; rfl⟩
  unfold whileS
  rw [dif_pos h]
  have h2 := h.choose_spec
  cases e2 : whileN c b h.choose ρ with
  | none => rw [e2] at h2; cases h2
  | some o2 =>
    have a := whileN_up (Nat.le_max_left n h.choose) e
    have b' := whileN_up (Nat.le_max_right n h.choose) e2
    rw [a] at b'
    exact b'.symm
/-! ### x[i] = e, x a list of its own -/
def at? (n : Nat) (i : Int) : Option Nat := if 0 ≤ i then (if i < n then some i.toNat else none) else if -(n : Int) ≤ i then some (i + n).toNat else none
def setS (i : Nat) (fi fe : DE) : DS := fun ρ => bndS (fe ρ) fun d ρ1 => match ρ1[i]? with
  | some (.own _ _) => bndS (fi ρ1) fun k ρ2 => match k, ρ2[i]? with
    | .int k, some (.own t ds) => (at? ds.length k).map fun j => .nx (ρ2.set i (.own t (ds.set j d)))
    | _, _ => none
  | _ => none
theorem sd_set {i : Nat} {ti : TE} {fi : DE} (hi : Ed K ec W ti fi) (h : Ed K ec W te f) : Sd K ec W (tAsg te (gSub (tVar i) ti rSetL)) (setS i fi f) := by
  intro F H σ ρ oc rs e D hp
  refine h.goS rs e hp fun d ρ1 v F1 H1 n1 dv e1 hp1 => ?_
  split at e1
  · rename_i t0 ds0 h0
    obtain ⟨a, vs, h1, h2, h3, h4⟩ := n1.rs.own i t0 ds0 h0
    refine ⟨.ref a, h1, ?_⟩
    refine hi.goS n1.rs e1 hp1 fun k ρ2 vk F2 H2 n2 dk e2 hp2 => ?_
    split at e2
    · rename_i k t ds hh
      obtain ⟨b, ws, g1, g2, g3, g4⟩ := n2.rs.own i t ds hh
      rw [h1] at g1
      cases g1
      cases ek : at? ds.length k with
      | none => rw [ek] at e2; cases e2
      | some j =>
        rw [ek] at e2
        cases e2
        cases dk with
        | int _ =>
          refine ⟨a, ws, k, j, rfl, rfl, g3, by rw [g4.length]; exact ek, ?_⟩
          exact hp2 σ F2 _ (n2.rs.mut hh h1 (g4.set (dv.mono n2.go.fr) j)).sx
    · cases e2
  · cases e1
end
/-! ### defs -/
def rho0 (N : Nat) (ds : List PyData) : Rho := ds.map .fro ++ List.replicate (N - ds.length) .no
def outQ : Oc → Option PyData
  | .rt d _ => some d
  | .ro ds _ => some (.list ds)
  | .nx _ => some .none
  | _ => none
def outE : Oc → Option Rs
  | .rt d _ => some (.ok d)
  | .ro ds _ => some (.ok (.list ds))
  | .nx _ => some (.ok .none)
  | .ex c d _ => some (.er c d)
  | _ => none
def outN : Oc → Option (List PyData)
  | .ro ds _ => some ds
  | _ => none
def denQ (N : Nat) (g : DS) : FnQ := fun ds => (g (rho0 N ds)).bind outQ
def denE (N : Nat) (g : DS) : FnE := fun ds => (g (rho0 N ds)).bind outE
def denN (N : Nat) (g : DS) : FnN := fun ds => (g (rho0 N ds)).bind outN
def rhoB (N : Nat) (bd ds : List PyData) : Rho := .own true bd :: (ds.map .fro ++ List.replicate (N - (ds.length + 1)) .no)
def outB : Oc → Option (PyData × List PyData)
  | .rt d (.own true bd :: _) => some (d, bd)
  | .ro ds (.own true bd :: _) => some (.list ds, bd)
  | .nx (.own true bd :: _) => some (.none, bd)
  | _ => none
def denB (N : Nat) (g : DS) : FnB := fun bd ds => (g (rhoB N bd ds)).bind outB
section
variable {K : PKt} {ec : EC} {W : WX} {F H : Hp} {ts : TS} {gs : DS} {N : List Str} {vs : List V} {ds : List PyData}
theorem rho0_own {n i : Nat} {t : Bool} {es : List PyData} (h : (rho0 n ds)[i]? = some (.own t es)) : False := by
  unfold rho0 at h
  rw [List.getElem?_append] at h
  split at h
  · rw [List.getElem?_map] at h
    cases e : ds[i]? with
    | none => rw [e] at h; cases h
    | some d => rw [e] at h; cases h
  · rw [List.getElem?_replicate] at h
    split at h <;> cases h
theorem rs_start (tb : LamX.Tabs K.T H) (nt : Nt F) (e : Ex F H) (dv : DqAll K F vs ds) : RS K F H (L2.start N vs) (rho0 N.length ds) := by
  refine ⟨?_, tb, nt, e, fun i d h => ?_, fun i t es h => (rho0_own h).elim, fun i j t u ds es a _ h => (rho0_own h).elim⟩
  · unfold rho0 L2.start
    rw [List.length_append, List.length_append, List.length_map, List.length_map, List.length_replicate, List.length_replicate, dv.length]
  · unfold rho0 at h
    rw [List.getElem?_append] at h
    split at h
    · rename_i hi
      rw [List.length_map] at hi
      rw [List.getElem?_map] at h
      cases ed : ds[i]? with
      | none => rw [ed] at h; cases h
      | some d' =>
        rw [ed] at h
        cases h
        obtain ⟨v, h1, h2⟩ := dv.get ed
        refine ⟨v, ?_, h2⟩
        unfold L2.start
        rw [List.getElem?_append_left (by rw [List.length_map, dv.length]; exact hi), List.getElem?_map, h1]
        rfl
    · rw [List.getElem?_replicate] at h
      split at h <;> cases h
theorem go_start {σ σ' : L2.St} {ρ' : Rho} {n : Nat} {F' H' : Hp} (s : Sx K σ (rho0 n ds) σ' ρ' F H F' H') : Go K.T no1 F H F' H' :=
  ⟨s.go.fr, s.go.ex, fun a o h k _ => s.go.keep a o h k fun ⟨i, t, es, w, _⟩ => rho0_own w, fun a h1 h2 _ => s.go.low a h1 h2 fun ⟨i, t, es, w, _⟩ => rho0_own w, s.go.tab, s.go.nt⟩
theorem body_Q (hb : Sd K ec W ts gs) {n : Nat} {Q : VK} {E : XK} (h : spQ K n (denQ N.length gs) vs H Q E) : ts { nx := fun _ H' => Q .non H', rt := Q } (L2.start N vs) H := by
  obtain ⟨h0, F, ds, d, hnt, h1, h2, h3, h4, h5⟩ := h
  unfold denQ at h4
  cases eg : gs (rho0 N.length ds) with
  | none => rw [eg] at h4; cases h4
  | some oc =>
    rw [eg] at h4
    refine hb F H (L2.start N vs) (rho0 N.length ds) oc (rs_start h0 hnt h1 h2) eg _ ?_
    cases oc with
    | nx ρ' => cases h4; exact fun σ' F' H' s => h5 .non F' H' (go_start s) .non
    | rt d ρ' => cases h4; exact fun v σ' F' H' s dv => h5 v F' H' (go_start s) dv
    | ro es ρ' =>
      cases h4
      exact fun a ws σ' F' H' s ha fa h' dv => h5 (.ref a) (upd F' a (.lst ws)) H' ⟨s.go.fr.trans (Ex.new fa), fun b u hb => by
        by_cases e : b = a
        · subst e; rw [upd_same] at hb; rw [h']; exact hb
        · rw [upd_ne e] at hb; exact s.rs.ex b u hb, (go_start s).keep, fun b k1 k2 k3 => by
        rw [upd_ne (fun e => ha (by rw [← e]; exact k2))]
        exact (go_start s).low b k1 k2 k3, s.go.tab, fun h => (s.go.nt h).lst⟩ (.lst upd_same (dv.mono (Ex.new fa)))
    | _ => cases h4
theorem body_N (hb : Sd K ec W ts gs) {n : Nat} {Q : VK} {E : XK} (h : spN K n (denN N.length gs) vs H Q E) : ts { nx := fun _ H' => Q .non H', rt := Q } (L2.start N vs) H := by
  obtain ⟨h0, F, ds, d, hnt, h1, h2, h3, h4, h5⟩ := h
  unfold denN at h4
  cases eg : gs (rho0 N.length ds) with
  | none => rw [eg] at h4; cases h4
  | some oc =>
    rw [eg] at h4
    refine hb F H (L2.start N vs) (rho0 N.length ds) oc (rs_start h0 hnt h1 h2) eg _ ?_
    cases oc with
    | ro es ρ' => cases h4; exact fun a ws σ' F' H' s ha fa h' dv => h5 a ws F' H' (go_start s) ha fa h' dv
    | _ => cases h4
theorem body_E {n : Nat} {Q : VK} {E : XK} (hb : Sd K ec (fun cls d _ H => E cls d H) ts gs) (h : spE K ec n (denE N.length gs) vs H Q E) : ts { nx := fun _ H' => Q .non H', rt := Q } (L2.start N vs) H := by
  obtain ⟨h0, F, ds, r, hnt, h1, h2, h3, h4, h5, h6⟩ := h
  unfold denE at h4
  cases eg : gs (rho0 N.length ds) with
  | none => rw [eg] at h4; cases h4
  | some oc =>
    rw [eg] at h4
    refine hb F H (L2.start N vs) (rho0 N.length ds) oc (rs_start h0 hnt h1 h2) eg _ ?_
    cases oc with
    | nx ρ' => cases h4; exact fun σ' F' H' s => h5 _ rfl .non F' H' (go_start s) .non
    | rt d ρ' => cases h4; exact fun v σ' F' H' s dv => h5 _ rfl v F' H' (go_start s) dv
    | ro es ρ' =>
      cases h4
      exact fun a ws σ' F' H' s ha fa h' dv => h5 _ rfl (.ref a) (upd F' a (.lst ws)) H' ⟨s.go.fr.trans (Ex.new fa), fun b u hb => by
        by_cases e : b = a
        · subst e; rw [upd_same] at hb; rw [h']; exact hb
        · rw [upd_ne e] at hb; exact s.rs.ex b u hb, (go_start s).keep, fun b k1 k2 k3 => by
        rw [upd_ne (fun e => ha (by rw [← e]; exact k2))]
        exact (go_start s).low b k1 k2 k3, s.go.tab, fun h => (s.go.nt h).lst⟩ (.lst upd_same (dv.mono (Ex.new fa)))
    | ex c d ρ' => cases h4; exact fun cls dd σ' F' H' s x => h6 _ _ rfl cls dd F' H' (go_start s) x
    | _ => cases h4
theorem rhoB_own {n i : Nat} {bd : List PyData} {t : Bool} {es : List PyData} (h : (rhoB n bd ds)[i]? = some (.own t es)) : i = 0 ∧ t = true ∧ es = bd := by
  unfold rhoB at h
  cases i with
  | zero => cases h; exact ⟨rfl, rfl, rfl⟩
  | succ i =>
    rw [List.getElem?_cons_succ] at h
    rw [List.getElem?_append] at h
    split at h
    · rw [List.getElem?_map] at h
      cases e : ds[i]? with
      | none => rw [e] at h; cases h
      | some d => rw [e] at h; cases h
    · rw [List.getElem?_replicate] at h
      split at h <;> cases h
theorem rs_startB {a : Addr} {bs : List V} {bd : List PyData} (tb : LamX.Tabs K.T H) (nt : Nt F) (e : Ex F H) (fa : F a = none) (ha : H a = some (.lst bs)) (db : DqAll K F bs bd) (dv : DqAll K F vs ds) : RS K F H (L2.start N (.ref a :: vs)) (rhoB N.length bd ds) := by
  refine ⟨?_, tb, nt, e, fun i d h => ?_, fun i t es h => ?_, fun i j t u ds es b hij h1 h2 => ?_⟩
  · unfold rhoB L2.start
    rw [List.length_cons, List.length_append, List.length_append, List.length_map, List.length_map, List.length_replicate, List.length_replicate, List.length_cons, dv.length]
    omega
  · unfold rhoB at h
    cases i with
    | zero => cases h
    | succ i =>
      rw [List.getElem?_cons_succ, List.getElem?_append] at h
      split at h
      · rename_i hi
        rw [List.length_map] at hi
        rw [List.getElem?_map] at h
        cases ed : ds[i]? with
        | none => rw [ed] at h; cases h
        | some d' =>
          rw [ed] at h
          cases h
          obtain ⟨v, h1, h2⟩ := dv.get ed
          refine ⟨v, ?_, h2⟩
          unfold L2.start
          rw [List.getElem?_append_left (by rw [List.length_map, List.length_cons, dv.length]; omega), List.getElem?_map, List.getElem?_cons_succ, h1]
          rfl
      · rw [List.getElem?_replicate] at h
        split at h <;> cases h
  · obtain ⟨rfl, rfl, rfl⟩ := rhoB_own h
    exact ⟨a, bs, rfl, fa, ha, db⟩
  · exact fun _ _ => hij ((rhoB_own h1).1.trans (rhoB_own h2).1.symm)
theorem body_B (hb : Sd K ec W ts gs) {n : Nat} {Q : VK} {E : XK} (h : spB K n (denB N.length gs) vs H Q E) : ts { nx := fun _ H' => Q .non H', rt := Q } (L2.start N vs) H := by
  obtain ⟨h0, F, a, bs, bd, ws, ds, d, bd', rfl, hnt, h1, h2, h3, h4, h5, h6, h7, h8⟩ := h
  unfold denB at h7
  cases eg : gs (rhoB N.length bd ds) with
  | none => rw [eg] at h7; cases h7
  | some oc =>
    rw [eg] at h7
    have r0 := rs_startB (N := N) h0 hnt h1 h2 h3 h4 h5
    have s0 : ∀ x, Ow (L2.start N (.ref a :: ws)) (rhoB N.length bd ds) x → x = a := fun x ⟨i, t, es, w1, w2⟩ => by
      obtain ⟨rfl, _, _⟩ := rhoB_own w1
      have : (L2.start N (.ref a :: ws))[0]? = some (some (.ref a)) := rfl
      rw [this] at w2
      cases w2
      rfl
    have go : ∀ {σ' : L2.St} {ρ' : Rho} {F' H' : Hp}, Sx K (L2.start N (.ref a :: ws)) (rhoB N.length bd ds) σ' ρ' F H F' H' → Go K.T (· = a) F H F' H' := fun s => ⟨s.go.fr, s.go.ex, fun x o h k n => s.go.keep x o h k fun w => n (s0 x w), fun x h1 h2 n => s.go.low x h1 h2 fun w => n (s0 x w), s.go.tab, s.go.nt⟩
    have box : ∀ {σ' : L2.St} {ρ' : Rho} {F' H' : Hp} {b : List PyData} {r : Rho}, Sx K (L2.start N (.ref a :: ws)) (rhoB N.length bd ds) σ' ρ' F H F' H' → ρ' = .own true b :: r → F' a = none ∧ ∃ bs', H' a = some (.lst bs') ∧ DqAll K F' bs' b := fun {σ' ρ' F' H' b r} s e => by
      subst e
      obtain ⟨x, vs', k1, k2, k3, k4⟩ := s.rs.own 0 true b rfl
      rcases s.sub 0 true b rfl with ⟨es, e1, e2⟩ | ⟨z, _⟩
      · rw [k1] at e2
        have : (L2.start N (.ref a :: ws))[0]? = some (some (.ref a)) := rfl
        rw [this] at e2
        cases e2
        exact ⟨k2, vs', k3, k4⟩
      · cases z
    refine hb F H _ _ oc r0 eg _ ?_
    cases oc with
    | nx ρ' =>
      intro σ' F' H' s
      have h7' : outB (.nx ρ') = some (d, bd') := h7
      unfold outB at h7'
      split at h7'
      · rename_i z; cases z
      · rename_i z; cases z
      · rename_i z
        cases z
        cases h7'
        obtain ⟨k1, bs', k2, k3⟩ := box s rfl
        exact h8 .non F' H' bs' (go s) k1 k2 k3 .non
      · cases h7'
    | rt d0 ρ' =>
      intro v σ' F' H' s dv
      have h7' : outB (.rt d0 ρ') = some (d, bd') := h7
      unfold outB at h7'
      split at h7'
      · rename_i z
        cases z
        cases h7'
        obtain ⟨k1, bs', k2, k3⟩ := box s rfl
        exact h8 v F' H' bs' (go s) k1 k2 k3 dv
      · rename_i z; cases z
      · rename_i z; cases z
      · cases h7'
    | ro es ρ' =>
      intro x xs σ' F' H' s hx fx hx' dx
      have h7' : outB (.ro es ρ') = some (d, bd') := h7
      unfold outB at h7'
      split at h7'
      · rename_i z; cases z
      · rename_i z
        cases z
        cases h7'
        obtain ⟨k1, bs', k2, k3⟩ := box s rfl
        have ne : a ≠ x := fun z => hx (by rw [← z]; exact Th.lst h3)
        exact h8 (.ref x) (upd F' x (.lst xs)) H' bs' ⟨s.go.fr.trans (Ex.new fx), fun b u hb => by
          by_cases e : b = x
          · subst e; rw [upd_same] at hb; rw [hx']; exact hb
          · rw [upd_ne e] at hb; exact s.rs.ex b u hb, (go s).keep, fun b k1 k2 k3 => by
          rw [upd_ne (fun e => hx (by rw [← e]; exact k2))]
          exact (go s).low b k1 k2 k3, s.go.tab, fun h => (s.go.nt h).lst⟩ (by rw [upd_ne ne]; exact k1) k2 (k3.mono (Ex.new fx)) (.lst upd_same (dx.mono (Ex.new fx)))
      · rename_i z; cases z
      · cases h7'
    | _ => cases h7
end
end Pd

namespace Pd
open PySem L2 Evl
/-! ### operations over data, one for each word -/
section
variable {X : Cx} {f : Value → Value → Sem Value}
def rAddP (K : PySem.W.Frag) : R2 := fun x y H Q => rI0 (fun i j => .int (i + j)) x y H Q ∨ rCat x y H Q ∨ rCatA K x y H Q
theorem op_addP : OpR X (binaryOp .Add) (rAddP X.K) := OpR.or op_add (OpR.or op_cat op_catA)
def rMulP (K : PySem.W.Frag) : R2 := fun x y H Q => rI CMulW (fun i j => .int (i * j)) x y H Q ∨ rRep x y H Q ∨ rRepT K x y H Q
theorem op_mulP : OpR X (binaryOp .Mult) (rMulP X.K) := OpR.or op_mulW (OpR.or op_rep op_repT)
def rInP (K : PySem.W.Frag) : R2 := fun x y H Q => rIn K false x y H Q ∨ rInD K x y H Q
theorem op_inP (hu : X.A.units + 65 < cLine) : OpR X (compareOp .In) (rInP X.K) := OpR.or op_in_seq (op_inD hu)
def rNotInP (K : PySem.W.Frag) : R2 := fun x y H Q => rIn K true x y H Q ∨ rNotInD K x y H Q
theorem op_notInP (hu : X.A.units + 65 < cLine) : OpR X (compareOp .NotIn) (rNotInP X.K) := OpR.or op_notIn_seq (op_notInD hu)
def rIxP (K : PySem.W.Frag) : R2 := fun x y H Q => rIxL K x y H Q ∨ rIxT K x y H Q
theorem ix_P : IxR X (rIxP X.K) := IxR.or ix_list ix_tup
def rSlP (K : PySem.W.Frag) : V → Option Int → Option Int → Hp → VK → Prop := fun x lo hi H Q => rSlL K x lo hi H Q ∨ rSlA K x lo hi H Q
theorem sl_P : SlR X (rSlP X.K) := SlR.or sl_list sl_tupA
end
abbrev Op := PyData → PyData → Option PyData
def addP : Op := fun a b => match a, b with
  | .int i, .int j => some (.int (i + j))
  | .list x, .list y => if x.length + y.length ≤ 100000 then some (.list (x ++ y)) else none
  | .tuple x, .tuple y => if x.length + y.length ≤ 100000 then some (.tuple (x ++ y)) else none
  | _, _ => none
def mulP : Op := fun a b => match a, b with
  | .int i, .int j => if i.natAbs.log2 + j.natAbs.log2 < 1000000 then some (.int (i * j)) else none
  | .list x, .int k => if -1000000 < k ∧ k < 1000000 ∧ x.length * k.toNat ≤ 100000 then some (.list (List.replicate k.toNat x).flatten) else none
  | .tuple x, .int k => if 2 ≤ k ∧ k ≤ 1000 ∧ x.length ≤ 1000 ∧ x ≠ [] then some (.tuple (List.replicate k.toNat x).flatten) else none
  | _, _ => none
def i2 (c : Int → Int → Bool) (g : Int → Int → Int) : Op := fun a b => match a, b with
  | .int i, .int j => if c i j = true then some (.int (g i j)) else none
  | _, _ => none
def subP : Op := i2 (fun _ _ => true) (· - ·)
def divP : Op := i2 (fun _ j => decide (0 < j) && decide (j.natAbs.log2 < 9000)) (· / ·)
def modP : Op := i2 (fun _ j => decide (0 < j)) (· % ·)
def powP : Op := i2 (fun i j => decide (0 ≤ j) && decide (j ≤ 1000000) && decide (i.natAbs < 2 ^ 64)) (fun i j => i ^ j.toNat)
def shlP : Op := i2 (fun i j => decide (0 ≤ j) && decide (j ≤ 1000000) && decide (i.natAbs < 2 ^ 64)) (fun i j => i * 2 ^ j.toNat)
def shrP : Op := i2 (fun _ j => decide (0 ≤ j)) (fun i j => i / 2 ^ j.toNat)
def andP : Op := i2 (fun _ _ => true) Builtin.bitAnd
def b2 (g : Int → Int → Bool) : Op := fun a b => match a, b with
  | .int i, .int j => some (.bool (g i j))
  | _, _ => none
def ltP : Op := b2 fun i j => decide (i < j)
def leP : Op := b2 fun i j => decide (i ≤ j)
def gtP : Op := b2 fun i j => decide (j < i)
def geP : Op := b2 fun i j => decide (j ≤ i)
def eqP : Op := fun a b => if SeqAt.shaped a = true ∧ SeqAt.shaped b = true then some (.bool (a.eqv b)) else none
def neP : Op := fun a b => if SeqAt.shaped a = true ∧ SeqAt.shaped b = true then some (.bool (!a.eqv b)) else none
def isNoneP (a : PyData) : Bool := match a with | .none => true | _ => false
def isP : Op := fun a b => match b with | .none => some (.bool (isNoneP a)) | _ => none
def isNotP : Op := fun a b => match b with | .none => some (.bool (!isNoneP a)) | _ => none
def flatD : PyData → Bool
  | .none => true
  | .bool _ => true
  | .int _ => true
  | .str _ => true
  | _ => false
def inP : Op := fun a b => match b with
  | .list ds => if SeqAt.shaped a = true ∧ SeqAt.shaped (.list ds) = true then some (.bool (ds.any fun z => z.eqv a)) else none
  | .tuple ds => if flatD a = true ∧ ds.all flatD = true then some (.bool (ds.any fun z => z.eqv a)) else none
  | _ => none
def notInP : Op := fun a b => match b with
  | .list ds => if SeqAt.shaped a = true ∧ SeqAt.shaped (.list ds) = true then some (.bool (!ds.any fun z => z.eqv a)) else none
  | .tuple ds => if flatD a = true ∧ ds.all flatD = true then some (.bool (!ds.any fun z => z.eqv a)) else none
  | _ => none
def ixP : Op := fun a b => match a, b with
  | .list ds, .int i => (at? ds.length i).bind fun j => ds[j]?
  | .dict [(.none, .list ds)], .int i => (at? ds.length i).bind fun j => ds[j]?
  | .tuple ds, .int i => (at? ds.length i).bind fun j => ds[j]?
  | _, _ => none
section
variable {K : PKt} {F H : Hp} {v w : V} {vs : List V} {a : PyData} {ds : List PyData}
theorem Dq.flat (h : Dq K F v a) (e : flatD a = true) : flatV v = true := by
  cases h with
  | lst _ _ => cases e
  | tup _ _ => cases e
  | scr _ _ => cases e
  | _ => rfl
theorem DqAll.flat : ∀ {vs : List V} {ds : List PyData}, DqAll K F vs ds → ds.all flatD = true → vs.all flatV = true
  | _, _, .nil, _ => rfl
  | _, _, .cons h t, e => by
    rw [List.all_cons, Bool.and_eq_true] at e ⊢
    exact ⟨h.flat e.1, DqAll.flat t e.2⟩
theorem Dq.eqV {b : PyData} (h : Dq K F v a) (g : Dq K F w b) (ea : flatD a = true) (eb : flatD b = true) : eqV v w = a.eqv b := by
  cases h <;> cases g <;> first | rfl | cases ea | cases eb
theorem DqAll.inVd (h : Dq K F v a) (ea : flatD a = true) : ∀ {vs : List V} {ds : List PyData}, DqAll K F vs ds → ds.all flatD = true → L2.inV v vs = ds.any fun z => z.eqv a
  | _, _, .nil, _ => rfl
  | _, _, .cons g t, e => by
    rw [List.all_cons, Bool.and_eq_true] at e
    show (eqV _ v || L2.inV v _) = _
    rw [List.any_cons, DqAll.inVd h ea t e.2, Dq.eqV g h e.1 ea]
theorem opd_add : OpD K (rAddP K) addP := by
  intro F H v w a b d ex dv dw e Q q1 q2
  unfold addP at e
  split at e
  · cases e
    cases dv; cases dw
    exact .inl ⟨_, _, rfl, rfl, q1 _ (.int _)⟩
  · split at e
    · rename_i hz
      cases e
      cases dv with
      | lst ha hs =>
        cases dw with
        | lst hb ht => exact .inr (.inl ⟨_, _, _, _, rfl, rfl, ex _ _ ha, ex _ _ hb, by rw [hs.length, ht.length]; exact sz_of hz, fun p hp => q2 p _ (fun ps z => by cases z) hp (.lst upd_same ((hs.append ht).mono (Ex.new (fresh_back ex hp))))⟩)
    · cases e
  · split at e
    · rename_i hz
      cases e
      cases dv with
      | tup ha hs =>
        cases dw with
        | tup hb ht =>
          refine .inr (.inr ⟨_, _, _, _, rfl, rfl, TupZ.sq ha (ex), TupZ.sq hb (ex), by rw [hs.length, ht.length]; exact sz_of hz, fun z => ?_, fun z1 z2 => ?_, fun _ _ p hp => q2 p _ (fun ps z => by cases z) hp (.tup (.inl upd_same) ((hs.append ht).mono (Ex.new (fresh_back ex hp))))⟩)
          · subst z; cases hs; exact q1 _ (.tup hb ht)
          · subst z2; cases ht; rw [List.append_nil] at q1; exact q1 _ (.tup ha hs)
    · cases e
  · cases e
theorem opd_mul : OpD K (rMulP K) mulP := by
  intro F H v w a b d ex dv dw e Q q1 q2
  unfold mulP at e
  split at e
  · split at e
    · rename_i hz
      cases e
      cases dv; cases dw
      exact .inl ⟨_, _, rfl, rfl, hz, q1 _ (.int _)⟩
    · cases e
  · split at e
    · rename_i hz
      cases e
      cases dw
      cases dv with
      | lst ha hs => exact .inr (.inl ⟨_, _, _, rfl, rfl, ex _ _ ha, by omega, by omega, by rw [hs.length]; exact sz_of hz.2.2, fun p hp => q2 p _ (fun ps z => by cases z) hp (.lst upd_same ((hs.rep _).mono (Ex.new (fresh_back ex hp))))⟩)
    · cases e
  · split at e
    · rename_i hz
      cases e
      cases dw
      cases dv with
      | tup ha hs => exact .inr (.inr ⟨_, _, _, rfl, rfl, TupZ.sq ha (ex), fun z => hz.2.2.2 (by subst z; cases hs; rfl), hz.1, hz.2.1, by rw [hs.length]; exact hz.2.2.1, fun p hp => q2 p _ (fun ps z => by cases z) hp (.tup (.inl upd_same) ((hs.rep _).mono (Ex.new (fresh_back ex hp))))⟩)
    · cases e
  · cases e
theorem opd_i2 {C : Int → Int → Prop} {c : Int → Int → Bool} {g : Int → Int → Int} (h : ∀ i j, c i j = true → C i j) : OpD K (rI C fun i j => .int (g i j)) (i2 c g) := by
  intro F H v w a b d ex dv dw e Q q1 q2
  unfold i2 at e
  split at e
  · split at e
    · rename_i hz
      cases e
      cases dv; cases dw
      exact ⟨_, _, rfl, rfl, h _ _ hz, q1 _ (.int _)⟩
    · cases e
  · cases e
theorem opd_i0 {g : Int → Int → Int} : OpD K (rI0 fun i j => .int (g i j)) (i2 (fun _ _ => true) g) := by
  intro F H v w a b d ex dv dw e Q q1 q2
  unfold i2 at e
  split at e
  · split at e
    · cases e
      cases dv; cases dw
      exact ⟨_, _, rfl, rfl, q1 _ (.int _)⟩
    · cases e
  · cases e
theorem opd_b0 {g : Int → Int → Bool} : OpD K (rI0 fun i j => .bl (g i j)) (b2 g) := by
  intro F H v w a b d ex dv dw e Q q1 q2
  unfold b2 at e
  split at e
  · cases e
    cases dv; cases dw
    exact ⟨_, _, rfl, rfl, q1 _ (.bl _)⟩
  · cases e
theorem opd_sub : OpD K (rI0 fun i j => .int (i - j)) subP := opd_i0
theorem opd_and : OpD K (rI0 fun i j => .int (Builtin.bitAnd i j)) andP := opd_i0
theorem opd_div : OpD K (rI CDivW fun i j => .int (i / j)) divP := opd_i2 fun i j h => by
  rw [Bool.and_eq_true] at h
  exact ⟨of_decide_eq_true h.1, of_decide_eq_true h.2⟩
theorem opd_mod : OpD K (rI (fun _ j => 0 < j) fun i j => .int (i % j)) modP := opd_i2 fun i j h => of_decide_eq_true h
theorem opd_shr : OpD K (rI (fun _ j => 0 ≤ j) fun i j => .int (i / 2 ^ j.toNat)) shrP := opd_i2 fun i j h => of_decide_eq_true h
theorem opd_pow : OpD K (rI CPow fun i j => .int (i ^ j.toNat)) powP := opd_i2 fun i j h => by
  rw [Bool.and_eq_true, Bool.and_eq_true] at h
  exact ⟨of_decide_eq_true h.1.1, of_decide_eq_true h.1.2, of_decide_eq_true h.2⟩
theorem opd_shl : OpD K (rI CPow fun i j => .int (i * 2 ^ j.toNat)) shlP := opd_i2 fun i j h => by
  rw [Bool.and_eq_true, Bool.and_eq_true] at h
  exact ⟨of_decide_eq_true h.1.1, of_decide_eq_true h.1.2, of_decide_eq_true h.2⟩
theorem opd_lt : OpD K (rI0 fun i j => .bl (decide (i < j))) ltP := opd_b0
theorem opd_le : OpD K (rI0 fun i j => .bl (decide (i ≤ j))) leP := opd_b0
theorem opd_gt : OpD K (rI0 fun i j => .bl (decide (j < i))) gtP := opd_b0
theorem opd_ge : OpD K (rI0 fun i j => .bl (decide (j ≤ i))) geP := opd_b0
theorem opd_eq : OpD K (rEqD K) eqP := by
  intro F H v w a b d ex dv dw e Q q1 q2
  unfold eqP at e
  split at e
  · rename_i hz
    cases e
    exact ⟨a, b, (dv.mono ex).dpS hz.1, (dw.mono ex).dpS hz.2, hz.1, hz.2, q1 _ (.bl _)⟩
  · cases e
theorem opd_ne : OpD K (rNeD K) neP := by
  intro F H v w a b d ex dv dw e Q q1 q2
  unfold neP at e
  split at e
  · rename_i hz
    cases e
    exact ⟨a, b, (dv.mono ex).dpS hz.1, (dw.mono ex).dpS hz.2, hz.1, hz.2, q1 _ (.bl _)⟩
  · cases e
theorem Dq.isNone (h : Dq K F v a) : decide (v = V.non) = isNoneP a := by cases h <;> rfl
theorem opd_is : OpD K (fun x y H Q => y = V.non ∧ Q (V.bl (decide (x = V.non))) H) isP := by
  intro F H v w a b d ex dv dw e Q q1 q2
  cases dw with
  | non => cases e; exact ⟨rfl, by rw [dv.isNone]; exact q1 _ (.bl _)⟩
  | _ => cases e
theorem opd_isNot : OpD K (fun x y H Q => y = V.non ∧ Q (V.bl (!decide (x = V.non))) H) isNotP := by
  intro F H v w a b d ex dv dw e Q q1 q2
  cases dw with
  | non => cases e; exact ⟨rfl, by rw [dv.isNone]; exact q1 _ (.bl _)⟩
  | _ => cases e
theorem opd_in : OpD K (rInP K) inP := by
  intro F H v w a b d ex dv dw e Q q1 q2
  unfold inP at e
  split at e
  · split at e
    · rename_i hz
      cases e
      exact .inr ⟨a, _, (dv.mono ex).dpS hz.1, (dw.mono ex).dpS hz.2, hz.1, hz.2, q1 _ (.bl _)⟩
    · cases e
  · split at e
    · rename_i hz
      cases e
      cases dw with
      | tup ha hs =>
        refine .inl ⟨_, _, rfl, .inr (TupZ.sq ha (ex)), dv.flat hz.1, hs.flat hz.2, ?_⟩
        rw [DqAll.inVd dv hz.1 hs hz.2]
        exact q1 _ (.bl _)
    · cases e
  · cases e
theorem opd_notIn : OpD K (rNotInP K) notInP := by
  intro F H v w a b d ex dv dw e Q q1 q2
  unfold notInP at e
  split at e
  · split at e
    · rename_i hz
      cases e
      exact .inr ⟨a, _, (dv.mono ex).dpS hz.1, (dw.mono ex).dpS hz.2, hz.1, hz.2, q1 _ (.bl _)⟩
    · cases e
  · split at e
    · rename_i hz
      cases e
      cases dw with
      | tup ha hs =>
        refine .inl ⟨_, _, rfl, .inr (TupZ.sq ha (ex)), dv.flat hz.1, hs.flat hz.2, ?_⟩
        rw [DqAll.inVd dv hz.1 hs hz.2]
        exact q1 _ (.bl _)
    · cases e
  · cases e
theorem at_of {d : PyData} {i : Int} (hs : DqAll K F vs ds) (e : ((at? ds.length i).bind fun j => ds[j]?) = some d) : ∃ v, atI vs i = some v ∧ Dq K F v d := by
  have : at? ds.length i = ixN vs.length i := by rw [hs.length]; rfl
  unfold atI
  rw [← this]
  cases ea : at? ds.length i with
  | none => rw [ea] at e; cases e
  | some j =>
    rw [ea] at e
    obtain ⟨v, h1, h2⟩ := hs.get e
    exact ⟨v, h1, h2⟩
theorem opd_ix : OpD K (rIxP K) ixP := by
  intro F H v w a b d ex dv dw e Q q1 q2
  unfold ixP at e
  split at e
  · cases dw
    cases dv with
    | lst ha hs =>
      obtain ⟨u, h1, h2⟩ := at_of hs e
      exact .inl ⟨_, _, _, u, rfl, rfl, SqL.of (ex _ _ ha), h1, q1 _ h2⟩
  · cases dw
    cases dv with
    | scr ha hs =>
      obtain ⟨u, h1, h2⟩ := at_of hs e
      exact .inl ⟨_, _, _, u, rfl, rfl, ha.sq ex, h1, q1 _ h2⟩
  · cases dw
    cases dv with
    | tup ha hs =>
      obtain ⟨u, h1, h2⟩ := at_of hs e
      exact .inr ⟨_, _, _, u, rfl, rfl, TupZ.sq ha (ex), h1, q1 _ h2⟩
  · cases e
/-! one-place -/
def negP : PyData → Option PyData | .int i => some (.int (-i)) | _ => none
theorem und_neg : UnD K (rU fun i => .int (-i)) negP := by
  intro F H v a d ex dv e Q q1 q2
  cases dv with
  | int i => cases e; exact ⟨i, rfl, q1 _ (.int _)⟩
  | _ => cases e
/-! built-ins -/
def lenP : List PyData → Option PyData
  | [.list ds] => some (.int ds.length)
  | [.dict [(.none, .list ds)]] => some (.int ds.length)
  | [.tuple ds] => some (.int ds.length)
  | _ => none
theorem one_of {vs : List V} {d : PyData} (h : DqAll K F vs [d]) : ∃ v, vs = [v] ∧ Dq K F v d := by
  cases h with
  | cons a b => cases b; exact ⟨_, rfl, a⟩
theorem cad_len : CaD K (fun xs H Q => ∃ p ys, xs = [V.ref p] ∧ (SqL K H p ys ∨ SqT K H p ys) ∧ Q (V.int (ys.length : Nat)) H) lenP := by
  intro F H vs as d ex dv e Q q1 q2
  unfold lenP at e
  split at e
  · cases e
    obtain ⟨v, rfl, dx⟩ := one_of dv
    cases dx with
    | lst ha hs => exact ⟨_, _, rfl, .inl (SqL.of (ex _ _ ha)), by rw [hs.length]; exact q1 _ (.int _)⟩
  · cases e
    obtain ⟨v, rfl, dx⟩ := one_of dv
    cases dx with
    | scr ha hs => exact ⟨_, _, rfl, .inl (ha.sq ex), by rw [hs.length]; exact q1 _ (.int _)⟩
  · cases e
    obtain ⟨v, rfl, dx⟩ := one_of dv
    cases dx with
    | tup ha hs => exact ⟨_, _, rfl, .inr (TupZ.sq ha (ex)), by rw [hs.length]; exact q1 _ (.int _)⟩
  · cases e
def absP : List PyData → Option PyData | [.int i] => some (.int (if i < 0 then -i else i)) | _ => none
theorem cad_abs : CaD K (fun xs H Q => ∃ i, xs = [V.int i] ∧ Q (V.int (if i < 0 then -i else i)) H) absP := by
  intro F H vs as d ex dv e Q q1 q2
  unfold absP at e
  split at e
  · cases e
    obtain ⟨v, rfl, dx⟩ := one_of dv
    cases dx
    exact ⟨_, rfl, q1 _ (.int _)⟩
  · cases e
def intP : List PyData → Option PyData | [.int i] => some (.int i) | [.bool b] => some (.int (if b = true then 1 else 0)) | _ => none
theorem cad_int : CaD K (fun xs H Q => (∃ i, xs = [V.int i] ∧ Q (V.int i) H) ∨ ∃ k, xs = [V.bl k] ∧ Q (V.int (if k = true then 1 else 0)) H) intP := by
  intro F H vs as d ex dv e Q q1 q2
  unfold intP at e
  split at e
  · cases e
    obtain ⟨v, rfl, dx⟩ := one_of dv
    cases dx
    exact .inl ⟨_, rfl, q1 _ (.int _)⟩
  · cases e
    obtain ⟨v, rfl, dx⟩ := one_of dv
    cases dx
    exact .inr ⟨_, rfl, q1 _ (.int _)⟩
  · cases e
def tupleP : List PyData → Option PyData | [.list ds] => some (.tuple ds) | [.tuple ds] => some (.tuple ds) | _ => none
theorem cad_tuple : CaD K (fun xs H Q => ∃ p ys, xs = [V.ref p] ∧ ((SqL K H p ys ∧ ∀ (l : Addr), H l = none → Q (V.ref l) (upd H l (HO.tup ys))) ∨ SqT K H p ys ∧ Q (V.ref p) H)) tupleP := by
  intro F H vs as d ex dv e Q q1 q2
  unfold tupleP at e
  split at e
  · cases e
    obtain ⟨v, rfl, dx⟩ := one_of dv
    cases dx with
    | lst ha hs => exact ⟨_, _, rfl, .inl ⟨SqL.of (ex _ _ ha), fun p hp => q2 p _ (fun ps z => by cases z) hp (.tup (.inl upd_same) (hs.mono (Ex.new (fresh_back ex hp))))⟩⟩
  · cases e
    obtain ⟨v, rfl, dx⟩ := one_of dv
    cases dx with
    | tup ha hs => exact ⟨_, _, rfl, .inr ⟨TupZ.sq ha (ex), q1 _ (.tup ha hs)⟩⟩
  · cases e
def listP : List PyData → Option PyData | [.list ds] => some (.list ds) | [.tuple ds] => some (.list ds) | _ => none
theorem cad_list : CaD K (fun xs H Q => ∃ p ys, xs = [V.ref p] ∧ (SqL K H p ys ∨ SqT K H p ys) ∧ ∀ (l : Addr), H l = none → Q (V.ref l) (upd H l (HO.lst ys))) listP := by
  intro F H vs as d ex dv e Q q1 q2
  unfold listP at e
  split at e
  · cases e
    obtain ⟨v, rfl, dx⟩ := one_of dv
    cases dx with
    | lst ha hs => exact ⟨_, _, rfl, .inl (SqL.of (ex _ _ ha)), fun p hp => q2 p _ (fun ps z => by cases z) hp (.lst upd_same (hs.mono (Ex.new (fresh_back ex hp))))⟩
  · cases e
    obtain ⟨v, rfl, dx⟩ := one_of dv
    cases dx with
    | tup ha hs => exact ⟨_, _, rfl, .inr (TupZ.sq ha (ex)), fun p hp => q2 p _ (fun ps z => by cases z) hp (.lst upd_same (hs.mono (Ex.new (fresh_back ex hp))))⟩
  · cases e
end
end Pd

namespace Pd
open PySem L2 Evl
/-! ### isinstance -/
/-- the type's name -/
def tyD : PyData → String
  | .none => "NoneType"
  | .bool _ => "bool"
  | .int _ => "int"
  | .str _ => "str"
  | .list _ => "list"
  | .tuple _ => "tuple"
  | .dict _ => "dict"
/-- of so many built-in types -/
def isiD (ts : List String) (d : PyData) : Bool := ts.any fun t => match tyD d, t with
  | "bool", "int" => true
  | a, b => a == b
def noDict : PyData → Bool | .dict _ => false | _ => true
theorem noDict_of {d : PyData} (h : noDict d = true) : ∀ x, d ≠ .dict x := fun x z => by subst z; cases h
def isi1M (t : String) (f : DE) : DE := fun ρ => bnd (f ρ) fun d ρ1 => if noDict d = true then (kitB (tyD d) t).map fun b => .ok (.bool b) ρ1 else none
section
variable {K : PKt} {ec : EC} {W : WX} {te ta tb tc : TE} {tl : TA} {f g h : DE} {fl : DL} {F H : Hp} {v : V} {a : PyData} {σ : L2.St} {ρ : Rho}
theorem Dq.ty (ex : Ex F H) (h : Dq K F v a) (nd : ∀ x, a ≠ .dict x) : TyX K.K H v (.type (tyD a)) := by
  cases h with
  | non => exact .base .non
  | bl b => exact .base (.bl b)
  | int i => exact .base (.int i)
  | str x => exact .base (.str x)
  | lst ha hs => exact .base (.lst (ex _ _ ha))
  | tup ha hs =>
    rcases ha with ha | ⟨o, its, n, h1, h2, _⟩
    · exact .base (.tup (ex _ _ ha))
    · exact .kTuple h1 h2
  | scr _ _ => exact absurd rfl (nd _)
theorem ed_isi1 {t : String} (he : Ed K ec W te f) : Ed K ec W (tCB (rIsi K) (tCons te (tCons (tC (.ty t)) tNil))) (isi1M t f) := by
  intro F H σ ρ o rs e Q q hf
  refine he.go rs e hf fun d ρ1 v F1 H1 n1 dv e1 hf1 => ?_
  split at e1
  · rename_i nd
    cases ek : kitB (tyD d) t with
    | none => rw [ek] at e1; cases e1
    | some b =>
      rw [ek] at e1
      exact ⟨v, .ty t, .type (tyD d), .type t, b, rfl, .ty t, dv.ty n1.rs.ex (noDict_of nd), kit_ty ek, fin n1.rs e1 (step_q n1 q) (.bl b)⟩
  · cases e1
def isi2M (t u : String) (f : DE) : DE := fun ρ => bnd (f ρ) fun d ρ1 => match noDict d, kitB (tyD d) t, kitB (tyD d) u with
  | true, some a, some b => some (.ok (.bool (a || b)) ρ1)
  | _, _, _ => none
theorem kit_any2 {K0 : PySem.W.Frag} {t : Value} {u1 u2 : Value} {b1 b2 : Bool} (h1 : PySem.W.kitOne K0 t u1 = some b1) (h2 : PySem.W.kitOne K0 t u2 = some b2) : PySem.W.kitAny K0 t [u1, u2] = some (b1 || b2) := by
  rw [PySem.W.kitAny.eq_2, h1]
  cases b1 with
  | true => rfl
  | false =>
    show PySem.W.kitAny K0 t [u2] = _
    rw [PySem.W.kitAny.eq_2, h2]
    cases b2 <;> rfl
theorem ed_isi2 {t u : String} (he : Ed K ec W te f) : Ed K ec W (tCB (rIsiT K) (tCons te (tCons (tTup (tCons (tC (.ty t)) (tCons (tC (.ty u)) tNil))) tNil))) (isi2M t u f) := by
  intro F H σ ρ o rs e Q q hf
  refine he.go rs e hf fun d ρ1 v F1 H1 n1 dv e1 hf1 => ?_
  split at e1
  · rename_i b1 b2 nd k1 k2
    refine ⟨by show 2 ≤ sizeLine; decide, fun p hp => ?_⟩
    have n2 := n1.rs.newOwn (o := .tup [.ty t, .ty u]) hp fun ps z => by cases z
    refine ⟨v, p, [.ty t, .ty u], .type (tyD d), [.type t, .type u], b1 || b2, rfl, upd_same, .cons (.ty t) (.cons (.ty u) .nil), ?_, kit_any2 (kit_ty k1) (kit_ty k2), ?_⟩
    · exact Dq.ty (Ex.mut n1.rs.ex (fresh_back n1.rs.ex hp)) dv (noDict_of nd)
    · cases e1
      exact q _ _ rfl _ F1 _ (n1.trans n2) (.bl _)
  · cases e1
/-! ### truth -/
def truD : PyData → Option Bool
  | .none => some false
  | .bool b => some b
  | .int i => some (i != 0)
  | .list ds => some (!ds.isEmpty)
  | .tuple ds => some (!ds.isEmpty)
  | _ => none
theorem DqAll.isEmpty : ∀ {vs : List V} {ds : List PyData}, DqAll K F vs ds → vs.isEmpty = ds.isEmpty
  | _, _, .nil => rfl
  | _, _, .cons _ _ => rfl
theorem Dq.tru {b : Bool} (ex : Ex F H) (h : Dq K F v a) (e : truD a = some b) : TruV K.K v H b := by
  cases h with
  | non => cases e; exact rfl
  | bl b => cases e; exact rfl
  | int i => cases e; exact rfl
  | str x => cases e
  | lst ha hs => cases e; exact .inl ⟨_, SqL.of (ex _ _ ha), by rw [hs.isEmpty]⟩
  | scr _ _ => cases e
  | tup ha hs => cases e; exact .inr (.inl ⟨_, TupZ.sq ha (ex), by rw [hs.isEmpty]⟩)
def truB (f : DE) : DB := fun ρ => bnd (f ρ) fun d ρ1 => (truD d).map fun b => .ok b ρ1
def tTru (K : PySem.W.Frag) (te : TE) : TT := fun σ H Q => te σ H fun x H' => ∃ k, TruV K x H' k ∧ Q k H'
theorem pt_tru {X : Cx} {e : Expr} (he : PE X e te) (hi : ∀ whole : Sem Value, PySem.isTrue e X.env whole = (do let v ← whole; standAt e.pos; holding [v] (truthy v)) := by intro _; rfl) : PT X e (tTru X.K te) := pt_truth he hi
theorem et_tru (he : Ed K ec W te f) : Et K ec W (tTru K te) (truB f) := by
  intro F H σ ρ o rs e Q q hf
  refine he.go rs e hf fun d ρ1 v F1 H1 n1 dv e1 hf1 => ?_
  cases et : truD d with
  | none => rw [et] at e1; cases e1
  | some b =>
    rw [et] at e1
    cases e1
    exact ⟨b, dv.tru n1.rs.ex et, q _ _ rfl F1 H1 n1⟩
/-! ### a < b < c -/
def chainM (op op' : Op) (f g h : DE) : DE := fun ρ => bnd (f ρ) fun a ρ1 => bnd (g ρ1) fun b ρ2 => match op a b with
  | some (.bool true) => bnd (h ρ2) fun c ρ3 => (op' b c).map fun d => .ok d ρ3
  | some (.bool false) => some (.ok (.bool false) ρ2)
  | _ => none
theorem dq_bool {F : Hp} {u : V} {b : Bool} (h : Dq K F u (.bool b)) : u = .bl b := by cases h; rfl
/-- the op tells a bool: no new object -/
def OpB (K : PKt) (r : R2) (op : Op) : Prop := ∀ (F H : Hp) (v w : V) (a b : PyData) (k : Bool), Ex F H → Dq K F v a → Dq K F w b → op a b = some (.bool k) → ∀ Q : VK, Q (.bl k) H → r v w H Q
theorem OpD.opB {r : R2} {op : Op} (h : OpD K r op) : OpB K r op := by
  intro F H v w a b k ex dv dw e Q q
  refine h F H v w a b _ ex dv dw e Q (fun u du => by rw [dq_bool du]; exact q) fun p ob _ hp dp => ?_
  cases dp
theorem ed_chain {r r' : R2} {op op' : Op} (hr : OpD K r op) (hr' : OpD K r' op') (ha : Ed K ec W ta f) (hb : Ed K ec W tb g) (hc : Ed K ec W tc h) : Ed K ec W (tChain r r' ta tb tc) (chainM op op' f g h) := by
  intro F H σ ρ o rs e Q q hf
  refine ha.go rs e hf fun a ρ1 v F1 H1 n1 dv e1 hf1 => ?_
  refine hb.go n1.rs e1 hf1 fun b ρ2 w F2 H2 n2 dw e2 hf2 => ?_
  split at e2
  · rename_i eo
    refine hr.opB F2 H2 v w a b true n2.rs.ex (dv.mono n2.go.fr) dw eo _ ⟨true, rfl, ?_⟩
    rw [if_pos rfl]
    refine hc.go n2.rs e2 hf2 fun c ρ3 x F3 H3 n3 dx e3 hf3 => ?_
    cases eo' : op' b c with
    | none => rw [eo'] at e3; cases e3
    | some d =>
      rw [eo'] at e3
      exact hr' F3 H3 w x b c d n3.rs.ex (dw.mono n3.go.fr) dx eo' Q (fun u du => fin n3.rs e3 (step_q ((n1.trans n2).trans n3) q) du) fun p ob nt hp dp => finN nt n3.rs e3 (step_q ((n1.trans n2).trans n3) q) hp dp
  · rename_i eo
    refine hr.opB F2 H2 v w a b false n2.rs.ex (dv.mono n2.go.fr) dw eo _ ⟨false, rfl, ?_⟩
    rw [if_neg (by decide)]
    exact fin n2.rs e2 (step_q (n1.trans n2) q) (.bl false)
  · cases e2
/-! ### slices -/
abbrev DO := Rho → Option (Ou (Option Int))
def Eb (K : PKt) (ec : EC) (W : WX) (to : TO) (f : DO) : Prop := ∀ (F H : Hp) (σ : L2.St) (ρ : Rho) (o : Ou (Option Int)), RS K F H σ ρ → f ρ = some o → ∀ Q : Option Int → Hp → Prop,
  (∀ i ρ', o = .ok i ρ' → ∀ F' H', Nx K σ ρ ρ' F H F' H' → Q i H') → Fail K ec W σ ρ F H o → to σ H Q
def noM : DO := fun ρ => some (.ok none ρ)
def partM (f : DE) : DO := fun ρ => bnd (f ρ) fun d ρ1 => match d with | .int i => some (.ok (some i) ρ1) | _ => none
theorem eb_no : Eb K ec W tNoPart noM := by
  intro F H σ ρ o rs e Q q hf
  cases e
  exact q _ _ rfl F H (Nx.refl rs)
theorem eb_part (he : Ed K ec W te f) : Eb K ec W (tPart te) (partM f) := by
  intro F H σ ρ o rs e Q q hf
  refine he.go rs e hf fun d ρ1 v F1 H1 n1 dv e1 hf1 => ?_
  cases dv with
  | int i => cases e1; exact ⟨i, rfl, q _ _ rfl F1 H1 n1⟩
  | _ => cases e1
theorem Eb.go {β : Type} {to : TO} {fo : DO} (hh : Eb K ec W to fo) (rs : RS K F H σ ρ) {k : Option Int → Rho → Option (Ou β)} {o : Ou β} (e : bnd (fo ρ) k = some o) (hf : Fail K ec W σ ρ F H o) {Q : Option Int → Hp → Prop}
    (hk : ∀ i ρ1 F1 H1, Nx K σ ρ ρ1 F H F1 H1 → k i ρ1 = some o → Fail K ec W σ ρ1 F1 H1 o → Q i H1) : to σ H Q := by
  unfold bnd at e
  cases ef : fo ρ with
  | none => rw [ef] at e; cases e
  | some x =>
    rw [ef] at e
    cases x with
    | ok d ρ1 => exact hh F H σ ρ _ rs ef Q (fun d' ρ' e' F' H' n => by cases e'; exact hk d ρ1 F' H' n e (hf.step n)) Fail.ok
    | ex c d ρ1 => cases e; exact hh F H σ ρ _ rs ef Q (fun d' ρ' e' => by cases e') hf.ex
def cutD (ds : List PyData) (lo hi : Option Int) : List PyData := (ds.drop (HT.sIx ds.length 0 lo)).take (HT.sIx ds.length ds.length hi - HT.sIx ds.length 0 lo)
def slP (d : PyData) (lo hi : Option Int) : Option PyData := match d with
  | .list ds => some (.list (cutD ds lo hi))
  | .tuple ds => some (.tuple (cutD ds lo hi))
  | _ => none
def slM (f : DE) (lo hi : DO) : DE := fun ρ => bnd (f ρ) fun d ρ1 => bnd (lo ρ1) fun l ρ2 => bnd (hi ρ2) fun u ρ3 => (slP d l u).map fun d => .ok d ρ3
theorem DqAll.cut {vs : List V} {ds : List PyData} (h : DqAll K F vs ds) (lo hi : Option Int) : DqAll K F (cutV vs lo hi) (cutD ds lo hi) := by
  unfold cutV cutD
  rw [h.length]
  exact (h.drop _).take _
theorem ed_sl {tlo thi : TO} {flo fhi : DO} (he : Ed K ec W te f) (hlo : Eb K ec W tlo flo) (hhi : Eb K ec W thi fhi) : Ed K ec W (tSl (rSlP K) te tlo thi) (slM f flo fhi) := by
  intro F H σ ρ o rs e Q q hf
  refine he.go rs e hf fun d ρ1 v F1 H1 n1 dv e1 hf1 => ?_
  refine hlo.go n1.rs e1 hf1 fun l ρ2 F2 H2 n2 e2 hf2 => ?_
  refine hhi.go n2.rs e2 hf2 fun u ρ3 F3 H3 n3 e3 hf3 => ?_
  have n := (n1.trans n2).trans n3
  have dv3 := (dv.mono n2.go.fr).mono n3.go.fr
  cases dv3 with
  | lst ha hs =>
    exact .inl ⟨_, _, rfl, SqL.of (n3.rs.ex _ _ ha), fun p hp => finN (fun ps z => by cases z) n3.rs e3 (step_q n q) hp (.lst upd_same ((hs.cut l u).mono (Ex.new (fresh_back n3.rs.ex hp))))⟩
  | tup ha hs =>
    refine .inr ⟨_, _, rfl, TupZ.sq ha (n3.rs.ex), fun z => ?_, fun _ p hp => finN (fun ps z => by cases z) n3.rs e3 (step_q n q) hp (.tup (.inl upd_same) ((hs.cut l u).mono (Ex.new (fresh_back n3.rs.ex hp))))⟩
    rename_i ads axs ads2
    have this : cutD ads2 l u = ads2 := by
      unfold cutD
      rw [hs.length] at z
      rw [z.1, z.2, Nat.sub_zero, List.drop_zero]
      exact List.take_length
    have e4 : (some (.ok (.tuple (cutD ads2 l u)) ρ3) : Option (Ou PyData)) = some o := e3
    rw [this] at e4
    exact fin n3.rs e4 (step_q n q) (.tup ha hs)
  | _ => cases e3
/-! ### a name's own list, looked at -/
def lenOM (i : Nat) : DE := fun ρ => match ρ[i]? with
  | some (.own _ ds) => some (.ok (.int ds.length) ρ)
  | some (.fro (.list ds)) => some (.ok (.int ds.length) ρ)
  | _ => none
theorem ed_lenO {i : Nat} : Ed K ec W (tCB (fun xs H Q => ∃ p ys, xs = [V.ref p] ∧ (SqL K H p ys ∨ SqT K H p ys) ∧ Q (V.int (ys.length : Nat)) H) (tCons (tVar i) tNil)) (lenOM i) := by
  intro F H σ ρ o rs e Q q hf
  unfold lenOM at e
  split at e
  · rename_i t ds h0
    obtain ⟨a, vs, h1, h2, h3, h4⟩ := rs.own i t ds h0
    exact ⟨.ref a, h1, a, vs, rfl, .inl (SqL.of h3), by rw [h4.length]; exact fin rs e q (.int _)⟩
  · rename_i ds h0
    obtain ⟨v, h1, h2⟩ := rs.fro i _ h0
    cases h2 with
    | lst ha hs => exact ⟨_, h1, _, _, rfl, .inl (SqL.of (rs.ex _ _ ha)), by rw [hs.length]; exact fin rs e q (.int _)⟩
  · cases e
def ixOM (i : Nat) (f : DE) : DE := fun ρ => match ρ[i]? with
  | some (.own _ _) => bnd (f ρ) fun k ρ1 => match k, ρ1[i]? with
    | .int k, some (.own _ ds) => ((at? ds.length k).bind fun j => ds[j]?).map fun d => .ok d ρ1
    | _, _ => none
  | some (.fro (.list ds)) => bnd (f ρ) fun k ρ1 => (ixP (.list ds) k).map fun d => .ok d ρ1
  | _ => none
theorem ed_ixO {i : Nat} (he : Ed K ec W te f) : Ed K ec W (tOp (rIxP K) (tVar i) te) (ixOM i f) := by
  intro F H σ ρ o rs e Q q hf
  unfold ixOM at e
  split at e
  · rename_i t0 ds0 h0
    obtain ⟨a, vs0, h1, h2, h3, h4⟩ := rs.own i t0 ds0 h0
    refine ⟨.ref a, h1, ?_⟩
    refine he.go rs e hf fun k ρ1 vk F1 H1 n1 dk e1 hf1 => ?_
    split at e1
    · rename_i k t ds hh
      obtain ⟨b, ws, g1, g2, g3, g4⟩ := n1.rs.own i t ds hh
      rw [h1] at g1
      cases g1
      cases dk
      cases ed : ((at? ds.length k).bind fun j => ds[j]?) with
      | none => rw [ed] at e1; cases e1
      | some d =>
        rw [ed] at e1
        obtain ⟨v, w1, w2⟩ := at_of g4 ed
        exact .inl ⟨a, ws, k, v, rfl, rfl, SqL.of g3, w1, fin n1.rs e1 (step_q n1 q) w2⟩
    · cases e1
  · rename_i ds h0
    obtain ⟨v0, h1, h2⟩ := rs.fro i _ h0
    refine ⟨v0, h1, ?_⟩
    refine he.go rs e hf fun k ρ1 vk F1 H1 n1 dk e1 hf1 => ?_
    cases eo : ixP (.list ds) k with
    | none => rw [eo] at e1; cases e1
    | some d =>
      rw [eo] at e1
      exact opd_ix F1 H1 v0 vk _ k d n1.rs.ex (h2.mono n1.go.fr) dk eo Q (fun u du => fin n1.rs e1 (step_q n1 q) du) fun p ob nt hp dp => finN nt n1.rs e1 (step_q n1 q) hp dp
  · cases e
/-- a name's own list, copied as a tuple -/
def tupOM (i : Nat) : DE := fun ρ => match ρ[i]? with
  | some (.own _ ds) => some (.ok (.tuple ds) ρ)
  | some (.fro (.list ds)) => some (.ok (.tuple ds) ρ)
  | _ => none
theorem ed_tupO {i : Nat} : Ed K ec W (tCB (fun xs H Q => ∃ p ys, xs = [V.ref p] ∧ ((SqL K H p ys ∧ ∀ (l : Addr), H l = none → Q (V.ref l) (upd H l (HO.tup ys))) ∨ SqT K H p ys ∧ Q (V.ref p) H)) (tCons (tVar i) tNil)) (tupOM i) := by
  intro F H σ ρ o rs e Q q hf
  unfold tupOM at e
  split at e
  · rename_i t ds h0
    obtain ⟨a, vs, h1, h2, h3, h4⟩ := rs.own i t ds h0
    exact ⟨.ref a, h1, a, vs, rfl, .inl ⟨SqL.of h3, fun p hp => finN (fun ps z => by cases z) rs e q hp (.tup (.inl upd_same) (h4.mono (Ex.new (fresh_back rs.ex hp))))⟩⟩
  · rename_i ds h0
    obtain ⟨v, h1, h2⟩ := rs.fro i _ h0
    cases h2 with
    | lst ha hs => exact ⟨_, h1, _, _, rfl, .inl ⟨SqL.of (rs.ex _ _ ha), fun p hp => finN (fun ps z => by cases z) rs e q hp (.tup (.inl upd_same) (hs.mono (Ex.new (fresh_back rs.ex hp))))⟩⟩
  · cases e
end
end Pd

namespace Pd
open PySem L2 Evl
/-! ### clauses -/
abbrev Cls := Value × Option Nat × Suit
/-- what clauses answer to an error of number c that keeps d -/
abbrev DH := Nat → PyData → Option PyData
def Hres (K : PKt) (ec : EC) (n : Nat) (l : List Cls) (hs : DH) : Prop := ∀ (c : Nat) (d r : PyData) (cls : Value) (dd : Option Addr) (F H : Hp) (σ : L2.St), σ.length = n → Ex F H → Xr K ec F H c d cls dd → hs c d = some r → ∀ (Wo : WX) (D : Ends),
  (∀ u, Dq K F u r → D.rt u H) → (∀ p ob, (∀ ps, ob ≠ .tbl ps) → H p = none → Dq K (upd F p ob) (.ref p) r → D.rt (.ref p) (upd H p ob)) → wHd K Wo D l cls dd σ H
def nilH : DH := fun _ _ => none
/-- a clause that answers by k where it is hit -/
def consH (hit : Nat → Option Bool) (k : PyData → PyData) (hs : DH) : DH := fun c d => match hit c with
  | some true => some (k d)
  | some false => hs c d
  | none => none
section
variable {K : PKt} {ec : EC} {W : WX} {mg : Str → Option Value} {n : Nat} {l : List Cls} {hs : DH} {F H : Hp} {σ : L2.St} {ρ : Rho}
theorem hres_nil : Hres K ec n [] nilH := by
  intro c d r cls dd F H σ hn ex x e
  cases e
/-- return (w, e.at) -/
theorem hres_wordA {hit : Nat → Option Bool} {C : Value} {i : Nat} {w : Str} (hi : i < n) (hx : ∀ c b, hit c = some b → PySem.W.exmOne K (.ref (ec.C c)) C = some b)
    (hf : ∀ c, hit c = some true → ec.fld c = "at" ∧ ∃ cn q B fI, PErrA.Txt K mg cn q (ec.C c) B fI) (hr : Hres K ec n l hs) :
    Hres K ec n ((C, some i, fun a cls d => tRet (tTup (tCons (tC (.str w)) (tCons (tFldA K mg a cls d (tVar i)) tNil)))) :: l) (consH hit (fun d => .tuple [.str w, d]) hs) := by
  intro c d r cls dd F H σ hn ex x e Wo D q1 q2
  unfold consH at e
  have x0 := x
  obtain ⟨rfl, a0, v, rfl, ha0, dv⟩ := x
  split at e
  · rename_i eh
    cases e
    refine ⟨true, hx c true eh, fun _ a ha => ?_, fun z => Bool.noConfusion z⟩
    obtain ⟨hat, cn, q, B, fI, T⟩ := hf c eh
    rw [hat] at ha0
    refine ⟨.ref a, List.getElem?_set_self (by rw [hn]; exact hi), rfl, cn, q, _, B, fI, T, rfl, a0, v, rfl, ha0, ?_⟩
    exact ⟨by show 2 ≤ sizeLine; decide, fun p hp => q2 p _ (fun ps z => by cases z) hp (.tup (.inl upd_same) (.cons (.str w) (.cons (dv.mono (Ex.new (fresh_back ex hp))) .nil)))⟩
  · rename_i eh
    exact ⟨false, hx c false eh, fun z => Bool.noConfusion z, fun _ => hr c d r _ _ F H σ hn ex x0 e Wo D q1 q2⟩
  · cases e
/-- return (w, e.word) -/
theorem hres_wordW {hit : Nat → Option Bool} {C : Value} {i : Nat} {w : Str} (hi : i < n) (hx : ∀ c b, hit c = some b → PySem.W.exmOne K (.ref (ec.C c)) C = some b)
    (hf : ∀ c, hit c = some true → ec.fld c = "word" ∧ ∃ cn q B fI, PErrW.Txt K mg cn q (ec.C c) B fI) (hr : Hres K ec n l hs) :
    Hres K ec n ((C, some i, fun a cls d => tRet (tTup (tCons (tC (.str w)) (tCons (tFldW K mg a cls d (tVar i)) tNil)))) :: l) (consH hit (fun d => .tuple [.str w, d]) hs) := by
  intro c d r cls dd F H σ hn ex x e Wo D q1 q2
  unfold consH at e
  have x0 := x
  obtain ⟨rfl, a0, v, rfl, ha0, dv⟩ := x
  split at e
  · rename_i eh
    cases e
    refine ⟨true, hx c true eh, fun _ a ha => ?_, fun z => Bool.noConfusion z⟩
    obtain ⟨hat, cn, q, B, fI, T⟩ := hf c eh
    rw [hat] at ha0
    refine ⟨.ref a, List.getElem?_set_self (by rw [hn]; exact hi), rfl, cn, q, _, B, fI, T, rfl, a0, v, rfl, ha0, ?_⟩
    exact ⟨by show 2 ≤ sizeLine; decide, fun p hp => q2 p _ (fun ps z => by cases z) hp (.tup (.inl upd_same) (.cons (.str w) (.cons (dv.mono (Ex.new (fresh_back ex hp))) .nil)))⟩
  · rename_i eh
    exact ⟨false, hx c false eh, fun z => Bool.noConfusion z, fun _ => hr c d r _ _ F H σ hn ex x0 e Wo D q1 q2⟩
  · cases e
/-! ### told(lambda: ..) -/
def TTh (K : PySem.W.Frag) (n : Nat) (l : List Cls) : (XK → Hp → VK → Prop) → Hp → VK → Prop := fun tl H Q =>
  tl (fun cls d H' => ∀ σ' : L2.St, σ'.length = n → wHd K (fun _ _ _ _ => False) { nx := fun _ H' => Q .non H', rt := Q } l cls d σ' H') H Q
theorem told_hd {X : Cx} {Ng : List Str} {x a q : Str} {sg : Scope} {g : Addr} {cdg : Value} {p1 p2 p3 pos : Pos} {h0 : ExceptHandler} {hds : List ExceptHandler} (hN : Ng.Nodup)
    (h1 : ∀ f : Addr, (L2.start Ng [V.ref f])[0]? = some (some (V.ref f)))
    (hh : ∀ (s : Shared) (H : Hp), Hds ((cxOf C8.CX0 X.prog X.w X.K X.mg X.base Ng x sg g cdg X.A X.stack s H C8.E0).nox) (h0 :: hds) l) :
    LamX.GivesTo X Ng x sg g cdg [.Try [.Return (some (.Call (.Name a p1) [] [] p2)) p3] (h0 :: hds) [] [] pos] a q (TTh X.K Ng.length l) := by
  intro f c' s H Q tl hcall hc htt
  refine ⟨_, pss_one (ps_try_len rfl rfl hN (fun _ _ z => by obtain ⟨a, B, sI, pins, σ, H, cls, d, _, _, _, _, _, _, _, _, w⟩ := z; exact w) (fun W pn xe tk _ => pss_one (ps_ret (hcall W pn xe (fun cls d H' => ∀ σ', W cls d σ' H') p1 p2 tk fun cls d σ' H' k => k σ'))) (hh s H)), ?_⟩
  exact ⟨h1 f, hc, htt⟩
def toldM (hs : DH) (f : DE) : DE := fun ρ => match f ρ with
  | some (.ok d ρ1) => some (.ok d ρ1)
  | some (.ex c d ρ1) => (hs c d).map fun r => .ok r ρ1
  | none => none
theorem extN_ex {F H H1 : Hp} (nt : Nt F) (ex : Ex F H) (x : LamX.ExtN H H1) : Ex F H1 := fun a o h => x a o (ex a o h) fun ps z => nt a ps (by rw [h, z])
theorem RS.extN (rs : RS K F H σ ρ) {H1 : Hp} (x : LamX.ExtN H H1) (t : LamX.Tabs K.T H1) : Nx K σ ρ ρ F H F H1 := by
  refine ⟨⟨rs.len, t, rs.nt, extN_ex rs.nt rs.ex x, rs.fro, fun i t ds h => ?_, rs.apart⟩, ⟨Ex.refl F, extN_ex rs.nt rs.ex x, fun a o h k _ => x a o h k, fun a h _ _ => h, fun _ => t, id⟩, fun _ _ ds h => ⟨ds, h⟩, fun a h => ?_⟩
  · obtain ⟨a, vs, h1, h2, h3, h4⟩ := rs.own i t ds h
    exact ⟨a, vs, h1, h2, x a _ h3 (fun ps z => by cases z), h4⟩
  · obtain ⟨o, h1, h2⟩ := h
    exact ⟨o, x a o h1 h2, h2⟩
theorem ed_told {t : XK → TE} {f : DE} (hb : ∀ E : XK, Ed K ec (fun cls d _ H => E cls d H) (t E) f) (hr : Hres K ec n l hs) : Ed K ec W (LamX.tLam K.T (TTh K n l) t) (toldM hs f) := by
  intro F H σ ρ o rs e Q q hf
  refine ⟨rs.tab, fun H1 x tb => ?_⟩
  have n1 := rs.extN x tb
  unfold toldM at e
  show t _ σ H1 Q
  cases ef : f ρ with
  | none => rw [ef] at e; cases e
  | some oo =>
    rw [ef] at e
    refine hb _ F H1 σ ρ oo n1.rs ef Q (fun d ρ' eo v F' H' m dv => ?_) fun c d ρ' eo cls dd F' H' m xr => ?_
    · subst eo
      cases e
      exact q d ρ' rfl v F' H' (n1.trans m) dv
    · subst eo
      intro σ' hl
      have e' : ((hs c d).map fun r => (.ok r ρ' : Ou PyData)) = some o := e
      cases eh : hs c d with
      | none => rw [eh] at e'; cases e'
      | some r =>
        rw [eh] at e'
        cases e'
        exact hr c d r cls dd F' H' σ' hl m.rs.ex xr eh _ _ (fun u du => q r ρ' rfl u F' H' (n1.trans m) du) fun p ob nt hp dp => q r ρ' rfl (.ref p) _ _ ((n1.trans m).trans (m.rs.new hp nt)) dp
end
end Pd

namespace Pd
open PySem L2 Evl
section
variable {K : PKt} {ec : EC} {W : WX} {tl : TA} {fl : DL}
theorem sel_dq {F : Hp} {vs : List V} {ds : List PyData} (h : DqAll K F vs ds) : ∀ is : List Nat, DqAll K F (sel is vs) (sel is ds)
  | [] => .nil
  | i :: is => by
    unfold sel
    rw [List.filterMap_cons, List.filterMap_cons]
    cases e : ds[i]? with
    | none =>
      have : vs[i]? = none := by
        rw [List.getElem?_eq_none_iff] at e ⊢
        rw [h.length]; exact e
      rw [this]
      exact sel_dq h is
    | some d =>
      obtain ⟨v, h1, h2⟩ := h.get e
      rw [h1]
      exact .cons h2 (sel_dq h is)
def kwM (m : Nat) (is : List Nat) (n : Nat) (fn : FnQ) (fl : DL) : DE := fun ρ => bnd (fl ρ) fun as ρ1 => if as.length = m ∧ (sel is as).length = n then (fn (sel is as)).map fun d => .ok d ρ1 else none
theorem ed_kw {m n : Nat} {is : List Nat} {fn : FnQ} {E : L2.St → XK} (h : Ea K ec W tl fl) : Ed K ec W (tCallKw m is (spQ K n fn) E tl) (kwM m is n fn fl) := by
  intro F H σ ρ o rs e Q q hf
  refine h.go rs e hf fun as ρ1 vs F1 H1 n1 dv e1 hf1 => ?_
  split at e1
  · rename_i hn
    cases ef : fn (sel is as) with
    | none => rw [ef] at e1; cases e1
    | some d =>
      rw [ef] at e1
      cases e1
      exact ⟨by rw [dv.length]; exact hn.1, n1.rs.tab, F1, _, d, n1.rs.nt, n1.rs.ex, sel_dq dv is, hn.2, ef, fun v F' H' g dv' => q d ρ1 rfl v F' H' (n1.trans (n1.rs.back g)) dv'⟩
  · cases e1
def kwE (m : Nat) (is : List Nat) (n : Nat) (fn : FnE) (fl : DL) : DE := fun ρ => bnd (fl ρ) fun as ρ1 => if as.length = m ∧ (sel is as).length = n then (fn (sel is as)).map fun r => match r with | .ok d => .ok d ρ1 | .er c d => .ex c d ρ1 else none
theorem ed_kwE {m n : Nat} {is : List Nat} {fn : FnE} (h : Ea K ec W tl fl) : Ed K ec W (tCallKw m is (spE K ec n fn) (WE W) tl) (kwE m is n fn fl) := by
  intro F H σ ρ o rs e Q q hf
  refine h.go rs e hf fun as ρ1 vs F1 H1 n1 dv e1 hf1 => ?_
  split at e1
  · rename_i hn
    cases ef : fn (sel is as) with
    | none => rw [ef] at e1; cases e1
    | some r =>
      rw [ef] at e1
      refine ⟨by rw [dv.length]; exact hn.1, n1.rs.tab, F1, _, r, n1.rs.nt, n1.rs.ex, sel_dq dv is, hn.2, ef, fun d er v F' H' g dv' => ?_, fun c d er cls dd F' H' g x => ?_⟩
      · subst er
        cases e1
        exact q d ρ1 rfl v F' H' (n1.trans (n1.rs.back g)) dv'
      · subst er
        cases e1
        exact hf1 c d ρ1 rfl cls dd F' H' (n1.rs.back g) x
  · cases e1
end
end Pd

namespace Pd
open PySem L2 Evl
section
variable {K : PKt} {ec : EC} {W : WX} {te : TE} {tl : TA} {f : DE} {fl : DL} {F H : Hp} {a : Addr} {xs : List V} {ds : List PyData} {σ : L2.St} {ρ : Rho}
theorem itd_enumT (h : TupZ K.K F a xs) (hs : DqAll K F xs ds) : Itd K F (IteT K a) (enumD 0 ds) := by
  refine ⟨fun i H1 e hl => ⟨xs, TupZ.sq h e, by rw [hs.length, ← enumD_length ds 0]; exact hl⟩, fun i d H1 e hd => ?_, fun i d F1 H1 x H2 e1 e2 hd hy => ?_⟩
  · obtain ⟨e0, k1, _⟩ := enumD_get hd
    obtain ⟨v, h1, _⟩ := hs.get k1
    exact ⟨xs, v, TupZ.sq h e, h1⟩
  · obtain ⟨e0, k1, rfl⟩ := enumD_get hd
    obtain ⟨v, h1, h2⟩ := hs.get k1
    obtain ⟨T, y, rfl, hT, rfl, hy2⟩ := hy
    have := hy2 xs (TupZ.sq (TupZ.mono e1 h) e2)
    rw [h1] at this
    cases this
    refine .inr ⟨T, _, (fun ps z => by cases z), rfl, hT, rfl, .tup (.inl upd_same) (.cons ?_ (.cons ((h2.mono e1).mono (Ex.new (fresh_back e2 hT))) .nil))⟩
    rw [Nat.zero_add]
    exact .int _
def enumTI (fl : DL) : DL := fun ρ => bnd (fl ρ) fun as ρ1 => match as with | [.tuple ds] => some (.ok (enumD 0 ds) ρ1) | _ => none
theorem id_enumT (h : Ea K ec W tl fl) : Id K ec W (iEnumT K tl) (enumTI fl) := by
  intro F H σ ρ o rs e R q hf
  refine h.go rs e hf fun as ρ1 vs F1 H1 n1 dv e1 hf1 => ?_
  split at e1
  · cases e1
    cases dv with
    | cons d0 dr =>
      cases d0 with
      | tup ha hs =>
        cases dr with
        | nil => exact ⟨_, _, rfl, TupZ.sq ha (n1.rs.ex), q _ _ rfl _ F1 H1 n1 (itd_enumT ha hs)⟩
  · cases e1
/-- of a list or a tuple -/
def enumSI (fl : DL) : DL := fun ρ => bnd (fl ρ) fun as ρ1 => match as with | [.tuple ds] => some (.ok (enumD 0 ds) ρ1) | [.list ds] => some (.ok (enumD 0 ds) ρ1) | _ => none
theorem id_enumS (h : Ea K ec W tl fl) : Id K ec W (iOr (iEnum K tl) (iEnumT K tl)) (enumSI fl) := by
  refine id_or (id_enum h) (id_enumT h) fun ρ o e => ?_
  unfold enumSI at e
  unfold enumI enumTI
  cases ef : fl ρ with
  | none => rw [ef] at e; cases e
  | some x =>
    rw [ef] at e
    cases x with
    | ex c d ρ1 => exact .inl e
    | ok as ρ1 =>
      rw [bnd_ok] at e ⊢
      rw [bnd_ok]
      split at e
      · exact .inr e
      · exact .inl e
      · cases e
/-- enumerate of a name's own list -/
def enumOI (i : Nat) : DL := fun ρ => match ρ[i]? with
  | some (.own _ ds) => some (.ok (enumD 0 ds) (ρ.set i (.fro (.list ds))))
  | _ => none
/-! all, any, sum over lists -/
def boolsD : List PyData → Option (List Bool)
  | [] => some []
  | .bool b :: r => (boolsD r).map (b :: ·)
  | _ :: _ => none
def intsD : List PyData → Option (List Int)
  | [] => some []
  | .int i :: r => (intsD r).map (i :: ·)
  | _ :: _ => none
theorem bools_of : ∀ {xs : List V} {ds : List PyData} {bs : List Bool}, DqAll K F xs ds → boolsD ds = some bs → xs = bs.map V.bl
  | _, _, _, .nil, e => by cases e; rfl
  | _, _, _, .cons h t, e => by
    cases h with
    | bl b =>
      unfold boolsD at e
      cases e1 : boolsD _ with
      | none => rw [e1] at e; cases e
      | some r =>
        rw [e1] at e
        cases e
        rw [bools_of t e1]
        rfl
    | _ => cases e
theorem ints_of : ∀ {xs : List V} {ds : List PyData} {bs : List Int}, DqAll K F xs ds → intsD ds = some bs → xs = bs.map V.int
  | _, _, _, .nil, e => by cases e; rfl
  | _, _, _, .cons h t, e => by
    cases h with
    | int b =>
      unfold intsD at e
      cases e1 : intsD _ with
      | none => rw [e1] at e; cases e
      | some r =>
        rw [e1] at e
        cases e
        rw [ints_of t e1]
        rfl
    | _ => cases e
def allP : List PyData → Option PyData | [.list ds] => (boolsD ds).map fun bs => .bool (bs.all id) | _ => none
def anyP : List PyData → Option PyData | [.list ds] => (boolsD ds).map fun bs => .bool (bs.any id) | _ => none
def sumP : List PyData → Option PyData | [.list ds] => (intsD ds).map fun bs => .int bs.sum | _ => none
theorem cad_all : CaD K (rAll K) allP := by
  intro F H vs as d ex dv e Q q1 q2
  unfold allP at e
  split at e
  · rename_i ds
    obtain ⟨v, rfl, dx⟩ := one_of dv
    cases dx with
    | lst ha hs =>
      cases eb : boolsD ds with
      | none => rw [eb] at e; cases e
      | some bs =>
        rw [eb] at e
        cases e
        refine ⟨_, bs, rfl, ?_, q1 _ (.bl _)⟩
        rw [← bools_of hs eb]
        exact SqL.of (ex _ _ ha)
  · cases e
theorem cad_any : CaD K (rAny K) anyP := by
  intro F H vs as d ex dv e Q q1 q2
  unfold anyP at e
  split at e
  · rename_i ds
    obtain ⟨v, rfl, dx⟩ := one_of dv
    cases dx with
    | lst ha hs =>
      cases eb : boolsD ds with
      | none => rw [eb] at e; cases e
      | some bs =>
        rw [eb] at e
        cases e
        refine ⟨_, bs, rfl, ?_, q1 _ (.bl _)⟩
        rw [← bools_of hs eb]
        exact SqL.of (ex _ _ ha)
  · cases e
theorem cad_sum : CaD K (rSum K) sumP := by
  intro F H vs as d ex dv e Q q1 q2
  unfold sumP at e
  split at e
  · rename_i ds
    obtain ⟨v, rfl, dx⟩ := one_of dv
    cases dx with
    | lst ha hs =>
      cases eb : intsD ds with
      | none => rw [eb] at e; cases e
      | some bs =>
        rw [eb] at e
        cases e
        refine ⟨_, bs, rfl, ?_, q1 _ (.int _)⟩
        rw [← ints_of hs eb]
        exact SqL.of (ex _ _ ha)
  · cases e
end
end Pd

namespace Pd
open PySem L2 Evl
section
variable {K : PKt} {ec : EC} {W : WX} {te ta tb : TE} {tt : TT} {tl : TA} {f g : DE} {fl gl : DL} {fb : DB} {F H : Hp} {σ : L2.St} {ρ : Rho}
def yesB : DB := fun ρ => some (.ok true ρ)
theorem et_yes : Et K ec W tYes yesB := by
  intro F H σ ρ o rs e Q q hf
  cases e
  exact q true ρ rfl F H (Nx.refl rs)
/-! == and != also of texts -/
def rNeP (K : PySem.W.Frag) : R2 := fun x y H Q => rNe x y H Q ∨ rNeD K x y H Q
def rEqP (K : PySem.W.Frag) : R2 := fun x y H Q => rEq x y H Q ∨ rEqD K x y H Q
theorem op_neP {X : Cx} (hu : X.A.units + 64 < cLine) : OpR X (compareOp .NotEq) (rNeP X.K) := OpR.or op_ne (op_neD hu)
theorem op_eqP {X : Cx} (hu : X.A.units + 64 < cLine) : OpR X (compareOp .Eq) (rEqP X.K) := OpR.or op_eq (op_eqD hu)
def neS : Op := fun a b => match a, b with
  | .str x, .str y => some (.bool (!decide (x = y)))
  | a, b => neP a b
def eqS : Op := fun a b => match a, b with
  | .str x, .str y => some (.bool (decide (x = y)))
  | a, b => eqP a b
theorem opd_neS : OpD K (rNeP K) neS := by
  intro F H v w a b d ex dv dw e Q q1 q2
  unfold neS at e
  split at e
  · rename_i x y
    cases e
    cases dv; cases dw
    refine .inl ⟨rfl, ?_⟩
    have : (decide (V.str x = V.str y)) = decide (x = y) := by
      by_cases h : x = y
      · subst h; simp
      · rw [decide_eq_false h, decide_eq_false fun z => h (V.str.inj z)]
    rw [this]
    exact q1 _ (.bl _)
  · exact .inr (opd_ne F H v w _ _ d ex dv dw e Q q1 q2)
theorem opd_eqS : OpD K (rEqP K) eqS := by
  intro F H v w a b d ex dv dw e Q q1 q2
  unfold eqS at e
  split at e
  · rename_i x y
    cases e
    cases dv; cases dw
    refine .inl ⟨rfl, ?_⟩
    have : (decide (V.str x = V.str y)) = decide (x = y) := by
      by_cases h : x = y
      · subst h; simp
      · rw [decide_eq_false h, decide_eq_false fun z => h (V.str.inj z)]
    rw [this]
    exact q1 _ (.bl _)
  · exact .inr (opd_eq F H v w _ _ d ex dv dw e Q q1 q2)
/-! new lists -/
def OpN (K : PKt) (r : R2) (op : Op) : Prop := ∀ (F H : Hp) (v w : V) (a b : PyData) (ds : List PyData), Ex F H → Dq K F v a → Dq K F w b → op a b = some (.list ds) → ∀ Q : VK,
  (∀ p vs, H p = none → DqAll K F vs ds → Q (.ref p) (upd H p (.lst vs))) → r v w H Q
def opN (op : Op) (f g : DE) : DL := fun ρ => bnd (f ρ) fun a ρ1 => bnd (g ρ1) fun b ρ2 => match op a b with
  | some (.list ds) => some (.ok ds ρ2)
  | _ => none
theorem eo_op {r : R2} {op : Op} (hr : OpN K r op) (ha : Ed K ec W ta f) (hb : Ed K ec W tb g) : Eo K ec W (tOp r ta tb) (opN op f g) := by
  intro F H σ ρ o rs e Q q hf
  refine ha.go rs e hf fun a ρ1 v F1 H1 n1 dv e1 hf1 => ?_
  refine hb.go n1.rs e1 hf1 fun b ρ2 w F2 H2 n2 dw e2 hf2 => ?_
  split at e2
  · rename_i ds eo
    cases e2
    refine hr F2 H2 v w a b ds n2.rs.ex (dv.mono n2.go.fr) dw eo Q fun p vs hp dvs => ?_
    have n := n1.trans n2
    exact q ds ρ2 rfl p vs F2 _ (n.trans (n2.rs.newOwn hp fun ps z => by cases z)) (fun z => Th.no hp (n.thr p z)) (fresh_back n2.rs.ex hp) upd_same dvs
  · cases e2
theorem opn_add : OpN K (rAddP K) addP := by
  intro F H v w a b ds ex dv dw e Q q
  unfold addP at e
  split at e
  · cases e
  · split at e
    · rename_i hz
      cases e
      cases dv with
      | lst ha hs =>
        cases dw with
        | lst hb ht => exact .inr (.inl ⟨_, _, _, _, rfl, rfl, ex _ _ ha, ex _ _ hb, by rw [hs.length, ht.length]; exact sz_of hz, fun p hp => q p _ hp (hs.append ht)⟩)
    · cases e
  · split at e <;> cases e
  · cases e
theorem opn_mul : OpN K (rMulP K) mulP := by
  intro F H v w a b ds ex dv dw e Q q
  unfold mulP at e
  split at e
  · split at e <;> cases e
  · split at e
    · rename_i hz
      cases e
      cases dw
      cases dv with
      | lst ha hs => exact .inr (.inl ⟨_, _, _, rfl, rfl, ex _ _ ha, by omega, by omega, by rw [hs.length]; exact sz_of hz.2.2, fun p hp => q p _ hp (hs.rep _)⟩)
    · cases e
  · split at e <;> cases e
  · cases e
def CaN (K : PKt) (r : List V → Hp → VK → Prop) (op : List PyData → Option PyData) : Prop := ∀ (F H : Hp) (vs : List V) (as ds : List PyData), Ex F H → DqAll K F vs as → op as = some (.list ds) → ∀ Q : VK, (∀ p ws, H p = none → DqAll K F ws ds → Q (.ref p) (upd H p (.lst ws))) → r vs H Q
def caN (op : List PyData → Option PyData) (fl : DL) : DL := fun ρ => bnd (fl ρ) fun as ρ1 => match op as with
  | some (.list ds) => some (.ok ds ρ1)
  | _ => none
theorem eo_ca {r : List V → Hp → VK → Prop} {op : List PyData → Option PyData} (hr : CaN K r op) (ha : Ea K ec W tl fl) : Eo K ec W (tCB r tl) (caN op fl) := by
  intro F H σ ρ o rs e Q q hf
  refine ha.go rs e hf fun as ρ1 vs F1 H1 n1 dv e1 hf1 => ?_
  split at e1
  · rename_i ds eo
    cases e1
    refine hr F1 H1 vs as ds n1.rs.ex dv eo Q fun p ws hp dws => ?_
    exact q ds ρ1 rfl p ws F1 _ (n1.trans (n1.rs.newOwn hp fun ps z => by cases z)) (fun z => Th.no hp (n1.thr p z)) (fresh_back n1.rs.ex hp) upd_same dws
  · cases e1
theorem can_list : CaN K (fun xs H Q => ∃ p ys, xs = [V.ref p] ∧ (SqL K H p ys ∨ SqT K H p ys) ∧ ∀ (l : Addr), H l = none → Q (V.ref l) (upd H l (HO.lst ys))) listP := by
  intro F H vs as ds ex dv e Q q
  unfold listP at e
  split at e
  · cases e
    obtain ⟨v, rfl, dx⟩ := one_of dv
    cases dx with
    | lst ha hs => exact ⟨_, _, rfl, .inl (SqL.of (ex _ _ ha)), fun p hp => q p _ hp hs⟩
  · cases e
    obtain ⟨v, rfl, dx⟩ := one_of dv
    cases dx with
    | tup ha hs => exact ⟨_, _, rfl, .inr (TupZ.sq ha (ex)), fun p hp => q p _ hp hs⟩
  · cases e
/-! word errors -/
theorem sd_raiseW {c : Nat} (hc : ec.fld c = "word") (h : Ed K ec W te f) : Sd K ec W (tRaiseW (ec.C c) W (tCons te tNil)) (raiseS c f) := by
  intro F H σ ρ oc rs e D hp
  refine h.goS rs e hp fun d ρ1 v F1 H1 n dv e1 hp1 => ?_
  cases e1
  refine ⟨v, rfl, fun a ha => ?_⟩
  have x := xr_new (ec := ec) (c := c) n.rs dv ha
  rw [hc] at x
  exact hp1 _ _ σ F1 _ x.1.sx x.2
end
end Pd

namespace Pd
open PySem L2 Evl
theorem units65 {k : Nat} {A : Around} (r : Room k A) : A.units + 65 < cLine := by
  have := r.un
  omega
/-- the errors: all but number w keep `at` -/
abbrev ecOf (C : Nat → Addr) (w : Nat) : EC := ⟨C, fun c => if c = w then "word" else "at"⟩
def rng1M (fl : DL) : DL := fun ρ => bnd (fl ρ) fun as ρ1 => match as with | [.int j] => if -1000000 < j ∧ j < 1000000 then some (.ok (rangeD 0 j.toNat) ρ1) else none | _ => none
section
variable {K : PKt} {ec : EC} {W : WX} {tl : TA} {fl : DL} {te : TE} {f : DE} {is : List Nat} {g : TG} {tg : DG}
theorem id_rng1M (h : Ea K ec W tl fl) : Id K ec W (iRng1 tl) (rng1M fl) := id_rng1 h
def asgG (tg : DG) (f : DE) : DS := fun ρ => bndS (f ρ) fun d ρ1 => (tg d ρ1).map .nx
theorem sd_asgG (h : Ed K ec W te f) (hg : Gd K is g tg) : Sd K ec W (tAsg te g) (asgG tg f) := by
  intro F H σ ρ oc rs e D hp
  refine h.goS rs e hp fun d ρ1 v F1 H1 n dv e1 hp1 => ?_
  cases et : tg d ρ1 with
  | none => rw [et] at e1; cases e1
  | some ρ2 =>
    rw [et] at e1
    cases e1
    exact hg F1 H1 σ ρ1 v d ρ2 n.rs dv et _ fun σ' s _ => hp1 σ' F1 H1 s
end
end Pd

/-! the rules that speak of X.K, with K told -/
namespace Pd
open PySem L2 Evl
section
variable {X : Cx} {f : Value → Value → Sem Value}
theorem op_addK (K : PySem.W.Frag) (h : X.K = K) : OpR X (binaryOp .Add) (rAddP K) := h ▸ op_addP
theorem op_mulK (K : PySem.W.Frag) (h : X.K = K) : OpR X (binaryOp .Mult) (rMulP K) := h ▸ op_mulP
theorem op_inK (K : PySem.W.Frag) (h : X.K = K) (hu : X.A.units + 65 < cLine) : OpR X (compareOp .In) (rInP K) := h ▸ op_inP hu
theorem op_notInK (K : PySem.W.Frag) (h : X.K = K) (hu : X.A.units + 65 < cLine) : OpR X (compareOp .NotIn) (rNotInP K) := h ▸ op_notInP hu
theorem op_eqK (K : PySem.W.Frag) (h : X.K = K) (hu : X.A.units + 64 < cLine) : OpR X (compareOp .Eq) (rEqP K) := h ▸ op_eqP hu
theorem op_neK (K : PySem.W.Frag) (h : X.K = K) (hu : X.A.units + 64 < cLine) : OpR X (compareOp .NotEq) (rNeP K) := h ▸ op_neP hu
theorem ix_K (K : PySem.W.Frag) (h : X.K = K) : IxR X (rIxP K) := h ▸ ix_P
theorem sl_K (K : PySem.W.Frag) (h : X.K = K) : SlR X (rSlP K) := h ▸ sl_P
theorem call_isi1K (K : PySem.W.Frag) (h : X.K = K) : CallR X (.builtin "isinstance") (rIsi K) := h ▸ call_isi
theorem call_isi2K (K : PySem.W.Frag) (h : X.K = K) : CallR X (.builtin "isinstance") (rIsiT K) := h ▸ call_isiT
theorem call_lenK (K : PySem.W.Frag) (h : X.K = K) : CallR X (.builtin "len") (fun xs H Q => ∃ p ys, xs = [V.ref p] ∧ (SqL K H p ys ∨ SqT K H p ys) ∧ Q (V.int (ys.length : Nat)) H) := h ▸ call_len_seq
theorem call_tupleK (K : PySem.W.Frag) (h : X.K = K) : CallR X (.type "tuple") (fun xs H Q => ∃ p ys, xs = [V.ref p] ∧ ((SqL K H p ys ∧ ∀ (l : Addr), H l = none → Q (V.ref l) (upd H l (HO.tup ys))) ∨ SqT K H p ys ∧ Q (V.ref p) H)) := h ▸ call_tuple_of
theorem call_listK (K : PySem.W.Frag) (h : X.K = K) : CallR X (.type "list") (fun xs H Q => ∃ p ys, xs = [V.ref p] ∧ (SqL K H p ys ∨ SqT K H p ys) ∧ ∀ (l : Addr), H l = none → Q (V.ref l) (upd H l (HO.lst ys))) := h ▸ call_list_of
theorem cr_allK (K : PySem.W.Frag) (h : X.K = K) (hc : X.calm = true) : CallR X (.builtin "all") (rAll K) := h ▸ cr_all hc
theorem cr_anyK (K : PySem.W.Frag) (h : X.K = K) (hc : X.calm = true) : CallR X (.builtin "any") (rAny K) := h ▸ cr_any hc
theorem cr_sumK (K : PySem.W.Frag) (h : X.K = K) (hc : X.calm = true) : CallR X (.builtin "sum") (rSum K) := h ▸ cr_sum hc
variable {tg l e : Expr} {tl te : TE} {ta : TA} {p pos tpos : Pos} {elts es : List Expr} {kk k n : Nat} {t : TGs}
theorem pi_seqK (K : PySem.W.Frag) (h : X.K = K) (hl : PE X l tl) : PI X tg l (iOr (iList K tl) (iTup K tl)) := h ▸ pi_or (pi_list hl) (pi_tup hl)
theorem pi_enumK (K : PySem.W.Frag) (h : X.K = K) (hg : Gl X "enumerate") (hm : X.mg "enumerate" = none) (ha : PA X [e] ta) (hs : starEach [e] X.env = [(false, eval e X.env)] := by rfl) :
    PI X (.Tuple elts kk tpos) (.Call (.Name "enumerate" p) [e] [] pos) (iOr (iEnum K ta) (iEnumT K ta)) := h ▸ pi_or (pi_enum hg hm ha hs) (pi_enumT hg hm ha hs)
theorem pt_truK (K : PySem.W.Frag) (h : X.K = K) (he : PE X e te) (hi : ∀ whole : Sem Value, PySem.isTrue e X.env whole = (do let v ← whole; standAt e.pos; holding [v] (truthy v)) := by intro _; rfl) : PT X e (tTru K te) := h ▸ pt_tru he hi
theorem pg_tupK (K : PySem.W.Frag) (h : X.K = K) (hc : X.calm = true) (hs : PGs X es t) (h1 : (assignEach es X.env).length = n := by rfl) (h2 : List.findIdx? (fun x => x.fst) (assignEach es X.env) = none := by rfl) : PG X (.Tuple es k pos) (gTup K n t) := h ▸ pg_tup hc hs h1 h2
theorem pg_unlK (K : PySem.W.Frag) (h : X.K = K) (hc : X.calm = true) (hs : PGs X es t) (h1 : (assignEach es X.env).length = n := by rfl) (h2 : List.findIdx? (fun x => x.fst) (assignEach es X.env) = none := by rfl) : PG X (.Tuple es k pos) (gUnl K n t) := h ▸ pg_unl hc hs h1 h2
end
end Pd

namespace Pd
open PySem L2 Evl
def rRepr (K : PySem.W.Frag) : List V → Hp → VK → Prop := fun xs H Q => ∃ (a : Addr) (d : PyData), xs = [V.ref a] ∧ Dp K H (.ref a) d ∧ d.showable = true ∧ d.hasDict = false ∧ d.depth ≤ 60 ∧ d.shown.length ≤ sizeLine ∧ Q (.str d.shown) H
theorem call_reprK {X : Cx} (K : PySem.W.Frag) (h : X.K = K) (hg : X.A.guards = some []) (hu : X.A.units + 65 < cLine) : CallR X (.builtin "repr") (rRepr K) := by
  subst h
  intro pins s σ H xs us Q I r hh
  obtain ⟨a, d, rfl, hd, h1, h2, h3, h4, q⟩ := hh
  cases r with
  | cons ra rr =>
    cases rr
    cases ra
    obtain ⟨as, rd⟩ := Dp.reads I d (.ref a) (.ref a) hd rfl
    refine repr_of_reads' rd h1 (fun z => by rw [h2] at z; cases z) hg (by omega) (fun _ _ e => e) (fun h' u tk hk => ⟨.str d.shown, H, I.kept hk, ⟨u, rfl⟩, q⟩) h4
def reprP : List PyData → Option PyData
  | [d] => match d with
    | .tuple ds => if PyData.showable (.tuple ds) = true ∧ PyData.hasDict (.tuple ds) = false ∧ PyData.canLay0 (.tuple ds) = true ∧ PyData.depth (.tuple ds) ≤ 60 ∧ (PyData.shown (.tuple ds)).length ≤ 1000000 then some (.str (PyData.shown (.tuple ds))) else none
    | .list ds => if PyData.showable (.list ds) = true ∧ PyData.hasDict (.list ds) = false ∧ PyData.canLay0 (.list ds) = true ∧ PyData.depth (.list ds) ≤ 60 ∧ (PyData.shown (.list ds)).length ≤ 1000000 then some (.str (PyData.shown (.list ds))) else none
    | _ => none
  | _ => none
section
variable {K : PKt}
theorem cad_repr : CaD K (rRepr K) reprP := by
  have z : (1000000 : Nat) ≤ sizeLine := by decide
  intro F H vs as d ex dv e Q q1 q2
  unfold reprP at e
  split at e
  · split at e
    · split at e
      · rename_i hz
        cases e
        obtain ⟨v, rfl, dx⟩ := one_of dv
        cases dx with
        | tup ha hs => exact ⟨_, _, rfl, (Dq.mono ex (.tup ha hs)).dp hz.2.2.1, hz.1, hz.2.1, hz.2.2.2.1, Nat.le_trans hz.2.2.2.2 z, q1 _ (.str _)⟩
      · cases e
    · split at e
      · rename_i hz
        cases e
        obtain ⟨v, rfl, dx⟩ := one_of dv
        cases dx with
        | lst ha hs => exact ⟨_, _, rfl, (Dq.mono ex (.lst ha hs)).dp hz.2.2.1, hz.1, hz.2.1, hz.2.2.2.1, Nat.le_trans hz.2.2.2.2 z, q1 _ (.str _)⟩
      · cases e
    · cases e
  · cases e
end
end Pd
namespace Pd
open PySem L2 Evl
/-! ### the law's own def -/
section
variable {K : PKt} {H : Hp} {a : Addr} {ns : List Int}
/-- the script, as data -/
abbrev scrD (ns : List Int) : PyData := .dict [(.none, .list (ns.map PyData.int))]
theorem ints_dq {F : Hp} : ∀ ns : List Int, DqAll K F (ns.map V.int) (ns.map PyData.int)
  | [] => .nil
  | _ :: r => .cons (.int _) (ints_dq r)
theorem script_sp {f : FnQ} (tb : LamX.Tabs K.T H) (hS : SqL K.K H a (ns.map V.int)) (e : f [scrD ns] = some (.bool true)) : spQ K 1 f [V.ref a] H (fun v _ => v = V.bl true) fun _ _ _ => False := by
  have main : ∀ F : Hp, Nt F → Ex F H → SqL K.K F a (ns.map V.int) → spQ K 1 f [V.ref a] H (fun v _ => v = V.bl true) fun _ _ _ => False := fun F nt ex hF =>
    ⟨tb, F, [scrD ns], .bool true, nt, ex, .cons (.scr hF (ints_dq ns)) .nil, rfl, e, fun v F' H' g dv => dq_bool dv⟩
  have one : ∀ o : HO, (∀ ps, o ≠ .tbl ps) → H a = some o → SqL K.K (upd (fun _ => none) a o) a (ns.map V.int) → spQ K 1 f [V.ref a] H (fun v _ => v = V.bl true) fun _ _ _ => False := fun o nt h hF =>
    main (upd (fun _ => none) a o) (Nt.upd (fun _ _ z => by cases z) nt) (fun b u hb => by
      by_cases e : b = a
      · subst e; rw [upd_same] at hb; rw [h]; exact hb
      · rw [upd_ne e] at hb; cases hb) hF
  rcases hS with (h | ⟨u, h⟩) | h
  · exact one _ (fun ps z => by cases z) h (.inl (.inl upd_same))
  · exact one _ (fun ps z => by cases z) h (.inl (.inr ⟨u, upd_same⟩))
  · exact main (fun _ => none) (fun _ _ z => by cases z) (fun _ _ z => by cases z) (.inr h)
end
end Pd
namespace Pd
open PySem L2 Evl
/-- of n errors the j-th alone is hit -/
def hitE (n j : Nat) : Nat → Option Bool := fun c => if c < n then some (decide (c = j)) else none
theorem hitE_exm {K : PySem.W.Frag} {C : Nat → Addr} {n j : Nat} (hj : j < n) (h : ∀ i j, i < n → j < n → PySem.W.exmOne K (.ref (C i)) (.ref (C j)) = some (decide (i = j))) (c : Nat) (b : Bool) (e : hitE n j c = some b) : PySem.W.exmOne K (.ref (C c)) (.ref (C j)) = some b := by
  unfold hitE at e
  split at e
  · rename_i hc
    cases e
    exact h c j hc hj
  · cases e
theorem hitE_true {n j c : Nat} (e : hitE n j c = some true) : c = j := by
  unfold hitE at e
  split at e
  · exact of_decide_eq_true (Option.some.inj e)
  · cases e
end Pd
namespace L2
open PySem PySem.Spec PyProof.Rows
theorem pe_told {X : Cx} {T : List (Addr × Str)} {st : Stmt} {x a : Str} {g c P : Addr} {fd : FuncData} {Ng : List Str} {TT : (XK → Hp → VK → Prop) → Hp → VK → Prop} {k : Nat} {params : Arguments} {body : Expr} {scope : Scope} {lpos pos p : Pos} {t : XK → TE}
    (F : Fun X.K x x st g fd) (hm : X.mg x = some (.ref g)) (b : Binds X.K fd [a] []) (S : FnScope Ng [a] (defScope st)) (h0 : Ng[0]? = some a) (hv : Vis (defScope st) a) (hG : ∀ cdg, LamX.GivesTo X Ng x (defScope st) g cdg (defBody st) a (X.env.qual ++ "<lambda>") TT)
    (tb : LamX.TabB X.base X.mg c P) (hc : X.env.code = .ref c) (hT : (P, X.env.qual ++ ("<lambda>" : Str)) ∈ T) (hu : ∀ p ∈ T, p.1 = P → p.2 = X.env.qual ++ ("<lambda>" : Str)) (hr : Room (k + 2) X.A) (ls : LamX.LamS X.env.scope scope) (hd : defaultsOf params X.env = ([], []))
    (hba : ∀ (q : Str) (cl : List (Str × Addr)) (pm cv ctv : Value), bindArgs (PySem.W.kla_fn "<lambda>" q params body scope cl pm cv ctv) {} = pure [])
    (hb : ∀ (A : Around) (outer : List Env) (s : Shared) (H : Hp) (E : XK) (f c' : Addr), Room k (A.deeper (LamX.lamEnv X scope s.heap.objs.size f c')) → PE (LamX.lamCx X A outer s H E scope f c') body (t E)) (hg : Gl X x := by rfl)
    (d1 : (x == ("__debug__" : Str)) = false := by decide) (d2 : (a == ("__debug__" : Str)) = false := by decide) (d3 : (a == ("__classdict__" : Str)) = false := by decide) :
    PE X (.Call (.Name x p) [.Lambda params body scope lpos] [] pos) (LamX.tLam T TT t) := by
  obtain ⟨oc, od, kV, doc, pm, an, cdv, ct, osl, rfl, lk, hcd⟩ := F.ex
  exact LamX.pe_lamcall hg hm F.kp lk hcd b S h0 hv (hG cdv) tb hc hT hu hr ls hd hba hb d1 d2 d3
end L2

namespace Pd
open PySem L2 Evl
theorem takesF {X : Cx} : Takes X fun _ _ _ _ => False := fun u s' z => by
  obtain ⟨_, _, _, _, _, _, _, _, _, _, _, _, _, _, _, _, w⟩ := z
  exact w.elim
section
variable {K : PKt} {ec : EC} {W : WX} {ta te : TE} {f : DE} {F H : Hp}
theorem rg_dq {lo hi : Int} : DqAll K F (rgV lo hi) (rangeD lo (hi - lo).toNat) := by
  unfold rgV rangeD
  generalize (List.range (hi - lo).toNat) = l
  induction l with
  | nil => exact .nil
  | cons i r ih => exact .cons (.int _) ih
def lrgM (f : DE) : DL := fun ρ => bnd (f ρ) fun d ρ1 => match d with | .int n => if 0 ≤ n ∧ n ≤ 100000 then some (.ok (rangeD 0 n.toNat) ρ1) else none | _ => none
theorem eo_listRg (ha : Ed K ec W ta f) : Eo K ec W (tLstRg (tRg1 ta)) (lrgM f) := by
  intro F H σ ρ o rs e Q q hf
  refine ha.go rs e hf fun d ρ1 v F1 H1 n1 dv e1 hf1 => ?_
  cases dv with
  | int n =>
    have e2 : (if 0 ≤ n ∧ n ≤ 100000 then some (.ok (rangeD 0 n.toNat) ρ1) else none) = some o := e1
    split at e2
    · rename_i hz
      cases e2
      refine ⟨n, rfl, ?_, fun p hp => ?_⟩
      · first | exact ⟨by omega, by omega, by omega, by omega⟩ | (unfold RgOk; omega) | trace_state
      · have := @rg_dq K F1 0 n
        rw [Int.sub_zero] at this
        exact q _ _ rfl p _ F1 _ (n1.trans (n1.rs.newOwn hp fun ps z => by cases z)) (fun z => Th.no hp (n1.thr p z)) (fresh_back n1.rs.ex hp) upd_same this
    · cases e2
  | _ => cases e1
end
end Pd

namespace K01
open PySem L2 Evl Pd
def top (i : Nat) : Stmt := PySem.Challenge.pw_leastpromise_k01_whole_sheets_told_by_li.main.body.getD i (.Pass ⟨0, 0, 0, 0⟩)
structure Txt (K : PKt) (mg : Str → Option Value) (C : Nat → Addr) (B : Addr) (fI : Nat → Addr) : Prop where
  b_abs : mg "abs" = none
  b_all : mg "all" = none
  b_bool : mg "bool" = none
  b_enumerate : mg "enumerate" = none
  b_int : mg "int" = none
  b_isinstance : mg "isinstance" = none
  b_len : mg "len" = none
  b_list : mg "list" = none
  b_range : mg "range" = none
  b_repr : mg "repr" = none
  b_tuple : mg "tuple" = none
  x_InvalidTable : PySem.PErrA.Txt K.K mg "InvalidTable" "InvalidTable.__init__" (C 0) B (fI 0)
  x_InvalidLines : PySem.PErrA.Txt K.K mg "InvalidLines" "InvalidLines.__init__" (C 1) B (fI 1)
  x_Refused : PySem.PErrA.Txt K.K mg "Refused" "Refused.__init__" (C 2) B (fI 2)
  x_InvalidSize : PySem.PErrW.Txt K.K mg "InvalidSize" "InvalidSize.__init__" (C 3) B (fI 3)
  exm : ∀ i j, i < 4 → j < 4 → PySem.W.exmOne K.K (.ref (C i)) (.ref (C j)) = some (decide (i = j))
section
variable {P : Program} {w : World} {K : PKt} {mg : Str → Option Value} {base : Heap} {C fI : Nat → Addr} {B : Addr}
abbrev s__law_box : Stmt := top 23
theorem sc__law_box : FnScope ["script", "k", "cell"] ["script", "k"] (defScope s__law_box) := ⟨rfl, rfl, rfl, by decide +kernel, rfl, by decide +kernel, by decide +kernel⟩
def den__law_box : DS := (seqS (asgS 2 (opM addP (opM mulP (conM (.int 4133)) (varM 1)) (conM (.int 311)))) (seqS (ifS (boolM (opM ltP (varM 1) (caM lenP (consM (varM 0) nilM)))) (asgS 2 (caM absP (consM (opM ixP (varM 0) (varM 1)) nilM))) (ifS (boolM (opM gtP (caM lenP (consM (varM 0) nilM)) (conM (.int 0)))) (asgS 2 (opM addP (varM 2) (opM mulP (opM modP (caM intP (consM (caM absP (consM (opM ixP (varM 0) (opM modP (caM intP (consM (varM 1) nilM)) (caM lenP (consM (varM 0) nilM)))) nilM)) nilM)) (conM (.int 2147483629))) (conM (.int 70009))))) nextS)) (retO (lstM (consM (opM ixP (listM (lstM (consM (conM (.int 0)) (consM (varM 2) nilM)))) (caM intP (consM (opM geP (varM 2) (opM powP (conM (.int 10)) (conM (.int 18)))) nilM))) (consM (opM addP (opM modP (caM intP (consM (opM addP (opM mulP (opM modP (caM intP (consM (varM 2) nilM)) (conM (.int 2147483629))) (conM (.int 44017))) (opM mulP (conM (.int 53089)) (varM 1))) nilM)) (conM (.int 2147483629))) (conM (.int 1))) (consM (conM (.int 0)) nilM)))))))
theorem ok__law_box {f : Addr} {fd : FuncData} (F : Fun K.K "_law_box" "_law_box" s__law_box f fd) (T : Txt K mg C B fI) :
    FnOk P w K.K mg base CX0 1 f fd ["script", "k"] (spN K 2 (denN 3 (den__law_box))) := by
  refine F.ok sc__law_box (fun vs H Q E h => by obtain ⟨_, _, ds, _, _, _, h2, h3, _⟩ := h; exact h2.length.trans h3) (fun cdv A outer s H vs Q E hr h => ?_)
  refine ⟨_, (pss_cons (ps_set (i := 2) sc__law_box.nd rfl (by first | exact Or.inl rfl | exact Or.inr rfl) (pe_op (op_addK K.K rfl) (pe_op (op_mulK K.K rfl) pe_int (pv 1)) pe_int)) (pss_cons (ps_if (pt_cmpR op_lt (pv 1) (pe_callB (call_lenK K.K rfl) (by rfl) T.b_len PySem.boot_len (pa_cons (pv 0) pa_nil)) (nomark _)) (pss_one (ps_set (i := 2) sc__law_box.nd rfl (by first | exact Or.inl rfl | exact Or.inr rfl) (pe_callB call_abs (by rfl) T.b_abs PyProof.Rows.boot_abs (pa_cons (pe_ix (ix_K K.K rfl) (pv 0) (pv 1) (fun _ _ => rfl)) pa_nil)))) (pss_one (ps_if (pt_cmpR op_gt (pe_callB (call_lenK K.K rfl) (by rfl) T.b_len PySem.boot_len (pa_cons (pv 0) pa_nil)) pe_int (nomark _)) (pss_one (ps_set (i := 2) sc__law_box.nd rfl (by first | exact Or.inl rfl | exact Or.inr rfl) (pe_op (op_addK K.K rfl) (pv 2) (pe_op (op_mulK K.K rfl) (pe_op op_mod (pe_callTy call_int1 (by rfl) T.b_int PyProof.Rows.boot_int (pa_cons (pe_callB call_abs (by rfl) T.b_abs PyProof.Rows.boot_abs (pa_cons (pe_ix (ix_K K.K rfl) (pv 0) (pe_op op_mod (pe_callTy call_int1 (by rfl) T.b_int PyProof.Rows.boot_int (pa_cons (pv 1) pa_nil)) (pe_callB (call_lenK K.K rfl) (by rfl) T.b_len PySem.boot_len (pa_cons (pv 0) pa_nil))) (fun _ _ => rfl)) pa_nil)) pa_nil)) pe_int) pe_int)))) pss_nil))) (pss_one (ps_ret (pe_lst (pa_cons (pe_ix (ix_K K.K rfl) (pe_lst (pa_cons pe_int (pa_cons (pv 2) pa_nil))) (pe_callTy call_int1 (by rfl) T.b_int PyProof.Rows.boot_int (pa_cons (pe_cmpR op_ge (pv 2) (pe_op op_pow pe_int pe_int) (nomark _)) pa_nil)) (fun _ _ => rfl)) (pa_cons (pe_op (op_addK K.K rfl) (pe_op op_mod (pe_callTy call_int1 (by rfl) T.b_int PyProof.Rows.boot_int (pa_cons (pe_op (op_addK K.K rfl) (pe_op (op_mulK K.K rfl) (pe_op op_mod (pe_callTy call_int1 (by rfl) T.b_int PyProof.Rows.boot_int (pa_cons (pv 2) pa_nil)) pe_int) pe_int) (pe_op (op_mulK K.K rfl) pe_int (pv 1))) pa_nil)) pe_int) pe_int) (pa_cons pe_int pa_nil)))))))), ?_⟩
  exact body_N (N := ["script", "k", "cell"]) (ec := ecOf C 3) (W := fun _ _ _ _ => False) (sd_seq (sd_asg (ed_op opd_add (ed_op opd_mul ed_int ed_var) ed_int)) (sd_seq (sd_if (et_test (ed_op opd_lt ed_var (ed_ca cad_len (ea_cons ed_var ea_nil)))) (sd_asg (ed_ca cad_abs (ea_cons (ed_op opd_ix ed_var ed_var) ea_nil))) (sd_if (et_test (ed_op opd_gt (ed_ca cad_len (ea_cons ed_var ea_nil)) ed_int)) (sd_asg (ed_op opd_add ed_var (ed_op opd_mul (ed_op opd_mod (ed_ca cad_int (ea_cons (ed_ca cad_abs (ea_cons (ed_op opd_ix ed_var (ed_op opd_mod (ed_ca cad_int (ea_cons ed_var ea_nil)) (ed_ca cad_len (ea_cons ed_var ea_nil)))) ea_nil)) ea_nil)) ed_int) ed_int))) sd_next)) (sd_retO (eo_lst (ea_cons (ed_op opd_ix (Eo.ed (eo_lst (ea_cons ed_int (ea_cons ed_var ea_nil)))) (ed_ca cad_int (ea_cons (ed_op opd_ge ed_var (ed_op opd_pow ed_int ed_int)) ea_nil))) (ea_cons (ed_op opd_add (ed_op opd_mod (ed_ca cad_int (ea_cons (ed_op opd_add (ed_op opd_mul (ed_op opd_mod (ed_ca cad_int (ea_cons ed_var ea_nil)) ed_int) ed_int) (ed_op opd_mul ed_int ed_var)) ea_nil)) ed_int) ed_int) (ea_cons ed_int ea_nil))))))) h
abbrev s__law_take : Stmt := top 24
theorem sc__law_take : FnScope ["box", "many", "digit", "raw"] ["box", "many"] (defScope s__law_take) := ⟨rfl, rfl, rfl, by decide +kernel, rfl, by decide +kernel, by decide +kernel⟩
def den__law_take : DS := (seqS (ifS (boolM (opM gtP (ixOM 0 (conM (.int 0))) (conM (.int 0)))) (seqS (asgS 2 (opM modP (caM intP (consM (ixOM 0 (conM (.int 0))) nilM)) (varM 1))) (seqS (setS 0 (conM (.int 0)) (opM divP (ixOM 0 (conM (.int 0))) (varM 1))) (retS (varM 2)))) nextS) (seqS (setS 0 (conM (.int 2)) (opM addP (ixOM 0 (conM (.int 2))) (conM (.int 1)))) (seqS (asgS 3 (opM modP (caM intP (consM (opM addP (opM mulP (opM addP (ixOM 0 (conM (.int 1))) (opM mulP (conM (.int 70001)) (ixOM 0 (conM (.int 2))))) (conM (.int 61211))) (conM (.int 37))) nilM)) (conM (.int 2147483563)))) (seqS (setS 0 (conM (.int 1)) (opM addP (opM modP (caM intP (consM (opM addP (opM mulP (varM 3) (conM (.int 38011))) (conM (.int 23057))) nilM)) (conM (.int 2147483629))) (conM (.int 1)))) (retS (opM modP (caM intP (consM (opM divP (opM addP (opM mulP (varM 3) (conM (.int 2147483647))) (ixOM 0 (conM (.int 1)))) (conM (.int 8191))) nilM)) (varM 1)))))))
theorem ok__law_take {f : Addr} {fd : FuncData} (F : Fun K.K "_law_take" "_law_take" s__law_take f fd) (T : Txt K mg C B fI) :
    FnOk P w K.K mg base CX0 1 f fd ["box", "many"] (spB K 1 (denB 4 (den__law_take))) := by
  refine F.ok sc__law_take (fun vs H Q E h => by obtain ⟨_, _, a, bs, bd, ws, ds, d, bd2, rfl, _, _, _, _, _, h2, h3, _⟩ := h; exact congrArg (· + 1) (h2.length.trans h3)) (fun cdv A outer s H vs Q E hr h => ?_)
  refine ⟨_, (pss_cons (ps_if (pt_cmpR op_gt (pe_ix (ix_K K.K rfl) (pv 0) pe_int (fun _ _ => rfl)) pe_int (nomark _)) (pss_cons (ps_set (i := 2) sc__law_take.nd rfl (by first | exact Or.inl rfl | exact Or.inr rfl) (pe_op op_mod (pe_callTy call_int1 (by rfl) T.b_int PyProof.Rows.boot_int (pa_cons (pe_ix (ix_K K.K rfl) (pv 0) pe_int (fun _ _ => rfl)) pa_nil)) (pv 1))) (pss_cons (ps_asg (pe_op op_fdivW (pe_ix (ix_K K.K rfl) (pv 0) pe_int (fun _ _ => rfl)) (pv 1)) (pg_sub (pv 0) pe_int set_list)) (pss_one (ps_ret (pv 2))))) pss_nil) (pss_cons (ps_asg (pe_op (op_addK K.K rfl) (pe_ix (ix_K K.K rfl) (pv 0) pe_int (fun _ _ => rfl)) pe_int) (pg_sub (pv 0) pe_int set_list)) (pss_cons (ps_set (i := 3) sc__law_take.nd rfl (by first | exact Or.inl rfl | exact Or.inr rfl) (pe_op op_mod (pe_callTy call_int1 (by rfl) T.b_int PyProof.Rows.boot_int (pa_cons (pe_op (op_addK K.K rfl) (pe_op (op_mulK K.K rfl) (pe_op (op_addK K.K rfl) (pe_ix (ix_K K.K rfl) (pv 0) pe_int (fun _ _ => rfl)) (pe_op (op_mulK K.K rfl) pe_int (pe_ix (ix_K K.K rfl) (pv 0) pe_int (fun _ _ => rfl)))) pe_int) pe_int) pa_nil)) pe_int)) (pss_cons (ps_asg (pe_op (op_addK K.K rfl) (pe_op op_mod (pe_callTy call_int1 (by rfl) T.b_int PyProof.Rows.boot_int (pa_cons (pe_op (op_addK K.K rfl) (pe_op (op_mulK K.K rfl) (pv 3) pe_int) pe_int) pa_nil)) pe_int) pe_int) (pg_sub (pv 0) pe_int set_list)) (pss_one (ps_ret (pe_op op_mod (pe_callTy call_int1 (by rfl) T.b_int PyProof.Rows.boot_int (pa_cons (pe_op op_fdivW (pe_op (op_addK K.K rfl) (pe_op (op_mulK K.K rfl) (pv 3) pe_int) (pe_ix (ix_K K.K rfl) (pv 0) pe_int (fun _ _ => rfl))) pe_int) pa_nil)) (pv 1)))))))), ?_⟩
  exact body_B (N := ["box", "many", "digit", "raw"]) (ec := ecOf C 3) (W := fun _ _ _ _ => False) (sd_seq (sd_if (et_test (ed_op opd_gt (ed_ixO ed_int) ed_int)) (sd_seq (sd_asg (ed_op opd_mod (ed_ca cad_int (ea_cons (ed_ixO ed_int) ea_nil)) ed_var)) (sd_seq (sd_set ed_int (ed_op opd_div (ed_ixO ed_int) ed_var)) (sd_ret ed_var))) sd_next) (sd_seq (sd_set ed_int (ed_op opd_add (ed_ixO ed_int) ed_int)) (sd_seq (sd_asg (ed_op opd_mod (ed_ca cad_int (ea_cons (ed_op opd_add (ed_op opd_mul (ed_op opd_add (ed_ixO ed_int) (ed_op opd_mul ed_int (ed_ixO ed_int))) ed_int) ed_int) ea_nil)) ed_int)) (sd_seq (sd_set ed_int (ed_op opd_add (ed_op opd_mod (ed_ca cad_int (ea_cons (ed_op opd_add (ed_op opd_mul ed_var ed_int) ed_int) ea_nil)) ed_int) ed_int)) (sd_ret (ed_op opd_mod (ed_ca cad_int (ea_cons (ed_op opd_div (ed_op opd_add (ed_op opd_mul ed_var ed_int) (ed_ixO ed_int)) ed_int) ea_nil)) ed_var)))))) h
abbrev s__law_pick : Stmt := top 25
theorem sc__law_pick : FnScope ["box", "some"] ["box", "some"] (defScope s__law_pick) := ⟨rfl, rfl, rfl, by decide +kernel, rfl, by decide +kernel, by decide +kernel⟩
def den__law_pick (fn__law_take : FnB) : DS := (retS (opM ixP (varM 1) (callB 1 0 fn__law_take (consM (caM lenP (consM (varM 1) nilM)) nilM))))
theorem ok__law_pick {fa__law_take : Addr} {fd__law_take : FuncData} {fn__law_take : FnB} {f : Addr} {fd : FuncData} (F : Fun K.K "_law_pick" "_law_pick" s__law_pick f fd) (T : Txt K mg C B fI)
    (D__law_take : Dfn P w K.K mg base CX0 1 "_law_take" ["box", "many"] (spB K 1 fn__law_take) fa__law_take fd__law_take) :
    FnOk P w K.K mg base CX0 2 f fd ["box", "some"] (spB K 1 (denB 2 (den__law_pick fn__law_take))) := by
  refine F.ok sc__law_pick (fun vs H Q E h => by obtain ⟨_, _, a, bs, bd, ws, ds, d, bd2, rfl, _, _, _, _, _, h2, h3, _⟩ := h; exact congrArg (· + 1) (h2.length.trans h3)) (fun cdv A outer s H vs Q E hr h => ?_)
  refine ⟨_, (pss_one (ps_ret (pe_ix (ix_K K.K rfl) (pv 1) (pe_d D__law_take (hr.mono (by decide)) (pa_cons (pv 0) (pa_cons (pe_callB (call_lenK K.K rfl) (by rfl) T.b_len PySem.boot_len (pa_cons (pv 1) pa_nil)) pa_nil))) (fun _ _ => rfl)))), ?_⟩
  exact body_B (N := ["box", "some"]) (ec := ecOf C 3) (W := fun _ _ _ _ => False) (sd_ret (ed_op opd_ix ed_var (ed_callB (ea_cons (ed_ca cad_len (ea_cons ed_var ea_nil)) ea_nil)))) h
abbrev s__law_thing : Stmt := top 26
theorem sc__law_thing : FnScope ["box"] ["box"] (defScope s__law_thing) := ⟨rfl, rfl, rfl, by decide +kernel, rfl, by decide +kernel, by decide +kernel⟩
def den__law_thing (fn__law_pick : FnB) : DS := (retS (callB 1 0 fn__law_pick (consM (listM (lstM (consM (conM (.int 0)) (consM (conM (.int 1)) (consM (conM (.int 7)) (consM (tupM (consM (conM (.int 1)) (consM (conM (.int 0)) nilM))) (consM (listM (lstM (consM (conM (.int 1)) (consM (conM (.int 0)) nilM)))) (consM (tupM (consM (conM (.int 2)) (consM (conM (.int 0)) nilM))) (consM (tupM nilM) nilM))))))))) nilM)))
theorem ok__law_thing {fa__law_pick : Addr} {fd__law_pick : FuncData} {fn__law_pick : FnB} {f : Addr} {fd : FuncData} (F : Fun K.K "_law_thing" "_law_thing" s__law_thing f fd) (T : Txt K mg C B fI)
    (D__law_pick : Dfn P w K.K mg base CX0 2 "_law_pick" ["box", "some"] (spB K 1 fn__law_pick) fa__law_pick fd__law_pick) :
    FnOk P w K.K mg base CX0 3 f fd ["box"] (spB K 0 (denB 1 (den__law_thing fn__law_pick))) := by
  refine F.ok sc__law_thing (fun vs H Q E h => by obtain ⟨_, _, a, bs, bd, ws, ds, d, bd2, rfl, _, _, _, _, _, h2, h3, _⟩ := h; exact congrArg (· + 1) (h2.length.trans h3)) (fun cdv A outer s H vs Q E hr h => ?_)
  refine ⟨_, (pss_one (ps_ret (pe_d D__law_pick (hr.mono (by decide)) (pa_cons (pv 0) (pa_cons (pe_lst (pa_cons pe_int (pa_cons pe_int (pa_cons pe_int (pa_cons (pe_tup (pa_cons pe_int (pa_cons pe_int pa_nil))) (pa_cons (pe_lst (pa_cons pe_int (pa_cons pe_int pa_nil))) (pa_cons (pe_tup (pa_cons pe_int (pa_cons pe_int pa_nil))) (pa_cons (pe_tup pa_nil) pa_nil)))))))) pa_nil))))), ?_⟩
  exact body_B (N := ["box"]) (ec := ecOf C 3) (W := fun _ _ _ _ => False) (sd_ret (ed_callB (ea_cons (Eo.ed (eo_lst (ea_cons ed_int (ea_cons ed_int (ea_cons ed_int (ea_cons (ed_tup (ea_cons ed_int (ea_cons ed_int ea_nil))) (ea_cons (Eo.ed (eo_lst (ea_cons ed_int (ea_cons ed_int ea_nil)))) (ea_cons (ed_tup (ea_cons ed_int (ea_cons ed_int ea_nil))) (ea_cons (ed_tup ea_nil) ea_nil))))))))) ea_nil))) h
abbrev s__law_due : Stmt := top 27
theorem sc__law_due : FnScope ["size", "lines", "sheet", "cell", "met", "line"] ["size", "lines"] (defScope s__law_due) := ⟨rfl, rfl, rfl, by decide +kernel, rfl, by decide +kernel, by decide +kernel⟩
def den__law_due : DS := (seqS (asgO 2 (lstM nilM)) (seqS (forS (rng1M (consM (opM mulP (varM 0) (varM 0)) nilM)) (nameG 3) (seqS (asgS 4 (listM (lcM (seqI (varM 1)) (nameG 5) (andB (boolM (opM inP (opM ixP (varM 5) (conM (.int 0))) (tupM (consM (conM .none) (consM (opM divP (varM 3) (varM 0)) nilM))))) (boolM (opM inP (opM ixP (varM 5) (conM (.int 1))) (tupM (consM (conM .none) (consM (opM modP (varM 3) (varM 0)) nilM)))))) (opM ixP (varM 5) (conM (.int 2))) [5]))) (seqS (ifS (boolM (opM eqS (varM 4) (listM (lstM nilM)))) (retS (tupM (consM (conM (.str "refused")) (consM (varM 3) nilM)))) nextS) (appS 2 (ifM (truB (isi1M "int" (opM ixP (varM 4) (unM negP (conM (.int 1)))))) (opM ixP (varM 4) (unM negP (conM (.int 1)))) (caM tupleP (consM (opM ixP (varM 4) (unM negP (conM (.int 1)))) nilM))))))) (retS (tupOM 2))))
theorem ok__law_due {f : Addr} {fd : FuncData} (F : Fun K.K "_law_due" "_law_due" s__law_due f fd) (T : Txt K mg C B fI) :
    FnOk P w K.K mg base CX0 1 f fd ["size", "lines"] (spQ K 2 (denQ 6 (den__law_due))) := by
  refine F.ok sc__law_due (fun vs H Q E h => by obtain ⟨_, _, ds, _, _, _, h2, h3, _⟩ := h; exact h2.length.trans h3) (fun cdv A outer s H vs Q E hr h => ?_)
  refine ⟨_, (pss_cons (ps_set (i := 2) sc__law_due.nd rfl (by first | exact Or.inl rfl | exact Or.inr rfl) (pe_lst pa_nil)) (pss_cons (ps_for PassesOwn.never rfl (pi_range1 rfl T.b_range (pa_cons (pe_op (op_mulK K.K rfl) (pv 0) (pv 0)) pa_nil)) (pg_name (i := 3) sc__law_due.nd rfl (by first | exact Or.inl rfl | exact Or.inr rfl)) (pss_cons (ps_setLc (i := 4) (own := [("line", 5)]) rfl sc__law_due.nd rfl rfl (sw_true rfl rfl rfl (by decide +kernel)) (pi_seqK K.K rfl (pv 1)) (blkOk_by (N := ["size", "lines", "sheet", "cell", "met", "line"]) (sc := defScope s__law_due) (by decide +kernel)) (fun _ _ _ _ _ => (pg_name (i := 5) sc__law_due.nd rfl (by first | exact Or.inl rfl | exact Or.inr rfl))) (fun _ _ _ _ _ => (pts_one (PW.pt (pw_and (pt_cmpR (op_inK K.K rfl (units65 hr)) (pe_ix (ix_K K.K rfl) (pv 5) pe_int (fun _ _ => rfl)) (pe_tup (pa_cons pe_non (pa_cons (pe_op op_fdivW (pv 3) (pv 0)) pa_nil))) (by rfl)) (pw_and1 (pt_cmpR (op_inK K.K rfl (units65 hr)) (pe_ix (ix_K K.K rfl) (pv 5) pe_int (fun _ _ => rfl)) (pe_tup (pa_cons pe_non (pa_cons (pe_op op_mod (pv 3) (pv 0)) pa_nil))) (by rfl))))))) (fun _ _ _ _ _ => (pe_ix (ix_K K.K rfl) (pv 5) pe_int (fun _ _ => rfl)))) (pss_cons (ps_if (pt_cmpR (op_eqK K.K rfl hr.units) (pv 4) (pe_lst pa_nil) (nomark _)) (pss_one (ps_ret (pe_tup (pa_cons pe_str (pa_cons (pv 3) pa_nil))))) pss_nil) (pss_one (ps_expr (pe_bm PySem.F.plainAttrs_list PySem.F.slot_list_append PySem.F.type_list_append mt_append (pv 2) (pa_cons (pe_ifExp (pt_truK K.K rfl (pe_callB (call_isi1K K.K rfl) (by rfl) T.b_isinstance PyProof.Rows.boot_isinstance (pa_cons (pe_ix (ix_K K.K rfl) (pv 4) (pe_un un_neg pe_int) (fun _ _ => rfl)) (pa_cons (pe_bltn (v := .ty "int") rfl T.b_int PyProof.Rows.boot_int rfl) pa_nil)))) (pe_ix (ix_K K.K rfl) (pv 4) (pe_un un_neg pe_int) (fun _ _ => rfl)) (pe_callTy (call_tupleK K.K rfl) (by rfl) T.b_tuple PyProof.Rows.boot_tuple (pa_cons (pe_ix (ix_K K.K rfl) (pv 4) (pe_un un_neg pe_int) (fun _ _ => rfl)) pa_nil))) pa_nil))))))) (pss_one (ps_ret (pe_callTy (call_tupleK K.K rfl) (by rfl) T.b_tuple PyProof.Rows.boot_tuple (pa_cons (pv 2) pa_nil)))))), ?_⟩
  exact body_Q (N := ["size", "lines", "sheet", "cell", "met", "line"]) (ec := ecOf C 3) (W := fun _ _ _ _ => False) (sd_seq (sd_asgO (eo_lst ea_nil)) (sd_seq (sd_for (id_rng1M (ea_cons (ed_op opd_mul ed_var ed_var) ea_nil)) gd_name (sd_seq (sd_asg (Eo.ed (eo_lc (id_seq ed_var) gd_name (by decide) (et_and (et_test (ed_op opd_in (ed_op opd_ix ed_var ed_int) (ed_tup (ea_cons ed_non (ea_cons (ed_op opd_div ed_var ed_var) ea_nil))))) (et_test (ed_op opd_in (ed_op opd_ix ed_var ed_int) (ed_tup (ea_cons ed_non (ea_cons (ed_op opd_mod ed_var ed_var) ea_nil)))))) (ed_op opd_ix ed_var ed_int)))) (sd_seq (sd_if (et_test (ed_op opd_eqS ed_var (Eo.ed (eo_lst ea_nil)))) (sd_ret (ed_tup (ea_cons ed_str (ea_cons ed_var ea_nil)))) sd_next) (sd_app (ed_if (et_tru (ed_isi1 (ed_op opd_ix ed_var (ed_un und_neg ed_int)))) (ed_op opd_ix ed_var (ed_un und_neg ed_int)) (ed_ca cad_tuple (ea_cons (ed_op opd_ix ed_var (ed_un und_neg ed_int)) ea_nil))))))) (sd_ret ed_tupO))) h
abbrev s_is_integer : Stmt := top 7
theorem sc_is_integer : FnScope ["value"] ["value"] (defScope s_is_integer) := ⟨rfl, rfl, rfl, by decide +kernel, rfl, by decide +kernel, by decide +kernel⟩
def den_is_integer : DS := (retS (andV (isi1M "int" (varM 0)) (notV (isi1M "bool" (varM 0)))))
theorem ok_is_integer {f : Addr} {fd : FuncData} (F : Fun K.K "is_integer" "is_integer" s_is_integer f fd) (T : Txt K mg C B fI) :
    FnOk P w K.K mg base CX0 1 f fd ["value"] (spQ K 1 (denQ 1 (den_is_integer))) := by
  refine F.ok sc_is_integer (fun vs H Q E h => by obtain ⟨_, _, ds, _, _, _, h2, h3, _⟩ := h; exact h2.length.trans h3) (fun cdv A outer s H vs Q E hr h => ?_)
  refine ⟨_, (pss_one (ps_ret (pe_and (pe_callB (call_isi1K K.K rfl) (by rfl) T.b_isinstance PyProof.Rows.boot_isinstance (pa_cons (pv 0) (pa_cons (pe_bltn (v := .ty "int") rfl T.b_int PyProof.Rows.boot_int rfl) pa_nil))) (pe_one (pe_not (pe_callB (call_isi1K K.K rfl) (by rfl) T.b_isinstance PyProof.Rows.boot_isinstance (pa_cons (pv 0) (pa_cons (pe_bltn (v := .ty "bool") rfl T.b_bool PyProof.Rows.boot_bool rfl) pa_nil)))))))), ?_⟩
  exact body_Q (N := ["value"]) (ec := ecOf C 3) (W := fun _ _ _ _ => False) (sd_ret (ed_and (ed_isi1 ed_var) (ed_not (ed_isi1 ed_var)))) h
abbrev s_is_number : Stmt := top 8
theorem sc_is_number : FnScope ["value"] ["value"] (defScope s_is_number) := ⟨rfl, rfl, rfl, by decide +kernel, rfl, by decide +kernel, by decide +kernel⟩
def den_is_number (fn_is_integer : FnQ) : DS := (retS (andV (callM 1 fn_is_integer (consM (varM 0) nilM)) (opM geP (varM 0) (conM (.int 0)))))
theorem ok_is_number {fa_is_integer : Addr} {fd_is_integer : FuncData} {fn_is_integer : FnQ} {f : Addr} {fd : FuncData} (F : Fun K.K "is_number" "is_number" s_is_number f fd) (T : Txt K mg C B fI)
    (D_is_integer : Dfn P w K.K mg base CX0 1 "is_integer" ["value"] (spQ K 1 fn_is_integer) fa_is_integer fd_is_integer) :
    FnOk P w K.K mg base CX0 2 f fd ["value"] (spQ K 1 (denQ 1 (den_is_number fn_is_integer))) := by
  refine F.ok sc_is_number (fun vs H Q E h => by obtain ⟨_, _, ds, _, _, _, h2, h3, _⟩ := h; exact h2.length.trans h3) (fun cdv A outer s H vs Q E hr h => ?_)
  refine ⟨_, (pss_one (ps_ret (pe_and (pe_d D_is_integer (hr.mono (by decide)) (pa_cons (pv 0) pa_nil)) (pe_one (pe_cmpR op_ge (pv 0) pe_int (nomark _)))))), ?_⟩
  exact body_Q (N := ["value"]) (ec := ecOf C 3) (W := fun _ _ _ _ => False) (sd_ret (ed_and (ed_call (ea_cons ed_var ea_nil)) (ed_op opd_ge ed_var ed_int))) h
abbrev s_is_below : Stmt := top 9
theorem sc_is_below : FnScope ["value", "many"] ["value", "many"] (defScope s_is_below) := ⟨rfl, rfl, rfl, by decide +kernel, rfl, by decide +kernel, by decide +kernel⟩
def den_is_below (fn_is_integer : FnQ) : DS := (retS (andV (callM 1 fn_is_integer (consM (varM 0) nilM)) (chainM leP ltP (conM (.int 0)) (varM 0) (varM 1))))
theorem ok_is_below {fa_is_integer : Addr} {fd_is_integer : FuncData} {fn_is_integer : FnQ} {f : Addr} {fd : FuncData} (F : Fun K.K "is_below" "is_below" s_is_below f fd) (T : Txt K mg C B fI)
    (D_is_integer : Dfn P w K.K mg base CX0 1 "is_integer" ["value"] (spQ K 1 fn_is_integer) fa_is_integer fd_is_integer) :
    FnOk P w K.K mg base CX0 2 f fd ["value", "many"] (spQ K 2 (denQ 2 (den_is_below fn_is_integer))) := by
  refine F.ok sc_is_below (fun vs H Q E h => by obtain ⟨_, _, ds, _, _, _, h2, h3, _⟩ := h; exact h2.length.trans h3) (fun cdv A outer s H vs Q E hr h => ?_)
  refine ⟨_, (pss_one (ps_ret (pe_and (pe_d D_is_integer (hr.mono (by decide)) (pa_cons (pv 0) pa_nil)) (pe_one (pe_chain op_le op_lt pe_int (pv 0) (pv 1)))))), ?_⟩
  exact body_Q (N := ["value", "many"]) (ec := ecOf C 3) (W := fun _ _ _ _ => False) (sd_ret (ed_and (ed_call (ea_cons ed_var ea_nil)) (ed_chain opd_le opd_lt ed_int ed_var ed_var))) h
abbrev s_is_sequence : Stmt := top 10
theorem sc_is_sequence : FnScope ["value"] ["value"] (defScope s_is_sequence) := ⟨rfl, rfl, rfl, by decide +kernel, rfl, by decide +kernel, by decide +kernel⟩
def den_is_sequence : DS := (retS (isi2M "list" "tuple" (varM 0)))
theorem ok_is_sequence {f : Addr} {fd : FuncData} (F : Fun K.K "is_sequence" "is_sequence" s_is_sequence f fd) (T : Txt K mg C B fI) :
    FnOk P w K.K mg base CX0 1 f fd ["value"] (spQ K 1 (denQ 1 (den_is_sequence))) := by
  refine F.ok sc_is_sequence (fun vs H Q E h => by obtain ⟨_, _, ds, _, _, _, h2, h3, _⟩ := h; exact h2.length.trans h3) (fun cdv A outer s H vs Q E hr h => ?_)
  refine ⟨_, (pss_one (ps_ret (pe_callB (call_isi2K K.K rfl) (by rfl) T.b_isinstance PyProof.Rows.boot_isinstance (pa_cons (pv 0) (pa_cons (pe_tup (pa_cons (pe_bltn (v := .ty "list") rfl T.b_list PyProof.Rows.boot_list rfl) (pa_cons (pe_bltn (v := .ty "tuple") rfl T.b_tuple PyProof.Rows.boot_tuple rfl) pa_nil))) pa_nil))))), ?_⟩
  exact body_Q (N := ["value"]) (ec := ecOf C 3) (W := fun _ _ _ _ => False) (sd_ret (ed_isi2 ed_var)) h
abbrev s_is_size : Stmt := top 11
theorem sc_is_size : FnScope ["value"] ["value"] (defScope s_is_size) := ⟨rfl, rfl, rfl, by decide +kernel, rfl, by decide +kernel, by decide +kernel⟩
def den_is_size (fn_is_integer : FnQ) : DS := (retS (andV (callM 1 fn_is_integer (consM (varM 0) nilM)) (opM inP (varM 0) (tupM (consM (conM (.int 2)) (consM (conM (.int 3)) nilM))))))
theorem ok_is_size {fa_is_integer : Addr} {fd_is_integer : FuncData} {fn_is_integer : FnQ} {f : Addr} {fd : FuncData} (F : Fun K.K "is_size" "is_size" s_is_size f fd) (T : Txt K mg C B fI)
    (D_is_integer : Dfn P w K.K mg base CX0 1 "is_integer" ["value"] (spQ K 1 fn_is_integer) fa_is_integer fd_is_integer) :
    FnOk P w K.K mg base CX0 2 f fd ["value"] (spQ K 1 (denQ 1 (den_is_size fn_is_integer))) := by
  refine F.ok sc_is_size (fun vs H Q E h => by obtain ⟨_, _, ds, _, _, _, h2, h3, _⟩ := h; exact h2.length.trans h3) (fun cdv A outer s H vs Q E hr h => ?_)
  refine ⟨_, (pss_one (ps_ret (pe_and (pe_d D_is_integer (hr.mono (by decide)) (pa_cons (pv 0) pa_nil)) (pe_one (pe_cmpR (op_inK K.K rfl (units65 hr)) (pv 0) (pe_tup (pa_cons pe_int (pa_cons pe_int pa_nil))) (by rfl)))))), ?_⟩
  exact body_Q (N := ["value"]) (ec := ecOf C 3) (W := fun _ _ _ _ => False) (sd_ret (ed_and (ed_call (ea_cons ed_var ea_nil)) (ed_op opd_in ed_var (ed_tup (ea_cons ed_int (ea_cons ed_int ea_nil)))))) h
abbrev s_told_thing : Stmt := top 20
theorem sc_told_thing : FnScope ["thing"] ["thing"] (defScope s_told_thing) := ⟨rfl, rfl, rfl, by decide +kernel, rfl, by decide +kernel, by decide +kernel⟩
def den_told_thing (fn_is_sequence : FnQ) : DS := (retS (ifM (truB (callM 1 fn_is_sequence (consM (varM 0) nilM))) (caM tupleP (consM (varM 0) nilM)) (varM 0)))
theorem ok_told_thing {fa_is_sequence : Addr} {fd_is_sequence : FuncData} {fn_is_sequence : FnQ} {f : Addr} {fd : FuncData} (F : Fun K.K "told_thing" "told_thing" s_told_thing f fd) (T : Txt K mg C B fI)
    (D_is_sequence : Dfn P w K.K mg base CX0 1 "is_sequence" ["value"] (spQ K 1 fn_is_sequence) fa_is_sequence fd_is_sequence) :
    FnOk P w K.K mg base CX0 2 f fd ["thing"] (spQ K 1 (denQ 1 (den_told_thing fn_is_sequence))) := by
  refine F.ok sc_told_thing (fun vs H Q E h => by obtain ⟨_, _, ds, _, _, _, h2, h3, _⟩ := h; exact h2.length.trans h3) (fun cdv A outer s H vs Q E hr h => ?_)
  refine ⟨_, (pss_one (ps_ret (pe_ifExp (pt_truK K.K rfl (pe_d D_is_sequence (hr.mono (by decide)) (pa_cons (pv 0) pa_nil))) (pe_callTy (call_tupleK K.K rfl) (by rfl) T.b_tuple PyProof.Rows.boot_tuple (pa_cons (pv 0) pa_nil)) (pv 0)))), ?_⟩
  exact body_Q (N := ["thing"]) (ec := ecOf C 3) (W := fun _ _ _ _ => False) (sd_ret (ed_if (et_tru (ed_call (ea_cons ed_var ea_nil))) (ed_ca cad_tuple (ea_cons ed_var ea_nil)) ed_var)) h
abbrev s_is_place : Stmt := top 18
theorem sc_is_place : FnScope ["size", "value"] ["size", "value"] (defScope s_is_place) := ⟨rfl, rfl, rfl, by decide +kernel, rfl, by decide +kernel, by decide +kernel⟩
def den_is_place (fn_is_below : FnQ) : DS := (retS (orV (opM isP (varM 1) (conM .none)) (callM 2 fn_is_below (consM (varM 1) (consM (varM 0) nilM)))))
theorem ok_is_place {fa_is_below : Addr} {fd_is_below : FuncData} {fn_is_below : FnQ} {f : Addr} {fd : FuncData} (F : Fun K.K "is_place" "is_place" s_is_place f fd) (T : Txt K mg C B fI)
    (D_is_below : Dfn P w K.K mg base CX0 2 "is_below" ["value", "many"] (spQ K 2 fn_is_below) fa_is_below fd_is_below) :
    FnOk P w K.K mg base CX0 3 f fd ["size", "value"] (spQ K 2 (denQ 2 (den_is_place fn_is_below))) := by
  refine F.ok sc_is_place (fun vs H Q E h => by obtain ⟨_, _, ds, _, _, _, h2, h3, _⟩ := h; exact h2.length.trans h3) (fun cdv A outer s H vs Q E hr h => ?_)
  refine ⟨_, (pss_one (ps_ret (pe_or (pe_cmpR op_isN (pv 1) pe_non (nomark _)) (pe_one (pe_d D_is_below (hr.mono (by decide)) (pa_cons (pv 1) (pa_cons (pv 0) pa_nil))))))), ?_⟩
  exact body_Q (N := ["size", "value"]) (ec := ecOf C 3) (W := fun _ _ _ _ => False) (sd_ret (ed_or (ed_op opd_is ed_var ed_non) (ed_call (ea_cons ed_var (ea_cons ed_var ea_nil))))) h
abbrev s_is_thing : Stmt := top 19
theorem sc_is_thing : FnScope ["value", "part"] ["value"] (defScope s_is_thing) := ⟨rfl, rfl, rfl, by decide +kernel, rfl, by decide +kernel, by decide +kernel⟩
def den_is_thing (fn_is_number : FnQ) (fn_is_sequence : FnQ) : DS := (retS (orV (callM 1 fn_is_number (consM (varM 0) nilM)) (andV (callM 1 fn_is_sequence (consM (varM 0) nilM)) (caM allP (consM (listM (lcM (seqI (varM 0)) (nameG 1) yesB (callM 1 fn_is_number (consM (varM 1) nilM)) [1])) nilM)))))
theorem ok_is_thing {fa_is_number : Addr} {fd_is_number : FuncData} {fa_is_sequence : Addr} {fd_is_sequence : FuncData} {fn_is_number : FnQ} {fn_is_sequence : FnQ} {f : Addr} {fd : FuncData} (F : Fun K.K "is_thing" "is_thing" s_is_thing f fd) (T : Txt K mg C B fI)
    (D_is_number : Dfn P w K.K mg base CX0 2 "is_number" ["value"] (spQ K 1 fn_is_number) fa_is_number fd_is_number)
    (D_is_sequence : Dfn P w K.K mg base CX0 1 "is_sequence" ["value"] (spQ K 1 fn_is_sequence) fa_is_sequence fd_is_sequence) :
    FnOk P w K.K mg base CX0 3 f fd ["value"] (spQ K 1 (denQ 2 (den_is_thing fn_is_number fn_is_sequence))) := by
  refine F.ok sc_is_thing (fun vs H Q E h => by obtain ⟨_, _, ds, _, _, _, h2, h3, _⟩ := h; exact h2.length.trans h3) (fun cdv A outer s H vs Q E hr h => ?_)
  refine ⟨_, (pss_one (ps_ret (pe_or (pe_d D_is_number (hr.mono (by decide)) (pa_cons (pv 0) pa_nil)) (pe_one (pe_and (pe_d D_is_sequence (hr.mono (by decide)) (pa_cons (pv 0) pa_nil)) (pe_one (pe_callB (cr_allK K.K rfl rfl) (by rfl) T.b_all PyProof.Rows.boot_all (pa_cons (pe_lc (own := [("part", 1)]) rfl sc_is_thing.nd (pi_seqK K.K rfl (pv 0)) (blkOk_by (N := ["value", "part"]) (sc := defScope s_is_thing) (by decide +kernel)) (fun _ _ _ _ _ => (pg_name (i := 1) sc_is_thing.nd rfl (by first | exact Or.inl rfl | exact Or.inr rfl))) (fun _ _ _ _ _ => pts_nil) (fun _ _ _ _ _ => (pe_d D_is_number (hr.mono (by decide)) (pa_cons (pv 1) pa_nil)))) pa_nil)))))))), ?_⟩
  exact body_Q (N := ["value", "part"]) (ec := ecOf C 3) (W := fun _ _ _ _ => False) (sd_ret (ed_or (ed_call (ea_cons ed_var ea_nil)) (ed_and (ed_call (ea_cons ed_var ea_nil)) (ed_ca cad_all (ea_cons (Eo.ed (eo_lc (id_seq ed_var) gd_name (by decide) et_yes (ed_call (ea_cons ed_var ea_nil)))) ea_nil))))) h
abbrev s_is_line : Stmt := top 17
theorem sc_is_line : FnScope ["size", "line"] ["size", "line"] (defScope s_is_line) := ⟨rfl, rfl, rfl, by decide +kernel, rfl, by decide +kernel, by decide +kernel⟩
def den_is_line (fn_is_place : FnQ) (fn_is_thing : FnQ) (fn_is_sequence : FnQ) : DS := (seqS (ifS (orB (notB (truB (callM 1 fn_is_sequence (consM (varM 1) nilM)))) (boolM (opM neS (caM lenP (consM (varM 1) nilM)) (conM (.int 3))))) (retS (conM (.bool false))) nextS) (retS (andV (callM 2 fn_is_place (consM (varM 0) (consM (opM ixP (varM 1) (conM (.int 0))) nilM))) (andV (callM 2 fn_is_place (consM (varM 0) (consM (opM ixP (varM 1) (conM (.int 1))) nilM))) (callM 1 fn_is_thing (consM (opM ixP (varM 1) (conM (.int 2))) nilM))))))
theorem ok_is_line {fa_is_place : Addr} {fd_is_place : FuncData} {fa_is_thing : Addr} {fd_is_thing : FuncData} {fa_is_sequence : Addr} {fd_is_sequence : FuncData} {fn_is_place : FnQ} {fn_is_thing : FnQ} {fn_is_sequence : FnQ} {f : Addr} {fd : FuncData} (F : Fun K.K "is_line" "is_line" s_is_line f fd) (T : Txt K mg C B fI)
    (D_is_place : Dfn P w K.K mg base CX0 3 "is_place" ["size", "value"] (spQ K 2 fn_is_place) fa_is_place fd_is_place)
    (D_is_thing : Dfn P w K.K mg base CX0 3 "is_thing" ["value"] (spQ K 1 fn_is_thing) fa_is_thing fd_is_thing)
    (D_is_sequence : Dfn P w K.K mg base CX0 1 "is_sequence" ["value"] (spQ K 1 fn_is_sequence) fa_is_sequence fd_is_sequence) :
    FnOk P w K.K mg base CX0 4 f fd ["size", "line"] (spQ K 2 (denQ 2 (den_is_line fn_is_place fn_is_thing fn_is_sequence))) := by
  refine F.ok sc_is_line (fun vs H Q E h => by obtain ⟨_, _, ds, _, _, _, h2, h3, _⟩ := h; exact h2.length.trans h3) (fun cdv A outer s H vs Q E hr h => ?_)
  refine ⟨_, (pss_cons (ps_if (PW.pt (pw_or (pt_not (pt_truK K.K rfl (pe_d D_is_sequence (hr.mono (by decide)) (pa_cons (pv 1) pa_nil)))) (pw_or1 (pt_cmpR (op_neK K.K rfl hr.units) (pe_callB (call_lenK K.K rfl) (by rfl) T.b_len PySem.boot_len (pa_cons (pv 1) pa_nil)) pe_int (nomark _))))) (pss_one (ps_ret pe_bl)) pss_nil) (pss_one (ps_ret (pe_and (pe_d D_is_place (hr.mono (by decide)) (pa_cons (pv 0) (pa_cons (pe_ix (ix_K K.K rfl) (pv 1) pe_int (fun _ _ => rfl)) pa_nil))) (pe_and (pe_d D_is_place (hr.mono (by decide)) (pa_cons (pv 0) (pa_cons (pe_ix (ix_K K.K rfl) (pv 1) pe_int (fun _ _ => rfl)) pa_nil))) (pe_one (pe_d D_is_thing (hr.mono (by decide)) (pa_cons (pe_ix (ix_K K.K rfl) (pv 1) pe_int (fun _ _ => rfl)) pa_nil)))))))), ?_⟩
  exact body_Q (N := ["size", "line"]) (ec := ecOf C 3) (W := fun _ _ _ _ => False) (sd_seq (sd_if (et_or (et_not (et_tru (ed_call (ea_cons ed_var ea_nil)))) (et_test (ed_op opd_neS (ed_ca cad_len (ea_cons ed_var ea_nil)) ed_int))) (sd_ret ed_bl) sd_next) (sd_ret (ed_and (ed_call (ea_cons ed_var (ea_cons (ed_op opd_ix ed_var ed_int) ea_nil))) (ed_and (ed_call (ea_cons ed_var (ea_cons (ed_op opd_ix ed_var ed_int) ea_nil))) (ed_call (ea_cons (ed_op opd_ix ed_var ed_int) ea_nil)))))) h
abbrev s_met_cells : Stmt := top 21
theorem sc_met_cells : FnScope ["size", "one", "other", "first", "second"] ["size", "one", "other"] (defScope s_met_cells) := ⟨rfl, rfl, rfl, by decide +kernel, rfl, by decide +kernel, by decide +kernel⟩
def den_met_cells : DS := (retS (listM (lc2M (rng1M (consM (varM 0) nilM)) (nameG 3) yesB (rng1M (consM (varM 0) nilM)) (nameG 4) (andB (boolM (opM inP (varM 1) (tupM (consM (conM .none) (consM (varM 3) nilM))))) (boolM (opM inP (varM 2) (tupM (consM (conM .none) (consM (varM 4) nilM)))))) (opM addP (opM mulP (varM 3) (varM 0)) (varM 4)) [3, 4] [4])))
theorem ok_met_cells {f : Addr} {fd : FuncData} (F : Fun K.K "met_cells" "met_cells" s_met_cells f fd) (T : Txt K mg C B fI) :
    FnOk P w K.K mg base CX0 1 f fd ["size", "one", "other"] (spQ K 3 (denQ 5 (den_met_cells))) := by
  refine F.ok sc_met_cells (fun vs H Q E h => by obtain ⟨_, _, ds, _, _, _, h2, h3, _⟩ := h; exact h2.length.trans h3) (fun cdv A outer s H vs Q E hr h => ?_)
  refine ⟨_, (pss_one (ps_ret (pe_lc2 (own := [("first", 3), ("second", 4)]) (vs1 := [4]) rfl sc_met_cells.nd (pi_range1 rfl T.b_range (pa_cons (pv 0) pa_nil)) (blkOk_by (N := ["size", "one", "other", "first", "second"]) (sc := defScope s_met_cells) (by decide +kernel)) (by decide) (fun _ _ _ _ _ => (pg_name (i := 3) sc_met_cells.nd rfl (by first | exact Or.inl rfl | exact Or.inr rfl))) (fun _ _ _ _ _ => pts_nil) (fun _ _ _ _ _ => (pi_range1 rfl T.b_range (pa_cons (pv 0) pa_nil))) (fun _ _ _ _ _ => (pg_name (i := 4) sc_met_cells.nd rfl (by first | exact Or.inl rfl | exact Or.inr rfl))) (fun _ _ _ _ _ => (pts_one (PW.pt (pw_and (pt_cmpR (op_inK K.K rfl (units65 hr)) (pv 1) (pe_tup (pa_cons pe_non (pa_cons (pv 3) pa_nil))) (by rfl)) (pw_and1 (pt_cmpR (op_inK K.K rfl (units65 hr)) (pv 2) (pe_tup (pa_cons pe_non (pa_cons (pv 4) pa_nil))) (by rfl))))))) (fun _ _ _ _ _ => (pe_op (op_addK K.K rfl) (pe_op (op_mulK K.K rfl) (pv 3) (pv 0)) (pv 4)))))), ?_⟩
  exact body_Q (N := ["size", "one", "other", "first", "second"]) (ec := ecOf C 3) (W := fun _ _ _ _ => False) (sd_ret (Eo.ed (eo_lc2 (id_rng1M (ea_cons ed_var ea_nil)) gd_name (by decide) et_yes (id_rng1M (ea_cons ed_var ea_nil)) gd_name (by decide) (by decide) (et_and (et_test (ed_op opd_in ed_var (ed_tup (ea_cons ed_non (ea_cons ed_var ea_nil))))) (et_test (ed_op opd_in ed_var (ed_tup (ea_cons ed_non (ea_cons ed_var ea_nil)))))) (ed_op opd_add (ed_op opd_mul ed_var ed_var) ed_var)))) h
abbrev s_need_size : Stmt := top 13
theorem sc_need_size : FnScope ["value"] ["value"] (defScope s_need_size) := ⟨rfl, rfl, rfl, by decide +kernel, rfl, by decide +kernel, by decide +kernel⟩
def den_need_size (fn_is_size : FnQ) : DS := (seqS (ifS (notB (truB (callM 1 fn_is_size (consM (varM 0) nilM)))) (raiseS 3 (conM (.str "size"))) nextS) (retS (varM 0)))
theorem ok_need_size {fa_is_size : Addr} {fd_is_size : FuncData} {fn_is_size : FnQ} {f : Addr} {fd : FuncData} (F : Fun K.K "need_size" "need_size" s_need_size f fd) (T : Txt K mg C B fI)
    (D_is_size : Dfn P w K.K mg base CX0 2 "is_size" ["value"] (spQ K 1 fn_is_size) fa_is_size fd_is_size) :
    FnOk P w K.K mg base (L2.CX P w) 4 f fd ["value"] (spE K (ecOf C 3) 1 (denE 1 (den_need_size fn_is_size))) := by
  refine F.okX sc_need_size (fun vs H Q E h => by obtain ⟨_, _, ds, _, _, _, h2, h3, _⟩ := h; exact h2.length.trans h3) (fun cdv A outer s H vs Q E hr h => ?_)
  have tk := takes_of (X := cxOf (L2.CX P w) P w K.K mg base ["value"] "need_size" (defScope s_need_size) f cdv A outer s H E) (E := E) rfl rfl rfl rfl
  refine ⟨_, (pss_cons (ps_if (pt_not (pt_truK K.K rfl (pe_d D_is_size (hr.mono (by decide)) (pa_cons (pv 0) pa_nil)))) (pss_one (ps_raise_W rfl T.x_InvalidSize hr tk (pa_cons pe_str pa_nil) rfl (by decide))) pss_nil) (pss_one (ps_ret (pv 0)))), ?_⟩
  exact body_E (N := ["value"]) (ec := ecOf C 3) (sd_seq (sd_if (et_not (et_tru (ed_call (ea_cons ed_var ea_nil)))) (sd_raiseW (c := 3) rfl ed_str) sd_next) (sd_ret ed_var)) h
abbrev s_need_table : Stmt := top 14
theorem sc_need_table : FnScope ["size", "value", "at", "answer"] ["size", "value"] (defScope s_need_table) := ⟨rfl, rfl, rfl, by decide +kernel, rfl, by decide +kernel, by decide +kernel⟩
def den_need_table (fn_need_size : FnE) (fn_is_sequence : FnQ) (fn_is_below : FnQ) : DS := (seqS (dropS (callE 1 fn_need_size (consM (varM 0) nilM))) (seqS (ifS (orB (notB (truB (callM 1 fn_is_sequence (consM (varM 1) nilM)))) (boolM (opM neS (caM lenP (consM (varM 1) nilM)) (opM mulP (varM 0) (varM 0))))) (raiseS 0 (unM negP (conM (.int 1)))) nextS) (seqS (forS (enumSI (consM (varM 1) nilM)) (seqG (consG (nameG 2) (consG (nameG 3) nilG))) (ifS (notB (truB (callM 2 fn_is_below (consM (varM 3) (consM (varM 0) nilM))))) (raiseS 0 (varM 2)) nextS)) (retS (caM tupleP (consM (varM 1) nilM))))))
theorem ok_need_table {fa_need_size : Addr} {fd_need_size : FuncData} {fa_is_sequence : Addr} {fd_is_sequence : FuncData} {fa_is_below : Addr} {fd_is_below : FuncData} {fn_need_size : FnE} {fn_is_sequence : FnQ} {fn_is_below : FnQ} {f : Addr} {fd : FuncData} (F : Fun K.K "need_table" "need_table" s_need_table f fd) (T : Txt K mg C B fI)
    (D_need_size : Dfn P w K.K mg base (L2.CX P w) 4 "need_size" ["value"] (spE K (ecOf C 3) 1 fn_need_size) fa_need_size fd_need_size)
    (D_is_sequence : Dfn P w K.K mg base CX0 1 "is_sequence" ["value"] (spQ K 1 fn_is_sequence) fa_is_sequence fd_is_sequence)
    (D_is_below : Dfn P w K.K mg base CX0 2 "is_below" ["value", "many"] (spQ K 2 fn_is_below) fa_is_below fd_is_below) :
    FnOk P w K.K mg base (L2.CX P w) 6 f fd ["size", "value"] (spE K (ecOf C 3) 2 (denE 4 (den_need_table fn_need_size fn_is_sequence fn_is_below))) := by
  refine F.okX sc_need_table (fun vs H Q E h => by obtain ⟨_, _, ds, _, _, _, h2, h3, _⟩ := h; exact h2.length.trans h3) (fun cdv A outer s H vs Q E hr h => ?_)
  have tk := takes_of (X := cxOf (L2.CX P w) P w K.K mg base ["size", "value", "at", "answer"] "need_table" (defScope s_need_table) f cdv A outer s H E) (E := E) rfl rfl rfl rfl
  refine ⟨_, (pss_cons (ps_expr (pe_dS D_need_size (hr.mono (by decide)) tk (pa_cons (pv 0) pa_nil))) (pss_cons (ps_if (PW.pt (pw_or (pt_not (pt_truK K.K rfl (pe_d D_is_sequence (hr.mono (by decide)) (pa_cons (pv 1) pa_nil)))) (pw_or1 (pt_cmpR (op_neK K.K rfl hr.units) (pe_callB (call_lenK K.K rfl) (by rfl) T.b_len PySem.boot_len (pa_cons (pv 1) pa_nil)) (pe_op (op_mulK K.K rfl) (pv 0) (pv 0)) (nomark _))))) (pss_one (ps_raise_A rfl T.x_InvalidTable hr tk (pa_cons (pe_un un_neg pe_int) pa_nil) rfl (by decide))) pss_nil) (pss_cons (ps_for PassesOwn.leaving rfl (pi_enumK K.K rfl rfl T.b_enumerate (pa_cons (pv 1) pa_nil)) (pg_or (pg_tupK K.K rfl rfl (pgs_cons (pg_name (i := 2) sc_need_table.nd rfl (by first | exact Or.inl rfl | exact Or.inr rfl)) (pgs_cons (pg_name (i := 3) sc_need_table.nd rfl (by first | exact Or.inl rfl | exact Or.inr rfl)) pgs_nil))) (pg_unlK K.K rfl rfl (pgs_cons (pg_name (i := 2) sc_need_table.nd rfl (by first | exact Or.inl rfl | exact Or.inr rfl)) (pgs_cons (pg_name (i := 3) sc_need_table.nd rfl (by first | exact Or.inl rfl | exact Or.inr rfl)) pgs_nil)))) (pss_one (ps_if (pt_not (pt_truK K.K rfl (pe_d D_is_below (hr.mono (by decide)) (pa_cons (pv 3) (pa_cons (pv 0) pa_nil))))) (pss_one (ps_raise_A rfl T.x_InvalidTable hr tk (pa_cons (pv 2) pa_nil) rfl (by decide))) pss_nil))) (pss_one (ps_ret (pe_callTy (call_tupleK K.K rfl) (by rfl) T.b_tuple PyProof.Rows.boot_tuple (pa_cons (pv 1) pa_nil))))))), ?_⟩
  exact body_E (N := ["size", "value", "at", "answer"]) (ec := ecOf C 3) (sd_seq (sd_drop (ed_callE (ea_cons ed_var ea_nil))) (sd_seq (sd_if (et_or (et_not (et_tru (ed_call (ea_cons ed_var ea_nil)))) (et_test (ed_op opd_neS (ed_ca cad_len (ea_cons ed_var ea_nil)) (ed_op opd_mul ed_var ed_var)))) (sd_raiseA (c := 0) rfl (ed_un und_neg ed_int)) sd_next) (sd_seq (sd_for (id_enumS (ea_cons ed_var ea_nil)) (gd_seq (gds_cons gd_name (gds_cons gd_name gds_nil)) (.cons (.cons .nil))) (sd_if (et_not (et_tru (ed_call (ea_cons ed_var (ea_cons ed_var ea_nil))))) (sd_raiseA (c := 0) rfl ed_var) sd_next)) (sd_ret (ed_ca cad_tuple (ea_cons ed_var ea_nil)))))) h
abbrev s_need_lines : Stmt := top 16
theorem sc_need_lines : FnScope ["size", "lines", "at", "line"] ["size", "lines"] (defScope s_need_lines) := ⟨rfl, rfl, rfl, by decide +kernel, rfl, by decide +kernel, by decide +kernel⟩
def den_need_lines (fn_is_sequence : FnQ) (fn_is_line : FnQ) : DS := (seqS (ifS (notB (truB (callM 1 fn_is_sequence (consM (varM 1) nilM)))) (raiseS 1 (unM negP (conM (.int 1)))) nextS) (forS (enumSI (consM (varM 1) nilM)) (seqG (consG (nameG 2) (consG (nameG 3) nilG))) (ifS (notB (truB (callM 2 fn_is_line (consM (varM 0) (consM (varM 3) nilM))))) (raiseS 1 (varM 2)) nextS)))
theorem ok_need_lines {fa_is_sequence : Addr} {fd_is_sequence : FuncData} {fa_is_line : Addr} {fd_is_line : FuncData} {fn_is_sequence : FnQ} {fn_is_line : FnQ} {f : Addr} {fd : FuncData} (F : Fun K.K "need_lines" "need_lines" s_need_lines f fd) (T : Txt K mg C B fI)
    (D_is_sequence : Dfn P w K.K mg base CX0 1 "is_sequence" ["value"] (spQ K 1 fn_is_sequence) fa_is_sequence fd_is_sequence)
    (D_is_line : Dfn P w K.K mg base CX0 4 "is_line" ["size", "line"] (spQ K 2 fn_is_line) fa_is_line fd_is_line) :
    FnOk P w K.K mg base (L2.CX P w) 6 f fd ["size", "lines"] (spE K (ecOf C 3) 2 (denE 4 (den_need_lines fn_is_sequence fn_is_line))) := by
  refine F.okX sc_need_lines (fun vs H Q E h => by obtain ⟨_, _, ds, _, _, _, h2, h3, _⟩ := h; exact h2.length.trans h3) (fun cdv A outer s H vs Q E hr h => ?_)
  have tk := takes_of (X := cxOf (L2.CX P w) P w K.K mg base ["size", "lines", "at", "line"] "need_lines" (defScope s_need_lines) f cdv A outer s H E) (E := E) rfl rfl rfl rfl
  refine ⟨_, (pss_cons (ps_if (pt_not (pt_truK K.K rfl (pe_d D_is_sequence (hr.mono (by decide)) (pa_cons (pv 1) pa_nil)))) (pss_one (ps_raise_A rfl T.x_InvalidLines hr tk (pa_cons (pe_un un_neg pe_int) pa_nil) rfl (by decide))) pss_nil) (pss_one (ps_for PassesOwn.leaving rfl (pi_enumK K.K rfl rfl T.b_enumerate (pa_cons (pv 1) pa_nil)) (pg_or (pg_tupK K.K rfl rfl (pgs_cons (pg_name (i := 2) sc_need_lines.nd rfl (by first | exact Or.inl rfl | exact Or.inr rfl)) (pgs_cons (pg_name (i := 3) sc_need_lines.nd rfl (by first | exact Or.inl rfl | exact Or.inr rfl)) pgs_nil))) (pg_unlK K.K rfl rfl (pgs_cons (pg_name (i := 2) sc_need_lines.nd rfl (by first | exact Or.inl rfl | exact Or.inr rfl)) (pgs_cons (pg_name (i := 3) sc_need_lines.nd rfl (by first | exact Or.inl rfl | exact Or.inr rfl)) pgs_nil)))) (pss_one (ps_if (pt_not (pt_truK K.K rfl (pe_d D_is_line (hr.mono (by decide)) (pa_cons (pv 0) (pa_cons (pv 3) pa_nil))))) (pss_one (ps_raise_A rfl T.x_InvalidLines hr tk (pa_cons (pv 2) pa_nil) rfl (by decide))) pss_nil))))), ?_⟩
  exact body_E (N := ["size", "lines", "at", "line"]) (ec := ecOf C 3) (sd_seq (sd_if (et_not (et_tru (ed_call (ea_cons ed_var ea_nil)))) (sd_raiseA (c := 1) rfl (ed_un und_neg ed_int)) sd_next) (sd_for (id_enumS (ea_cons ed_var ea_nil)) (gd_seq (gds_cons gd_name (gds_cons gd_name gds_nil)) (.cons (.cons .nil))) (sd_if (et_not (et_tru (ed_call (ea_cons ed_var (ea_cons ed_var ea_nil))))) (sd_raiseA (c := 1) rfl ed_var) sd_next))) h
abbrev s_lines_sheet : Stmt := top 15
theorem sc_lines_sheet : FnScope ["size", "lines", "sheet", "one", "other", "thing", "cell"] ["size", "lines"] (defScope s_lines_sheet) := ⟨rfl, rfl, rfl, by decide +kernel, rfl, by decide +kernel, by decide +kernel⟩
def den_lines_sheet (fn_need_size : FnE) (fn_need_lines : FnE) (fn_met_cells : FnQ) (fn_told_thing : FnQ) : DS := (seqS (dropS (callE 1 fn_need_size (consM (varM 0) nilM))) (seqS (dropS (callE 2 fn_need_lines (consM (varM 0) (consM (varM 1) nilM)))) (seqS (asgO 2 (opN mulP (listM (lstM (consM (conM .none) nilM))) (opM mulP (varM 0) (varM 0)))) (seqS (forS (seqI (varM 1)) (seqG (consG (nameG 3) (consG (nameG 4) (consG (nameG 5) nilG)))) (forS (seqI (callM 3 fn_met_cells (consM (varM 0) (consM (varM 3) (consM (varM 4) nilM))))) (nameG 6) (setS 2 (varM 6) (callM 1 fn_told_thing (consM (varM 5) nilM))))) (seqS (forS (enumSI (consM (letM 2) nilM)) (seqG (consG (nameG 6) (consG (nameG 5) nilG))) (ifS (boolM (opM isP (varM 5) (conM .none))) (raiseS 2 (varM 6)) nextS)) (retS (tupOM 2)))))))
theorem ok_lines_sheet {fa_need_size : Addr} {fd_need_size : FuncData} {fa_need_lines : Addr} {fd_need_lines : FuncData} {fa_met_cells : Addr} {fd_met_cells : FuncData} {fa_told_thing : Addr} {fd_told_thing : FuncData} {fn_need_size : FnE} {fn_need_lines : FnE} {fn_met_cells : FnQ} {fn_told_thing : FnQ} {f : Addr} {fd : FuncData} (F : Fun K.K "lines_sheet" "lines_sheet" s_lines_sheet f fd) (T : Txt K mg C B fI)
    (D_need_size : Dfn P w K.K mg base (L2.CX P w) 4 "need_size" ["value"] (spE K (ecOf C 3) 1 fn_need_size) fa_need_size fd_need_size)
    (D_need_lines : Dfn P w K.K mg base (L2.CX P w) 6 "need_lines" ["size", "lines"] (spE K (ecOf C 3) 2 fn_need_lines) fa_need_lines fd_need_lines)
    (D_met_cells : Dfn P w K.K mg base CX0 1 "met_cells" ["size", "one", "other"] (spQ K 3 fn_met_cells) fa_met_cells fd_met_cells)
    (D_told_thing : Dfn P w K.K mg base CX0 2 "told_thing" ["thing"] (spQ K 1 fn_told_thing) fa_told_thing fd_told_thing) :
    FnOk P w K.K mg base (L2.CX P w) 8 f fd ["size", "lines"] (spE K (ecOf C 3) 2 (denE 7 (den_lines_sheet fn_need_size fn_need_lines fn_met_cells fn_told_thing))) := by
  refine F.okX sc_lines_sheet (fun vs H Q E h => by obtain ⟨_, _, ds, _, _, _, h2, h3, _⟩ := h; exact h2.length.trans h3) (fun cdv A outer s H vs Q E hr h => ?_)
  have tk := takes_of (X := cxOf (L2.CX P w) P w K.K mg base ["size", "lines", "sheet", "one", "other", "thing", "cell"] "lines_sheet" (defScope s_lines_sheet) f cdv A outer s H E) (E := E) rfl rfl rfl rfl
  refine ⟨_, (pss_cons (ps_expr (pe_dS D_need_size (hr.mono (by decide)) tk (pa_cons (pv 0) pa_nil))) (pss_cons (ps_expr (pe_dS D_need_lines (hr.mono (by decide)) tk (pa_cons (pv 0) (pa_cons (pv 1) pa_nil)))) (pss_cons (ps_set (i := 2) sc_lines_sheet.nd rfl (by first | exact Or.inl rfl | exact Or.inr rfl) (pe_op (op_mulK K.K rfl) (pe_lst (pa_cons pe_non pa_nil)) (pe_op (op_mulK K.K rfl) (pv 0) (pv 0)))) (pss_cons (ps_for PassesOwn.leaving rfl (pi_seqK K.K rfl (pv 1)) (pg_or (pg_tupK K.K rfl rfl (pgs_cons (pg_name (i := 3) sc_lines_sheet.nd rfl (by first | exact Or.inl rfl | exact Or.inr rfl)) (pgs_cons (pg_name (i := 4) sc_lines_sheet.nd rfl (by first | exact Or.inl rfl | exact Or.inr rfl)) (pgs_cons (pg_name (i := 5) sc_lines_sheet.nd rfl (by first | exact Or.inl rfl | exact Or.inr rfl)) pgs_nil)))) (pg_unlK K.K rfl rfl (pgs_cons (pg_name (i := 3) sc_lines_sheet.nd rfl (by first | exact Or.inl rfl | exact Or.inr rfl)) (pgs_cons (pg_name (i := 4) sc_lines_sheet.nd rfl (by first | exact Or.inl rfl | exact Or.inr rfl)) (pgs_cons (pg_name (i := 5) sc_lines_sheet.nd rfl (by first | exact Or.inl rfl | exact Or.inr rfl)) pgs_nil))))) (pss_one (ps_for PassesOwn.leaving rfl (pi_seqK K.K rfl (pe_d D_met_cells (hr.mono (by decide)) (pa_cons (pv 0) (pa_cons (pv 3) (pa_cons (pv 4) pa_nil))))) (pg_name (i := 6) sc_lines_sheet.nd rfl (by first | exact Or.inl rfl | exact Or.inr rfl)) (pss_one (ps_asg (pe_d D_told_thing (hr.mono (by decide)) (pa_cons (pv 5) pa_nil)) (pg_sub (pv 2) (pv 6) set_list)))))) (pss_cons (ps_for PassesOwn.leaving rfl (pi_enumK K.K rfl rfl T.b_enumerate (pa_cons (pv 2) pa_nil)) (pg_or (pg_tupK K.K rfl rfl (pgs_cons (pg_name (i := 6) sc_lines_sheet.nd rfl (by first | exact Or.inl rfl | exact Or.inr rfl)) (pgs_cons (pg_name (i := 5) sc_lines_sheet.nd rfl (by first | exact Or.inl rfl | exact Or.inr rfl)) pgs_nil))) (pg_unlK K.K rfl rfl (pgs_cons (pg_name (i := 6) sc_lines_sheet.nd rfl (by first | exact Or.inl rfl | exact Or.inr rfl)) (pgs_cons (pg_name (i := 5) sc_lines_sheet.nd rfl (by first | exact Or.inl rfl | exact Or.inr rfl)) pgs_nil)))) (pss_one (ps_if (pt_cmpR op_isN (pv 5) pe_non (nomark _)) (pss_one (ps_raise_A rfl T.x_Refused hr tk (pa_cons (pv 6) pa_nil) rfl (by decide))) pss_nil))) (pss_one (ps_ret (pe_callTy (call_tupleK K.K rfl) (by rfl) T.b_tuple PyProof.Rows.boot_tuple (pa_cons (pv 2) pa_nil))))))))), ?_⟩
  exact body_E (N := ["size", "lines", "sheet", "one", "other", "thing", "cell"]) (ec := ecOf C 3) (sd_seq (sd_drop (ed_callE (ea_cons ed_var ea_nil))) (sd_seq (sd_drop (ed_callE (ea_cons ed_var (ea_cons ed_var ea_nil)))) (sd_seq (sd_asgO (eo_op opn_mul (Eo.ed (eo_lst (ea_cons ed_non ea_nil))) (ed_op opd_mul ed_var ed_var))) (sd_seq (sd_for (id_seq ed_var) (gd_seq (gds_cons gd_name (gds_cons gd_name (gds_cons gd_name gds_nil))) (.cons (.cons (.cons .nil)))) (sd_for (id_seq (ed_call (ea_cons ed_var (ea_cons ed_var (ea_cons ed_var ea_nil))))) gd_name (sd_set ed_var (ed_call (ea_cons ed_var ea_nil))))) (sd_seq (sd_for (id_enumS (ea_cons ed_let ea_nil)) (gd_seq (gds_cons gd_name (gds_cons gd_name gds_nil)) (.cons (.cons .nil))) (sd_if (et_test (ed_op opd_is ed_var ed_non)) (sd_raiseA (c := 2) rfl ed_var) sd_next)) (sd_ret ed_tupO)))))) h
end
end K01

namespace K01
open PySem L2 Evl Pd
section
variable {P : Program} {w : World} {K : PKt} {mg : Str → Option Value} {base : Heap} {C fI : Nat → Addr} {B : Addr}
abbrev s__law_told : Stmt := top 28
theorem sc__law_told : FnScope ["work", "e"] ["work"] (defScope s__law_told) := ⟨rfl, rfl, rfl, by decide +kernel, rfl, by decide +kernel, by decide +kernel⟩
abbrev L__law_told (K : PKt) (mg : Str → Option Value) (C : Nat → Addr) : List Cls := [(.ref (C 1), some 1, fun a cls d => tRet (tTup (tCons (tC (.str "lines")) (tCons (tFldA K.K mg a cls d (tVar 1)) tNil)))), (.ref (C 0), some 1, fun a cls d => tRet (tTup (tCons (tC (.str "table")) (tCons (tFldA K.K mg a cls d (tVar 1)) tNil)))), (.ref (C 3), some 1, fun a cls d => tRet (tTup (tCons (tC (.str "size")) (tCons (tFldW K.K mg a cls d (tVar 1)) tNil)))), (.ref (C 2), some 1, fun a cls d => tRet (tTup (tCons (tC (.str "refused")) (tCons (tFldA K.K mg a cls d (tVar 1)) tNil))))]
def hs__law_told : DH := (consH (hitE 4 1) (fun d => .tuple [.str "lines", d]) (consH (hitE 4 0) (fun d => .tuple [.str "table", d]) (consH (hitE 4 3) (fun d => .tuple [.str "size", d]) (consH (hitE 4 2) (fun d => .tuple [.str "refused", d]) nilH))))
theorem hres__law_told (T : Txt K mg C B fI) : Hres K (ecOf C 3) 2 (L__law_told K mg C) hs__law_told := (hres_wordA (mg := mg) (by decide) (hitE_exm (by decide) T.exm) (fun c e => by cases hitE_true e; exact ⟨rfl, _, _, _, _, T.x_InvalidLines⟩) (hres_wordA (mg := mg) (by decide) (hitE_exm (by decide) T.exm) (fun c e => by cases hitE_true e; exact ⟨rfl, _, _, _, _, T.x_InvalidTable⟩) (hres_wordW (mg := mg) (by decide) (hitE_exm (by decide) T.exm) (fun c e => by cases hitE_true e; exact ⟨rfl, _, _, _, _, T.x_InvalidSize⟩) (hres_wordA (mg := mg) (by decide) (hitE_exm (by decide) T.exm) (fun c e => by cases hitE_true e; exact ⟨rfl, _, _, _, _, T.x_Refused⟩) hres_nil))))
theorem gives__law_told {X : Cx} (T : Txt K mg C B fI) (hK : X.K = K.K) (hm : X.mg = mg) {ga : Addr} {cdg : Value} {q : Str} : LamX.GivesTo X ["work", "e"] "_law_told" (defScope s__law_told) ga cdg (defBody s__law_told) "work" q (TTh K.K 2 (L__law_told K mg C)) := by
  obtain ⟨P1, w1, K1, mg1, base1, A1, N1, s1, H1, env1, outer1, stack1, ex1, fn1, calm1, pn1, xe1⟩ := X
  cases hm
  cases hK
  exact told_hd sc__law_told.nd (fun f => rfl) (fun s H => (.named (i := 1) ⟨rfl, by decide, .inl T.x_InvalidLines.base.gC⟩ rfl rfl (fun a oe cls d pn hz hf => (pss_one (ps_ret (pe_tup (pa_cons pe_str (pa_cons (pe_fld_A hz hf (pv 1)) pa_nil)))))) (.named (i := 1) ⟨rfl, by decide, .inl T.x_InvalidTable.base.gC⟩ rfl rfl (fun a oe cls d pn hz hf => (pss_one (ps_ret (pe_tup (pa_cons pe_str (pa_cons (pe_fld_A hz hf (pv 1)) pa_nil)))))) (.named (i := 1) ⟨rfl, by decide, .inl T.x_InvalidSize.base.gC⟩ rfl rfl (fun a oe cls d pn hz hf => (pss_one (ps_ret (pe_tup (pa_cons pe_str (pa_cons (pe_fld_W hz hf (pv 1)) pa_nil)))))) (.named (i := 1) ⟨rfl, by decide, .inl T.x_Refused.base.gC⟩ rfl rfl (fun a oe cls d pn hz hf => (pss_one (ps_ret (pe_tup (pa_cons pe_str (pa_cons (pe_fld_A hz hf (pv 1)) pa_nil)))))) .nil)))))
abbrev s_law : Stmt := top 29
theorem sc_law : FnScope ["script", "k", "box", "size", "heads", "lines", "turn", "line", "due", "at", "bad", "table", "cell", "odd", "wrong"] ["script"] (defScope s_law) := ⟨rfl, rfl, rfl, by decide +kernel, rfl, by decide +kernel, by decide +kernel⟩
noncomputable def den_law (fn_lines_sheet : FnE) (fn__law_box : FnN) (fn__law_due : FnQ) (fn__law_take : FnB) (fn__law_pick : FnB) (fn__law_thing : FnB) (fn_need_table : FnE) (fn_need_size : FnE) : DS := (seqS (ifS (boolM (opM neS (callE 2 fn_lines_sheet (consM (conM (.int 2)) (consM (listM (lstM (consM (tupM (consM (conM .none) (consM (conM .none) (consM (conM (.int 0)) nilM)))) (consM (tupM (consM (conM (.int 1)) (consM (conM .none) (consM (conM (.int 1)) nilM)))) (consM (listM (lstM (consM (conM .none) (consM (conM (.int 0)) (consM (tupM (consM (conM (.int 3)) (consM (conM (.int 4)) nilM))) nilM))))) nilM))))) nilM))) (tupM (consM (tupM (consM (conM (.int 3)) (consM (conM (.int 4)) nilM))) (consM (conM (.int 0)) (consM (tupM (consM (conM (.int 3)) (consM (conM (.int 4)) nilM))) (consM (conM (.int 1)) nilM))))))) (retS (conM (.bool false))) nextS) (seqS (ifS (boolM (opM neS (toldM hs__law_told (callE 2 fn_lines_sheet (consM (conM (.int 2)) (consM (listM (lstM (consM (tupM (consM (conM (.int 0)) (consM (conM .none) (consM (conM (.int 0)) nilM)))) nilM))) nilM)))) (tupM (consM (conM (.str "refused")) (consM (conM (.int 2)) nilM))))) (retS (conM (.bool false))) nextS) (seqS (forS (rng1M (consM (conM (.int 3)) nilM)) (nameG 1) (seqS (asgO 2 (callN 2 fn__law_box (consM (varM 0) (consM (varM 1) nilM)))) (seqS (asgS 3 (opM addP (conM (.int 2)) (callB 1 2 fn__law_take (consM (conM (.int 2)) nilM)))) (seqS (asgS 4 (opM addP (listM (lstM (consM (conM .none) nilM))) (listM (lrgM (varM 3))))) (seqS (asgO 5 (lstM nilM)) (seqS (forS (rng1M (consM (opM addP (conM (.int 1)) (callB 1 2 fn__law_take (consM (conM (.int 6)) nilM))) nilM)) (nameG 6) (seqS (asgS 7 (tupM (consM (callB 1 2 fn__law_pick (consM (varM 4) nilM)) (consM (callB 1 2 fn__law_pick (consM (varM 4) nilM)) (consM (callB 0 2 fn__law_thing nilM) nilM))))) (appS 5 (callB 1 2 fn__law_pick (consM (listM (lstM (consM (varM 7) (consM (caM listP (consM (varM 7) nilM)) nilM)))) nilM))))) (seqS (ifS (boolM (opM gtP (callB 1 2 fn__law_take (consM (conM (.int 4)) nilM)) (conM (.int 0)))) (asgO 5 (opN addP (listM (lstM (consM (tupM (consM (conM .none) (consM (conM .none) (consM (callB 0 2 fn__law_thing nilM) nilM)))) nilM))) (letM 5))) nextS) (seqS (asgS 8 (callM 2 fn__law_due (consM (varM 3) (consM (letM 5) nilM)))) (seqS (ifS (boolM (opM neS (caM reprP (consM (toldM hs__law_told (kwE 2 [1, 0] 2 fn_lines_sheet (consM (tupOM 5) (consM (varM 3) nilM)))) nilM)) (caM reprP (consM (varM 8) nilM)))) (retS (conM (.bool false))) nextS) (seqS (asgS 9 (callB 1 2 fn__law_take (consM (opM addP (lenOM 5) (conM (.int 1))) nilM))) (seqS (asgS 10 (callB 1 2 fn__law_pick (consM (listM (lstM (consM (conM .none) (consM (tupM (consM (conM (.int 0)) (consM (conM (.int 0)) nilM))) (consM (tupM (consM (varM 3) (consM (conM (.int 0)) (consM (conM (.int 0)) nilM)))) (consM (tupM (consM (conM (.int 0)) (consM (unM negP (conM (.int 1))) (consM (conM (.int 0)) nilM)))) (consM (tupM (consM (conM (.int 0)) (consM (conM (.bool true)) (consM (conM (.int 0)) nilM)))) (consM (tupM (consM (conM (.int 0)) (consM (conM (.int 0)) (consM (unM negP (conM (.int 1))) nilM)))) (consM (tupM (consM (conM (.int 0)) (consM (conM (.int 0)) (consM (conM (.str "0")) nilM)))) (consM (tupM (consM (conM (.int 0)) (consM (conM (.int 0)) (consM (conM .none) nilM)))) (consM (tupM (consM (conM (.int 0)) (consM (conM (.int 0)) (consM (tupM (consM (conM (.int 0)) (consM (conM .none) nilM))) nilM)))) (consM (conM (.str "000")) nilM)))))))))))) nilM))) (seqS (ifS (boolM (opM neS (toldM hs__law_told (callE 2 fn_lines_sheet (consM (varM 3) (consM (opM addP (opM addP (slM (letM 5) noM (partM (varM 9))) (listM (lstM (consM (varM 10) nilM)))) (slM (letM 5) (partM (varM 9)) noM)) nilM)))) (tupM (consM (conM (.str "lines")) (consM (varM 9) nilM))))) (retS (conM (.bool false))) nextS) (seqS (ifS (boolM (opM neS (toldM hs__law_told (callE 2 fn_lines_sheet (consM (varM 3) (consM (callB 1 2 fn__law_pick (consM (listM (lstM (consM (conM .none) (consM (conM (.int 5)) (consM (conM (.str "ab")) nilM))))) nilM)) nilM)))) (tupM (consM (conM (.str "lines")) (consM (unM negP (conM (.int 1))) nilM))))) (retS (conM (.bool false))) nextS) (seqS (asgS 11 (listM (lcM (rng1M (consM (opM mulP (varM 3) (varM 3)) nilM)) (nameG 12) yesB (callB 1 2 fn__law_take (consM (varM 3) nilM)) [12]))) (seqS (ifS (orB (boolM (opM neS (kwE 2 [1, 0] 2 fn_need_table (consM (varM 11) (consM (varM 3) nilM))) (caM tupleP (consM (varM 11) nilM)))) (boolM (opM neS (kwE 1 [0] 1 fn_need_size (consM (varM 3) nilM)) (varM 3)))) (retS (conM (.bool false))) nextS) (seqS (asgS 9 (callB 1 2 fn__law_take (consM (opM mulP (varM 3) (varM 3)) nilM))) (seqS (asgS 13 (opM addP (opM addP (slM (varM 11) noM (partM (varM 9))) (listM (lstM (consM (callB 1 2 fn__law_pick (consM (listM (lstM (consM (conM .none) (consM (varM 3) (consM (unM negP (conM (.int 1))) (consM (conM (.bool true)) (consM (conM (.str "0")) nilM))))))) nilM)) nilM)))) (slM (varM 11) (partM (opM addP (varM 9) (conM (.int 1)))) noM))) (seqS (ifS (boolM (opM neS (toldM hs__law_told (callE 2 fn_need_table (consM (varM 3) (consM (varM 13) nilM)))) (tupM (consM (conM (.str "table")) (consM (varM 9) nilM))))) (retS (conM (.bool false))) nextS) (seqS (ifS (boolM (opM neS (toldM hs__law_told (callE 2 fn_need_table (consM (varM 3) (consM (callB 1 2 fn__law_pick (consM (listM (lstM (consM (conM .none) (consM (slM (varM 11) (partM (conM (.int 1))) noM) (consM (conM (.int 3)) nilM))))) nilM)) nilM)))) (tupM (consM (conM (.str "table")) (consM (unM negP (conM (.int 1))) nilM))))) (retS (conM (.bool false))) nextS) (seqS (asgS 14 (callB 1 2 fn__law_pick (consM (listM (lstM (consM (conM .none) (consM (conM (.int 1)) (consM (conM (.int 4)) (consM (conM (.bool true)) (consM (conM (.str "2")) nilM))))))) nilM))) (seqS (ifS (boolM (opM neS (toldM hs__law_told (callE 1 fn_need_size (consM (varM 14) nilM))) (tupM (consM (conM (.str "size")) (consM (conM (.str "size")) nilM))))) (retS (conM (.bool false))) nextS) (seqS (ifS (boolM (opM neS (toldM hs__law_told (callE 2 fn_lines_sheet (consM (varM 14) (consM (conM .none) nilM)))) (tupM (consM (conM (.str "size")) (consM (conM (.str "size")) nilM))))) (retS (conM (.bool false))) nextS) (ifS (boolM (opM neS (toldM hs__law_told (callE 2 fn_need_table (consM (varM 14) (consM (conM .none) nilM)))) (tupM (consM (conM (.str "size")) (consM (conM (.str "size")) nilM))))) (retS (conM (.bool false))) nextS))))))))))))))))))))))) (retS (conM (.bool true))))))
theorem ok_law {fa_lines_sheet : Addr} {fd_lines_sheet : FuncData} {fa__law_box : Addr} {fd__law_box : FuncData} {fa__law_due : Addr} {fd__law_due : FuncData} {fa__law_take : Addr} {fd__law_take : FuncData} {fa__law_pick : Addr} {fd__law_pick : FuncData} {fa__law_thing : Addr} {fd__law_thing : FuncData} {fa_need_table : Addr} {fd_need_table : FuncData} {fa_need_size : Addr} {fd_need_size : FuncData} {fa__law_told : Addr} {fd__law_told : FuncData} {fn_lines_sheet : FnE} {fn__law_box : FnN} {fn__law_due : FnQ} {fn__law_take : FnB} {fn__law_pick : FnB} {fn__law_thing : FnB} {fn_need_table : FnE} {fn_need_size : FnE} {fa c Pt : Addr} {kV doc pm ct oc : Value} {an od : Option Addr} {osl : Array (Option Value)} (lk : K.K.lookup fa = some ⟨oc, od, .func (PySem.W.fnOf "law" "law" (defArgs s_law) (defBody s_law) (defScope s_law) .none kV doc pm an (.ref c) ct), osl⟩) (hcd : PySem.W.codeIn K.K (.ref c) "law" = true)
    (hT0 : K.T = [(Pt, ("law.<locals>.<lambda>" : Str))]) (TBc : LamX.TabB base mg c Pt) (T : Txt K mg C B fI)
    (D_lines_sheet : Dfn P w K.K mg base (L2.CX P w) 8 "lines_sheet" ["size", "lines"] (spE K (ecOf C 3) 2 fn_lines_sheet) fa_lines_sheet fd_lines_sheet)
    (D__law_box : Dfn P w K.K mg base CX0 1 "_law_box" ["script", "k"] (spN K 2 fn__law_box) fa__law_box fd__law_box)
    (D__law_due : Dfn P w K.K mg base CX0 1 "_law_due" ["size", "lines"] (spQ K 2 fn__law_due) fa__law_due fd__law_due)
    (D__law_take : Dfn P w K.K mg base CX0 1 "_law_take" ["box", "many"] (spB K 1 fn__law_take) fa__law_take fd__law_take)
    (D__law_pick : Dfn P w K.K mg base CX0 2 "_law_pick" ["box", "some"] (spB K 1 fn__law_pick) fa__law_pick fd__law_pick)
    (D__law_thing : Dfn P w K.K mg base CX0 3 "_law_thing" ["box"] (spB K 0 fn__law_thing) fa__law_thing fd__law_thing)
    (D_need_table : Dfn P w K.K mg base (L2.CX P w) 6 "need_table" ["size", "value"] (spE K (ecOf C 3) 2 fn_need_table) fa_need_table fd_need_table)
    (D_need_size : Dfn P w K.K mg base (L2.CX P w) 4 "need_size" ["value"] (spE K (ecOf C 3) 1 fn_need_size) fa_need_size fd_need_size)
    (KB_lines_sheet_lines_size : KOnly K.K fd_lines_sheet ["size", "lines"] ["lines", "size"] [1, 0])
    (KB_need_table_value_size : KOnly K.K fd_need_table ["size", "value"] ["value", "size"] [1, 0])
    (KB_need_size_value : KOnly K.K fd_need_size ["value"] ["value"] [0])
    (F__law_told : Fun K.K "_law_told" "_law_told" s__law_told fa__law_told fd__law_told) (m__law_told : mg "_law_told" = some (.ref fa__law_told)) (b__law_told : Binds K.K fd__law_told ["work"] []) :
    FnG P w K.K mg base CX0 11 fa (PySem.W.fnOf "law" "law" (defArgs s_law) (defBody s_law) (defScope s_law) .none kV doc pm an (.ref c) ct) ["script"] (spQ K 1 (denQ 15 (den_law fn_lines_sheet fn__law_box fn__law_due fn__law_take fn__law_pick fn__law_thing fn_need_table fn_need_size))) := by
  refine fn_ofG lk hcd sc_law (fun vs H Q E h => by obtain ⟨_, _, ds, _, _, _, h2, h3, _⟩ := h; exact h2.length.trans h3) (fun A outer s H vs Q E hg hr h => ?_)
  have tk := takesF (X := (cxOf CX0 P w K.K mg base ["script", "k", "box", "size", "heads", "lines", "turn", "line", "due", "at", "bad", "table", "cell", "odd", "wrong"] "law" (defScope s_law) fa (.ref c) A outer s H E).nox)
  have main : ∃ t, PSs (cxOf CX0 P w K.K mg base ["script", "k", "box", "size", "heads", "lines", "turn", "line", "due", "at", "bad", "table", "cell", "odd", "wrong"] "law" (defScope s_law) fa (.ref c) A outer s H E).nox (defBody s_law) t ∧ t { nx := fun _ H2 => Q .non H2, rt := Q } (L2.start ["script", "k", "box", "size", "heads", "lines", "turn", "line", "due", "at", "bad", "table", "cell", "odd", "wrong"] vs) H := by
    refine ⟨_, (pss_cons (ps_if (pt_cmpR (op_neK K.K rfl hr.units) (pe_dS D_lines_sheet (hr.mono (by decide)) tk (pa_cons pe_int (pa_cons (pe_lst (pa_cons (pe_tup (pa_cons pe_non (pa_cons pe_non (pa_cons pe_int pa_nil)))) (pa_cons (pe_tup (pa_cons pe_int (pa_cons pe_non (pa_cons pe_int pa_nil)))) (pa_cons (pe_lst (pa_cons pe_non (pa_cons pe_int (pa_cons (pe_tup (pa_cons pe_int (pa_cons pe_int pa_nil))) pa_nil)))) pa_nil)))) pa_nil))) (pe_tup (pa_cons (pe_tup (pa_cons pe_int (pa_cons pe_int pa_nil))) (pa_cons pe_int (pa_cons (pe_tup (pa_cons pe_int (pa_cons pe_int pa_nil))) (pa_cons pe_int pa_nil))))) (nomark _)) (pss_one (ps_ret pe_bl)) pss_nil) (pss_cons (ps_if (pt_cmpR (op_neK K.K rfl hr.units) (pe_told (k := 8) (T := K.T) F__law_told m__law_told b__law_told sc__law_told rfl (.inl rfl) (fun cdg => gives__law_told T rfl rfl) TBc rfl (by rw [hT0]; exact List.mem_singleton.mpr rfl) (fun p hp _ => by rw [hT0] at hp; cases List.mem_singleton.mp hp; rfl) (hr.mono (by decide)) ⟨rfl, rfl, rfl, by decide +kernel, (by change ∀ y : Str × NameKind, y ∈ _ → y.2 = NameKind.free → List.lookup y.1 (defScope s_law).names = some NameKind.cell ∨ List.lookup y.1 (defScope s_law).names = some NameKind.free; decide +kernel)⟩ rfl (fun _ _ _ _ _ => rfl) (fun A outer s H E f2 c2 hr => have tk := takes_of (X := LamX.lamCx _ A outer s H E _ f2 c2) (E := E) rfl rfl rfl rfl; (pe_dS D_lines_sheet (hr.mono (by decide)) tk (pa_cons pe_int (pa_cons (pe_lst (pa_cons (pe_tup (pa_cons pe_int (pa_cons pe_non (pa_cons pe_int pa_nil)))) pa_nil)) pa_nil))))) (pe_tup (pa_cons pe_str (pa_cons pe_int pa_nil))) (nomark _)) (pss_one (ps_ret pe_bl)) pss_nil) (pss_cons (ps_for PassesOwn.never rfl (pi_range1 rfl T.b_range (pa_cons pe_int pa_nil)) (pg_name (i := 1) sc_law.nd rfl (by first | exact Or.inl rfl | exact Or.inr rfl)) (pss_cons (ps_set (i := 2) sc_law.nd rfl (by first | exact Or.inl rfl | exact Or.inr rfl) (pe_d D__law_box (hr.mono (by decide)) (pa_cons (pv 0) (pa_cons (pv 1) pa_nil)))) (pss_cons (ps_set (i := 3) sc_law.nd rfl (by first | exact Or.inl rfl | exact Or.inr rfl) (pe_op (op_addK K.K rfl) pe_int (pe_d D__law_take (hr.mono (by decide)) (pa_cons (pv 2) (pa_cons pe_int pa_nil))))) (pss_cons (ps_set (i := 4) sc_law.nd rfl (by first | exact Or.inl rfl | exact Or.inr rfl) (pe_op (op_addK K.K rfl) (pe_lst (pa_cons pe_non pa_nil)) (pe_listRg rfl rfl T.b_list (prg_1 rfl T.b_range (pv 3))))) (pss_cons (ps_set (i := 5) sc_law.nd rfl (by first | exact Or.inl rfl | exact Or.inr rfl) (pe_lst pa_nil)) (pss_cons (ps_for PassesOwn.never rfl (pi_range1 rfl T.b_range (pa_cons (pe_op (op_addK K.K rfl) pe_int (pe_d D__law_take (hr.mono (by decide)) (pa_cons (pv 2) (pa_cons pe_int pa_nil)))) pa_nil)) (pg_name (i := 6) sc_law.nd rfl (by first | exact Or.inl rfl | exact Or.inr rfl)) (pss_cons (ps_set (i := 7) sc_law.nd rfl (by first | exact Or.inl rfl | exact Or.inr rfl) (pe_tup (pa_cons (pe_d D__law_pick (hr.mono (by decide)) (pa_cons (pv 2) (pa_cons (pv 4) pa_nil))) (pa_cons (pe_d D__law_pick (hr.mono (by decide)) (pa_cons (pv 2) (pa_cons (pv 4) pa_nil))) (pa_cons (pe_d D__law_thing (hr.mono (by decide)) (pa_cons (pv 2) pa_nil)) pa_nil))))) (pss_one (ps_expr (pe_bm PySem.F.plainAttrs_list PySem.F.slot_list_append PySem.F.type_list_append mt_append (pv 5) (pa_cons (pe_d D__law_pick (hr.mono (by decide)) (pa_cons (pv 2) (pa_cons (pe_lst (pa_cons (pv 7) (pa_cons (pe_callTy (call_listK K.K rfl) (by rfl) T.b_list PyProof.Rows.boot_list (pa_cons (pv 7) pa_nil)) pa_nil))) pa_nil))) pa_nil)))))) (pss_cons (ps_if (pt_cmpR op_gt (pe_d D__law_take (hr.mono (by decide)) (pa_cons (pv 2) (pa_cons pe_int pa_nil))) pe_int (nomark _)) (pss_one (ps_set (i := 5) sc_law.nd rfl (by first | exact Or.inl rfl | exact Or.inr rfl) (pe_op (op_addK K.K rfl) (pe_lst (pa_cons (pe_tup (pa_cons pe_non (pa_cons pe_non (pa_cons (pe_d D__law_thing (hr.mono (by decide)) (pa_cons (pv 2) pa_nil)) pa_nil)))) pa_nil)) (pv 5)))) pss_nil) (pss_cons (ps_set (i := 8) sc_law.nd rfl (by first | exact Or.inl rfl | exact Or.inr rfl) (pe_d D__law_due (hr.mono (by decide)) (pa_cons (pv 3) (pa_cons (pv 5) pa_nil)))) (pss_cons (ps_if (pt_cmpR (op_neK K.K rfl hr.units) (pe_callB (call_reprK K.K rfl hg (units65 hr)) (by rfl) T.b_repr PyProof.Rows.boot_repr (pa_cons (pe_told (k := 8) (T := K.T) F__law_told m__law_told b__law_told sc__law_told rfl (.inl rfl) (fun cdg => gives__law_told T rfl rfl) TBc rfl (by rw [hT0]; exact List.mem_singleton.mpr rfl) (fun p hp _ => by rw [hT0] at hp; cases List.mem_singleton.mp hp; rfl) (hr.mono (by decide)) ⟨rfl, rfl, rfl, by decide +kernel, (by change ∀ y : Str × NameKind, y ∈ _ → y.2 = NameKind.free → List.lookup y.1 (defScope s_law).names = some NameKind.cell ∨ List.lookup y.1 (defScope s_law).names = some NameKind.free; decide +kernel)⟩ rfl (fun _ _ _ _ _ => rfl) (fun A outer s H E f2 c2 hr => have tk := takes_of (X := LamX.lamCx _ A outer s H E _ f2 c2) (E := E) rfl rfl rfl rfl; (pe_kwS (ks := ["lines", "size"]) (is := [1, 0]) D_lines_sheet.ok (hr.mono (by decide)) rfl D_lines_sheet.g D_lines_sheet.kp KB_lines_sheet_lines_size (fun σ => passAt tk σ) (pk_cons (pe_callTy (call_tupleK K.K rfl) (by rfl) T.b_tuple PyProof.Rows.boot_tuple (pa_cons (pv 5) pa_nil)) (pk_cons (pv 3) pk_nil))))) pa_nil)) (pe_callB (call_reprK K.K rfl hg (units65 hr)) (by rfl) T.b_repr PyProof.Rows.boot_repr (pa_cons (pv 8) pa_nil)) (nomark _)) (pss_one (ps_ret pe_bl)) pss_nil) (pss_cons (ps_set (i := 9) sc_law.nd rfl (by first | exact Or.inl rfl | exact Or.inr rfl) (pe_d D__law_take (hr.mono (by decide)) (pa_cons (pv 2) (pa_cons (pe_op (op_addK K.K rfl) (pe_callB (call_lenK K.K rfl) (by rfl) T.b_len PySem.boot_len (pa_cons (pv 5) pa_nil)) pe_int) pa_nil)))) (pss_cons (ps_set (i := 10) sc_law.nd rfl (by first | exact Or.inl rfl | exact Or.inr rfl) (pe_d D__law_pick (hr.mono (by decide)) (pa_cons (pv 2) (pa_cons (pe_lst (pa_cons pe_non (pa_cons (pe_tup (pa_cons pe_int (pa_cons pe_int pa_nil))) (pa_cons (pe_tup (pa_cons (pv 3) (pa_cons pe_int (pa_cons pe_int pa_nil)))) (pa_cons (pe_tup (pa_cons pe_int (pa_cons (pe_un un_neg pe_int) (pa_cons pe_int pa_nil)))) (pa_cons (pe_tup (pa_cons pe_int (pa_cons pe_bl (pa_cons pe_int pa_nil)))) (pa_cons (pe_tup (pa_cons pe_int (pa_cons pe_int (pa_cons (pe_un un_neg pe_int) pa_nil)))) (pa_cons (pe_tup (pa_cons pe_int (pa_cons pe_int (pa_cons pe_str pa_nil)))) (pa_cons (pe_tup (pa_cons pe_int (pa_cons pe_int (pa_cons pe_non pa_nil)))) (pa_cons (pe_tup (pa_cons pe_int (pa_cons pe_int (pa_cons (pe_tup (pa_cons pe_int (pa_cons pe_non pa_nil))) pa_nil)))) (pa_cons pe_str pa_nil))))))))))) pa_nil)))) (pss_cons (ps_if (pt_cmpR (op_neK K.K rfl hr.units) (pe_told (k := 8) (T := K.T) F__law_told m__law_told b__law_told sc__law_told rfl (.inl rfl) (fun cdg => gives__law_told T rfl rfl) TBc rfl (by rw [hT0]; exact List.mem_singleton.mpr rfl) (fun p hp _ => by rw [hT0] at hp; cases List.mem_singleton.mp hp; rfl) (hr.mono (by decide)) ⟨rfl, rfl, rfl, by decide +kernel, (by change ∀ y : Str × NameKind, y ∈ _ → y.2 = NameKind.free → List.lookup y.1 (defScope s_law).names = some NameKind.cell ∨ List.lookup y.1 (defScope s_law).names = some NameKind.free; decide +kernel)⟩ rfl (fun _ _ _ _ _ => rfl) (fun A outer s H E f2 c2 hr => have tk := takes_of (X := LamX.lamCx _ A outer s H E _ f2 c2) (E := E) rfl rfl rfl rfl; (pe_dS D_lines_sheet (hr.mono (by decide)) tk (pa_cons (pv 3) (pa_cons (pe_op (op_addK K.K rfl) (pe_op (op_addK K.K rfl) (pe_slice (sl_K K.K rfl) (pv 5) po_none (po_some (pv 9))) (pe_lst (pa_cons (pv 10) pa_nil))) (pe_slice (sl_K K.K rfl) (pv 5) (po_some (pv 9)) po_none)) pa_nil))))) (pe_tup (pa_cons pe_str (pa_cons (pv 9) pa_nil))) (nomark _)) (pss_one (ps_ret pe_bl)) pss_nil) (pss_cons (ps_if (pt_cmpR (op_neK K.K rfl hr.units) (pe_told (k := 8) (T := K.T) F__law_told m__law_told b__law_told sc__law_told rfl (.inl rfl) (fun cdg => gives__law_told T rfl rfl) TBc rfl (by rw [hT0]; exact List.mem_singleton.mpr rfl) (fun p hp _ => by rw [hT0] at hp; cases List.mem_singleton.mp hp; rfl) (hr.mono (by decide)) ⟨rfl, rfl, rfl, by decide +kernel, (by change ∀ y : Str × NameKind, y ∈ _ → y.2 = NameKind.free → List.lookup y.1 (defScope s_law).names = some NameKind.cell ∨ List.lookup y.1 (defScope s_law).names = some NameKind.free; decide +kernel)⟩ rfl (fun _ _ _ _ _ => rfl) (fun A outer s H E f2 c2 hr => have tk := takes_of (X := LamX.lamCx _ A outer s H E _ f2 c2) (E := E) rfl rfl rfl rfl; (pe_dS D_lines_sheet (hr.mono (by decide)) tk (pa_cons (pv 3) (pa_cons (pe_d D__law_pick (hr.mono (by decide)) (pa_cons (pv 2) (pa_cons (pe_lst (pa_cons pe_non (pa_cons pe_int (pa_cons pe_str pa_nil)))) pa_nil))) pa_nil))))) (pe_tup (pa_cons pe_str (pa_cons (pe_un un_neg pe_int) pa_nil))) (nomark _)) (pss_one (ps_ret pe_bl)) pss_nil) (pss_cons (ps_set (i := 11) sc_law.nd rfl (by first | exact Or.inl rfl | exact Or.inr rfl) (pe_lc (own := [("cell", 12)]) rfl sc_law.nd (pi_range1 rfl T.b_range (pa_cons (pe_op (op_mulK K.K rfl) (pv 3) (pv 3)) pa_nil)) (blkOk_by (N := ["script", "k", "box", "size", "heads", "lines", "turn", "line", "due", "at", "bad", "table", "cell", "odd", "wrong"]) (sc := defScope s_law) (by decide +kernel)) (fun _ _ _ _ _ => (pg_name (i := 12) sc_law.nd rfl (by first | exact Or.inl rfl | exact Or.inr rfl))) (fun _ _ _ _ _ => pts_nil) (fun _ _ _ _ _ => (pe_d D__law_take (hr.mono (by decide)) (pa_cons (pv 2) (pa_cons (pv 3) pa_nil)))))) (pss_cons (ps_if (PW.pt (pw_or (pt_cmpR (op_neK K.K rfl hr.units) (pe_kwS (ks := ["value", "size"]) (is := [1, 0]) D_need_table.ok (hr.mono (by decide)) rfl D_need_table.g D_need_table.kp KB_need_table_value_size (fun σ => passAt tk σ) (pk_cons (pv 11) (pk_cons (pv 3) pk_nil))) (pe_callTy (call_tupleK K.K rfl) (by rfl) T.b_tuple PyProof.Rows.boot_tuple (pa_cons (pv 11) pa_nil)) (nomark _)) (pw_or1 (pt_cmpR (op_neK K.K rfl hr.units) (pe_kwS (ks := ["value"]) (is := [0]) D_need_size.ok (hr.mono (by decide)) rfl D_need_size.g D_need_size.kp KB_need_size_value (fun σ => passAt tk σ) (pk_cons (pv 3) pk_nil)) (pv 3) (nomark _))))) (pss_one (ps_ret pe_bl)) pss_nil) (pss_cons (ps_set (i := 9) sc_law.nd rfl (by first | exact Or.inl rfl | exact Or.inr rfl) (pe_d D__law_take (hr.mono (by decide)) (pa_cons (pv 2) (pa_cons (pe_op (op_mulK K.K rfl) (pv 3) (pv 3)) pa_nil)))) (pss_cons (ps_set (i := 13) sc_law.nd rfl (by first | exact Or.inl rfl | exact Or.inr rfl) (pe_op (op_addK K.K rfl) (pe_op (op_addK K.K rfl) (pe_slice (sl_K K.K rfl) (pv 11) po_none (po_some (pv 9))) (pe_lst (pa_cons (pe_d D__law_pick (hr.mono (by decide)) (pa_cons (pv 2) (pa_cons (pe_lst (pa_cons pe_non (pa_cons (pv 3) (pa_cons (pe_un un_neg pe_int) (pa_cons pe_bl (pa_cons pe_str pa_nil)))))) pa_nil))) pa_nil))) (pe_slice (sl_K K.K rfl) (pv 11) (po_some (pe_op (op_addK K.K rfl) (pv 9) pe_int)) po_none))) (pss_cons (ps_if (pt_cmpR (op_neK K.K rfl hr.units) (pe_told (k := 8) (T := K.T) F__law_told m__law_told b__law_told sc__law_told rfl (.inl rfl) (fun cdg => gives__law_told T rfl rfl) TBc rfl (by rw [hT0]; exact List.mem_singleton.mpr rfl) (fun p hp _ => by rw [hT0] at hp; cases List.mem_singleton.mp hp; rfl) (hr.mono (by decide)) ⟨rfl, rfl, rfl, by decide +kernel, (by change ∀ y : Str × NameKind, y ∈ _ → y.2 = NameKind.free → List.lookup y.1 (defScope s_law).names = some NameKind.cell ∨ List.lookup y.1 (defScope s_law).names = some NameKind.free; decide +kernel)⟩ rfl (fun _ _ _ _ _ => rfl) (fun A outer s H E f2 c2 hr => have tk := takes_of (X := LamX.lamCx _ A outer s H E _ f2 c2) (E := E) rfl rfl rfl rfl; (pe_dS D_need_table (hr.mono (by decide)) tk (pa_cons (pv 3) (pa_cons (pv 13) pa_nil))))) (pe_tup (pa_cons pe_str (pa_cons (pv 9) pa_nil))) (nomark _)) (pss_one (ps_ret pe_bl)) pss_nil) (pss_cons (ps_if (pt_cmpR (op_neK K.K rfl hr.units) (pe_told (k := 8) (T := K.T) F__law_told m__law_told b__law_told sc__law_told rfl (.inl rfl) (fun cdg => gives__law_told T rfl rfl) TBc rfl (by rw [hT0]; exact List.mem_singleton.mpr rfl) (fun p hp _ => by rw [hT0] at hp; cases List.mem_singleton.mp hp; rfl) (hr.mono (by decide)) ⟨rfl, rfl, rfl, by decide +kernel, (by change ∀ y : Str × NameKind, y ∈ _ → y.2 = NameKind.free → List.lookup y.1 (defScope s_law).names = some NameKind.cell ∨ List.lookup y.1 (defScope s_law).names = some NameKind.free; decide +kernel)⟩ rfl (fun _ _ _ _ _ => rfl) (fun A outer s H E f2 c2 hr => have tk := takes_of (X := LamX.lamCx _ A outer s H E _ f2 c2) (E := E) rfl rfl rfl rfl; (pe_dS D_need_table (hr.mono (by decide)) tk (pa_cons (pv 3) (pa_cons (pe_d D__law_pick (hr.mono (by decide)) (pa_cons (pv 2) (pa_cons (pe_lst (pa_cons pe_non (pa_cons (pe_slice (sl_K K.K rfl) (pv 11) (po_some pe_int) po_none) (pa_cons pe_int pa_nil)))) pa_nil))) pa_nil))))) (pe_tup (pa_cons pe_str (pa_cons (pe_un un_neg pe_int) pa_nil))) (nomark _)) (pss_one (ps_ret pe_bl)) pss_nil) (pss_cons (ps_set (i := 14) sc_law.nd rfl (by first | exact Or.inl rfl | exact Or.inr rfl) (pe_d D__law_pick (hr.mono (by decide)) (pa_cons (pv 2) (pa_cons (pe_lst (pa_cons pe_non (pa_cons pe_int (pa_cons pe_int (pa_cons pe_bl (pa_cons pe_str pa_nil)))))) pa_nil)))) (pss_cons (ps_if (pt_cmpR (op_neK K.K rfl hr.units) (pe_told (k := 8) (T := K.T) F__law_told m__law_told b__law_told sc__law_told rfl (.inl rfl) (fun cdg => gives__law_told T rfl rfl) TBc rfl (by rw [hT0]; exact List.mem_singleton.mpr rfl) (fun p hp _ => by rw [hT0] at hp; cases List.mem_singleton.mp hp; rfl) (hr.mono (by decide)) ⟨rfl, rfl, rfl, by decide +kernel, (by change ∀ y : Str × NameKind, y ∈ _ → y.2 = NameKind.free → List.lookup y.1 (defScope s_law).names = some NameKind.cell ∨ List.lookup y.1 (defScope s_law).names = some NameKind.free; decide +kernel)⟩ rfl (fun _ _ _ _ _ => rfl) (fun A outer s H E f2 c2 hr => have tk := takes_of (X := LamX.lamCx _ A outer s H E _ f2 c2) (E := E) rfl rfl rfl rfl; (pe_dS D_need_size (hr.mono (by decide)) tk (pa_cons (pv 14) pa_nil)))) (pe_tup (pa_cons pe_str (pa_cons pe_str pa_nil))) (nomark _)) (pss_one (ps_ret pe_bl)) pss_nil) (pss_cons (ps_if (pt_cmpR (op_neK K.K rfl hr.units) (pe_told (k := 8) (T := K.T) F__law_told m__law_told b__law_told sc__law_told rfl (.inl rfl) (fun cdg => gives__law_told T rfl rfl) TBc rfl (by rw [hT0]; exact List.mem_singleton.mpr rfl) (fun p hp _ => by rw [hT0] at hp; cases List.mem_singleton.mp hp; rfl) (hr.mono (by decide)) ⟨rfl, rfl, rfl, by decide +kernel, (by change ∀ y : Str × NameKind, y ∈ _ → y.2 = NameKind.free → List.lookup y.1 (defScope s_law).names = some NameKind.cell ∨ List.lookup y.1 (defScope s_law).names = some NameKind.free; decide +kernel)⟩ rfl (fun _ _ _ _ _ => rfl) (fun A outer s H E f2 c2 hr => have tk := takes_of (X := LamX.lamCx _ A outer s H E _ f2 c2) (E := E) rfl rfl rfl rfl; (pe_dS D_lines_sheet (hr.mono (by decide)) tk (pa_cons (pv 14) (pa_cons pe_non pa_nil))))) (pe_tup (pa_cons pe_str (pa_cons pe_str pa_nil))) (nomark _)) (pss_one (ps_ret pe_bl)) pss_nil) (pss_one (ps_if (pt_cmpR (op_neK K.K rfl hr.units) (pe_told (k := 8) (T := K.T) F__law_told m__law_told b__law_told sc__law_told rfl (.inl rfl) (fun cdg => gives__law_told T rfl rfl) TBc rfl (by rw [hT0]; exact List.mem_singleton.mpr rfl) (fun p hp _ => by rw [hT0] at hp; cases List.mem_singleton.mp hp; rfl) (hr.mono (by decide)) ⟨rfl, rfl, rfl, by decide +kernel, (by change ∀ y : Str × NameKind, y ∈ _ → y.2 = NameKind.free → List.lookup y.1 (defScope s_law).names = some NameKind.cell ∨ List.lookup y.1 (defScope s_law).names = some NameKind.free; decide +kernel)⟩ rfl (fun _ _ _ _ _ => rfl) (fun A outer s H E f2 c2 hr => have tk := takes_of (X := LamX.lamCx _ A outer s H E _ f2 c2) (E := E) rfl rfl rfl rfl; (pe_dS D_need_table (hr.mono (by decide)) tk (pa_cons (pv 14) (pa_cons pe_non pa_nil))))) (pe_tup (pa_cons pe_str (pa_cons pe_str pa_nil))) (nomark _)) (pss_one (ps_ret pe_bl)) pss_nil)))))))))))))))))))))))) (pss_one (ps_ret pe_bl))))), ?_⟩
    exact body_Q (N := ["script", "k", "box", "size", "heads", "lines", "turn", "line", "due", "at", "bad", "table", "cell", "odd", "wrong"]) (ec := ecOf C 3) (W := fun _ _ _ _ => False) (sd_seq (sd_if (et_test (ed_op opd_neS (ed_callE (ea_cons ed_int (ea_cons (Eo.ed (eo_lst (ea_cons (ed_tup (ea_cons ed_non (ea_cons ed_non (ea_cons ed_int ea_nil)))) (ea_cons (ed_tup (ea_cons ed_int (ea_cons ed_non (ea_cons ed_int ea_nil)))) (ea_cons (Eo.ed (eo_lst (ea_cons ed_non (ea_cons ed_int (ea_cons (ed_tup (ea_cons ed_int (ea_cons ed_int ea_nil))) ea_nil))))) ea_nil))))) ea_nil))) (ed_tup (ea_cons (ed_tup (ea_cons ed_int (ea_cons ed_int ea_nil))) (ea_cons ed_int (ea_cons (ed_tup (ea_cons ed_int (ea_cons ed_int ea_nil))) (ea_cons ed_int ea_nil))))))) (sd_ret ed_bl) sd_next) (sd_seq (sd_if (et_test (ed_op opd_neS (ed_told (fun E => (ed_callE (ea_cons ed_int (ea_cons (Eo.ed (eo_lst (ea_cons (ed_tup (ea_cons ed_int (ea_cons ed_non (ea_cons ed_int ea_nil)))) ea_nil))) ea_nil)))) (hres__law_told T)) (ed_tup (ea_cons ed_str (ea_cons ed_int ea_nil))))) (sd_ret ed_bl) sd_next) (sd_seq (sd_for (id_rng1M (ea_cons ed_int ea_nil)) gd_name (sd_seq (sd_asgO (eo_call (ea_cons ed_var (ea_cons ed_var ea_nil)))) (sd_seq (sd_asg (ed_op opd_add ed_int (ed_callB (ea_cons ed_int ea_nil)))) (sd_seq (sd_asg (ed_op opd_add (Eo.ed (eo_lst (ea_cons ed_non ea_nil))) (Eo.ed (eo_listRg ed_var)))) (sd_seq (sd_asgO (eo_lst ea_nil)) (sd_seq (sd_for (id_rng1M (ea_cons (ed_op opd_add ed_int (ed_callB (ea_cons ed_int ea_nil))) ea_nil)) gd_name (sd_seq (sd_asg (ed_tup (ea_cons (ed_callB (ea_cons ed_var ea_nil)) (ea_cons (ed_callB (ea_cons ed_var ea_nil)) (ea_cons (ed_callB ea_nil) ea_nil))))) (sd_app (ed_callB (ea_cons (Eo.ed (eo_lst (ea_cons ed_var (ea_cons (ed_ca cad_list (ea_cons ed_var ea_nil)) ea_nil)))) ea_nil))))) (sd_seq (sd_if (et_test (ed_op opd_gt (ed_callB (ea_cons ed_int ea_nil)) ed_int)) (sd_asgO (eo_op opn_add (Eo.ed (eo_lst (ea_cons (ed_tup (ea_cons ed_non (ea_cons ed_non (ea_cons (ed_callB ea_nil) ea_nil)))) ea_nil))) ed_let)) sd_next) (sd_seq (sd_asg (ed_call (ea_cons ed_var (ea_cons ed_let ea_nil)))) (sd_seq (sd_if (et_test (ed_op opd_neS (ed_ca cad_repr (ea_cons (ed_told (fun E => (ed_kwE (ea_cons ed_tupO (ea_cons ed_var ea_nil)))) (hres__law_told T)) ea_nil)) (ed_ca cad_repr (ea_cons ed_var ea_nil)))) (sd_ret ed_bl) sd_next) (sd_seq (sd_asg (ed_callB (ea_cons (ed_op opd_add ed_lenO ed_int) ea_nil))) (sd_seq (sd_asg (ed_callB (ea_cons (Eo.ed (eo_lst (ea_cons ed_non (ea_cons (ed_tup (ea_cons ed_int (ea_cons ed_int ea_nil))) (ea_cons (ed_tup (ea_cons ed_var (ea_cons ed_int (ea_cons ed_int ea_nil)))) (ea_cons (ed_tup (ea_cons ed_int (ea_cons (ed_un und_neg ed_int) (ea_cons ed_int ea_nil)))) (ea_cons (ed_tup (ea_cons ed_int (ea_cons ed_bl (ea_cons ed_int ea_nil)))) (ea_cons (ed_tup (ea_cons ed_int (ea_cons ed_int (ea_cons (ed_un und_neg ed_int) ea_nil)))) (ea_cons (ed_tup (ea_cons ed_int (ea_cons ed_int (ea_cons ed_str ea_nil)))) (ea_cons (ed_tup (ea_cons ed_int (ea_cons ed_int (ea_cons ed_non ea_nil)))) (ea_cons (ed_tup (ea_cons ed_int (ea_cons ed_int (ea_cons (ed_tup (ea_cons ed_int (ea_cons ed_non ea_nil))) ea_nil)))) (ea_cons ed_str ea_nil)))))))))))) ea_nil))) (sd_seq (sd_if (et_test (ed_op opd_neS (ed_told (fun E => (ed_callE (ea_cons ed_var (ea_cons (ed_op opd_add (ed_op opd_add (ed_sl ed_let eb_no (eb_part ed_var)) (Eo.ed (eo_lst (ea_cons ed_var ea_nil)))) (ed_sl ed_let (eb_part ed_var) eb_no)) ea_nil)))) (hres__law_told T)) (ed_tup (ea_cons ed_str (ea_cons ed_var ea_nil))))) (sd_ret ed_bl) sd_next) (sd_seq (sd_if (et_test (ed_op opd_neS (ed_told (fun E => (ed_callE (ea_cons ed_var (ea_cons (ed_callB (ea_cons (Eo.ed (eo_lst (ea_cons ed_non (ea_cons ed_int (ea_cons ed_str ea_nil))))) ea_nil)) ea_nil)))) (hres__law_told T)) (ed_tup (ea_cons ed_str (ea_cons (ed_un und_neg ed_int) ea_nil))))) (sd_ret ed_bl) sd_next) (sd_seq (sd_asg (Eo.ed (eo_lc (id_rng1M (ea_cons (ed_op opd_mul ed_var ed_var) ea_nil)) gd_name (by decide) et_yes (ed_callB (ea_cons ed_var ea_nil))))) (sd_seq (sd_if (et_or (et_test (ed_op opd_neS (ed_kwE (ea_cons ed_var (ea_cons ed_var ea_nil))) (ed_ca cad_tuple (ea_cons ed_var ea_nil)))) (et_test (ed_op opd_neS (ed_kwE (ea_cons ed_var ea_nil)) ed_var))) (sd_ret ed_bl) sd_next) (sd_seq (sd_asg (ed_callB (ea_cons (ed_op opd_mul ed_var ed_var) ea_nil))) (sd_seq (sd_asg (ed_op opd_add (ed_op opd_add (ed_sl ed_var eb_no (eb_part ed_var)) (Eo.ed (eo_lst (ea_cons (ed_callB (ea_cons (Eo.ed (eo_lst (ea_cons ed_non (ea_cons ed_var (ea_cons (ed_un und_neg ed_int) (ea_cons ed_bl (ea_cons ed_str ea_nil))))))) ea_nil)) ea_nil)))) (ed_sl ed_var (eb_part (ed_op opd_add ed_var ed_int)) eb_no))) (sd_seq (sd_if (et_test (ed_op opd_neS (ed_told (fun E => (ed_callE (ea_cons ed_var (ea_cons ed_var ea_nil)))) (hres__law_told T)) (ed_tup (ea_cons ed_str (ea_cons ed_var ea_nil))))) (sd_ret ed_bl) sd_next) (sd_seq (sd_if (et_test (ed_op opd_neS (ed_told (fun E => (ed_callE (ea_cons ed_var (ea_cons (ed_callB (ea_cons (Eo.ed (eo_lst (ea_cons ed_non (ea_cons (ed_sl ed_var (eb_part ed_int) eb_no) (ea_cons ed_int ea_nil))))) ea_nil)) ea_nil)))) (hres__law_told T)) (ed_tup (ea_cons ed_str (ea_cons (ed_un und_neg ed_int) ea_nil))))) (sd_ret ed_bl) sd_next) (sd_seq (sd_asg (ed_callB (ea_cons (Eo.ed (eo_lst (ea_cons ed_non (ea_cons ed_int (ea_cons ed_int (ea_cons ed_bl (ea_cons ed_str ea_nil))))))) ea_nil))) (sd_seq (sd_if (et_test (ed_op opd_neS (ed_told (fun E => (ed_callE (ea_cons ed_var ea_nil))) (hres__law_told T)) (ed_tup (ea_cons ed_str (ea_cons ed_str ea_nil))))) (sd_ret ed_bl) sd_next) (sd_seq (sd_if (et_test (ed_op opd_neS (ed_told (fun E => (ed_callE (ea_cons ed_var (ea_cons ed_non ea_nil)))) (hres__law_told T)) (ed_tup (ea_cons ed_str (ea_cons ed_str ea_nil))))) (sd_ret ed_bl) sd_next) (sd_if (et_test (ed_op opd_neS (ed_told (fun E => (ed_callE (ea_cons ed_var (ea_cons ed_non ea_nil)))) (hres__law_told T)) (ed_tup (ea_cons ed_str (ea_cons ed_str ea_nil))))) (sd_ret ed_bl) sd_next))))))))))))))))))))))) (sd_ret ed_bl)))) h
  obtain ⟨t, h1, h2⟩ := main
  exact ⟨t, h1.nox, h2⟩
end
end K01

namespace K01
open PySem L2 Evl Pd
def F_is_integer : FnQ := denQ 1 (den_is_integer)
def F_is_sequence : FnQ := denQ 1 (den_is_sequence)
def F_met_cells : FnQ := denQ 5 (den_met_cells)
def F__law_box : FnN := denN 3 (den__law_box)
def F__law_take : FnB := denB 4 (den__law_take)
def F__law_due : FnQ := denQ 6 (den__law_due)
def F_is_number : FnQ := denQ 1 (den_is_number F_is_integer)
def F_is_below : FnQ := denQ 2 (den_is_below F_is_integer)
def F_is_size : FnQ := denQ 1 (den_is_size F_is_integer)
def F_told_thing : FnQ := denQ 1 (den_told_thing F_is_sequence)
def F__law_pick : FnB := denB 2 (den__law_pick F__law_take)
def F_is_place : FnQ := denQ 2 (den_is_place F_is_below)
def F_is_thing : FnQ := denQ 2 (den_is_thing F_is_number F_is_sequence)
def F__law_thing : FnB := denB 1 (den__law_thing F__law_pick)
def F_need_size : FnE := denE 1 (den_need_size F_is_size)
def F_is_line : FnQ := denQ 2 (den_is_line F_is_place F_is_thing F_is_sequence)
def F_need_table : FnE := denE 4 (den_need_table F_need_size F_is_sequence F_is_below)
def F_need_lines : FnE := denE 4 (den_need_lines F_is_sequence F_is_line)
def F_lines_sheet : FnE := denE 7 (den_lines_sheet F_need_size F_need_lines F_met_cells F_told_thing)
end K01

namespace K01
open PySem L2 Evl Pd
theorem lg {i : Int} {n : Nat} (h : i.natAbs < 2 ^ n) (hn : 0 < n) : i.natAbs.log2 < n := by
  by_cases h0 : i.natAbs = 0
  · rw [h0]
    simpa using hn
  · exact (Nat.log2_lt h0).mpr h
theorem mul_ok (i j : Int) (h1 : i.natAbs < 2 ^ 200) (h2 : j.natAbs < 2 ^ 200) : mulP (.int i) (.int j) = some (.int (i * j)) := by
  have a := lg h1 (by decide)
  have b := lg h2 (by decide)
  show (if _ then _ else _) = _
  rw [if_pos (by omega)]
theorem div_ok (i j : Int) (h1 : 0 < j) (h2 : j.natAbs < 2 ^ 200) : divP (.int i) (.int j) = some (.int (i / j)) := by
  have b := lg h2 (by decide)
  show (if _ then _ else _) = _
  rw [if_pos (by rw [Bool.and_eq_true]; exact ⟨decide_eq_true h1, decide_eq_true (by omega)⟩)]
def Box (m : Nat) (bd : List PyData) : Prop := ∃ x y z : Int, bd = [.int x, .int y, .int z] ∧ 0 ≤ x ∧ 0 ≤ y ∧ y < 2147483648 ∧ 0 ≤ z ∧ z ≤ m
theorem take_ok {m : Nat} {bd : List PyData} (hb : Box m bd) (hm : m < 100000) {many : Int} (h1 : 0 < many) (h2 : many < 1000000) :
    ∃ (d : Int) (bd' : List PyData), F__law_take bd [.int many] = some (.int d, bd') ∧ Box (m + 1) bd' ∧ 0 ≤ d ∧ d < many := by
  obtain ⟨x, y, z, rfl, hx, hy, hy2, hz, hz2⟩ := hb
  by_cases hx0 : 0 < x
  · refine ⟨x % many, [.int (x / many), .int y, .int z], ?_, ⟨_, _, _, rfl, Int.ediv_nonneg hx (by omega), hy, hy2, hz, by omega⟩, Int.emod_nonneg _ (by omega), Int.emod_lt_of_pos _ h1⟩
    simp [F__law_take, den__law_take, hx0, h1, div_ok x many h1 (by omega), listM, varM, letM, conM, opM, unM, caM, nilM, consM, tupM, lstM, boolM, andB, orB, notB, andV, orV, notV, ifM, seqS, nextS, breakS, contS, asgS, asgO, dropS, retS, retO, retN, ifS, appS, nameG, seqG, tupG, listI, tupI, seqI, rng1I, rng2I, enumI, callM, callE, callN, callB, raiseS, setS, isi1M, isi2M, truB, chainM, noM, partM, slM, lenOM, ixOM, tupOM, toldM, kwM, kwE, enumTI, enumSI, enumOI, yesB, opN, caN, rng1M, asgG, lrgM, bnd, bndS, bnd0, rho0, rhoB, denQ, denE, denN, denB, outQ, outE, outN, outB, i2, b2, addP, subP, modP, powP, ltP, leP, gtP, geP, isP, isNotP, isNoneP, ixP, negP, lenP, absP, intP, tupleP, listP, at?, truD]
  · have x0 : x = 0 := by omega
    subst x0
    have e1 := mul_ok 70001 (z + 1) (by decide) (by omega)
    have e2 := mul_ok (y + 70001 * (z + 1)) 61211 (by omega) (by decide)
    have r0 : 0 ≤ ((y + 70001 * (z + 1)) * 61211 + 37) % 2147483563 := Int.emod_nonneg _ (by decide)
    have r1 : ((y + 70001 * (z + 1)) * 61211 + 37) % 2147483563 < 2147483563 := Int.emod_lt_of_pos _ (by decide)
    generalize hr : ((y + 70001 * (z + 1)) * 61211 + 37) % 2147483563 = raw at r0 r1
    have e3 := mul_ok raw 38011 (by omega) (by decide)
    have e4 := mul_ok raw 2147483647 (by omega) (by decide)
    have s0 : 0 ≤ (raw * 38011 + 23057) % 2147483629 := Int.emod_nonneg _ (by decide)
    have s1 : (raw * 38011 + 23057) % 2147483629 < 2147483629 := Int.emod_lt_of_pos _ (by decide)
    have e5 := div_ok (raw * 2147483647 + ((raw * 38011 + 23057) % 2147483629 + 1)) 8191 (by decide) (by decide)
    refine ⟨(raw * 2147483647 + ((raw * 38011 + 23057) % 2147483629 + 1)) / 8191 % many, [.int 0, .int ((raw * 38011 + 23057) % 2147483629 + 1), .int (z + 1)], ?_, ⟨_, _, _, rfl, by decide, by omega, by omega, by omega, by omega⟩, Int.emod_nonneg _ (by omega), Int.emod_lt_of_pos _ h1⟩
    simp [F__law_take, den__law_take, h1, e1, e2, e3, e4, e5, hr, listM, varM, letM, conM, opM, unM, caM, nilM, consM, tupM, lstM, boolM, andB, orB, notB, andV, orV, notV, ifM, seqS, nextS, breakS, contS, asgS, asgO, dropS, retS, retO, retN, ifS, appS, nameG, seqG, tupG, listI, tupI, seqI, rng1I, rng2I, enumI, callM, callE, callN, callB, raiseS, setS, isi1M, isi2M, truB, chainM, noM, partM, slM, lenOM, ixOM, tupOM, toldM, kwM, kwE, enumTI, enumSI, enumOI, yesB, opN, caN, rng1M, asgG, lrgM, bnd, bndS, bnd0, rho0, rhoB, denQ, denE, denN, denB, outQ, outE, outN, outB, i2, b2, addP, subP, modP, powP, ltP, leP, gtP, geP, isP, isNotP, isNoneP, ixP, negP, lenP, absP, intP, tupleP, listP, at?, truD]
end K01

namespace K01
open PySem L2 Evl Pd
theorem Box.of {m : Nat} {bd : List PyData} (h : Box m bd) : ∃ a b c, bd = [a, b, c] := by
  obtain ⟨x, y, z, rfl, _⟩ := h
  exact ⟨_, _, _, rfl⟩
theorem pick_ok {m : Nat} {bd : List PyData} (hb : Box m bd) (hm : m < 100000) (ds : List PyData) (h1 : 0 < ds.length) (h2 : ds.length < 1000000) :
    ∃ (d : PyData) (bd' : List PyData), F__law_pick bd [.list ds] = some (d, bd') ∧ Box (m + 1) bd' ∧ d ∈ ds := by
  obtain ⟨d, bd', e, hb', d0, d1⟩ := take_ok hb hm (many := ds.length) (by omega) (by omega)
  obtain ⟨j, rfl⟩ := Int.eq_ofNat_of_zero_le d0
  have hj : j < ds.length := by omega
  refine ⟨ds[j], bd', ?_, hb', List.getElem_mem hj⟩
  simp [F__law_pick, den__law_pick, e, hj, listM, varM, letM, conM, opM, unM, caM, nilM, consM, tupM, lstM, boolM, andB, orB, notB, andV, orV, notV, ifM, seqS, nextS, breakS, contS, asgS, asgO, dropS, retS, retO, retN, ifS, appS, nameG, seqG, tupG, listI, tupI, seqI, rng1I, rng2I, enumI, callM, callE, callN, callB, raiseS, setS, isi1M, isi2M, truB, chainM, noM, partM, slM, lenOM, ixOM, tupOM, toldM, kwM, kwE, enumTI, enumSI, enumOI, yesB, opN, caN, rng1M, asgG, lrgM, bnd, bndS, bnd0, rho0, rhoB, denQ, denE, denN, denB, outQ, outE, outN, outB, i2, b2, addP, subP, modP, powP, ltP, leP, gtP, geP, isP, isNotP, isNoneP, ixP, negP, lenP, absP, intP, tupleP, listP, at?, truD]
def things : List PyData := [.int 0, .int 1, .int 7, .tuple [.int 1, .int 0], .list [.int 1, .int 0], .tuple [.int 2, .int 0], .tuple []]
theorem thing_ok {m : Nat} {bd : List PyData} (hb : Box m bd) (hm : m < 100000) :
    ∃ (d : PyData) (bd' : List PyData), F__law_thing bd [] = some (d, bd') ∧ Box (m + 1) bd' ∧ d ∈ things := by
  obtain ⟨d, bd', e, hb', hd⟩ := pick_ok hb hm things (by decide) (by decide)
  refine ⟨d, bd', ?_, hb', hd⟩
  unfold things at e
  simp [F__law_thing, den__law_thing, e, listM, varM, letM, conM, opM, unM, caM, nilM, consM, tupM, lstM, boolM, andB, orB, notB, andV, orV, notV, ifM, seqS, nextS, breakS, contS, asgS, asgO, dropS, retS, retO, retN, ifS, appS, nameG, seqG, tupG, listI, tupI, seqI, rng1I, rng2I, enumI, callM, callE, callN, callB, raiseS, setS, isi1M, isi2M, truB, chainM, noM, partM, slM, lenOM, ixOM, tupOM, toldM, kwM, kwE, enumTI, enumSI, enumOI, yesB, opN, caN, rng1M, asgG, lrgM, bnd, bndS, bnd0, rho0, rhoB, denQ, denE, denN, denB, outQ, outE, outN, outB, i2, b2, addP, subP, modP, powP, ltP, leP, gtP, geP, isP, isNotP, isNoneP, ixP, negP, lenP, absP, intP, tupleP, listP, at?, truD]
theorem box_ok (ns : List Int) (k : Int) (h0 : 0 ≤ k) (h1 : k < 100) : ∃ bd, F__law_box [scrD ns, .int k] = some bd ∧ Box 0 bd := by
  have m1 := mul_ok 4133 k (by decide) (by omega)
  have m2 := mul_ok 53089 k (by decide) (by omega)
  have lenE : (ns.map PyData.int).length = ns.length := List.length_map ..
  have fin : ∀ c : Int, 0 ≤ c → ∃ x y : Int, 0 ≤ x ∧ 0 ≤ y ∧ y < 2147483648 ∧ mulP (.int (c % 2147483629)) (.int 44017) = some (.int (c % 2147483629 * 44017)) ∧ x = (if 1000000000000000000 ≤ c then c else 0) ∧ y = (c % 2147483629 * 44017 + 53089 * k) % 2147483629 + 1 := fun c hc => by
    have a0 : 0 ≤ c % 2147483629 := Int.emod_nonneg _ (by decide)
    have a1 : c % 2147483629 < 2147483629 := Int.emod_lt_of_pos _ (by decide)
    have b0 : 0 ≤ (c % 2147483629 * 44017 + 53089 * k) % 2147483629 := Int.emod_nonneg _ (by decide)
    have b1 : (c % 2147483629 * 44017 + 53089 * k) % 2147483629 < 2147483629 := Int.emod_lt_of_pos _ (by decide)
    refine ⟨_, _, ?_, ?_, ?_, mul_ok _ _ (by omega) (by decide), rfl, rfl⟩
    · split <;> omega
    · omega
    · omega
  have out : ∀ c : Int, 0 ≤ c → ∀ r, (∀ x y : Int, x = (if 1000000000000000000 ≤ c then c else 0) → y = (c % 2147483629 * 44017 + 53089 * k) % 2147483629 + 1 → mulP (.int (c % 2147483629)) (.int 44017) = some (.int (c % 2147483629 * 44017)) → r = some [PyData.int x, .int y, .int 0]) → ∃ bd, r = some bd ∧ Box 0 bd := fun c hc r hr => by
    obtain ⟨x, y, x0, y0, y1, m, ex, ey⟩ := fin c hc
    exact ⟨_, hr x y ex ey m, x, y, 0, rfl, x0, y0, y1, by decide, by decide⟩
  by_cases hk : k < ns.length
  · obtain ⟨j, rfl⟩ := Int.eq_ofNat_of_zero_le h0
    have hj : j < ns.length := by omega
    refine out (if ns[j] < 0 then - ns[j] else ns[j]) (by split <;> omega) _ fun x y ex ey m => ?_
    subst ex ey
    by_cases hc : 1000000000000000000 ≤ (if ns[j] < 0 then - ns[j] else ns[j])
    · simp [F__law_box, den__law_box, m1, m2, m, hk, hj, hc, listM, varM, letM, conM, opM, unM, caM, nilM, consM, tupM, lstM, boolM, andB, orB, notB, andV, orV, notV, ifM, seqS, nextS, breakS, contS, asgS, asgO, dropS, retS, retO, retN, ifS, appS, nameG, seqG, tupG, listI, tupI, seqI, rng1I, rng2I, enumI, callM, callE, callN, callB, raiseS, setS, isi1M, isi2M, truB, chainM, noM, partM, slM, lenOM, ixOM, tupOM, toldM, kwM, kwE, enumTI, enumSI, enumOI, yesB, opN, caN, rng1M, asgG, lrgM, bnd, bndS, bnd0, rho0, rhoB, denQ, denE, denN, denB, outQ, outE, outN, outB, i2, b2, addP, subP, modP, powP, ltP, leP, gtP, geP, isP, isNotP, isNoneP, ixP, negP, lenP, absP, intP, tupleP, listP, at?, truD]
    · simp [F__law_box, den__law_box, m1, m2, m, hk, hj, hc, listM, varM, letM, conM, opM, unM, caM, nilM, consM, tupM, lstM, boolM, andB, orB, notB, andV, orV, notV, ifM, seqS, nextS, breakS, contS, asgS, asgO, dropS, retS, retO, retN, ifS, appS, nameG, seqG, tupG, listI, tupI, seqI, rng1I, rng2I, enumI, callM, callE, callN, callB, raiseS, setS, isi1M, isi2M, truB, chainM, noM, partM, slM, lenOM, ixOM, tupOM, toldM, kwM, kwE, enumTI, enumSI, enumOI, yesB, opN, caN, rng1M, asgG, lrgM, bnd, bndS, bnd0, rho0, rhoB, denQ, denE, denN, denB, outQ, outE, outN, outB, i2, b2, addP, subP, modP, powP, ltP, leP, gtP, geP, isP, isNotP, isNoneP, ixP, negP, lenP, absP, intP, tupleP, listP, at?, truD]
  · by_cases hn : 0 < ns.length
    · have q0 : 0 ≤ k % ns.length := Int.emod_nonneg _ (by omega)
      have q1 : k % ns.length < ns.length := Int.emod_lt_of_pos _ (by omega)
      obtain ⟨j, hj⟩ := Int.eq_ofNat_of_zero_le q0
      have hj2 : j < ns.length := by omega
      have a0 : 0 ≤ (if ns[j] < 0 then - ns[j] else ns[j]) % 2147483629 := Int.emod_nonneg _ (by decide)
      have a1 : (if ns[j] < 0 then - ns[j] else ns[j]) % 2147483629 < 2147483629 := Int.emod_lt_of_pos _ (by decide)
      have m3 := mul_ok ((if ns[j] < 0 then - ns[j] else ns[j]) % 2147483629) 70009 (by omega) (by decide)
      refine out (4133 * k + 311 + (if ns[j] < 0 then - ns[j] else ns[j]) % 2147483629 * 70009) (by omega) _ fun x y ex ey m => ?_
      subst ex ey
      by_cases hc : 1000000000000000000 ≤ (4133 * k + 311 + (if ns[j] < 0 then - ns[j] else ns[j]) % 2147483629 * 70009)
      · simp [F__law_box, den__law_box, m1, m2, m3, m, hk, hn, hj, hj2, hc, listM, varM, letM, conM, opM, unM, caM, nilM, consM, tupM, lstM, boolM, andB, orB, notB, andV, orV, notV, ifM, seqS, nextS, breakS, contS, asgS, asgO, dropS, retS, retO, retN, ifS, appS, nameG, seqG, tupG, listI, tupI, seqI, rng1I, rng2I, enumI, callM, callE, callN, callB, raiseS, setS, isi1M, isi2M, truB, chainM, noM, partM, slM, lenOM, ixOM, tupOM, toldM, kwM, kwE, enumTI, enumSI, enumOI, yesB, opN, caN, rng1M, asgG, lrgM, bnd, bndS, bnd0, rho0, rhoB, denQ, denE, denN, denB, outQ, outE, outN, outB, i2, b2, addP, subP, modP, powP, ltP, leP, gtP, geP, isP, isNotP, isNoneP, ixP, negP, lenP, absP, intP, tupleP, listP, at?, truD]
      · simp [F__law_box, den__law_box, m1, m2, m3, m, hk, hn, hj, hj2, hc, listM, varM, letM, conM, opM, unM, caM, nilM, consM, tupM, lstM, boolM, andB, orB, notB, andV, orV, notV, ifM, seqS, nextS, breakS, contS, asgS, asgO, dropS, retS, retO, retN, ifS, appS, nameG, seqG, tupG, listI, tupI, seqI, rng1I, rng2I, enumI, callM, callE, callN, callB, raiseS, setS, isi1M, isi2M, truB, chainM, noM, partM, slM, lenOM, ixOM, tupOM, toldM, kwM, kwE, enumTI, enumSI, enumOI, yesB, opN, caN, rng1M, asgG, lrgM, bnd, bndS, bnd0, rho0, rhoB, denQ, denE, denN, denB, outQ, outE, outN, outB, i2, b2, addP, subP, modP, powP, ltP, leP, gtP, geP, isP, isNotP, isNoneP, ixP, negP, lenP, absP, intP, tupleP, listP, at?, truD]
    · refine out (4133 * k + 311) (by omega) _ fun x y ex ey m => ?_
      subst ex ey
      by_cases hc : 1000000000000000000 ≤ 4133 * k + 311
      · simp [F__law_box, den__law_box, m1, m2, m, hk, hn, hc, listM, varM, letM, conM, opM, unM, caM, nilM, consM, tupM, lstM, boolM, andB, orB, notB, andV, orV, notV, ifM, seqS, nextS, breakS, contS, asgS, asgO, dropS, retS, retO, retN, ifS, appS, nameG, seqG, tupG, listI, tupI, seqI, rng1I, rng2I, enumI, callM, callE, callN, callB, raiseS, setS, isi1M, isi2M, truB, chainM, noM, partM, slM, lenOM, ixOM, tupOM, toldM, kwM, kwE, enumTI, enumSI, enumOI, yesB, opN, caN, rng1M, asgG, lrgM, bnd, bndS, bnd0, rho0, rhoB, denQ, denE, denN, denB, outQ, outE, outN, outB, i2, b2, addP, subP, modP, powP, ltP, leP, gtP, geP, isP, isNotP, isNoneP, ixP, negP, lenP, absP, intP, tupleP, listP, at?, truD]
      · simp [F__law_box, den__law_box, m1, m2, m, hk, hn, hc, listM, varM, letM, conM, opM, unM, caM, nilM, consM, tupM, lstM, boolM, andB, orB, notB, andV, orV, notV, ifM, seqS, nextS, breakS, contS, asgS, asgO, dropS, retS, retO, retN, ifS, appS, nameG, seqG, tupG, listI, tupI, seqI, rng1I, rng2I, enumI, callM, callE, callN, callB, raiseS, setS, isi1M, isi2M, truB, chainM, noM, partM, slM, lenOM, ixOM, tupOM, toldM, kwM, kwE, enumTI, enumSI, enumOI, yesB, opN, caN, rng1M, asgG, lrgM, bnd, bndS, bnd0, rho0, rhoB, denQ, denE, denN, denB, outQ, outE, outN, outB, i2, b2, addP, subP, modP, powP, ltP, leP, gtP, geP, isP, isNotP, isNoneP, ixP, negP, lenP, absP, intP, tupleP, listP, at?, truD]
end K01

namespace K01
open PySem L2 Evl Pd
@[simp] theorem nd_non : noDict .none = true := rfl
@[simp] theorem nd_bool (b : Bool) : noDict (.bool b) = true := rfl
@[simp] theorem nd_int (i : Int) : noDict (.int i) = true := rfl
@[simp] theorem nd_str (x : Str) : noDict (.str x) = true := rfl
@[simp] theorem nd_list (ds : List PyData) : noDict (.list ds) = true := rfl
@[simp] theorem nd_tup (ds : List PyData) : noDict (.tuple ds) = true := rfl
def isInt : PyData → Bool | .int _ => true | _ => false
theorem F_is_integer_eq (d : PyData) (h : noDict d = true) : F_is_integer [d] = some (PyData.bool (isInt d)) := by
  cases d <;> first | rfl | cases h
@[simp] theorem F_is_integer_int (i : Int) : F_is_integer [.int i] = some (PyData.bool true) := F_is_integer_eq _ rfl
@[simp] theorem F_is_integer_non : F_is_integer [.none] = some (PyData.bool false) := F_is_integer_eq _ rfl
@[simp] theorem F_is_integer_bool (b : Bool) : F_is_integer [.bool b] = some (PyData.bool false) := F_is_integer_eq _ rfl
@[simp] theorem F_is_integer_str (b : Str) : F_is_integer [.str b] = some (PyData.bool false) := F_is_integer_eq _ rfl
@[simp] theorem F_is_integer_list (b : List PyData) : F_is_integer [.list b] = some (PyData.bool false) := F_is_integer_eq _ rfl
@[simp] theorem F_is_integer_tup (b : List PyData) : F_is_integer [.tuple b] = some (PyData.bool false) := F_is_integer_eq _ rfl
def isNum : PyData → Bool | .int i => decide (0 ≤ i) | _ => false
theorem F_is_number_eq {d : PyData} (h : noDict d = true) : F_is_number [d] = some (PyData.bool (isNum d)) := by
  cases d <;> first | rfl | cases h
def isBel (d : PyData) (n : Int) : Bool := match d with | .int i => decide (0 ≤ i) && decide (i < n) | _ => false
theorem F_is_below_eq {d : PyData} (h : noDict d = true) (n : Int) : F_is_below [d, .int n] = some (PyData.bool (isBel d n)) := by
  cases d with
  | int i =>
    by_cases h1 : 0 ≤ i
    · simp [F_is_below, den_is_below, isBel, h1, listM, varM, letM, conM, opM, unM, caM, nilM, consM, tupM, lstM, boolM, andB, orB, notB, andV, orV, notV, ifM, seqS, nextS, breakS, contS, asgS, asgO, dropS, retS, retO, retN, ifS, appS, nameG, seqG, tupG, listI, tupI, seqI, rng1I, rng2I, enumI, callM, callE, callN, callB, raiseS, setS, isi1M, isi2M, truB, chainM, noM, partM, slM, lenOM, ixOM, tupOM, toldM, kwM, kwE, enumTI, enumSI, enumOI, yesB, opN, caN, rng1M, asgG, lrgM, bnd, bndS, bnd0, rho0, rhoB, denQ, denE, denN, denB, outQ, outE, outN, outB, i2, b2, addP, subP, modP, powP, ltP, leP, gtP, geP, isP, isNotP, isNoneP, ixP, negP, lenP, absP, intP, tupleP, listP, at?, truD]
    · simp [F_is_below, den_is_below, isBel, h1, listM, varM, letM, conM, opM, unM, caM, nilM, consM, tupM, lstM, boolM, andB, orB, notB, andV, orV, notV, ifM, seqS, nextS, breakS, contS, asgS, asgO, dropS, retS, retO, retN, ifS, appS, nameG, seqG, tupG, listI, tupI, seqI, rng1I, rng2I, enumI, callM, callE, callN, callB, raiseS, setS, isi1M, isi2M, truB, chainM, noM, partM, slM, lenOM, ixOM, tupOM, toldM, kwM, kwE, enumTI, enumSI, enumOI, yesB, opN, caN, rng1M, asgG, lrgM, bnd, bndS, bnd0, rho0, rhoB, denQ, denE, denN, denB, outQ, outE, outN, outB, i2, b2, addP, subP, modP, powP, ltP, leP, gtP, geP, isP, isNotP, isNoneP, ixP, negP, lenP, absP, intP, tupleP, listP, at?, truD]
  | dict _ => cases h
  | _ => rfl
@[simp] theorem F_is_below_int (i n : Int) : F_is_below [.int i, .int n] = some (PyData.bool (decide (0 ≤ i) && decide (i < n))) := F_is_below_eq rfl n
@[simp] theorem F_is_below_bool (b : Bool) (n : Int) : F_is_below [.bool b, .int n] = some (PyData.bool false) := F_is_below_eq rfl n
@[simp] theorem F_is_below_str (b : Str) (n : Int) : F_is_below [.str b, .int n] = some (PyData.bool false) := F_is_below_eq rfl n
@[simp] theorem F_is_below_list (b : List PyData) (n : Int) : F_is_below [.list b, .int n] = some (PyData.bool false) := F_is_below_eq rfl n
@[simp] theorem F_is_below_tup (b : List PyData) (n : Int) : F_is_below [.tuple b, .int n] = some (PyData.bool false) := F_is_below_eq rfl n
def isSeq : PyData → Bool | .list _ => true | .tuple _ => true | _ => false
theorem F_is_sequence_eq {d : PyData} (h : noDict d = true) : F_is_sequence [d] = some (PyData.bool (isSeq d)) := by
  cases d <;> first | rfl | cases h
def isSize : PyData → Bool | .int i => decide (i = 2) || decide (i = 3) | _ => false
theorem F_is_size_eq {d : PyData} (h : noDict d = true) : F_is_size [d] = some (PyData.bool (isSize d)) := by
  cases d with
  | int i =>
    simp [F_is_size, den_is_size, isSize, inP, flatD, PyData.eqv, listM, varM, letM, conM, opM, unM, caM, nilM, consM, tupM, lstM, boolM, andB, orB, notB, andV, orV, notV, ifM, seqS, nextS, breakS, contS, asgS, asgO, dropS, retS, retO, retN, ifS, appS, nameG, seqG, tupG, listI, tupI, seqI, rng1I, rng2I, enumI, callM, callE, callN, callB, raiseS, setS, isi1M, isi2M, truB, chainM, noM, partM, slM, lenOM, ixOM, tupOM, toldM, kwM, kwE, enumTI, enumSI, enumOI, yesB, opN, caN, rng1M, asgG, lrgM, bnd, bndS, bnd0, rho0, rhoB, denQ, denE, denN, denB, outQ, outE, outN, outB, i2, b2, addP, subP, modP, powP, ltP, leP, gtP, geP, isP, isNotP, isNoneP, ixP, negP, lenP, absP, intP, tupleP, listP, at?, truD]
    have e : ∀ k : Int, (k == i) = decide (i = k) := fun k => by
      by_cases h : i = k
      · subst h; simp
      · rw [decide_eq_false h]
        exact beq_eq_false_iff_ne.mpr (Ne.symm h)
    rw [e, e]
  | dict _ => cases h
  | _ => rfl
def toldThing : PyData → PyData | .list ds => .tuple ds | d => d
theorem F_told_thing_eq {d : PyData} (h : noDict d = true) : F_told_thing [d] = some (toldThing d) := by
  cases d <;> first | rfl | cases h
def isPlace (n : Int) (d : PyData) : Bool := match d with | .none => true | d => isBel d n
theorem F_is_place_eq {d : PyData} (h : noDict d = true) (n : Int) : F_is_place [.int n, d] = some (PyData.bool (isPlace n d)) := by
  cases d with
  | none => rfl
  | dict _ => cases h
  | _ => simp [F_is_place, den_is_place, isPlace, isBel, listM, varM, letM, conM, opM, unM, caM, nilM, consM, tupM, lstM, boolM, andB, orB, notB, andV, orV, notV, ifM, seqS, nextS, breakS, contS, asgS, asgO, dropS, retS, retO, retN, ifS, appS, nameG, seqG, tupG, listI, tupI, seqI, rng1I, rng2I, enumI, callM, callE, callN, callB, raiseS, setS, isi1M, isi2M, truB, chainM, noM, partM, slM, lenOM, ixOM, tupOM, toldM, kwM, kwE, enumTI, enumSI, enumOI, yesB, opN, caN, rng1M, asgG, lrgM, bnd, bndS, bnd0, rho0, rhoB, denQ, denE, denN, denB, outQ, outE, outN, outB, i2, b2, addP, subP, modP, powP, ltP, leP, gtP, geP, isP, isNotP, isNoneP, ixP, negP, lenP, absP, intP, tupleP, listP, at?, truD]

@[simp] theorem F_is_number_int (i : Int) : F_is_number [.int i] = some (PyData.bool (decide (0 ≤ i))) := F_is_number_eq (d := .int i) rfl
@[simp] theorem F_is_sequence_int (i : Int) : F_is_sequence [.int i] = some (PyData.bool false) := F_is_sequence_eq (d := .int i) rfl
@[simp] theorem F_is_sequence_non : F_is_sequence [.none] = some (PyData.bool false) := F_is_sequence_eq (d := .none) rfl
@[simp] theorem F_is_sequence_bool (b : Bool) : F_is_sequence [.bool b] = some (PyData.bool false) := F_is_sequence_eq (d := .bool b) rfl
@[simp] theorem F_is_sequence_str (b : Str) : F_is_sequence [.str b] = some (PyData.bool false) := F_is_sequence_eq (d := .str b) rfl
@[simp] theorem F_is_sequence_list (b : List PyData) : F_is_sequence [.list b] = some (PyData.bool true) := F_is_sequence_eq (d := .list b) rfl
@[simp] theorem F_is_sequence_tup (b : List PyData) : F_is_sequence [.tuple b] = some (PyData.bool true) := F_is_sequence_eq (d := .tuple b) rfl
def needSize (d : PyData) : Rs := if isSize d = true then .ok d else .er 3 (.str "size")
theorem need_size_eq {d : PyData} (h : noDict d = true) : F_need_size [d] = some (needSize d) := by
  have e := F_is_size_eq h
  unfold needSize
  by_cases hs : isSize d = true
  · rw [if_pos hs]
    rw [hs] at e
    simp [F_need_size, den_need_size, e, raiseS, listM, varM, letM, conM, opM, unM, caM, nilM, consM, tupM, lstM, boolM, andB, orB, notB, andV, orV, notV, ifM, seqS, nextS, breakS, contS, asgS, asgO, dropS, retS, retO, retN, ifS, appS, nameG, seqG, tupG, listI, tupI, seqI, rng1I, rng2I, enumI, callM, callE, callN, callB, raiseS, setS, isi1M, isi2M, truB, chainM, noM, partM, slM, lenOM, ixOM, tupOM, toldM, kwM, kwE, enumTI, enumSI, enumOI, yesB, opN, caN, rng1M, asgG, lrgM, bnd, bndS, bnd0, rho0, rhoB, denQ, denE, denN, denB, outQ, outE, outN, outB, i2, b2, addP, subP, modP, powP, ltP, leP, gtP, geP, isP, isNotP, isNoneP, ixP, negP, lenP, absP, intP, tupleP, listP, at?, truD]
  · rw [if_neg hs]
    rw [Bool.not_eq_true] at hs
    rw [hs] at e
    simp [F_need_size, den_need_size, e, raiseS, listM, varM, letM, conM, opM, unM, caM, nilM, consM, tupM, lstM, boolM, andB, orB, notB, andV, orV, notV, ifM, seqS, nextS, breakS, contS, asgS, asgO, dropS, retS, retO, retN, ifS, appS, nameG, seqG, tupG, listI, tupI, seqI, rng1I, rng2I, enumI, callM, callE, callN, callB, raiseS, setS, isi1M, isi2M, truB, chainM, noM, partM, slM, lenOM, ixOM, tupOM, toldM, kwM, kwE, enumTI, enumSI, enumOI, yesB, opN, caN, rng1M, asgG, lrgM, bnd, bndS, bnd0, rho0, rhoB, denQ, denE, denN, denB, outQ, outE, outN, outB, i2, b2, addP, subP, modP, powP, ltP, leP, gtP, geP, isP, isNotP, isNoneP, ixP, negP, lenP, absP, intP, tupleP, listP, at?, truD]
/-! loops that look for a wrong one; comprehensions over one state -/
theorem loop_scan {tg : DG} {body : DS} (R : Rho → Prop) (good : PyData → Bool) (err : PyData → Nat × PyData) : ∀ (ds : List PyData) (ρ : Rho), R ρ →
    (∀ d ∈ ds, ∀ ρ, R ρ → ∃ ρ1, tg d ρ = some ρ1 ∧ (good d = true → ∃ ρ2, body ρ1 = some (.nx ρ2) ∧ R ρ2) ∧ (good d = false → ∃ ρ2, body ρ1 = some (.ex (err d).1 (err d).2 ρ2))) →
    (ds.find? (fun d => !good d) = none → ∃ ρ', loopS tg body ds ρ = some (.nx ρ') ∧ R ρ') ∧ (∀ d, ds.find? (fun d => !good d) = some d → ∃ ρ', loopS tg body ds ρ = some (.ex (err d).1 (err d).2 ρ'))
  | [], ρ, hR, _ => ⟨fun _ => ⟨ρ, rfl, hR⟩, fun d h => by cases h⟩
  | d :: ds, ρ, hR, step => by
    obtain ⟨ρ1, e1, hg, hb⟩ := step d List.mem_cons_self ρ hR
    cases hd : good d with
    | true =>
      obtain ⟨ρ2, e2, hR2⟩ := hg hd
      have ih := loop_scan R good err ds ρ2 hR2 fun x hx => step x (List.mem_cons_of_mem _ hx)
      have el : loopS tg body (d :: ds) ρ = loopS tg body ds ρ2 := by
        show (match tg d ρ with | none => none | some ρ1 => _) = _
        rw [e1]
        show (match body ρ1 with | some (.nx ρ2) => _ | some (.ct ρ2) => _ | some (.bk ρ2) => _ | x => _) = _
        rw [e2]
      have ef : (d :: ds).find? (fun d => !good d) = ds.find? (fun d => !good d) := by rw [List.find?_cons_of_neg (by rw [hd]; decide)]
      rw [el, ef]
      exact ih
    | false =>
      obtain ⟨ρ2, e2⟩ := hb hd
      have ef : (d :: ds).find? (fun d => !good d) = some d := by rw [List.find?_cons_of_pos (by rw [hd]; rfl)]
      rw [ef]
      refine ⟨(fun h => by cases h), fun d' h => ?_⟩
      cases h
      refine ⟨ρ2, ?_⟩
      show (match tg d ρ with | none => none | some ρ1 => _) = _
      rw [e1]
      show (match body ρ1 with | some (.nx ρ2) => _ | some (.ct ρ2) => _ | some (.bk ρ2) => _ | x => _) = _
      rw [e2]
theorem lc_pure {tg : DG} {tt : DB} {e : DE} {vs : List Nat} {ρ0 : Rho} (P : PyData → Bool) (g : PyData → PyData) : ∀ (ds acc : List PyData),
    (∀ d ∈ ds, ∃ ρ1 ρ2, tg d ρ0 = some ρ1 ∧ tt ρ1 = some (.ok (P d) ρ2) ∧ (P d = true → ∃ ρ3, e ρ2 = some (.ok (g d) ρ3) ∧ wipeR ρ3 vs = ρ0) ∧ (P d = false → wipeR ρ2 vs = ρ0)) → acc.length + ds.length ≤ 100000 →
    lcL tg tt e vs ds acc ρ0 = some (acc ++ (ds.filter P).map g, ρ0)
  | [], acc, _, _ => by
    rw [List.filter_nil, List.map_nil, List.append_nil]
    rfl
  | d :: ds, acc, h, hl => by
    obtain ⟨ρ1, ρ2, e1, e2, h1, h2⟩ := h d List.mem_cons_self
    rw [List.length_cons] at hl
    unfold lcL
    rw [e1]
    show bnd0 (tt ρ1) _ = _
    rw [e2, bnd0_ok]
    cases hp : P d with
    | true =>
      obtain ⟨ρ3, e3, e4⟩ := h1 hp
      rw [if_pos rfl, e3, bnd0_ok, if_pos (by omega), e4, List.filter_cons_of_pos hp, List.map_cons]
      rw [lc_pure P g ds (acc ++ [g d]) (fun x hx => h x (List.mem_cons_of_mem _ hx)) (by rw [List.length_append]; simp only [List.length_cons, List.length_nil]; omega), List.append_assoc]
      rfl
    | false =>
      rw [if_neg (by decide), h2 hp, List.filter_cons_of_neg (by rw [hp]; decide)]
      exact lc_pure P g ds acc (fun x hx => h x (List.mem_cons_of_mem _ hx)) (by omega)
end K01

namespace K01
open PySem L2 Evl Pd
theorem filter_true {α : Type} : ∀ l : List α, l.filter (fun _ => true) = l
  | [] => rfl
  | a :: l => by rw [List.filter_cons_of_pos rfl, filter_true l]
theorem bools_map (f : PyData → Bool) : ∀ ds : List PyData, boolsD (ds.map fun d => PyData.bool (f d)) = some (ds.map f)
  | [] => rfl
  | d :: ds => by
    show (boolsD _).map _ = _
    rw [bools_map f ds]
    rfl
theorem all_map (f : PyData → Bool) (ds : List PyData) : (ds.map f).all id = ds.all f := by
  induction ds with
  | nil => rfl
  | cons d ds ih => rw [List.map_cons, List.all_cons, List.all_cons, ih]; rfl
def Plain (ds : List PyData) : Prop := ∀ d ∈ ds, noDict d = true
def parts : PyData → List PyData | .list ds => ds | .tuple ds => ds | _ => []
def isThing (d : PyData) : Bool := isNum d || (isSeq d && (parts d).all isNum)
theorem lc_nums {v : PyData} (ds : List PyData) (h : Plain ds) (hl : ds.length ≤ 100000) : lcL (nameG 1) yesB (callM 1 F_is_number (consM (varM 1) nilM)) [1] ds [] [.fro v, .no] = some (ds.map fun d => PyData.bool (isNum d), [.fro v, .no]) := by
  have := lc_pure (tg := nameG 1) (tt := yesB) (e := callM 1 F_is_number (consM (varM 1) nilM)) (vs := [1]) (ρ0 := [.fro v, .no]) (fun _ => true) (fun d => PyData.bool (isNum d)) ds [] (fun d hd => ?_) (by simpa using hl)
  · rw [filter_true] at this
    exact this
  · have e := F_is_number_eq (h d hd)
    refine ⟨[.fro v, .fro d], [.fro v, .fro d], rfl, rfl, fun _ => ⟨[.fro v, .fro d], ?_, rfl⟩, fun z => by cases z⟩
    simp [e, callM, consM, varM, nilM, bnd]
theorem F_is_thing_eq {d : PyData} (h : noDict d = true) (hp : Plain (parts d)) (hl : (parts d).length ≤ 100000) : F_is_thing [d] = some (PyData.bool (isThing d)) := by
  cases d with
  | list ds =>
    have e := lc_nums (v := .list ds) ds hp hl
    have en := F_is_number_eq (d := .list ds) rfl
    simp [F_is_thing, den_is_thing, en, isThing, isNum, isSeq, parts, lcM, wipeR, e, allP, bools_map, all_map, listM, varM, letM, conM, opM, unM, caM, nilM, consM, tupM, lstM, boolM, andB, orB, notB, andV, orV, notV, ifM, seqS, nextS, breakS, contS, asgS, asgO, dropS, retS, retO, retN, ifS, appS, nameG, seqG, tupG, listI, tupI, seqI, rng1I, rng2I, enumI, callM, callE, callN, callB, raiseS, setS, isi1M, isi2M, truB, chainM, noM, partM, slM, lenOM, ixOM, tupOM, toldM, kwM, kwE, enumTI, enumSI, enumOI, yesB, opN, caN, rng1M, asgG, lrgM, bnd, bndS, bnd0, rho0, rhoB, denQ, denE, denN, denB, outQ, outE, outN, outB, i2, b2, addP, subP, modP, powP, ltP, leP, gtP, geP, isP, isNotP, isNoneP, ixP, negP, lenP, absP, intP, tupleP, listP, at?, truD]
    rfl
  | tuple ds =>
    have e := lc_nums (v := .tuple ds) ds hp hl
    have en := F_is_number_eq (d := .tuple ds) rfl
    simp [F_is_thing, den_is_thing, en, isThing, isNum, isSeq, parts, lcM, wipeR, e, allP, bools_map, all_map, listM, varM, letM, conM, opM, unM, caM, nilM, consM, tupM, lstM, boolM, andB, orB, notB, andV, orV, notV, ifM, seqS, nextS, breakS, contS, asgS, asgO, dropS, retS, retO, retN, ifS, appS, nameG, seqG, tupG, listI, tupI, seqI, rng1I, rng2I, enumI, callM, callE, callN, callB, raiseS, setS, isi1M, isi2M, truB, chainM, noM, partM, slM, lenOM, ixOM, tupOM, toldM, kwM, kwE, enumTI, enumSI, enumOI, yesB, opN, caN, rng1M, asgG, lrgM, bnd, bndS, bnd0, rho0, rhoB, denQ, denE, denN, denB, outQ, outE, outN, outB, i2, b2, addP, subP, modP, powP, ltP, leP, gtP, geP, isP, isNotP, isNoneP, ixP, negP, lenP, absP, intP, tupleP, listP, at?, truD]
    rfl
  | int i =>
    by_cases hi : 0 ≤ i
    · simp [F_is_thing, den_is_thing, isThing, isNum, isSeq, hi, listM, varM, letM, conM, opM, unM, caM, nilM, consM, tupM, lstM, boolM, andB, orB, notB, andV, orV, notV, ifM, seqS, nextS, breakS, contS, asgS, asgO, dropS, retS, retO, retN, ifS, appS, nameG, seqG, tupG, listI, tupI, seqI, rng1I, rng2I, enumI, callM, callE, callN, callB, raiseS, setS, isi1M, isi2M, truB, chainM, noM, partM, slM, lenOM, ixOM, tupOM, toldM, kwM, kwE, enumTI, enumSI, enumOI, yesB, opN, caN, rng1M, asgG, lrgM, bnd, bndS, bnd0, rho0, rhoB, denQ, denE, denN, denB, outQ, outE, outN, outB, i2, b2, addP, subP, modP, powP, ltP, leP, gtP, geP, isP, isNotP, isNoneP, ixP, negP, lenP, absP, intP, tupleP, listP, at?, truD]
    · simp [F_is_thing, den_is_thing, isThing, isNum, isSeq, hi, listM, varM, letM, conM, opM, unM, caM, nilM, consM, tupM, lstM, boolM, andB, orB, notB, andV, orV, notV, ifM, seqS, nextS, breakS, contS, asgS, asgO, dropS, retS, retO, retN, ifS, appS, nameG, seqG, tupG, listI, tupI, seqI, rng1I, rng2I, enumI, callM, callE, callN, callB, raiseS, setS, isi1M, isi2M, truB, chainM, noM, partM, slM, lenOM, ixOM, tupOM, toldM, kwM, kwE, enumTI, enumSI, enumOI, yesB, opN, caN, rng1M, asgG, lrgM, bnd, bndS, bnd0, rho0, rhoB, denQ, denE, denN, denB, outQ, outE, outN, outB, i2, b2, addP, subP, modP, powP, ltP, leP, gtP, geP, isP, isNotP, isNoneP, ixP, negP, lenP, absP, intP, tupleP, listP, at?, truD]
  | dict _ => cases h
  | none =>
    have en := F_is_number_eq (d := .none) rfl
    simp [F_is_thing, den_is_thing, en, isThing, isNum, isSeq, listM, varM, letM, conM, opM, unM, caM, nilM, consM, tupM, lstM, boolM, andB, orB, notB, andV, orV, notV, ifM, seqS, nextS, breakS, contS, asgS, asgO, dropS, retS, retO, retN, ifS, appS, nameG, seqG, tupG, listI, tupI, seqI, rng1I, rng2I, enumI, callM, callE, callN, callB, raiseS, setS, isi1M, isi2M, truB, chainM, noM, partM, slM, lenOM, ixOM, tupOM, toldM, kwM, kwE, enumTI, enumSI, enumOI, yesB, opN, caN, rng1M, asgG, lrgM, bnd, bndS, bnd0, rho0, rhoB, denQ, denE, denN, denB, outQ, outE, outN, outB, i2, b2, addP, subP, modP, powP, ltP, leP, gtP, geP, isP, isNotP, isNoneP, ixP, negP, lenP, absP, intP, tupleP, listP, at?, truD]
  | bool b =>
    have en := F_is_number_eq (d := .bool b) rfl
    simp [F_is_thing, den_is_thing, en, isThing, isNum, isSeq, listM, varM, letM, conM, opM, unM, caM, nilM, consM, tupM, lstM, boolM, andB, orB, notB, andV, orV, notV, ifM, seqS, nextS, breakS, contS, asgS, asgO, dropS, retS, retO, retN, ifS, appS, nameG, seqG, tupG, listI, tupI, seqI, rng1I, rng2I, enumI, callM, callE, callN, callB, raiseS, setS, isi1M, isi2M, truB, chainM, noM, partM, slM, lenOM, ixOM, tupOM, toldM, kwM, kwE, enumTI, enumSI, enumOI, yesB, opN, caN, rng1M, asgG, lrgM, bnd, bndS, bnd0, rho0, rhoB, denQ, denE, denN, denB, outQ, outE, outN, outB, i2, b2, addP, subP, modP, powP, ltP, leP, gtP, geP, isP, isNotP, isNoneP, ixP, negP, lenP, absP, intP, tupleP, listP, at?, truD]
  | str b =>
    have en := F_is_number_eq (d := .str b) rfl
    simp [F_is_thing, den_is_thing, en, isThing, isNum, isSeq, listM, varM, letM, conM, opM, unM, caM, nilM, consM, tupM, lstM, boolM, andB, orB, notB, andV, orV, notV, ifM, seqS, nextS, breakS, contS, asgS, asgO, dropS, retS, retO, retN, ifS, appS, nameG, seqG, tupG, listI, tupI, seqI, rng1I, rng2I, enumI, callM, callE, callN, callB, raiseS, setS, isi1M, isi2M, truB, chainM, noM, partM, slM, lenOM, ixOM, tupOM, toldM, kwM, kwE, enumTI, enumSI, enumOI, yesB, opN, caN, rng1M, asgG, lrgM, bnd, bndS, bnd0, rho0, rhoB, denQ, denE, denN, denB, outQ, outE, outN, outB, i2, b2, addP, subP, modP, powP, ltP, leP, gtP, geP, isP, isNotP, isNoneP, ixP, negP, lenP, absP, intP, tupleP, listP, at?, truD]
/-! ### lines -/
/-- what a line may hold: data without dicts, two deep -/
structure Flat (d : PyData) : Prop where
  nd : noDict d = true
  p : Plain (parts d)
  l : (parts d).length ≤ 1000
  pp : ∀ x ∈ parts d, Plain (parts x) ∧ (parts x).length ≤ 1000
def isLine (n : Int) (d : PyData) : Bool := isSeq d && decide ((parts d).length = 3) && isPlace n ((parts d).getD 0 .none) && isPlace n ((parts d).getD 1 .none) && isThing ((parts d).getD 2 .none)
theorem three {ds : List PyData} (h : ds.length = 3) : ∃ a b c, ds = [a, b, c] := by
  match ds, h with
  | [a, b, c], _ => exact ⟨a, b, c, rfl⟩
theorem F_is_line_eq {d : PyData} (n : Int) (h : Flat d) : F_is_line [.int n, d] = some (PyData.bool (isLine n d)) := by
  have three_case : ∀ a b c : PyData, Flat (.list [a, b, c]) → F_is_place [.int n, a] = some (.bool (isPlace n a)) ∧ F_is_place [.int n, b] = some (.bool (isPlace n b)) ∧ F_is_thing [c] = some (.bool (isThing c)) := fun a b c f =>
    ⟨F_is_place_eq (f.p a (by simp [parts])) n, F_is_place_eq (f.p b (by simp [parts])) n, F_is_thing_eq (f.p c (by simp [parts])) (f.pp c (by simp [parts])).1 (Nat.le_trans (f.pp c (by simp [parts])).2 (by decide))⟩
  cases d with
  | list ds =>
    by_cases hl : ds.length = 3
    · obtain ⟨a, b, c, rfl⟩ := three hl
      obtain ⟨e1, e2, e3⟩ := three_case a b c h
      cases ha : isPlace n a <;> cases hb : isPlace n b <;> (rw [ha] at e1; rw [hb] at e2; simp [F_is_line, den_is_line, e1, e2, e3, isLine, isSeq, parts, ha, hb, neS, neP, SeqAt.shaped, PyData.canLay0, PyData.depth, PyData.eqv, listM, varM, letM, conM, opM, unM, caM, nilM, consM, tupM, lstM, boolM, andB, orB, notB, andV, orV, notV, ifM, seqS, nextS, breakS, contS, asgS, asgO, dropS, retS, retO, retN, ifS, appS, nameG, seqG, tupG, listI, tupI, seqI, rng1I, rng2I, enumI, callM, callE, callN, callB, raiseS, setS, isi1M, isi2M, truB, chainM, noM, partM, slM, lenOM, ixOM, tupOM, toldM, kwM, kwE, enumTI, enumSI, enumOI, yesB, opN, caN, rng1M, asgG, lrgM, bnd, bndS, bnd0, rho0, rhoB, denQ, denE, denN, denB, outQ, outE, outN, outB, i2, b2, addP, subP, modP, powP, ltP, leP, gtP, geP, isP, isNotP, isNoneP, ixP, negP, lenP, absP, intP, tupleP, listP, at?, truD])
    · have hl2 : ¬ ((ds.length : Int) = 3) := by omega
      simp [F_is_line, den_is_line, isLine, isSeq, parts, hl, hl2, neS, neP, SeqAt.shaped, PyData.canLay0, PyData.depth, PyData.eqv, listM, varM, letM, conM, opM, unM, caM, nilM, consM, tupM, lstM, boolM, andB, orB, notB, andV, orV, notV, ifM, seqS, nextS, breakS, contS, asgS, asgO, dropS, retS, retO, retN, ifS, appS, nameG, seqG, tupG, listI, tupI, seqI, rng1I, rng2I, enumI, callM, callE, callN, callB, raiseS, setS, isi1M, isi2M, truB, chainM, noM, partM, slM, lenOM, ixOM, tupOM, toldM, kwM, kwE, enumTI, enumSI, enumOI, yesB, opN, caN, rng1M, asgG, lrgM, bnd, bndS, bnd0, rho0, rhoB, denQ, denE, denN, denB, outQ, outE, outN, outB, i2, b2, addP, subP, modP, powP, ltP, leP, gtP, geP, isP, isNotP, isNoneP, ixP, negP, lenP, absP, intP, tupleP, listP, at?, truD]
  | tuple ds =>
    by_cases hl : ds.length = 3
    · obtain ⟨a, b, c, rfl⟩ := three hl
      obtain ⟨e1, e2, e3⟩ := three_case a b c ⟨rfl, h.p, h.l, h.pp⟩
      cases ha : isPlace n a <;> cases hb : isPlace n b <;> (rw [ha] at e1; rw [hb] at e2; simp [F_is_line, den_is_line, e1, e2, e3, isLine, isSeq, parts, ha, hb, neS, neP, SeqAt.shaped, PyData.canLay0, PyData.depth, PyData.eqv, listM, varM, letM, conM, opM, unM, caM, nilM, consM, tupM, lstM, boolM, andB, orB, notB, andV, orV, notV, ifM, seqS, nextS, breakS, contS, asgS, asgO, dropS, retS, retO, retN, ifS, appS, nameG, seqG, tupG, listI, tupI, seqI, rng1I, rng2I, enumI, callM, callE, callN, callB, raiseS, setS, isi1M, isi2M, truB, chainM, noM, partM, slM, lenOM, ixOM, tupOM, toldM, kwM, kwE, enumTI, enumSI, enumOI, yesB, opN, caN, rng1M, asgG, lrgM, bnd, bndS, bnd0, rho0, rhoB, denQ, denE, denN, denB, outQ, outE, outN, outB, i2, b2, addP, subP, modP, powP, ltP, leP, gtP, geP, isP, isNotP, isNoneP, ixP, negP, lenP, absP, intP, tupleP, listP, at?, truD])
    · have hl2 : ¬ ((ds.length : Int) = 3) := by omega
      simp [F_is_line, den_is_line, isLine, isSeq, parts, hl, hl2, neS, neP, SeqAt.shaped, PyData.canLay0, PyData.depth, PyData.eqv, listM, varM, letM, conM, opM, unM, caM, nilM, consM, tupM, lstM, boolM, andB, orB, notB, andV, orV, notV, ifM, seqS, nextS, breakS, contS, asgS, asgO, dropS, retS, retO, retN, ifS, appS, nameG, seqG, tupG, listI, tupI, seqI, rng1I, rng2I, enumI, callM, callE, callN, callB, raiseS, setS, isi1M, isi2M, truB, chainM, noM, partM, slM, lenOM, ixOM, tupOM, toldM, kwM, kwE, enumTI, enumSI, enumOI, yesB, opN, caN, rng1M, asgG, lrgM, bnd, bndS, bnd0, rho0, rhoB, denQ, denE, denN, denB, outQ, outE, outN, outB, i2, b2, addP, subP, modP, powP, ltP, leP, gtP, geP, isP, isNotP, isNoneP, ixP, negP, lenP, absP, intP, tupleP, listP, at?, truD]
  | dict _ => cases h.nd
  | _ => simp [F_is_line, den_is_line, isLine, isSeq, parts, listM, varM, letM, conM, opM, unM, caM, nilM, consM, tupM, lstM, boolM, andB, orB, notB, andV, orV, notV, ifM, seqS, nextS, breakS, contS, asgS, asgO, dropS, retS, retO, retN, ifS, appS, nameG, seqG, tupG, listI, tupI, seqI, rng1I, rng2I, enumI, callM, callE, callN, callB, raiseS, setS, isi1M, isi2M, truB, chainM, noM, partM, slM, lenOM, ixOM, tupOM, toldM, kwM, kwE, enumTI, enumSI, enumOI, yesB, opN, caN, rng1M, asgG, lrgM, bnd, bndS, bnd0, rho0, rhoB, denQ, denE, denN, denB, outQ, outE, outN, outB, i2, b2, addP, subP, modP, powP, ltP, leP, gtP, geP, isP, isNotP, isNoneP, ixP, negP, lenP, absP, intP, tupleP, listP, at?, truD]
end K01

namespace K01
open PySem L2 Evl Pd
/-- where the first wrong one stands, counted from m -/
def bad (p : PyData → Bool) : Nat → List PyData → Option Nat
  | _, [] => none
  | m, d :: ds => if p d = true then bad p (m + 1) ds else some m
theorem enum_scan {tg : DG} {body : DS} (R : Rho → Prop) (p : PyData → Bool) (c : Nat) : ∀ (ds : List PyData) (m : Nat) (ρ : Rho), R ρ →
    (∀ (k : Nat) (x : PyData), x ∈ ds → ∀ ρ, R ρ → ∃ ρ1, tg (.tuple [.int (k : Nat), x]) ρ = some ρ1 ∧ (p x = true → ∃ ρ2, body ρ1 = some (.nx ρ2) ∧ R ρ2) ∧ (p x = false → ∃ ρ2, body ρ1 = some (.ex c (.int (k : Nat)) ρ2))) →
    (bad p m ds = none → ∃ ρ', loopS tg body (enumD m ds) ρ = some (.nx ρ') ∧ R ρ') ∧ (∀ k, bad p m ds = some k → ∃ ρ', loopS tg body (enumD m ds) ρ = some (.ex c (.int (k : Nat)) ρ'))
  | [], m, ρ, hR, _ => ⟨fun _ => ⟨ρ, rfl, hR⟩, fun d h => by cases h⟩
  | d :: ds, m, ρ, hR, step => by
    obtain ⟨ρ1, e1, hg, hb⟩ := step m d List.mem_cons_self ρ hR
    unfold bad
    cases hd : p d with
    | true =>
      obtain ⟨ρ2, e2, hR2⟩ := hg hd
      have ih := enum_scan R p c ds (m + 1) ρ2 hR2 fun k x hx => step k x (List.mem_cons_of_mem _ hx)
      have el : loopS tg body (enumD m (d :: ds)) ρ = loopS tg body (enumD (m + 1) ds) ρ2 := by
        show (match tg _ ρ with | none => none | some ρ1 => _) = _
        rw [e1]
        show (match body ρ1 with | some (.nx ρ2) => _ | some (.ct ρ2) => _ | some (.bk ρ2) => _ | x => _) = _
        rw [e2]
      rw [el, if_pos rfl]
      exact ih
    | false =>
      obtain ⟨ρ2, e2⟩ := hb hd
      rw [if_neg (by decide)]
      refine ⟨(fun h => by cases h), fun d' h => ?_⟩
      cases h
      refine ⟨ρ2, ?_⟩
      show (match tg _ ρ with | none => none | some ρ1 => _) = _
      rw [e1]
      show (match body ρ1 with | some (.nx ρ2) => _ | some (.ct ρ2) => _ | some (.bk ρ2) => _ | x => _) = _
      rw [e2]
/-- a row of lines -/
structure Lines (d : PyData) : Prop where
  nd : noDict d = true
  f : ∀ x ∈ parts d, Flat x
def needLines (n : Int) (d : PyData) : Rs := if isSeq d = true then (match bad (isLine n) 0 (parts d) with | some k => .er 1 (.int (k : Nat)) | none => .ok .none) else .er 1 (.int (-1))
theorem lines_loop (n : Int) (v : PyData) (ds : List PyData) (h : ∀ x ∈ ds, Flat x) :
    (bad (isLine n) 0 ds = none → ∃ ρ', loopS (seqG (consG (nameG 2) (consG (nameG 3) nilG))) (ifS (notB (truB (callM 2 F_is_line (consM (varM 0) (consM (varM 3) nilM))))) (raiseS 1 (varM 2)) nextS) (enumD 0 ds) [.fro (.int n), .fro v, .no, .no] = some (.nx ρ')) ∧
    (∀ k, bad (isLine n) 0 ds = some k → ∃ ρ', loopS (seqG (consG (nameG 2) (consG (nameG 3) nilG))) (ifS (notB (truB (callM 2 F_is_line (consM (varM 0) (consM (varM 3) nilM))))) (raiseS 1 (varM 2)) nextS) (enumD 0 ds) [.fro (.int n), .fro v, .no, .no] = some (.ex 1 (.int (k : Nat)) ρ')) := by
  have := enum_scan (tg := seqG (consG (nameG 2) (consG (nameG 3) nilG))) (body := ifS (notB (truB (callM 2 F_is_line (consM (varM 0) (consM (varM 3) nilM))))) (raiseS 1 (varM 2)) nextS) (fun ρ => ∃ a b, ρ = [.fro (.int n), .fro v, a, b]) (isLine n) 1 ds 0 [.fro (.int n), .fro v, .no, .no] ⟨_, _, rfl⟩ (fun k x hx ρ hR => ?_)
  · exact ⟨fun z => (this.1 z).elim fun ρ' e => ⟨ρ', e.1⟩, this.2⟩
  · obtain ⟨a, b, rfl⟩ := hR
    have e := F_is_line_eq n (h x hx)
    refine ⟨[.fro (.int n), .fro v, .fro (.int (k : Nat)), .fro x], rfl, fun hp => ⟨[.fro (.int n), .fro v, .fro (.int (k : Nat)), .fro x], ?_, _, _, rfl⟩, fun hp => ⟨[.fro (.int n), .fro v, .fro (.int (k : Nat)), .fro x], ?_⟩⟩
    · rw [hp] at e
      simp [e, listM, varM, letM, conM, opM, unM, caM, nilM, consM, tupM, lstM, boolM, andB, orB, notB, andV, orV, notV, ifM, seqS, nextS, breakS, contS, asgS, asgO, dropS, retS, retO, retN, ifS, appS, nameG, seqG, tupG, listI, tupI, seqI, rng1I, rng2I, enumI, callM, callE, callN, callB, raiseS, setS, isi1M, isi2M, truB, chainM, noM, partM, slM, lenOM, ixOM, tupOM, toldM, kwM, kwE, enumTI, enumSI, enumOI, yesB, opN, caN, rng1M, asgG, lrgM, bnd, bndS, bnd0, rho0, rhoB, denQ, denE, denN, denB, outQ, outE, outN, outB, i2, b2, addP, subP, modP, powP, ltP, leP, gtP, geP, isP, isNotP, isNoneP, ixP, negP, lenP, absP, intP, tupleP, listP, at?, truD]
    · rw [hp] at e
      simp [e, listM, varM, letM, conM, opM, unM, caM, nilM, consM, tupM, lstM, boolM, andB, orB, notB, andV, orV, notV, ifM, seqS, nextS, breakS, contS, asgS, asgO, dropS, retS, retO, retN, ifS, appS, nameG, seqG, tupG, listI, tupI, seqI, rng1I, rng2I, enumI, callM, callE, callN, callB, raiseS, setS, isi1M, isi2M, truB, chainM, noM, partM, slM, lenOM, ixOM, tupOM, toldM, kwM, kwE, enumTI, enumSI, enumOI, yesB, opN, caN, rng1M, asgG, lrgM, bnd, bndS, bnd0, rho0, rhoB, denQ, denE, denN, denB, outQ, outE, outN, outB, i2, b2, addP, subP, modP, powP, ltP, leP, gtP, geP, isP, isNotP, isNoneP, ixP, negP, lenP, absP, intP, tupleP, listP, at?, truD]
theorem need_lines_eq (n : Int) {d : PyData} (h : Lines d) : F_need_lines [.int n, d] = some (needLines n d) := by
  unfold needLines
  have main : ∀ ds, (d = .list ds ∨ d = .tuple ds) → F_need_lines [.int n, d] = some (match bad (isLine n) 0 ds with | some k => .er 1 (.int (k : Nat)) | none => .ok .none) := fun ds hd => by
    have hf : ∀ x ∈ ds, Flat x := by rcases hd with rfl | rfl <;> exact h.f
    have L := lines_loop n d ds hf
    have es : F_is_sequence [d] = some (.bool true) := by rcases hd with rfl | rfl <;> simp
    have ei : enumSI (consM (varM 1) nilM) [.fro (.int n), .fro d, .no, .no] = some (.ok (enumD 0 ds) [.fro (.int n), .fro d, .no, .no]) := by rcases hd with rfl | rfl <;> rfl
    have ef : forS (enumSI (consM (varM 1) nilM)) (seqG (consG (nameG 2) (consG (nameG 3) nilG))) (ifS (notB (truB (callM 2 F_is_line (consM (varM 0) (consM (varM 3) nilM))))) (raiseS 1 (varM 2)) nextS) [.fro (.int n), .fro d, .no, .no] = loopS (seqG (consG (nameG 2) (consG (nameG 3) nilG))) (ifS (notB (truB (callM 2 F_is_line (consM (varM 0) (consM (varM 3) nilM))))) (raiseS 1 (varM 2)) nextS) (enumD 0 ds) [.fro (.int n), .fro d, .no, .no] := by
      show bndS (enumSI _ _) _ = _
      rw [ei]
      rfl
    have eh : (ifS (notB (truB (callM 1 F_is_sequence (consM (varM 1) nilM)))) (raiseS 1 (unM negP (conM (.int 1)))) nextS) [.fro (.int n), .fro d, .no, .no] = some (.nx [.fro (.int n), .fro d, .no, .no]) := by simp [es, listM, varM, letM, conM, opM, unM, caM, nilM, consM, tupM, lstM, boolM, andB, orB, notB, andV, orV, notV, ifM, seqS, nextS, breakS, contS, asgS, asgO, dropS, retS, retO, retN, ifS, appS, nameG, seqG, tupG, listI, tupI, seqI, rng1I, rng2I, enumI, callM, callE, callN, callB, raiseS, setS, isi1M, isi2M, truB, chainM, noM, partM, slM, lenOM, ixOM, tupOM, toldM, kwM, kwE, enumTI, enumSI, enumOI, yesB, opN, caN, rng1M, asgG, lrgM, bnd, bndS, bnd0, rho0, rhoB, denQ, denE, denN, denB, outQ, outE, outN, outB, i2, b2, addP, subP, modP, powP, ltP, leP, gtP, geP, isP, isNotP, isNoneP, ixP, negP, lenP, absP, intP, tupleP, listP, at?, truD]
    have el : F_need_lines [.int n, d] = (loopS (seqG (consG (nameG 2) (consG (nameG 3) nilG))) (ifS (notB (truB (callM 2 F_is_line (consM (varM 0) (consM (varM 3) nilM))))) (raiseS 1 (varM 2)) nextS) (enumD 0 ds) [.fro (.int n), .fro d, .no, .no]).bind outE := by
      rw [← ef]
      show (seqS _ _ _).bind outE = _
      unfold seqS
      show (match (ifS _ _ _) [.fro (.int n), .fro d, .no, .no] with | some (.nx ρ1) => _ | x => x).bind outE = _
      rw [eh]
    rw [el]
    cases hb : bad (isLine n) 0 ds with
    | none =>
      obtain ⟨ρ', e⟩ := L.1 hb
      rw [e]
      rfl
    | some k =>
      obtain ⟨ρ', e⟩ := L.2 k hb
      rw [e]
      rfl
  cases d with
  | list ds => rw [if_pos (show isSeq (.list ds) = true from rfl)]; exact main ds (.inl rfl)
  | tuple ds => rw [if_pos (show isSeq (.tuple ds) = true from rfl)]; exact main ds (.inr rfl)
  | dict _ => cases h.nd
  | _ => simp [F_need_lines, den_need_lines, isSeq, listM, varM, letM, conM, opM, unM, caM, nilM, consM, tupM, lstM, boolM, andB, orB, notB, andV, orV, notV, ifM, seqS, nextS, breakS, contS, asgS, asgO, dropS, retS, retO, retN, ifS, appS, nameG, seqG, tupG, listI, tupI, seqI, rng1I, rng2I, enumI, callM, callE, callN, callB, raiseS, setS, isi1M, isi2M, truB, chainM, noM, partM, slM, lenOM, ixOM, tupOM, toldM, kwM, kwE, enumTI, enumSI, enumOI, yesB, opN, caN, rng1M, asgG, lrgM, bnd, bndS, bnd0, rho0, rhoB, denQ, denE, denN, denB, outQ, outE, outN, outB, i2, b2, addP, subP, modP, powP, ltP, leP, gtP, geP, isP, isNotP, isNoneP, ixP, negP, lenP, absP, intP, tupleP, listP, at?, truD]

/-! ### tables -/
theorem for_enum {fl : DL} {tg : DG} {body : DS} {ρ ρ1 : Rho} {ds : List PyData} (e : fl ρ = some (.ok ds ρ1)) : forS fl tg body ρ = loopS tg body ds ρ1 := by
  show bndS (fl ρ) _ = _
  rw [e]
  rfl
theorem seq_nx {f g : DS} {ρ ρ1 : Rho} (e : f ρ = some (.nx ρ1)) : seqS f g ρ = g ρ1 := by
  unfold seqS
  rw [e]
theorem seq_ex {f g : DS} {ρ ρ1 : Rho} {c : Nat} {d : PyData} (e : f ρ = some (.ex c d ρ1)) : seqS f g ρ = some (.ex c d ρ1) := by
  unfold seqS
  rw [e]
theorem seq_rt {f g : DS} {ρ ρ1 : Rho} {d : PyData} (e : f ρ = some (.rt d ρ1)) : seqS f g ρ = some (.rt d ρ1) := by
  unfold seqS
  rw [e]
def needTable (n : Int) (d : PyData) : Rs := if isSeq d = true ∧ ((parts d).length : Int) = n * n then (match bad (fun x => isBel x n) 0 (parts d) with | some k => .er 0 (.int (k : Nat)) | none => .ok (.tuple (parts d))) else .er 0 (.int (-1))
theorem table_loop (n : Int) (v : PyData) (ds : List PyData) (h : Plain ds) :
    (bad (fun x => isBel x n) 0 ds = none → ∃ a b, loopS (seqG (consG (nameG 2) (consG (nameG 3) nilG))) (ifS (notB (truB (callM 2 F_is_below (consM (varM 3) (consM (varM 0) nilM))))) (raiseS 0 (varM 2)) nextS) (enumD 0 ds) [.fro (.int n), .fro v, .no, .no] = some (.nx [.fro (.int n), .fro v, a, b])) ∧
    (∀ k, bad (fun x => isBel x n) 0 ds = some k → ∃ ρ', loopS (seqG (consG (nameG 2) (consG (nameG 3) nilG))) (ifS (notB (truB (callM 2 F_is_below (consM (varM 3) (consM (varM 0) nilM))))) (raiseS 0 (varM 2)) nextS) (enumD 0 ds) [.fro (.int n), .fro v, .no, .no] = some (.ex 0 (.int (k : Nat)) ρ')) := by
  have := enum_scan (tg := seqG (consG (nameG 2) (consG (nameG 3) nilG))) (body := ifS (notB (truB (callM 2 F_is_below (consM (varM 3) (consM (varM 0) nilM))))) (raiseS 0 (varM 2)) nextS) (fun ρ => ∃ a b, ρ = [.fro (.int n), .fro v, a, b]) (fun x => isBel x n) 0 ds 0 [.fro (.int n), .fro v, .no, .no] ⟨_, _, rfl⟩ (fun k x hx ρ hR => ?_)
  · refine ⟨fun z => ?_, this.2⟩
    obtain ⟨ρ', e, a, b, rfl⟩ := this.1 z
    exact ⟨a, b, e⟩
  · obtain ⟨a, b, rfl⟩ := hR
    have e := F_is_below_eq (h x hx) n
    refine ⟨[.fro (.int n), .fro v, .fro (.int (k : Nat)), .fro x], rfl, fun hp => ⟨[.fro (.int n), .fro v, .fro (.int (k : Nat)), .fro x], ?_, _, _, rfl⟩, fun hp => ⟨[.fro (.int n), .fro v, .fro (.int (k : Nat)), .fro x], ?_⟩⟩
    · rw [hp] at e
      simp [e, listM, varM, letM, conM, opM, unM, caM, nilM, consM, tupM, lstM, boolM, andB, orB, notB, andV, orV, notV, ifM, seqS, nextS, breakS, contS, asgS, asgO, dropS, retS, retO, retN, ifS, appS, nameG, seqG, tupG, listI, tupI, seqI, rng1I, rng2I, enumI, callM, callE, callN, callB, raiseS, setS, isi1M, isi2M, truB, chainM, noM, partM, slM, lenOM, ixOM, tupOM, toldM, kwM, kwE, enumTI, enumSI, enumOI, yesB, opN, caN, rng1M, asgG, lrgM, bnd, bndS, bnd0, rho0, rhoB, denQ, denE, denN, denB, outQ, outE, outN, outB, i2, b2, addP, subP, modP, powP, ltP, leP, gtP, geP, isP, isNotP, isNoneP, ixP, negP, lenP, absP, intP, tupleP, listP, at?, truD]
    · rw [hp] at e
      simp [e, listM, varM, letM, conM, opM, unM, caM, nilM, consM, tupM, lstM, boolM, andB, orB, notB, andV, orV, notV, ifM, seqS, nextS, breakS, contS, asgS, asgO, dropS, retS, retO, retN, ifS, appS, nameG, seqG, tupG, listI, tupI, seqI, rng1I, rng2I, enumI, callM, callE, callN, callB, raiseS, setS, isi1M, isi2M, truB, chainM, noM, partM, slM, lenOM, ixOM, tupOM, toldM, kwM, kwE, enumTI, enumSI, enumOI, yesB, opN, caN, rng1M, asgG, lrgM, bnd, bndS, bnd0, rho0, rhoB, denQ, denE, denN, denB, outQ, outE, outN, outB, i2, b2, addP, subP, modP, powP, ltP, leP, gtP, geP, isP, isNotP, isNoneP, ixP, negP, lenP, absP, intP, tupleP, listP, at?, truD]
/-- sizes: 2 and 3 -/
theorem need_table_eq (n : Int) (hn : n = 2 ∨ n = 3) {d : PyData} (hd : noDict d = true) (h : Plain (parts d)) : F_need_table [.int n, d] = some (needTable n d) := by
  have hs : isSize (.int n) = true := by rcases hn with rfl | rfl <;> rfl
  have e0 : F_need_size [.int n] = some (.ok (.int n)) := by
    rw [need_size_eq rfl]
    unfold needSize
    rw [if_pos hs]
  have em : mulP (.int n) (.int n) = some (.int (n * n)) := mul_ok n n (by rcases hn with rfl | rfl <;> decide) (by rcases hn with rfl | rfl <;> decide)
  have main : ∀ ds, (d = .list ds ∨ d = .tuple ds) → F_need_table [.int n, d] = some (if ((ds.length : Nat) : Int) = n * n then (match bad (fun x => isBel x n) 0 ds with | some k => .er 0 (.int (k : Nat)) | none => .ok (.tuple ds)) else .er 0 (.int (-1))) := fun ds hds => by
    have hf : Plain ds := by rcases hds with rfl | rfl <;> exact h
    have L := table_loop n d ds hf
    have es : F_is_sequence [d] = some (.bool true) := by rcases hds with rfl | rfl <;> simp
    have el : lenP [d] = some (.int ds.length) := by rcases hds with rfl | rfl <;> rfl
    have et : tupleP [d] = some (.tuple ds) := by rcases hds with rfl | rfl <;> rfl
    have ei : enumSI (consM (varM 1) nilM) [.fro (.int n), .fro d, .no, .no] = some (.ok (enumD 0 ds) [.fro (.int n), .fro d, .no, .no]) := by rcases hds with rfl | rfl <;> rfl
    have e1 : dropS (callE 1 F_need_size (consM (varM 0) nilM)) [.fro (.int n), .fro d, .no, .no] = some (.nx [.fro (.int n), .fro d, .no, .no]) := by simp [e0, listM, varM, letM, conM, opM, unM, caM, nilM, consM, tupM, lstM, boolM, andB, orB, notB, andV, orV, notV, ifM, seqS, nextS, breakS, contS, asgS, asgO, dropS, retS, retO, retN, ifS, appS, nameG, seqG, tupG, listI, tupI, seqI, rng1I, rng2I, enumI, callM, callE, callN, callB, raiseS, setS, isi1M, isi2M, truB, chainM, noM, partM, slM, lenOM, ixOM, tupOM, toldM, kwM, kwE, enumTI, enumSI, enumOI, yesB, opN, caN, rng1M, asgG, lrgM, bnd, bndS, bnd0, rho0, rhoB, denQ, denE, denN, denB, outQ, outE, outN, outB, i2, b2, addP, subP, modP, powP, ltP, leP, gtP, geP, isP, isNotP, isNoneP, ixP, negP, lenP, absP, intP, tupleP, listP, at?, truD]
    have ez : F_need_table [.int n, d] = (den_need_table F_need_size F_is_sequence F_is_below [.fro (.int n), .fro d, .no, .no]).bind outE := rfl
    rw [ez]
    unfold den_need_table
    rw [seq_nx e1]
    by_cases hl : ((ds.length : Nat) : Int) = n * n
    · have e2 : (ifS (orB (notB (truB (callM 1 F_is_sequence (consM (varM 1) nilM)))) (boolM (opM neS (caM lenP (consM (varM 1) nilM)) (opM mulP (varM 0) (varM 0))))) (raiseS 0 (unM negP (conM (.int 1)))) nextS) [.fro (.int n), .fro d, .no, .no] = some (.nx [.fro (.int n), .fro d, .no, .no]) := by
        have en : neS (.int ds.length) (.int (n * n)) = some (.bool false) := by
          rw [hl]
          simp [neS, neP, SeqAt.shaped, PyData.canLay0, PyData.depth, PyData.eqv]
        have el' := el
        simp [es, listM, varM, letM, conM, opM, unM, caM, nilM, consM, boolM, orB, notB, callM, truB, bnd, bndS, truD, ifS, nextS, el', em, en]
      rw [seq_nx e2, if_pos hl]
      cases hb : bad (fun x => isBel x n) 0 ds with
      | none =>
        obtain ⟨a, b, e⟩ := L.1 hb
        rw [seq_nx ((for_enum ei).trans e)]
        simp [et, listM, varM, caM, nilM, consM, bnd, bndS, retS, outE]
      | some k =>
        obtain ⟨ρ', e⟩ := L.2 k hb
        rw [seq_ex ((for_enum ei).trans e)]
        rfl
    · have e2 : (ifS (orB (notB (truB (callM 1 F_is_sequence (consM (varM 1) nilM)))) (boolM (opM neS (caM lenP (consM (varM 1) nilM)) (opM mulP (varM 0) (varM 0))))) (raiseS 0 (unM negP (conM (.int 1)))) nextS) [.fro (.int n), .fro d, .no, .no] = some (.ex 0 (.int (-1)) [.fro (.int n), .fro d, .no, .no]) := by
        have en : neS (.int ds.length) (.int (n * n)) = some (.bool true) := by
          simp [neS, neP, SeqAt.shaped, PyData.canLay0, PyData.depth, PyData.eqv, hl]
        have el' := el
        simp [es, listM, varM, letM, conM, opM, unM, caM, nilM, consM, boolM, orB, notB, callM, truB, bnd, bndS, truD, ifS, nextS, raiseS, negP, el', em, en]
      rw [seq_ex e2, if_neg hl]
      rfl
  unfold needTable
  cases d with
  | list ds => rw [main ds (.inl rfl)]; simp [isSeq, parts]
  | tuple ds => rw [main ds (.inr rfl)]; simp [isSeq, parts]
  | dict _ => cases hd
  | _ =>
    have en := e0
    simp [F_need_table, den_need_table, en, isSeq, listM, varM, letM, conM, opM, unM, caM, nilM, consM, tupM, lstM, boolM, andB, orB, notB, andV, orV, notV, ifM, seqS, nextS, breakS, contS, asgS, asgO, dropS, retS, retO, retN, ifS, appS, nameG, seqG, tupG, listI, tupI, seqI, rng1I, rng2I, enumI, callM, callE, callN, callB, raiseS, setS, isi1M, isi2M, truB, chainM, noM, partM, slM, lenOM, ixOM, tupOM, toldM, kwM, kwE, enumTI, enumSI, enumOI, yesB, opN, caN, rng1M, asgG, lrgM, bnd, bndS, bnd0, rho0, rhoB, denQ, denE, denN, denB, outQ, outE, outN, outB, i2, b2, addP, subP, modP, powP, ltP, leP, gtP, geP, isP, isNotP, isNoneP, ixP, negP, lenP, absP, intP, tupleP, listP, at?, truD]
end K01

namespace K01
open PySem L2 Evl Pd
/-- whether a place meets a row or a column -/
def hits (p : PyData) (i : Nat) : Bool := match p with | .none => true | .int j => decide (j = i) | _ => false
/-- the cells that a line's places meet -/
def cells (n : Nat) (one other : PyData) : List Nat := (List.range (n * n)).filter fun c => hits one (c / n) && hits other (c % n)
theorem met_cells_eq (n : Nat) (hn : n = 2 ∨ n = 3) {one other : PyData} (h1 : isPlace n one = true) (h2 : isPlace n other = true) : F_met_cells [.int n, one, other] = some (.list ((cells n one other).map fun c => PyData.int (c : Nat))) := by
  have pl : ∀ p : PyData, isPlace n p = true → p = .none ∨ ∃ i : Nat, i < n ∧ p = .int (i : Nat) := fun p h => by
    cases p with
    | none => exact .inl rfl
    | int i =>
      have h' : (decide (0 ≤ i) && decide (i < (n : Int))) = true := h
      rw [Bool.and_eq_true] at h'
      have a := of_decide_eq_true h'.1
      have b := of_decide_eq_true h'.2
      obtain ⟨j, rfl⟩ := Int.eq_ofNat_of_zero_le a
      exact .inr ⟨j, by omega, rfl⟩
    | _ => cases h
  have sm : ∀ {i : Nat}, i < 2 → i = 0 ∨ i = 1 := fun h => by omega
  have sm3 : ∀ {i : Nat}, i < 3 → i = 0 ∨ i = 1 ∨ i = 2 := fun h => by omega
  rcases hn with rfl | rfl
  · rcases pl one h1 with rfl | ⟨i, hi, rfl⟩ <;> rcases pl other h2 with rfl | ⟨j, hj, rfl⟩
    · rfl
    · rcases sm hj with rfl | rfl <;> rfl
    · rcases sm hi with rfl | rfl <;> rfl
    · rcases sm hi with rfl | rfl <;> rcases sm hj with rfl | rfl <;> rfl
  · rcases pl one h1 with rfl | ⟨i, hi, rfl⟩ <;> rcases pl other h2 with rfl | ⟨j, hj, rfl⟩
    · rfl
    · rcases sm3 hj with rfl | rfl | rfl <;> rfl
    · rcases sm3 hi with rfl | rfl | rfl <;> rfl
    · rcases sm3 hi with rfl | rfl | rfl <;> rcases sm3 hj with rfl | rfl | rfl <;> rfl
end K01

namespace K01
open PySem L2 Evl Pd
theorem loop_step {tg : DG} {body : DS} {d : PyData} {ds : List PyData} {ρ ρ1 ρ2 : Rho} (e1 : tg d ρ = some ρ1) (e2 : body ρ1 = some (.nx ρ2)) : loopS tg body (d :: ds) ρ = loopS tg body ds ρ2 := by
  show (match tg d ρ with | none => none | some ρ1 => _) = _
  rw [e1]
  show (match body ρ1 with | some (.nx ρ2) => _ | some (.ct ρ2) => _ | some (.bk ρ2) => _ | x => _) = _
  rw [e2]
def oneOf (x : PyData) : PyData := (parts x).getD 0 .none
def otherOf (x : PyData) : PyData := (parts x).getD 1 .none
def thingOf (x : PyData) : PyData := (parts x).getD 2 .none
def paintC (t : PyData) : List Nat → List PyData → List PyData
  | [], s => s
  | c :: cs, s => paintC t cs (s.set c t)
theorem paintC_length (t : PyData) : ∀ (cs : List Nat) (s : List PyData), (paintC t cs s).length = s.length
  | [], _ => rfl
  | c :: cs, s => by unfold paintC; rw [paintC_length t cs, List.length_set]
theorem paintC_get (t : PyData) : ∀ (cs : List Nat) (s : List PyData) (i : Nat), i < s.length → (paintC t cs s)[i]? = if i ∈ cs then some t else s[i]?
  | [], _, _, _ => by simp [paintC]
  | c :: cs, s, i, hi => by
    unfold paintC
    rw [paintC_get t cs _ i (by rw [List.length_set]; exact hi)]
    by_cases h1 : i ∈ cs
    · rw [if_pos h1, if_pos (List.mem_cons_of_mem _ h1)]
    · rw [if_neg h1]
      by_cases h2 : i = c
      · subst h2
        rw [if_pos List.mem_cons_self, List.getElem?_set_self hi]
      · rw [if_neg (fun z => (List.mem_cons.mp z).elim h2 h1), List.getElem?_set_ne (Ne.symm h2)]
def paint (n : Nat) (s : List PyData) (x : PyData) : List PyData := paintC (toldThing (thingOf x)) (cells n (oneOf x) (otherOf x)) s
def paints (n : Nat) : List PyData → List PyData → List PyData
  | [], s => s
  | x :: xs, s => paints n xs (paint n s x)
theorem paint_length (n : Nat) (s : List PyData) (x : PyData) : (paint n s x).length = s.length := paintC_length _ _ _
theorem paints_length (n : Nat) : ∀ (xs s : List PyData), (paints n xs s).length = s.length
  | [], _ => rfl
  | x :: xs, s => by unfold paints; rw [paints_length n xs, paint_length]
theorem cells_lt {n : Nat} {one other : PyData} {c : Nat} (h : c ∈ cells n one other) : c < n * n := List.mem_range.mp (List.mem_filter.mp h).1
theorem inner_loop {a b c d s6 : Sl} {th : PyData} (hth : noDict th = true) {t : Bool} : ∀ (cs : List Nat) (sheet : List PyData) (s6 : Sl), (∀ i ∈ cs, i < sheet.length) → sheet.length ≤ 1000 →
    ∃ s6', loopS (nameG 6) (setS 2 (varM 6) (callM 1 F_told_thing (consM (varM 5) nilM))) (cs.map fun c => PyData.int (c : Nat)) [a, b, .own t sheet, c, d, .fro th, s6] = some (.nx [a, b, .own t (paintC (toldThing th) cs sheet), c, d, .fro th, s6'])
  | [], sheet, s6, _, _ => ⟨s6, rfl⟩
  | i :: cs, sheet, s6, h, hl => by
    have hi := h i List.mem_cons_self
    have e := F_told_thing_eq hth
    have eb : setS 2 (varM 6) (callM 1 F_told_thing (consM (varM 5) nilM)) [a, b, .own t sheet, c, d, .fro th, .fro (.int (i : Nat))] = some (.nx [a, b, .own t (sheet.set i (toldThing th)), c, d, .fro th, .fro (.int (i : Nat))]) := by
      have ea : at? sheet.length (i : Nat) = some i := by
        unfold at?
        rw [if_pos (by omega), if_pos (by omega)]
        rfl
      simp [setS, callM, consM, nilM, varM, bnd, bndS, e, ea]
    obtain ⟨s6', ih⟩ := inner_loop (a := a) (b := b) (c := c) (d := d) (s6 := s6) hth (t := t) cs (sheet.set i (toldThing th)) (.fro (.int (i : Nat))) (fun j hj => by rw [List.length_set]; exact h j (List.mem_cons_of_mem _ hj)) (by rw [List.length_set]; exact hl)
    refine ⟨s6', ?_⟩
    rw [List.map_cons, loop_step (ρ1 := [a, b, .own t sheet, c, d, .fro th, .fro (.int (i : Nat))]) rfl eb]
    exact ih
theorem line_three {n : Int} {x : PyData} (h : isLine n x = true) : ∃ o p th, (x = .list [o, p, th] ∨ x = .tuple [o, p, th]) ∧ oneOf x = o ∧ otherOf x = p ∧ thingOf x = th ∧ isPlace n o = true ∧ isPlace n p = true ∧ isThing th = true := by
  unfold isLine at h
  rw [Bool.and_eq_true, Bool.and_eq_true, Bool.and_eq_true, Bool.and_eq_true] at h
  obtain ⟨⟨⟨⟨h1, h2⟩, h3⟩, h4⟩, h5⟩ := h
  obtain ⟨o, p, th, e⟩ := three (of_decide_eq_true h2)
  refine ⟨o, p, th, ?_, by unfold oneOf; rw [e]; rfl, by unfold otherOf; rw [e]; rfl, by unfold thingOf; rw [e]; rfl, by rw [e] at h3; exact h3, by rw [e] at h4; exact h4, by rw [e] at h5; exact h5⟩
  cases x with
  | list ds => exact .inl (congrArg PyData.list e)
  | tuple ds => exact .inr (congrArg PyData.tuple e)
  | _ => cases h1
theorem thing_nd {d : PyData} (h : isThing d = true) : noDict d = true := by
  cases d with
  | dict _ => cases h
  | _ => rfl
abbrev innerB : DS := forS (seqI (callM 3 F_met_cells (consM (varM 0) (consM (varM 3) (consM (varM 4) nilM))))) (nameG 6) (setS 2 (varM 6) (callM 1 F_told_thing (consM (varM 5) nilM)))
abbrev outerT : DG := seqG (consG (nameG 3) (consG (nameG 4) (consG (nameG 5) nilG)))
theorem outer_step (n : Nat) (hn : n = 2 ∨ n = 3) {b : Sl} {t : Bool} (x : PyData) (sheet : List PyData) (c d e f : Sl) (hx : isLine n x = true) (hl : sheet.length = n * n) :
    ∃ ρ1 c' d' e' f', outerT x [.fro (.int n), b, .own t sheet, c, d, e, f] = some ρ1 ∧ innerB ρ1 = some (.nx [.fro (.int n), b, .own t (paint n sheet x), c', d', e', f']) := by
  obtain ⟨o, p, th, hx, e1, e2, e3, h1, h2, h3⟩ := line_three hx
  have em := met_cells_eq n hn h1 h2
  have hlen : sheet.length ≤ 1000 := by
    rw [hl]
    rcases hn with h | h
    · rw [h]; omega
    · rw [h]; omega
  obtain ⟨s6', ei⟩ := inner_loop (a := .fro (.int n)) (b := b) (c := .fro o) (d := .fro p) (s6 := f) (thing_nd h3) (t := t) (cells n o p) sheet f (fun i hi => by rw [hl]; exact cells_lt hi) hlen
  refine ⟨[.fro (.int n), b, .own t sheet, .fro o, .fro p, .fro th, f], .fro o, .fro p, .fro th, s6', ?_, ?_⟩
  · rcases hx with rfl | rfl <;> rfl
  · have es : seqI (callM 3 F_met_cells (consM (varM 0) (consM (varM 3) (consM (varM 4) nilM)))) [.fro (.int n), b, .own t sheet, .fro o, .fro p, .fro th, f] = some (.ok ((cells n o p).map fun c => PyData.int (c : Nat)) [.fro (.int n), b, .own t sheet, .fro o, .fro p, .fro th, f]) := by
      have ea : (consM (varM 0) (consM (varM 3) (consM (varM 4) nilM))) [.fro (.int n), b, .own t sheet, .fro o, .fro p, .fro th, f] = some (.ok [.int n, o, p] [.fro (.int n), b, .own t sheet, .fro o, .fro p, .fro th, f]) := rfl
      generalize hm : ((cells n o p).map fun c => PyData.int (c : Nat)) = mm at em
      unfold seqI callM
      rw [ea, bnd_ok, if_pos (show [PyData.int n, o, p].length = 3 from rfl), em, Option.map_some, bnd_ok]
    have pe : paint n sheet x = paintC (toldThing th) (cells n o p) sheet := by
      unfold paint
      rw [e1, e2, e3]
    rw [pe]
    exact (for_enum es).trans ei
theorem outer_loop (n : Nat) (hn : n = 2 ∨ n = 3) {b : Sl} {t : Bool} (ds : List PyData) : ∀ (sheet : List PyData) (c d e f : Sl), (∀ x ∈ ds, isLine n x = true) → sheet.length = n * n →
    ∃ c' d' e' f', loopS outerT innerB ds [.fro (.int n), b, .own t sheet, c, d, e, f] = some (.nx [.fro (.int n), b, .own t (paints n ds sheet), c', d', e', f']) := by
  induction ds with
  | nil => exact fun sheet c d e f _ _ => ⟨c, d, e, f, rfl⟩
  | cons x ds ih =>
    intro sheet c d e f h hl
    obtain ⟨ρ1, c1, d1, e1, f1, h1, h2⟩ := outer_step n hn (b := b) (t := t) x sheet c d e f (h x List.mem_cons_self) hl
    obtain ⟨c', d', e', f', h3⟩ := ih (paint n sheet x) c1 d1 e1 f1 (fun y hy => h y (List.mem_cons_of_mem _ hy)) (by rw [paint_length]; exact hl)
    exact ⟨c', d', e', f', (loop_step h1 h2).trans h3⟩
/-- the sheet that lines tell -/
def sheetD (n : Nat) (ds : List PyData) : List PyData := paints n ds (List.replicate (n * n) .none)
def sheetR (n : Nat) (ds : List PyData) : Rs := match bad (fun d => !isNoneP d) 0 (sheetD n ds) with | some k => .er 2 (.int (k : Nat)) | none => .ok (.tuple (sheetD n ds))
theorem last_loop {a b c d e f : Sl} {v : PyData} (ds : List PyData) :
    (bad (fun d => !isNoneP d) 0 ds = none → ∃ e' f', loopS (seqG (consG (nameG 6) (consG (nameG 5) nilG))) (ifS (boolM (opM isP (varM 5) (conM .none))) (raiseS 2 (varM 6)) nextS) (enumD 0 ds) [a, b, .fro v, c, d, e, f] = some (.nx [a, b, .fro v, c, d, e', f'])) ∧
    (∀ k, bad (fun d => !isNoneP d) 0 ds = some k → ∃ ρ', loopS (seqG (consG (nameG 6) (consG (nameG 5) nilG))) (ifS (boolM (opM isP (varM 5) (conM .none))) (raiseS 2 (varM 6)) nextS) (enumD 0 ds) [a, b, .fro v, c, d, e, f] = some (.ex 2 (.int (k : Nat)) ρ')) := by
  have := enum_scan (tg := seqG (consG (nameG 6) (consG (nameG 5) nilG))) (body := ifS (boolM (opM isP (varM 5) (conM .none))) (raiseS 2 (varM 6)) nextS) (fun ρ => ∃ e f, ρ = [a, b, .fro v, c, d, e, f]) (fun d => !isNoneP d) 2 ds 0 [a, b, .fro v, c, d, e, f] ⟨_, _, rfl⟩ (fun k x hx ρ hR => ?_)
  · refine ⟨fun z => ?_, this.2⟩
    obtain ⟨ρ', e, x, y, rfl⟩ := this.1 z
    exact ⟨x, y, e⟩
  · obtain ⟨e, f, rfl⟩ := hR
    refine ⟨[a, b, .fro v, c, d, .fro x, .fro (.int (k : Nat))], rfl, fun hp => ⟨[a, b, .fro v, c, d, .fro x, .fro (.int (k : Nat))], ?_, _, _, rfl⟩, fun hp => ⟨[a, b, .fro v, c, d, .fro x, .fro (.int (k : Nat))], ?_⟩⟩
    · have h' : isNoneP x = false := by simpa using hp
      simp [ifS, boolM, opM, isP, varM, conM, bnd, bndS, nextS, h']
    · have h' : isNoneP x = true := by simpa using hp
      simp [ifS, boolM, opM, isP, varM, conM, bnd, bndS, raiseS, h']
theorem lines_sheet_ok (n : Nat) (hn : n = 2 ∨ n = 3) {d : PyData} (h : Lines d) (hs : isSeq d = true) (hb : bad (isLine n) 0 (parts d) = none) (hall : ∀ x ∈ parts d, isLine n x = true) : F_lines_sheet [.int n, d] = some (sheetR n (parts d)) := by
  have hsz : isSize (.int (n : Int)) = true := by rcases hn with rfl | rfl <;> rfl
  have e0 : F_need_size [.int n] = some (.ok (.int n)) := by
    rw [need_size_eq rfl]
    unfold needSize
    rw [if_pos hsz]
  have e1 : F_need_lines [.int n, d] = some (.ok .none) := by
    rw [need_lines_eq n h]
    unfold needLines
    rw [if_pos hs, hb]
  have em : mulP (.int n) (.int n) = some (.int (n * n)) := mul_ok n n (by rcases hn with rfl | rfl <;> decide) (by rcases hn with rfl | rfl <;> decide)
  have ez : F_lines_sheet [.int n, d] = (den_lines_sheet F_need_size F_need_lines F_met_cells F_told_thing [.fro (.int n), .fro d, .no, .no, .no, .no, .no]).bind outE := rfl
  have s1 : dropS (callE 1 F_need_size (consM (varM 0) nilM)) [.fro (.int n), .fro d, .no, .no, .no, .no, .no] = some (.nx [.fro (.int n), .fro d, .no, .no, .no, .no, .no]) := by simp [e0, listM, varM, letM, conM, opM, unM, caM, nilM, consM, tupM, lstM, boolM, andB, orB, notB, andV, orV, notV, ifM, seqS, nextS, breakS, contS, asgS, asgO, dropS, retS, retO, retN, ifS, appS, nameG, seqG, tupG, listI, tupI, seqI, rng1I, rng2I, enumI, callM, callE, callN, callB, raiseS, setS, isi1M, isi2M, truB, chainM, noM, partM, slM, lenOM, ixOM, tupOM, toldM, kwM, kwE, enumTI, enumSI, enumOI, yesB, opN, caN, rng1M, asgG, lrgM, bnd, bndS, bnd0, rho0, rhoB, denQ, denE, denN, denB, outQ, outE, outN, outB, i2, b2, addP, subP, modP, powP, ltP, leP, gtP, geP, isP, isNotP, isNoneP, ixP, negP, lenP, absP, intP, tupleP, listP, at?, truD]
  have s2 : dropS (callE 2 F_need_lines (consM (varM 0) (consM (varM 1) nilM))) [.fro (.int n), .fro d, .no, .no, .no, .no, .no] = some (.nx [.fro (.int n), .fro d, .no, .no, .no, .no, .no]) := by simp [e1, listM, varM, letM, conM, opM, unM, caM, nilM, consM, tupM, lstM, boolM, andB, orB, notB, andV, orV, notV, ifM, seqS, nextS, breakS, contS, asgS, asgO, dropS, retS, retO, retN, ifS, appS, nameG, seqG, tupG, listI, tupI, seqI, rng1I, rng2I, enumI, callM, callE, callN, callB, raiseS, setS, isi1M, isi2M, truB, chainM, noM, partM, slM, lenOM, ixOM, tupOM, toldM, kwM, kwE, enumTI, enumSI, enumOI, yesB, opN, caN, rng1M, asgG, lrgM, bnd, bndS, bnd0, rho0, rhoB, denQ, denE, denN, denB, outQ, outE, outN, outB, i2, b2, addP, subP, modP, powP, ltP, leP, gtP, geP, isP, isNotP, isNoneP, ixP, negP, lenP, absP, intP, tupleP, listP, at?, truD]
  have s3 : asgO 2 (opN mulP (listM (lstM (consM (conM .none) nilM))) (opM mulP (varM 0) (varM 0))) [.fro (.int n), .fro d, .no, .no, .no, .no, .no] = some (.nx [.fro (.int n), .fro d, .own false (List.replicate (n * n) .none), .no, .no, .no, .no]) := by
    rcases hn with rfl | rfl <;> rfl
  obtain ⟨c', d', e', f', s4⟩ := outer_loop n hn (b := .fro d) (t := false) (parts d) (List.replicate (n * n) .none) .no .no .no .no hall (List.length_replicate ..)
  have s4' : forS (seqI (varM 1)) outerT innerB [.fro (.int n), .fro d, .own false (List.replicate (n * n) .none), .no, .no, .no, .no] = some (.nx [.fro (.int n), .fro d, .own false (sheetD n (parts d)), c', d', e', f']) := by
    have ei : seqI (varM 1) [.fro (.int n), .fro d, .own false (List.replicate (n * n) .none), .no, .no, .no, .no] = some (.ok (parts d) [.fro (.int n), .fro d, .own false (List.replicate (n * n) .none), .no, .no, .no, .no]) := by
      cases d with
      | list ds => rfl
      | tuple ds => rfl
      | _ => cases hs
    rw [for_enum ei]
    exact s4
  have s5 : enumSI (consM (letM 2) nilM) [.fro (.int n), .fro d, .own false (sheetD n (parts d)), c', d', e', f'] = some (.ok (enumD 0 (sheetD n (parts d))) [.fro (.int n), .fro d, .fro (.list (sheetD n (parts d))), c', d', e', f']) := rfl
  have L := last_loop (a := .fro (.int n)) (b := .fro d) (c := c') (d := d') (e := e') (f := f') (v := .list (sheetD n (parts d))) (sheetD n (parts d))
  rw [ez]
  unfold den_lines_sheet
  rw [seq_nx s1, seq_nx s2, seq_nx s3, seq_nx s4']
  unfold sheetR
  cases hbb : bad (fun d => !isNoneP d) 0 (sheetD n (parts d)) with
  | none =>
    obtain ⟨x, y, e⟩ := L.1 hbb
    rw [seq_nx ((for_enum s5).trans e)]
    rfl
  | some k =>
    obtain ⟨ρ', e⟩ := L.2 k hbb
    rw [seq_ex ((for_enum s5).trans e)]
    rfl
end K01

namespace K01
open PySem L2 Evl Pd
def meets (n c : Nat) (x : PyData) : Bool := hits (oneOf x) (c / n) && hits (otherOf x) (c % n)
def lastOf (n c : Nat) (ds : List PyData) : PyData := match (ds.filter (meets n c)).getLast? with | some x => toldThing (thingOf x) | none => .none
theorem paints_get (n c : Nat) (hc : c < n * n) : ∀ (ds s : List PyData), s.length = n * n → (paints n ds s)[c]? = (match (ds.filter (meets n c)).getLast? with | some x => some (toldThing (thingOf x)) | none => s[c]?)
  | [], s, hl => rfl
  | x :: ds, s, hl => by
    unfold paints
    rw [paints_get n c hc ds (paint n s x) (by rw [paint_length]; exact hl)]
    have hp : (paint n s x)[c]? = if meets n c x = true then some (toldThing (thingOf x)) else s[c]? := by
      unfold paint
      rw [paintC_get _ _ _ _ (by rw [hl]; exact hc)]
      have : (c ∈ cells n (oneOf x) (otherOf x)) ↔ meets n c x = true := by
        unfold cells meets
        rw [List.mem_filter]
        exact ⟨fun h => h.2, fun h => ⟨List.mem_range.mpr hc, h⟩⟩
      by_cases h : meets n c x = true
      · rw [if_pos h, if_pos (this.mpr h)]
      · rw [if_neg h, if_neg fun z => h (this.mp z)]
    by_cases h : meets n c x = true
    · rw [List.filter_cons_of_pos h, List.getLast?_cons]
      cases hg : (ds.filter (meets n c)).getLast? with
      | none => rw [Option.getD_none, hp, if_pos h]
      | some y => rw [Option.getD_some]
    · rw [List.filter_cons_of_neg h]
      cases hg : (ds.filter (meets n c)).getLast? with
      | none => rw [hp, if_neg h]
      | some y => rfl
theorem sheet_get (n c : Nat) (hc : c < n * n) (ds : List PyData) : (sheetD n ds)[c]? = some (lastOf n c ds) := by
  unfold sheetD lastOf
  rw [paints_get n c hc ds _ (List.length_replicate ..)]
  cases (ds.filter (meets n c)).getLast? with
  | some x => rfl
  | none => rw [List.getElem?_replicate, if_pos hc]
/-! ### the law's own -/
theorem in_hits (o : PyData) (n : Int) (h : isPlace n o = true) (j : Nat) : inP o (.tuple [.none, .int (j : Nat)]) = some (.bool (hits o j)) := by
  cases o with
  | none => rfl
  | int i =>
    show some (PyData.bool _) = some (PyData.bool (decide (i = (j : Int))))
    have : ((PyData.none.eqv (.int i)) || ((PyData.int (j : Nat)).eqv (.int i) || false)) = decide (i = (j : Int)) := by
      show (false || (((j : Int) == i) || false)) = _
      by_cases hh : i = (j : Int)
      · subst hh; simp
      · rw [decide_eq_false hh]
        have : ((j : Int) == i) = false := beq_eq_false_iff_ne.mpr (Ne.symm hh)
        rw [this]
        rfl
    exact congrArg (fun b => some (PyData.bool b)) this
  | _ => cases h
/-- a line of the law: its thing is one of the menu -/
structure Ln1 (n : Int) (x : PyData) : Prop where
  l : isLine n x = true
  t : thingOf x ∈ things
theorem shaped_things : ∀ ds : List PyData, (∀ d ∈ ds, d ∈ things) → SeqAt.shaped (.list ds) = true := by
  intro ds h
  have one : ∀ d ∈ things, d.canLay0 = true ∧ d.depth ≤ 1 := by decide
  have all : ∀ ds : List PyData, (∀ d ∈ ds, d ∈ things) → PyData.canLayAll0 ds = true ∧ PyData.depthAll ds ≤ 2 := fun ds => by
    induction ds with
    | nil => exact fun _ => ⟨rfl, by decide⟩
    | cons d ds ih =>
      intro h
      obtain ⟨a, b⟩ := one d (h d List.mem_cons_self)
      obtain ⟨c, e⟩ := ih fun x hx => h x (List.mem_cons_of_mem _ hx)
      refine ⟨?_, ?_⟩
      · show (d.canLay0 && PyData.canLayAll0 ds) = true
        rw [a, c]; rfl
      · show max _ _ ≤ 2
        omega
  obtain ⟨a, b⟩ := all ds h
  unfold SeqAt.shaped
  rw [Bool.and_eq_true]
  refine ⟨a, decide_eq_true ?_⟩
  show PyData.depthAll ds + 1 ≤ 64
  omega
def dueT (n c : Nat) : DB := andB (boolM (opM inP (opM ixP (varM 5) (conM (.int 0))) (tupM (consM (conM .none) (consM (opM divP (varM 3) (varM 0)) nilM))))) (boolM (opM inP (opM ixP (varM 5) (conM (.int 1))) (tupM (consM (conM .none) (consM (opM modP (varM 3) (varM 0)) nilM)))))
theorem due_test (n c : Nat) (hn : n = 2 ∨ n = 3) (x : PyData) (h : isLine n x = true) (a b e : Sl) : dueT n c [.fro (.int n), a, b, .fro (.int (c : Nat)), e, .fro x] = some (.ok (meets n c x) [.fro (.int n), a, b, .fro (.int (c : Nat)), e, .fro x]) ∧
    (opM ixP (varM 5) (conM (.int 2))) [.fro (.int n), a, b, .fro (.int (c : Nat)), e, .fro x] = some (.ok (thingOf x) [.fro (.int n), a, b, .fro (.int (c : Nat)), e, .fro x]) := by
  obtain ⟨o, p, th, hx, e1, e2, e3, h1, h2, h3⟩ := line_three h
  have n0 : (0 : Int) < n := by rcases hn with rfl | rfl <;> decide
  have ed : divP (.int (c : Nat)) (.int n) = some (.int ((c : Int) / (n : Int))) := by
    rw [div_ok _ _ n0 (by rcases hn with rfl | rfl <;> decide)]
  have em : modP (.int (c : Nat)) (.int n) = some (.int ((c : Int) % (n : Int))) := by
    show (if decide ((0 : Int) < n) = true then _ else _) = _
    rw [if_pos (decide_eq_true n0)]
  have i1 : inP o (.tuple [.none, .int ((c : Int) / (n : Int))]) = some (.bool (hits o (c / n))) := in_hits o n h1 (c / n)
  have i2 : inP p (.tuple [.none, .int ((c : Int) % (n : Int))]) = some (.bool (hits p (c % n))) := in_hits p n h2 (c % n)
  unfold meets
  rw [e1, e2, e3]
  constructor
  · cases hh : hits o (c / n) with
    | true =>
      rw [hh] at i1
      rcases hx with rfl | rfl <;> simp [dueT, andB, boolM, opM, tupM, consM, nilM, varM, conM, bnd, ixP, at?, ed, em, i1, i2]
    | false =>
      rw [hh] at i1
      rcases hx with rfl | rfl <;> simp [dueT, andB, boolM, opM, tupM, consM, nilM, varM, conM, bnd, ixP, at?, ed, em, i1, i2]
  · rcases hx with rfl | rfl <;> rfl
def metL (n c : Nat) (ds : List PyData) : List PyData := (ds.filter (meets n c)).map thingOf
theorem due_met (n c : Nat) (hn : n = 2 ∨ n = 3) (d : PyData) (hs : isSeq d = true) (hl : (parts d).length ≤ 1000) (h : ∀ x ∈ parts d, isLine n x = true) (b e l5 : Sl) :
    (asgS 4 (listM (lcM (seqI (varM 1)) (nameG 5) (dueT n c) (opM ixP (varM 5) (conM (.int 2))) [5]))) [.fro (.int n), .fro d, b, .fro (.int (c : Nat)), e, l5] = some (.nx [.fro (.int n), .fro d, b, .fro (.int (c : Nat)), .fro (.list (metL n c (parts d))), .no]) := by
  have e0 : seqI (varM 1) [.fro (.int n), .fro d, b, .fro (.int (c : Nat)), e, l5] = some (.ok (parts d) [.fro (.int n), .fro d, b, .fro (.int (c : Nat)), e, l5]) := by
    cases d with
    | list ds => rfl
    | tuple ds => rfl
    | _ => cases hs
  have e1 := lc_pure (tg := nameG 5) (tt := dueT n c) (e := opM ixP (varM 5) (conM (.int 2))) (vs := [5]) (ρ0 := [.fro (.int n), .fro d, b, .fro (.int (c : Nat)), e, .no]) (meets n c) thingOf (parts d) [] (fun x hx => by
    obtain ⟨t1, t2⟩ := due_test n c hn x (h x hx) (.fro d) b e
    exact ⟨_, _, rfl, t1, fun _ => ⟨_, t2, rfl⟩, fun _ => rfl⟩) (by
    rw [List.length_nil]
    omega)
  have e2 : lcM (seqI (varM 1)) (nameG 5) (dueT n c) (opM ixP (varM 5) (conM (.int 2))) [5] [.fro (.int n), .fro d, b, .fro (.int (c : Nat)), e, l5] = some (.ok (metL n c (parts d)) [.fro (.int n), .fro d, b, .fro (.int (c : Nat)), e, .no]) := by
    unfold lcM
    rw [e0, bnd_ok]
    show (lcL _ _ _ _ _ [] [.fro (.int n), .fro d, b, .fro (.int (c : Nat)), e, .no]).map _ = _
    rw [e1, List.nil_append]
    rfl
  unfold asgS listM
  rw [e2, bnd_ok]
  rfl

abbrev dueB : DS := seqS (asgS 4 (listM (lcM (seqI (varM 1)) (nameG 5) (dueT 0 0) (opM ixP (varM 5) (conM (.int 2))) [5]))) (seqS (ifS (boolM (opM eqS (varM 4) (listM (lstM nilM)))) (retS (tupM (consM (conM (.str "refused")) (consM (varM 3) nilM)))) nextS) (appS 2 (ifM (truB (isi1M "int" (opM ixP (varM 4) (unM negP (conM (.int 1)))))) (opM ixP (varM 4) (unM negP (conM (.int 1)))) (caM tupleP (consM (opM ixP (varM 4) (unM negP (conM (.int 1)))) nilM)))))
theorem ix_last {ds : List PyData} {x : PyData} (h : ds.getLast? = some x) : ixP (.list ds) (.int (-1)) = some x := by
  have hne : ds ≠ [] := fun z => by rw [z] at h; cases h
  have hp : 0 < ds.length := List.length_pos_iff.mpr hne
  show (at? ds.length (-1)).bind _ = _
  have : at? ds.length (-1) = some (ds.length - 1) := by
    unfold at?
    rw [if_neg (by decide), if_pos (by omega)]
    congr 1
    omega
  rw [this]
  show ds[ds.length - 1]? = _
  rw [← List.getLast?_eq_getElem?]
  exact h
theorem things_told : ∀ x ∈ things, (∃ i, x = .int i) ∨ (∃ l, x = .list l) ∨ ∃ l, x = .tuple l := by
  intro x hx
  simp only [things, List.mem_cons, List.not_mem_nil, or_false] at hx
  rcases hx with rfl | rfl | rfl | rfl | rfl | rfl | rfl
  · exact .inl ⟨_, rfl⟩
  · exact .inl ⟨_, rfl⟩
  · exact .inl ⟨_, rfl⟩
  · exact .inr (.inr ⟨_, rfl⟩)
  · exact .inr (.inl ⟨_, rfl⟩)
  · exact .inr (.inr ⟨_, rfl⟩)
  · exact .inr (.inr ⟨_, rfl⟩)
theorem told_not_none {x : PyData} (h : x ∈ things) : isNoneP (toldThing x) = false := by
  rcases things_told x h with ⟨i, rfl⟩ | ⟨l, rfl⟩ | ⟨l, rfl⟩ <;> rfl
theorem due_step (n c : Nat) (hn : n = 2 ∨ n = 3) (d : PyData) (hs : isSeq d = true) (hl : (parts d).length ≤ 1000) (h : ∀ x ∈ parts d, Ln1 n x) (acc : List PyData) (ha : acc.length ≤ 1000) (t : Bool) (e l5 : Sl) :
    (isNoneP (lastOf n c (parts d)) = true → ∃ ρ', dueB [.fro (.int n), .fro d, .own t acc, .fro (.int (c : Nat)), e, l5] = some (.rt (.tuple [.str "refused", .int (c : Nat)]) ρ')) ∧
    (isNoneP (lastOf n c (parts d)) = false → ∃ e' l', dueB [.fro (.int n), .fro d, .own t acc, .fro (.int (c : Nat)), e, l5] = some (.nx [.fro (.int n), .fro d, .own t (acc ++ [lastOf n c (parts d)]), .fro (.int (c : Nat)), e', l'])) := by
  have em := due_met n c hn d hs hl (fun x hx => (h x hx).l) (.own t acc) e l5
  have hlast : (metL n c (parts d)).getLast? = ((parts d).filter (meets n c)).getLast?.map thingOf := by
    unfold metL
    rw [List.getLast?_map]
  have hmem : ∀ x ∈ metL n c (parts d), x ∈ things := fun x hx => by
    obtain ⟨y, hy, rfl⟩ := List.mem_map.mp hx
    exact (h y (List.mem_filter.mp hy).1).t
  have sh := shaped_things (metL n c (parts d)) hmem
  have s0 : SeqAt.shaped (.list []) = true := rfl
  unfold lastOf
  cases hg : ((parts d).filter (meets n c)).getLast? with
  | none =>
    have hnil : metL n c (parts d) = [] := by
      unfold metL
      rw [List.getLast?_eq_none_iff.mp hg]
      rfl
    refine ⟨fun _ => ⟨[.fro (.int n), .fro d, .own t acc, .fro (.int (c : Nat)), .fro (.list []), .no], ?_⟩, fun z => by cases z⟩
    rw [hnil] at em
    refine (seq_nx em).trans (seq_rt ?_)
    rfl
  | some y =>
    have hy : thingOf y ∈ things := (h y (List.mem_filter.mp (List.mem_of_getLast? hg)).1).t
    refine ⟨fun z => ?_, fun _ => ⟨.fro (.list (metL n c (parts d))), .no, ?_⟩⟩
    · have := told_not_none hy
      rw [show isNoneP (toldThing (thingOf y)) = true from z] at this
      cases this
    · refine (seq_nx em).trans ?_
      rw [hg] at hlast
      have e1 := ix_last hlast
      have ene : metL n c (parts d) ≠ [] := fun z => by rw [z] at hlast; cases hlast
      have ev : (PyData.list (metL n c (parts d))).eqv (.list []) = false := by
        cases hm : metL n c (parts d) with
        | nil => exact absurd hm ene
        | cons _ _ => rfl
      have eq : eqS (.list (metL n c (parts d))) (.list []) = some (.bool false) := by
        show eqP _ _ = _
        unfold eqP
        rw [if_pos ⟨sh, s0⟩, ev]
      have step2 : (ifS (boolM (opM eqS (varM 4) (listM (lstM nilM)))) (retS (tupM (consM (conM (.str "refused")) (consM (varM 3) nilM)))) nextS) [.fro (.int n), .fro d, .own t acc, .fro (.int (c : Nat)), .fro (.list (metL n c (parts d))), .no] = some (.nx [.fro (.int n), .fro d, .own t acc, .fro (.int (c : Nat)), .fro (.list (metL n c (parts d))), .no]) := by
        simp [ifS, boolM, opM, varM, listM, lstM, nilM, bnd, bndS, eq, nextS]
      refine (seq_nx step2).trans ?_
      have hz : acc.length < 100000 := by omega
      dsimp only
      rcases things_told _ hy with ⟨i, hi⟩ | ⟨l, hi⟩ | ⟨l, hi⟩
      · rw [hi] at e1
        rw [hi]
        have k1 : kitB (tyD (.int i)) "int" = some true := rfl
        simp [appS, ifM, truB, isi1M, opM, unM, conM, varM, negP, caM, consM, nilM, tupleP, bnd, bndS, e1, k1, truD, toldThing, hz]
      · rw [hi] at e1
        rw [hi]
        have k1 : kitB (tyD (.list l)) "int" = some false := rfl
        simp [appS, ifM, truB, isi1M, opM, unM, conM, varM, negP, caM, consM, nilM, tupleP, bnd, bndS, e1, k1, truD, toldThing, hz]
      · rw [hi] at e1
        rw [hi]
        have k1 : kitB (tyD (.tuple l)) "int" = some false := rfl
        simp [appS, ifM, truB, isi1M, opM, unM, conM, varM, negP, caM, consM, nilM, tupleP, bnd, bndS, e1, k1, truD, toldThing, hz]
end K01

namespace K01
open PySem L2 Evl Pd
def intN (c : Nat) : PyData := .int (c : Int)
theorem loop_rt {tg : DG} {body : DS} {d : PyData} {ds : List PyData} {ρ ρ1 ρ2 : Rho} {r : PyData} (e1 : tg d ρ = some ρ1) (e2 : body ρ1 = some (.rt r ρ2)) : loopS tg body (d :: ds) ρ = some (.rt r ρ2) := by
  show (match tg d ρ with | none => none | some ρ1 => _) = _
  rw [e1]
  show (match body ρ1 with | some (.nx ρ2) => _ | some (.ct ρ2) => _ | some (.bk ρ2) => _ | x => _) = _
  rw [e2]
def dueVal : Rs → PyData | .ok d => d | .er _ d => .tuple [.str "refused", d]
theorem due_loop (n : Nat) (hn : n = 2 ∨ n = 3) (d : PyData) (hs : isSeq d = true) (hl : (parts d).length ≤ 1000) (h : ∀ x ∈ parts d, Ln1 n x) : ∀ (m c : Nat) (s3 e l5 : Sl), c + m = n * n →
    (bad (fun d => !isNoneP d) c ((List.range' c m).map fun c => lastOf n c (parts d)) = none → ∃ s e' l', loopS (nameG 3) dueB ((List.range' c m).map intN) [.fro (.int n), .fro d, .own false ((List.range' 0 c).map fun c => lastOf n c (parts d)), s3, e, l5] = some (.nx [.fro (.int n), .fro d, .own false ((List.range' 0 (n * n)).map fun c => lastOf n c (parts d)), s, e', l'])) ∧
    (∀ k, bad (fun d => !isNoneP d) c ((List.range' c m).map fun c => lastOf n c (parts d)) = some k → ∃ ρ', loopS (nameG 3) dueB ((List.range' c m).map intN) [.fro (.int n), .fro d, .own false ((List.range' 0 c).map fun c => lastOf n c (parts d)), s3, e, l5] = some (.rt (.tuple [.str "refused", .int (k : Nat)]) ρ'))
  | 0, c, s3, e, l5, hc => by
    have : c = n * n := by omega
    subst this
    exact ⟨fun _ => ⟨s3, e, l5, rfl⟩, fun k z => by cases z⟩
  | m + 1, c, s3, e, l5, hc => by
    have h9 : n * n ≤ 9 := by rcases hn with rfl | rfl <;> omega
    obtain ⟨a, b⟩ := due_step n c hn d hs hl h ((List.range' 0 c).map fun c => lastOf n c (parts d)) (by rw [List.length_map, List.length_range']; omega) false e l5
    have ec : (List.range' 0 c).map (fun c => lastOf n c (parts d)) ++ [lastOf n c (parts d)] = (List.range' 0 (c + 1)).map fun c => lastOf n c (parts d) := by
      rw [List.range'_concat, List.map_append]
      simp
    rw [List.range'_succ, List.map_cons, List.map_cons]
    unfold bad
    cases hb : isNoneP (lastOf n c (parts d)) with
    | true =>
      obtain ⟨ρ', ea⟩ := a hb
      refine ⟨fun z => by simp at z, fun k z => ?_⟩
      have : k = c := by simpa using z.symm
      subst this
      exact ⟨ρ', loop_rt (ρ1 := [.fro (.int n), .fro d, .own false _, .fro (intN k), e, l5]) rfl ea⟩
    | false =>
      obtain ⟨e', l', eb⟩ := b hb
      rw [ec] at eb
      have ih := due_loop n hn d hs hl h m (c + 1) (.fro (.int (c : Int))) e' l' (by omega)
      rw [loop_step (ρ1 := [.fro (.int n), .fro d, .own false _, .fro (intN c), e, l5]) rfl eb]
      simpa using ih
theorem sheet_eq (n : Nat) (ds : List PyData) : sheetD n ds = (List.range' 0 (n * n)).map fun c => lastOf n c ds := by
  apply List.ext_getElem?
  intro i
  by_cases hi : i < n * n
  · rw [sheet_get n i hi, List.getElem?_map, List.getElem?_range' hi]
    simp
  · have l1 : (sheetD n ds).length = n * n := by unfold sheetD; rw [paints_length, List.length_replicate]
    rw [List.getElem?_eq_none (by omega), List.getElem?_eq_none (by rw [List.length_map, List.length_range']; omega)]
theorem due_eq (n : Nat) (hn : n = 2 ∨ n = 3) (d : PyData) (hs : isSeq d = true) (hl : (parts d).length ≤ 1000) (h : ∀ x ∈ parts d, Ln1 n x) : F__law_due [.int n, d] = some (dueVal (sheetR n (parts d))) := by
  have em : mulP (.int n) (.int n) = some (.int (n * n)) := mul_ok n n (by rcases hn with rfl | rfl <;> decide) (by rcases hn with rfl | rfl <;> decide)
  have er : rng1M (consM (opM mulP (varM 0) (varM 0)) nilM) [.fro (.int n), .fro d, .own false [], .no, .no, .no] = some (.ok ((List.range' 0 (n * n)).map intN) [.fro (.int n), .fro d, .own false [], .no, .no, .no]) := by
    rcases hn with rfl | rfl <;> rfl
  have L := due_loop n hn d hs hl h (n * n) 0 .no .no .no (by omega)
  have ez : F__law_due [.int n, d] = (seqS (asgO 2 (lstM nilM)) (seqS (forS (rng1M (consM (opM mulP (varM 0) (varM 0)) nilM)) (nameG 3) dueB) (retS (tupOM 2))) [.fro (.int n), .fro d, .no, .no, .no, .no]).bind outQ := rfl
  have s1 : asgO 2 (lstM nilM) [.fro (.int n), .fro d, .no, .no, .no, .no] = some (.nx [.fro (.int n), .fro d, .own false [], .no, .no, .no]) := rfl
  rw [ez, seq_nx s1]
  unfold sheetR
  rw [sheet_eq]
  cases hb : bad (fun d => !isNoneP d) 0 ((List.range' 0 (n * n)).map fun c => lastOf n c (parts d)) with
  | none =>
    obtain ⟨s, e', l', e⟩ := L.1 hb
    rw [seq_nx ((for_enum er).trans e)]
    rfl
  | some k =>
    obtain ⟨ρ', e⟩ := L.2 k hb
    rw [seq_rt ((for_enum er).trans e)]
    rfl
end K01

namespace K01
open PySem L2 Evl Pd
theorem step {f g : DS} {ρ ρ1 : Rho} {R : Option Oc → Prop} (e : f ρ = some (.nx ρ1)) (h : R (g ρ1)) : R (seqS f g ρ) := by
  rw [seq_nx e]
  exact h
/-- some state of so many names, the first two kept -/
def Kept (a b : Sl) (r : Option Oc) : Prop := ∃ s2 s3 s4 s5 s6 s7 s8 s9 s10 s11 s12 s13 s14 : Sl, r = some (.nx [a, b, s2, s3, s4, s5, s6, s7, s8, s9, s10, s11, s12, s13, s14])
theorem for3 {a : Sl} {body : DS} (h : ∀ k : Int, 0 ≤ k → k < 3 → ∀ s2 s3 s4 s5 s6 s7 s8 s9 s10 s11 s12 s13 s14 : Sl, Kept a (.fro (.int k)) (body [a, .fro (.int k), s2, s3, s4, s5, s6, s7, s8, s9, s10, s11, s12, s13, s14])) (s1 s2 s3 s4 s5 s6 s7 s8 s9 s10 s11 s12 s13 s14 : Sl) :
    ∃ ρ', forS (rng1M (consM (conM (.int 3)) nilM)) (nameG 1) body [a, s1, s2, s3, s4, s5, s6, s7, s8, s9, s10, s11, s12, s13, s14] = some (.nx ρ') := by
  have e : rng1M (consM (conM (.int 3)) nilM) [a, s1, s2, s3, s4, s5, s6, s7, s8, s9, s10, s11, s12, s13, s14] = some (.ok [.int 0, .int 1, .int 2] [a, s1, s2, s3, s4, s5, s6, s7, s8, s9, s10, s11, s12, s13, s14]) := rfl
  rw [for_enum e]
  obtain ⟨t2, t3, t4, t5, t6, t7, t8, t9, t10, t11, t12, t13, t14, e0⟩ := h 0 (by decide) (by decide) s2 s3 s4 s5 s6 s7 s8 s9 s10 s11 s12 s13 s14
  obtain ⟨u2, u3, u4, u5, u6, u7, u8, u9, u10, u11, u12, u13, u14, e1⟩ := h 1 (by decide) (by decide) t2 t3 t4 t5 t6 t7 t8 t9 t10 t11 t12 t13 t14
  obtain ⟨v2, v3, v4, v5, v6, v7, v8, v9, v10, v11, v12, v13, v14, e2⟩ := h 2 (by decide) (by decide) u2 u3 u4 u5 u6 u7 u8 u9 u10 u11 u12 u13 u14
  rw [loop_step (ρ1 := [a, .fro (.int 0), s2, s3, s4, s5, s6, s7, s8, s9, s10, s11, s12, s13, s14]) rfl e0, loop_step (ρ1 := [a, .fro (.int 1), t2, t3, t4, t5, t6, t7, t8, t9, t10, t11, t12, t13, t14]) rfl e1, loop_step (ρ1 := [a, .fro (.int 2), u2, u3, u4, u5, u6, u7, u8, u9, u10, u11, u12, u13, u14]) rfl e2]
  exact ⟨_, rfl⟩
/-- a list is lent -/
theorem callB_ok {n i : Nat} {fn : FnB} {fl : DL} {ρ ρ1 : Rho} {as bd bd' : List PyData} {t t0 : Bool} {ds0 : List PyData} {r : PyData} (h0 : ρ[i]? = some (.own t0 ds0)) (e : fl ρ = some (.ok as ρ1)) (h1 : ρ1[i]? = some (.own t bd)) (hn : as.length = n) (ef : fn bd as = some (r, bd')) : callB n i fn fl ρ = some (.ok r (ρ1.set i (.own t bd'))) := by
  unfold callB
  rw [h0]
  show bnd (fl ρ) _ = _
  rw [e, bnd_ok, h1]
  show (if as.length = n then _ else none) = _
  rw [if_pos hn, ef]
  rfl
theorem first_ok : F_lines_sheet [.int 2, .list [.tuple [.none, .none, .int 0], .tuple [.int 1, .none, .int 1], .list [.none, .int 0, .tuple [.int 3, .int 4]]]] = some (.ok (.tuple [.tuple [.int 3, .int 4], .int 0, .tuple [.int 3, .int 4], .int 1])) := by
  have hf : Lines (.list [.tuple [.none, .none, .int 0], .tuple [.int 1, .none, .int 1], .list [.none, .int 0, .tuple [.int 3, .int 4]]]) := by
    refine ⟨rfl, fun x hx => ?_⟩
    simp only [parts, List.mem_cons, List.not_mem_nil, or_false] at hx
    rcases hx with rfl | rfl | rfl
    all_goals refine ⟨rfl, fun y hy => ?_, by decide, fun y hy => ?_⟩
    all_goals simp only [parts, List.mem_cons, List.not_mem_nil, or_false] at hy
    all_goals rcases hy with rfl | rfl | rfl
    all_goals first | rfl | (refine ⟨fun z hz => ?_, by decide⟩; simp only [parts, List.mem_cons, List.not_mem_nil, or_false] at hz <;> (rcases hz with rfl | rfl <;> rfl))
  refine (lines_sheet_ok 2 (.inl rfl) hf rfl rfl fun x hx => ?_).trans rfl
  simp only [parts, List.mem_cons, List.not_mem_nil, or_false] at hx
  rcases hx with rfl | rfl | rfl <;> rfl
end K01

namespace K01
open PySem L2 Evl Pd
/-- a line as the law makes it -/
structure GL (n : Nat) (x : PyData) : Prop where
  a : Ln1 n x
  f : Flat x
def headsL (n : Nat) : List PyData := .none :: rangeD 0 n
theorem heads_place {n : Nat} {x : PyData} (h : x ∈ headsL n) : isPlace n x = true ∧ (x = .none ∨ ∃ i : Int, x = .int i) := by
  rcases List.mem_cons.mp h with rfl | h
  · exact ⟨rfl, .inl rfl⟩
  · unfold rangeD at h
    obtain ⟨i, hi, rfl⟩ := List.mem_map.mp h
    have hi' := List.mem_range.mp hi
    refine ⟨?_, .inr ⟨_, rfl⟩⟩
    show (decide (0 ≤ (0 : Int) + (i : Nat)) && decide ((0 : Int) + (i : Nat) < (n : Int))) = true
    rw [decide_eq_true (by omega), decide_eq_true (by omega)]
    rfl
theorem things_flat : ∀ x ∈ things, noDict x = true ∧ isThing x = true ∧ Plain (parts x) ∧ (parts x).length ≤ 1000 ∧ x.canLay0 = true := by
  intro x hx
  simp only [things, List.mem_cons, List.not_mem_nil, or_false] at hx
  rcases hx with rfl | rfl | rfl | rfl | rfl | rfl | rfl
  all_goals refine ⟨rfl, rfl, fun z hz => ?_, by decide, rfl⟩
  all_goals simp only [parts, List.mem_cons, List.not_mem_nil, or_false] at hz
  all_goals first | (rcases hz with rfl | rfl <;> rfl)
theorem gl_of {n : Nat} {o p th : PyData} (h1 : isPlace n o = true ∧ (o = .none ∨ ∃ i : Int, o = .int i)) (h2 : isPlace n p = true ∧ (p = .none ∨ ∃ i : Int, p = .int i)) (h3 : th ∈ things) (x : PyData) (hx : x = .tuple [o, p, th] ∨ x = .list [o, p, th]) : GL n x := by
  obtain ⟨t1, t2, t3, t4, t5⟩ := things_flat th h3
  have pl : ∀ o : PyData, (o = .none ∨ ∃ i : Int, o = .int i) → noDict o = true ∧ parts o = [] := fun o h => by rcases h with rfl | ⟨i, rfl⟩ <;> exact ⟨rfl, rfl⟩
  have ep : parts x = [o, p, th] := by rcases hx with rfl | rfl <;> rfl
  have es : isSeq x = true := by rcases hx with rfl | rfl <;> rfl
  have en : noDict x = true := by rcases hx with rfl | rfl <;> rfl
  refine ⟨⟨?_, ?_⟩, ⟨en, fun y hy => ?_, by rw [ep]; show 3 ≤ 1000; decide, fun y hy => ?_⟩⟩
  · unfold isLine
    rw [ep, es]
    show (((true && decide ((3 : Nat) = 3)) && isPlace n o) && isPlace n p && isThing th) = true
    rw [h1.1, h2.1, t2]
    rfl
  · unfold thingOf
    rw [ep]
    exact h3
  · rw [ep] at hy
    simp only [List.mem_cons, List.not_mem_nil, or_false] at hy
    rcases hy with rfl | rfl | rfl
    · exact (pl _ h1.2).1
    · exact (pl _ h2.2).1
    · exact t1
  · rw [ep] at hy
    simp only [List.mem_cons, List.not_mem_nil, or_false] at hy
    rcases hy with rfl | rfl | rfl
    · rw [(pl _ h1.2).2]; exact ⟨(fun z hz => by cases hz), by decide⟩
    · rw [(pl _ h2.2).2]; exact ⟨(fun z hz => by cases hz), by decide⟩
    · exact ⟨t3, t4⟩
abbrev lineB : DS := seqS (asgS 7 (tupM (consM (callB 1 2 F__law_pick (consM (varM 4) nilM)) (consM (callB 1 2 F__law_pick (consM (varM 4) nilM)) (consM (callB 0 2 F__law_thing nilM) nilM))))) (appS 5 (callB 1 2 F__law_pick (consM (listM (lstM (consM (varM 7) (consM (caM listP (consM (varM 7) nilM)) nilM)))) nilM)))
theorem line_step {n m : Nat} (hn : n = 2 ∨ n = 3) (hm : m < 10000) {bd : List PyData} (B : Box m bd) (ls : List PyData) (hl : ls.length ≤ 1000) (a b s6 s7 s8 s9 s10 s11 s12 s13 s14 : Sl) :
    ∃ bd' x s7', Box (m + 4) bd' ∧ GL n x ∧ lineB [a, b, .own false bd, .fro (.int n), .fro (.list (headsL n)), .own false ls, s6, s7, s8, s9, s10, s11, s12, s13, s14] = some (.nx [a, b, .own false bd', .fro (.int n), .fro (.list (headsL n)), .own false (ls ++ [x]), s6, s7', s8, s9, s10, s11, s12, s13, s14]) := by
  have lh : 0 < (headsL n).length ∧ (headsL n).length < 1000000 := by rcases hn with rfl | rfl <;> decide
  obtain ⟨o, bd1, e1, B1, h1⟩ := pick_ok B (by omega) (headsL n) lh.1 lh.2
  obtain ⟨p, bd2, e2, B2, h2⟩ := pick_ok B1 (by omega) (headsL n) lh.1 lh.2
  obtain ⟨th, bd3, e3, B3, h3⟩ := thing_ok B2 (by omega)
  obtain ⟨x, bd4, e4, B4, h4⟩ := pick_ok B3 (by omega) [.tuple [o, p, th], .list [o, p, th]] (by show 0 < 2; decide) (by show 2 < 1000000; decide)
  have hx : x = .tuple [o, p, th] ∨ x = .list [o, p, th] := by simpa using h4
  refine ⟨bd4, x, .fro (.tuple [o, p, th]), B4, gl_of (heads_place h1) (heads_place h2) h3 x hx, ?_⟩
  have hz : ls.length < 100000 := by omega
  simp [lineB, seqS, asgS, appS, tupM, callB, consM, nilM, varM, listM, lstM, caM, listP, bnd, bndS, e1, e2, e3, e4, hz]
end K01

namespace K01
open PySem L2 Evl Pd
theorem lines_turns {n : Nat} (hn : n = 2 ∨ n = 3) (a b s8 s9 s10 s11 s12 s13 s14 : Sl) : ∀ (js : List PyData) (m : Nat) (bd ls : List PyData) (s6 s7 : Sl), Box m bd → m + 4 * js.length < 10000 → ls.length + js.length ≤ 1000 → (∀ x ∈ ls, GL n x) →
    ∃ bd' ls' s6' s7', Box (m + 4 * js.length) bd' ∧ (∀ x ∈ ls', GL n x) ∧ ls'.length = ls.length + js.length ∧ loopS (nameG 6) lineB js [a, b, .own false bd, .fro (.int n), .fro (.list (headsL n)), .own false ls, s6, s7, s8, s9, s10, s11, s12, s13, s14] = some (.nx [a, b, .own false bd', .fro (.int n), .fro (.list (headsL n)), .own false ls', s6', s7', s8, s9, s10, s11, s12, s13, s14])
  | [], m, bd, ls, s6, s7, B, _, _, hg => ⟨bd, ls, s6, s7, B, hg, rfl, rfl⟩
  | j :: js, m, bd, ls, s6, s7, B, h1, h2, hg => by
    simp only [List.length_cons] at h1 h2
    obtain ⟨bd1, x, s7', B1, g, e⟩ := line_step hn (m := m) (by omega) B ls (by omega) a b (.fro j) s7 s8 s9 s10 s11 s12 s13 s14
    obtain ⟨bd2, ls2, s6'', s7'', B2, g2, l2, e2⟩ := lines_turns hn a b s8 s9 s10 s11 s12 s13 s14 js (m + 4) bd1 (ls ++ [x]) (.fro j) s7' B1 (by omega) (by simp only [List.length_append, List.length_cons, List.length_nil]; omega) (fun y hy => by
      rcases List.mem_append.mp hy with h | h
      · exact hg y h
      · rw [List.mem_singleton.mp h]; exact g)
    refine ⟨bd2, ls2, s6'', s7'', ?_, g2, ?_, ?_⟩
    · have : m + 4 + 4 * js.length = m + 4 * (j :: js).length := by simp only [List.length_cons]; omega
      rw [← this]; exact B2
    · rw [l2]; simp only [List.length_append, List.length_cons, List.length_nil]; omega
    · rw [loop_step (ρ1 := [a, b, .own false bd, .fro (.int n), .fro (.list (headsL n)), .own false ls, .fro j, s7, s8, s9, s10, s11, s12, s13, s14]) rfl e]
      exact e2
end K01

namespace K01
open PySem L2 Evl Pd
abbrev headS : DS := ifS (boolM (opM gtP (callB 1 2 F__law_take (consM (conM (.int 4)) nilM)) (conM (.int 0)))) (asgO 5 (opN addP (listM (lstM (consM (tupM (consM (conM .none) (consM (conM .none) (consM (callB 0 2 F__law_thing nilM) nilM)))) nilM))) (letM 5))) nextS
theorem head_step {n m : Nat} (hm : m < 10000) {bd : List PyData} (B : Box m bd) (ls : List PyData) (hl : ls.length ≤ 1000) (hg : ∀ x ∈ ls, GL n x) (a b s3 s4 s6 s7 s8 s9 s10 s11 s12 s13 s14 : Sl) :
    ∃ bd' ls' m', Box m' bd' ∧ m' ≤ m + 2 ∧ (∀ x ∈ ls', GL n x) ∧ ls.length ≤ ls'.length ∧ ls'.length ≤ ls.length + 1 ∧ headS [a, b, .own false bd, s3, s4, .own false ls, s6, s7, s8, s9, s10, s11, s12, s13, s14] = some (.nx [a, b, .own false bd', s3, s4, .own false ls', s6, s7, s8, s9, s10, s11, s12, s13, s14]) := by
  obtain ⟨z, bd1, e1, B1, z0, z1⟩ := take_ok B (by omega) (many := 4) (by decide) (by decide)
  by_cases hz : 0 < z
  · obtain ⟨th, bd2, e2, B2, h2⟩ := thing_ok B1 (by omega)
    refine ⟨bd2, .tuple [.none, .none, th] :: ls, m + 2, B2, by omega, fun x hx => ?_, by simp, by simp, ?_⟩
    · rcases List.mem_cons.mp hx with rfl | hx
      · exact gl_of ⟨rfl, .inl rfl⟩ ⟨rfl, .inl rfl⟩ h2 _ (.inl rfl)
      · exact hg x hx
    · have hz' : 1 + ls.length ≤ 100000 := by omega
      have hz2 : ls.length < 100000 := by omega
      simp [headS, ifS, boolM, opM, gtP, b2, callB, consM, nilM, conM, bnd, bndS, e1, e2, hz, hz', hz2, asgO, opN, letM, listM, lstM, tupM, addP]
  · refine ⟨bd1, ls, m + 1, B1, by omega, hg, by omega, by omega, ?_⟩
    simp [headS, ifS, boolM, opM, gtP, b2, callB, consM, nilM, conM, bnd, bndS, e1, hz, nextS]
theorem all_good {p : PyData → Bool} : ∀ {ds : List PyData} {m : Nat}, (∀ x ∈ ds, p x = true) → bad p m ds = none
  | [], _, _ => rfl
  | x :: xs, m, h => by
    unfold bad
    rw [if_pos (h x List.mem_cons_self)]
    exact all_good fun y hy => h y (List.mem_cons_of_mem _ hy)
def toldR : Rs → Option PyData
  | .ok d => some d
  | .er c d => hs__law_told c d
def ouR (ρ1 : Rho) : Rs → Ou PyData
  | .ok d => .ok d ρ1
  | .er c d => .ex c d ρ1
theorem told_sheet {f : DE} {ρ ρ1 : Rho} {d : Rs} {v : PyData} (e : f ρ = some (ouR ρ1 d)) (h : toldR d = some v) : toldM hs__law_told f ρ = some (.ok v ρ1) := by
  unfold toldM
  rw [e]
  cases d with
  | ok d => cases h; rfl
  | er c d =>
    show (hs__law_told c d).map _ = _
    rw [show hs__law_told c d = some v from h]
    rfl
theorem sheet_told (n : Nat) (ds : List PyData) : toldR (sheetR n ds) = some (dueVal (sheetR n ds)) := by
  have h : (∃ d, sheetR n ds = .ok d) ∨ ∃ k : Nat, sheetR n ds = .er 2 (.int k) := by
    unfold sheetR
    split
    · exact .inr ⟨_, rfl⟩
    · exact .inl ⟨_, rfl⟩
  rcases h with ⟨d, e⟩ | ⟨k, e⟩
  · rw [e]; rfl
  · rw [e]; rfl
end K01

namespace K01
open PySem L2 Evl Pd
def tv : List PyData := [.none, .int 0, .int 1, .int 7, .tuple [.int 1, .int 0], .tuple [.int 2, .int 0], .tuple []]
theorem tv_ok : ∀ x ∈ tv, PyData.showable x = true ∧ PyData.hasDict x = false ∧ PyData.canLay0 x = true ∧ PyData.depth x ≤ 1 ∧ (PyData.shown x).length ≤ 20 := by
  intro x hx
  simp only [tv, List.mem_cons, List.not_mem_nil, or_false] at hx
  rcases hx with rfl | rfl | rfl | rfl | rfl | rfl | rfl
  all_goals exact ⟨by decide +kernel, by decide +kernel, by decide +kernel, by decide +kernel, by decide +kernel⟩
theorem tv_all : ∀ ds : List PyData, (∀ x ∈ ds, x ∈ tv) → PyData.showableAll ds = true ∧ PyData.hasDictAll ds = false ∧ PyData.canLayAll0 ds = true ∧ PyData.depthAll ds ≤ 1 ∧ piled (PyData.shownAll ds) ≤ 22 * ds.length ∧ (PyData.shownAll ds).length = ds.length
  | [], _ => ⟨rfl, rfl, rfl, Nat.zero_le _, Nat.zero_le _, rfl⟩
  | x :: xs, h => by
    obtain ⟨a1, a2, a3, a4, a5⟩ := tv_ok x (h x List.mem_cons_self)
    obtain ⟨b1, b2, b3, b4, b5, b6⟩ := tv_all xs fun y hy => h y (List.mem_cons_of_mem _ hy)
    refine ⟨?_, ?_, ?_, ?_, ?_, ?_⟩
    · show (_ && _) = true
      rw [a1, b1]; rfl
    · show (_ || _) = false
      rw [a2, b2]; rfl
    · show (_ && _) = true
      rw [a3, b3]; rfl
    · show max _ _ ≤ 1
      omega
    · show (PyData.shown x).length + 2 + piled (PyData.shownAll xs) ≤ _
      simp only [List.length_cons]
      omega
    · show (PyData.shownAll xs).length + 1 = _
      rw [b6]; rfl
theorem repr_tv (ds : List PyData) (hl : ds.length ≤ 1000) (h : ∀ x ∈ ds, x ∈ tv) : ∃ s, reprP [.tuple ds] = some (.str s) := by
  obtain ⟨b1, b2, b3, b4, b5, b6⟩ := tv_all ds h
  refine ⟨_, if_pos ⟨b1, b2, b3, ?_, ?_⟩⟩
  · show _ + 1 ≤ 60
    omega
  · show (tupleText (PyData.shownAll ds)).length ≤ 1000000
    unfold tupleText
    rw [strLen_append, strLen_append]
    have e1 : ((if (PyData.shownAll ds).length == 1 then ",)" else ")" : String) : Str).length ≤ 2 := by
      split <;> decide +kernel
    have e2 : (("(" : Str)).length = 1 := by decide +kernel
    by_cases hn : PyData.shownAll ds = []
    · rw [hn] at e1 ⊢
      have : (Str.join ", " []).length = 0 := rfl
      omega
    · have := join_length_add _ hn
      omega
theorem repr_refused (k : Nat) (hk : k < 9) : ∃ s, reprP [.tuple [.str "refused", .int (k : Nat)]] = some (.str s) := by
  rcases (by omega : k = 0 ∨ k = 1 ∨ k = 2 ∨ k = 3 ∨ k = 4 ∨ k = 5 ∨ k = 6 ∨ k = 7 ∨ k = 8) with rfl | rfl | rfl | rfl | rfl | rfl | rfl | rfl | rfl
  all_goals exact ⟨_, if_pos ⟨by decide +kernel, by decide +kernel, by decide +kernel, by decide +kernel, by decide +kernel⟩⟩
theorem bad_lt (p : PyData → Bool) : ∀ (ds : List PyData) (m k : Nat), bad p m ds = some k → k < m + ds.length
  | [], m, k, h => by cases h
  | x :: xs, m, k, h => by
    unfold bad at h
    split at h
    · have := bad_lt p xs _ _ h
      simp only [List.length_cons]
      omega
    · cases h
      simp only [List.length_cons]
      omega
theorem told_tv : ∀ x ∈ things, toldThing x ∈ tv := by
  intro x hx
  simp only [things, List.mem_cons, List.not_mem_nil, or_false] at hx
  rcases hx with rfl | rfl | rfl | rfl | rfl | rfl | rfl
  all_goals simp [tv, toldThing]
theorem sheet_tv (n : Nat) (ds : List PyData) (h : ∀ x ∈ ds, Ln1 n x) : ∀ x ∈ sheetD n ds, x ∈ tv := by
  intro x hx
  rw [sheet_eq] at hx
  obtain ⟨c, _, rfl⟩ := List.mem_map.mp hx
  unfold lastOf
  split
  · rename_i y hy
    have := List.mem_of_getLast? hy
    exact told_tv _ (h y (List.mem_filter.mp this).1).t
  · exact List.mem_cons_self
theorem sheet_length (n : Nat) (ds : List PyData) : (sheetD n ds).length = n * n := by
  rw [sheet_eq]
  simp
theorem repr_due (n : Nat) (hn : n = 2 ∨ n = 3) (ds : List PyData) (h : ∀ x ∈ ds, Ln1 n x) : ∃ s, reprP [dueVal (sheetR n ds)] = some (.str s) := by
  have hl := sheet_length n ds
  unfold sheetR
  split
  · rename_i k hk
    have := bad_lt _ _ _ _ hk
    refine repr_refused k ?_
    rcases hn with rfl | rfl <;> omega
  · refine repr_tv _ ?_ (sheet_tv n ds h)
    rcases hn with rfl | rfl <;> omega
end K01

namespace K01
open PySem L2 Evl Pd
theorem lines_sheet_er (n : Nat) (hn : n = 2 ∨ n = 3) {d : PyData} (h : Lines d) {c : Nat} {x : PyData} (hb : needLines n d = .er c x) : F_lines_sheet [.int n, d] = some (.er c x) := by
  have hsz : isSize (.int (n : Int)) = true := by rcases hn with rfl | rfl <;> rfl
  have e0 : F_need_size [.int n] = some (.ok (.int n)) := by
    rw [need_size_eq rfl]
    unfold needSize
    rw [if_pos hsz]
  have e1 : F_need_lines [.int n, d] = some (.er c x) := by
    rw [need_lines_eq n h, hb]
  have ez : F_lines_sheet [.int n, d] = (den_lines_sheet F_need_size F_need_lines F_met_cells F_told_thing [.fro (.int n), .fro d, .no, .no, .no, .no, .no]).bind outE := rfl
  have s1 : dropS (callE 1 F_need_size (consM (varM 0) nilM)) [.fro (.int n), .fro d, .no, .no, .no, .no, .no] = some (.nx [.fro (.int n), .fro d, .no, .no, .no, .no, .no]) := by simp [e0, listM, varM, letM, conM, opM, unM, caM, nilM, consM, tupM, lstM, boolM, andB, orB, notB, andV, orV, notV, ifM, seqS, nextS, breakS, contS, asgS, asgO, dropS, retS, retO, retN, ifS, appS, nameG, seqG, tupG, listI, tupI, seqI, rng1I, rng2I, enumI, callM, callE, callN, callB, raiseS, setS, isi1M, isi2M, truB, chainM, noM, partM, slM, lenOM, ixOM, tupOM, toldM, kwM, kwE, enumTI, enumSI, enumOI, yesB, opN, caN, rng1M, asgG, lrgM, bnd, bndS, bnd0, rho0, rhoB, denQ, denE, denN, denB, outQ, outE, outN, outB, i2, b2, addP, subP, modP, powP, ltP, leP, gtP, geP, isP, isNotP, isNoneP, ixP, negP, lenP, absP, intP, tupleP, listP, at?, truD]
  have s2 : dropS (callE 2 F_need_lines (consM (varM 0) (consM (varM 1) nilM))) [.fro (.int n), .fro d, .no, .no, .no, .no, .no] = some (.ex c x [.fro (.int n), .fro d, .no, .no, .no, .no, .no]) := by simp [e1, listM, varM, letM, conM, opM, unM, caM, nilM, consM, tupM, lstM, boolM, andB, orB, notB, andV, orV, notV, ifM, seqS, nextS, breakS, contS, asgS, asgO, dropS, retS, retO, retN, ifS, appS, nameG, seqG, tupG, listI, tupI, seqI, rng1I, rng2I, enumI, callM, callE, callN, callB, raiseS, setS, isi1M, isi2M, truB, chainM, noM, partM, slM, lenOM, ixOM, tupOM, toldM, kwM, kwE, enumTI, enumSI, enumOI, yesB, opN, caN, rng1M, asgG, lrgM, bnd, bndS, bnd0, rho0, rhoB, denQ, denE, denN, denB, outQ, outE, outN, outB, i2, b2, addP, subP, modP, powP, ltP, leP, gtP, geP, isP, isNotP, isNoneP, ixP, negP, lenP, absP, intP, tupleP, listP, at?, truD]
  rw [ez]
  unfold den_lines_sheet
  rw [seq_nx s1, seq_ex s2]
  rfl
theorem lines_sheet_sz {s d : PyData} (hd : noDict s = true) (hs : isSize s = false) : F_lines_sheet [s, d] = some (.er 3 (.str "size")) := by
  have e0 : F_need_size [s] = some (.er 3 (.str "size")) := by
    rw [need_size_eq hd]
    unfold needSize
    rw [if_neg (by rw [hs]; decide)]
  have ez : F_lines_sheet [s, d] = (den_lines_sheet F_need_size F_need_lines F_met_cells F_told_thing [.fro s, .fro d, .no, .no, .no, .no, .no]).bind outE := rfl
  have s1 : dropS (callE 1 F_need_size (consM (varM 0) nilM)) [.fro s, .fro d, .no, .no, .no, .no, .no] = some (.ex 3 (.str "size") [.fro s, .fro d, .no, .no, .no, .no, .no]) := by simp [e0, listM, varM, letM, conM, opM, unM, caM, nilM, consM, tupM, lstM, boolM, andB, orB, notB, andV, orV, notV, ifM, seqS, nextS, breakS, contS, asgS, asgO, dropS, retS, retO, retN, ifS, appS, nameG, seqG, tupG, listI, tupI, seqI, rng1I, rng2I, enumI, callM, callE, callN, callB, raiseS, setS, isi1M, isi2M, truB, chainM, noM, partM, slM, lenOM, ixOM, tupOM, toldM, kwM, kwE, enumTI, enumSI, enumOI, yesB, opN, caN, rng1M, asgG, lrgM, bnd, bndS, bnd0, rho0, rhoB, denQ, denE, denN, denB, outQ, outE, outN, outB, i2, b2, addP, subP, modP, powP, ltP, leP, gtP, geP, isP, isNotP, isNoneP, ixP, negP, lenP, absP, intP, tupleP, listP, at?, truD]
  rw [ez]
  unfold den_lines_sheet
  rw [seq_ex s1]
  rfl
theorem bad_mid {p : PyData → Bool} (b : PyData) (hb : p b = false) (zs : List PyData) : ∀ (xs : List PyData) (m : Nat), (∀ x ∈ xs, p x = true) → bad p m (xs ++ b :: zs) = some (m + xs.length)
  | [], m, _ => by
    show (if p b = true then _ else some m) = _
    rw [if_neg (by rw [hb]; decide)]
    rfl
  | x :: xs, m, h => by
    show (if p x = true then bad p (m + 1) (xs ++ b :: zs) else some m) = _
    rw [if_pos (h x List.mem_cons_self), bad_mid b hb zs xs (m + 1) fun y hy => h y (List.mem_cons_of_mem _ hy)]
    simp only [List.length_cons]
    congr 1
    omega
def badL (n : Nat) : List PyData := [.none, .tuple [.int 0, .int 0], .tuple [.int n, .int 0, .int 0], .tuple [.int 0, .int (-1), .int 0], .tuple [.int 0, .bool true, .int 0], .tuple [.int 0, .int 0, .int (-1)], .tuple [.int 0, .int 0, .str "0"], .tuple [.int 0, .int 0, .none], .tuple [.int 0, .int 0, .tuple [.int 0, .none]], .str "000"]
theorem flat_of {d : PyData} (h1 : noDict d = true) (h2 : (parts d).all noDict = true) (h3 : decide ((parts d).length ≤ 1000) = true) (h4 : (parts d).all (fun x => (parts x).all noDict && decide ((parts x).length ≤ 1000)) = true) : Flat d := by
  refine ⟨h1, fun x hx => List.all_eq_true.mp h2 x hx, of_decide_eq_true h3, fun x hx => ?_⟩
  have := List.all_eq_true.mp h4 x hx
  rw [Bool.and_eq_true] at this
  exact ⟨fun z hz => List.all_eq_true.mp this.1 z hz, of_decide_eq_true this.2⟩
theorem badL_bad (n : Nat) (hn : n = 2 ∨ n = 3) : ∀ x ∈ badL n, isLine n x = false ∧ Flat x := by
  intro x hx
  simp only [badL, List.mem_cons, List.not_mem_nil, or_false] at hx
  rcases hx with rfl | rfl | rfl | rfl | rfl | rfl | rfl | rfl | rfl | rfl
  all_goals refine ⟨?_, flat_of rfl rfl rfl rfl⟩
  all_goals rcases hn with rfl | rfl <;> rfl
theorem cut_to (ds : List PyData) (k : Nat) (h : k ≤ ds.length) : cutD ds none (some (k : Nat)) = ds.take k := by
  unfold cutD
  rw [HT.sIx_none, HT.sIx_nat, Nat.min_eq_left h]
  rfl
theorem cut_from (ds : List PyData) (k : Nat) (h : k ≤ ds.length) : cutD ds (some (k : Nat)) none = ds.drop k := by
  unfold cutD
  rw [HT.sIx_none, HT.sIx_nat, Nat.min_eq_left h]
  exact List.take_of_length_le (by rw [List.length_drop]; omega)
theorem mid_er (n : Nat) (hn : n = 2 ∨ n = 3) (ls : List PyData) (hg : ∀ x ∈ ls, GL n x) (k : Nat) (hk : k ≤ ls.length) (b : PyData) (hb : b ∈ badL n) : F_lines_sheet [.int n, .list ((ls.take k ++ [b]) ++ ls.drop k)] = some (.er 1 (.int (k : Nat))) := by
  obtain ⟨b1, b2⟩ := badL_bad n hn b hb
  refine lines_sheet_er n hn ⟨rfl, fun x hx => ?_⟩ ?_
  · rcases List.mem_append.mp hx with h | h
    · rcases List.mem_append.mp h with h | h
      · exact (hg x (List.mem_of_mem_take h)).f
      · rw [List.mem_singleton.mp h]; exact b2
    · exact (hg x (List.mem_of_mem_drop h)).f
  · unfold needLines
    rw [if_pos (show isSeq (.list ((ls.take k ++ [b]) ++ ls.drop k)) = true from rfl)]
    have e : parts (.list ((ls.take k ++ [b]) ++ ls.drop k)) = ls.take k ++ b :: ls.drop k := by
      show (ls.take k ++ [b]) ++ ls.drop k = _
      rw [List.append_assoc]
      rfl
    rw [e, bad_mid b b1 (ls.drop k) (ls.take k) 0 fun x hx => (hg x (List.mem_of_mem_take hx)).a.l]
    simp only [List.length_take, Nat.zero_add]
    rw [Nat.min_eq_left hk]
theorem none_er (n : Nat) (hn : n = 2 ∨ n = 3) (b : PyData) (hb : b ∈ [PyData.none, .int 5, .str "ab"]) : F_lines_sheet [.int n, b] = some (.er 1 (.int (-1))) := by
  simp only [List.mem_cons, List.not_mem_nil, or_false] at hb
  rcases hb with rfl | rfl | rfl
  all_goals exact lines_sheet_er n hn ⟨rfl, fun x hx => by cases hx⟩ rfl
end K01

namespace K01
open PySem L2 Evl Pd
def Bel (n : Nat) (x : PyData) : Prop := ∃ i : Int, x = .int i ∧ 0 ≤ i ∧ i < n
abbrev lcF := lcL (nameG 12) yesB (callB 1 2 F__law_take (consM (varM 3) nilM)) [12]
theorem table_turns {n : Nat} (hn : n = 2 ∨ n = 3) (a b s4 s5 s6 s7 s8 s9 s10 s11 s13 s14 : Sl) : ∀ (js : List PyData) (m : Nat) (bd acc : List PyData), Box m bd → m + js.length < 10000 → acc.length + js.length ≤ 1000 → (∀ x ∈ acc, Bel n x) →
    ∃ bd' ts, Box (m + js.length) bd' ∧ ts.length = acc.length + js.length ∧ (∀ x ∈ ts, Bel n x) ∧ lcF js acc [a, b, .own false bd, .fro (.int n), s4, s5, s6, s7, s8, s9, s10, s11, .no, s13, s14] = some (ts, [a, b, .own false bd', .fro (.int n), s4, s5, s6, s7, s8, s9, s10, s11, .no, s13, s14])
  | [], m, bd, acc, B, _, _, hg => ⟨bd, acc, B, rfl, hg, rfl⟩
  | j :: js, m, bd, acc, B, h1, h2, hg => by
    simp only [List.length_cons] at h1 h2
    obtain ⟨d, bd1, e, B1, d0, d1⟩ := take_ok B (by omega) (many := n) (by rcases hn with rfl | rfl <;> decide) (by rcases hn with rfl | rfl <;> decide)
    obtain ⟨bd2, ts, B2, l2, g2, e2⟩ := table_turns hn a b s4 s5 s6 s7 s8 s9 s10 s11 s13 s14 js (m + 1) bd1 (acc ++ [.int d]) B1 (by omega) (by simp only [List.length_append, List.length_cons, List.length_nil]; omega) (fun y hy => by
      rcases List.mem_append.mp hy with h | h
      · exact hg y h
      · rw [List.mem_singleton.mp h]; exact ⟨d, rfl, d0, d1⟩)
    refine ⟨bd2, ts, ?_, ?_, g2, ?_⟩
    · have : m + 1 + js.length = m + (j :: js).length := by simp only [List.length_cons]; omega
      rw [← this]; exact B2
    · rw [l2]; simp only [List.length_append, List.length_cons, List.length_nil]; omega
    · have ha : acc.length < 100000 := by omega
      have et : callB 1 2 F__law_take (consM (varM 3) nilM) [a, b, .own false bd, .fro (.int n), s4, s5, s6, s7, s8, s9, s10, s11, .fro j, s13, s14] = some (.ok (.int d) [a, b, .own false bd1, .fro (.int n), s4, s5, s6, s7, s8, s9, s10, s11, .fro j, s13, s14]) := by simp [callB, varM, consM, nilM, bnd, e]
      have eu : lcF (j :: js) acc [a, b, .own false bd, .fro (.int n), s4, s5, s6, s7, s8, s9, s10, s11, .no, s13, s14] = lcF js (acc ++ [.int d]) [a, b, .own false bd1, .fro (.int n), s4, s5, s6, s7, s8, s9, s10, s11, .no, s13, s14] := by
        unfold lcF
        rw [lcL]
        simp [nameG, yesB, bnd0, et, ha, wipeR]
      rw [eu]
      exact e2
theorem bel_ok {n : Nat} {x : PyData} (h : Bel n x) : isBel x n = true ∧ noDict x = true ∧ x.canLay0 = true ∧ x.depth = 0 := by
  obtain ⟨i, rfl, h0, h1⟩ := h
  refine ⟨?_, rfl, rfl, rfl⟩
  show (decide (0 ≤ i) && decide (i < (n : Int))) = true
  rw [decide_eq_true h0, decide_eq_true h1]
  rfl
theorem bels_lay {n : Nat} : ∀ ds : List PyData, (∀ d ∈ ds, Bel n d) → PyData.canLayAll0 ds = true ∧ PyData.depthAll ds = 0
  | [], _ => ⟨rfl, rfl⟩
  | x :: xs, h => by
    obtain ⟨_, _, a, b⟩ := bel_ok (h x List.mem_cons_self)
    obtain ⟨c, e⟩ := bels_lay xs fun y hy => h y (List.mem_cons_of_mem _ hy)
    refine ⟨?_, ?_⟩
    · show (x.canLay0 && PyData.canLayAll0 xs) = true
      rw [a, c]; rfl
    · show max x.depth (PyData.depthAll xs) = 0
      omega
theorem ne_bels {n : Nat} (ds : List PyData) (h : ∀ d ∈ ds, Bel n d) : neS (.tuple ds) (.tuple ds) = some (.bool false) := by
  obtain ⟨a, b⟩ := bels_lay ds h
  have s : SeqAt.shaped (.tuple ds) = true := by
    unfold SeqAt.shaped
    rw [Bool.and_eq_true]
    refine ⟨a, decide_eq_true ?_⟩
    show PyData.depthAll ds + 1 ≤ 64
    omega
  have e : PyData.eqv (.tuple ds) (.tuple ds) = true := SeqAt.eqv_refl _ a
  show neP _ _ = _
  unfold neP
  rw [if_pos ⟨s, s⟩, e]
  rfl
theorem table_good {n : Nat} (hn : n = 2 ∨ n = 3) (ts : List PyData) (hl : ts.length = n * n) (h : ∀ d ∈ ts, Bel n d) : F_need_table [.int n, .list ts] = some (.ok (.tuple ts)) := by
  rw [need_table_eq n (by rcases hn with rfl | rfl <;> simp) (d := .list ts) rfl fun x hx => (bel_ok (h x hx)).2.1]
  have hc : isSeq (.list ts) = true ∧ ((parts (.list ts)).length : Int) = (n : Int) * n := by
    refine ⟨rfl, ?_⟩
    show ((ts.length : Nat) : Int) = (n : Int) * n
    rw [hl]
    exact Int.natCast_mul n n
  unfold needTable
  rw [if_pos hc, show parts (.list ts) = ts from rfl, all_good fun x hx => (bel_ok (h x hx)).1]
def oddL (n : Nat) : List PyData := [.none, .int n, .int (-1), .bool true, .str "0"]
theorem oddL_bad (n : Nat) : ∀ x ∈ oddL n, isBel x n = false ∧ noDict x = true := by
  intro x hx
  simp only [oddL, List.mem_cons, List.not_mem_nil, or_false] at hx
  rcases hx with rfl | rfl | rfl | rfl | rfl
  all_goals refine ⟨?_, rfl⟩
  all_goals simp [isBel]
theorem table_odd {n : Nat} (hn : n = 2 ∨ n = 3) (ts : List PyData) (hl : ts.length = n * n) (h : ∀ d ∈ ts, Bel n d) (k : Nat) (hk : k < n * n) (b : PyData) (hb : b ∈ oddL n) : F_need_table [.int n, .list ((ts.take k ++ [b]) ++ ts.drop (k + 1))] = some (.er 0 (.int (k : Nat))) := by
  obtain ⟨b1, b2⟩ := oddL_bad n b hb
  have hp : Plain (parts (.list ((ts.take k ++ [b]) ++ ts.drop (k + 1)))) := fun x hx => by
    rcases List.mem_append.mp hx with hx | hx
    · rcases List.mem_append.mp hx with hx | hx
      · exact (bel_ok (h x (List.mem_of_mem_take hx))).2.1
      · rw [List.mem_singleton.mp hx]; exact b2
    · exact (bel_ok (h x (List.mem_of_mem_drop hx))).2.1
  have hc : isSeq (.list ((ts.take k ++ [b]) ++ ts.drop (k + 1))) = true ∧ ((parts (.list ((ts.take k ++ [b]) ++ ts.drop (k + 1)))).length : Int) = (n : Int) * n := by
    refine ⟨rfl, ?_⟩
    show ((((ts.take k ++ [b]) ++ ts.drop (k + 1)).length : Nat) : Int) = (n : Int) * n
    have : ((ts.take k ++ [b]) ++ ts.drop (k + 1)).length = n * n := by
      simp only [List.length_append, List.length_take, List.length_drop, List.length_cons, List.length_nil]
      omega
    rw [this]
    exact Int.natCast_mul n n
  rw [need_table_eq n (by rcases hn with rfl | rfl <;> simp) rfl hp]
  unfold needTable
  rw [if_pos hc]
  have e : parts (.list ((ts.take k ++ [b]) ++ ts.drop (k + 1))) = ts.take k ++ b :: ts.drop (k + 1) := by
    show (ts.take k ++ [b]) ++ ts.drop (k + 1) = _
    rw [List.append_assoc]
    rfl
  rw [e, bad_mid b b1 (ts.drop (k + 1)) (ts.take k) 0 fun x hx => (bel_ok (h x (List.mem_of_mem_take hx))).1]
  simp only [List.length_take, Nat.zero_add]
  rw [Nat.min_eq_left (by omega)]
theorem table_er {n : Nat} (hn : n = 2 ∨ n = 3) (d : PyData) (hd : noDict d = true) (hp : Plain (parts d)) (h : ¬(isSeq d = true ∧ ((parts d).length : Int) = (n : Int) * n)) : F_need_table [.int n, d] = some (.er 0 (.int (-1))) := by
  rw [need_table_eq n (by rcases hn with rfl | rfl <;> simp) hd hp]
  unfold needTable
  rw [if_neg h]
theorem table_wrong {n : Nat} (hn : n = 2 ∨ n = 3) (ts : List PyData) (hl : ts.length = n * n) (h : ∀ d ∈ ts, Bel n d) (b : PyData) (hb : b ∈ [PyData.none, .list (ts.drop 1), .int 3]) : F_need_table [.int n, b] = some (.er 0 (.int (-1))) := by
  simp only [List.mem_cons, List.not_mem_nil, or_false] at hb
  rcases hb with rfl | rfl | rfl
  · exact table_er hn _ rfl (fun x hx => by cases hx) fun h => by cases h.1
  · refine table_er hn _ rfl (fun x hx => (bel_ok (h x (List.mem_of_mem_drop hx))).2.1) fun h => ?_
    have h2 := h.2
    have : (parts (.list (ts.drop 1))).length = n * n - 1 := by
      show (ts.drop 1).length = _
      rw [List.length_drop, hl]
    rw [this] at h2
    rcases hn with rfl | rfl <;> exact absurd h2 (by decide)
  · exact table_er hn _ rfl (fun x hx => by cases hx) fun h => by cases h.1
theorem table_sz {s d : PyData} (hd : noDict s = true) (hs : isSize s = false) : F_need_table [s, d] = some (.er 3 (.str "size")) := by
  have e0 : F_need_size [s] = some (.er 3 (.str "size")) := by
    rw [need_size_eq hd]
    unfold needSize
    rw [if_neg (by rw [hs]; decide)]
  have ez : F_need_table [s, d] = (den_need_table F_need_size F_is_sequence F_is_below [.fro s, .fro d, .no, .no]).bind outE := rfl
  have s1 : dropS (callE 1 F_need_size (consM (varM 0) nilM)) [.fro s, .fro d, .no, .no] = some (.ex 3 (.str "size") [.fro s, .fro d, .no, .no]) := by simp [e0, listM, varM, letM, conM, opM, unM, caM, nilM, consM, tupM, lstM, boolM, andB, orB, notB, andV, orV, notV, ifM, seqS, nextS, breakS, contS, asgS, asgO, dropS, retS, retO, retN, ifS, appS, nameG, seqG, tupG, listI, tupI, seqI, rng1I, rng2I, enumI, callM, callE, callN, callB, raiseS, setS, isi1M, isi2M, truB, chainM, noM, partM, slM, lenOM, ixOM, tupOM, toldM, kwM, kwE, enumTI, enumSI, enumOI, yesB, opN, caN, rng1M, asgG, lrgM, bnd, bndS, bnd0, rho0, rhoB, denQ, denE, denN, denB, outQ, outE, outN, outB, i2, b2, addP, subP, modP, powP, ltP, leP, gtP, geP, isP, isNotP, isNoneP, ixP, negP, lenP, absP, intP, tupleP, listP, at?, truD]
  rw [ez]
  unfold den_need_table
  rw [seq_ex s1]
  rfl
end K01

namespace K01
open PySem L2 Evl Pd
theorem second_ok : F_lines_sheet [.int 2, .list [.tuple [.int 0, .none, .int 0]]] = some (.er 2 (.int 2)) := by
  have hf : Lines (.list [.tuple [.int 0, .none, .int 0]]) := by
    refine ⟨rfl, fun x hx => ?_⟩
    simp only [parts, List.mem_cons, List.not_mem_nil, or_false] at hx
    subst hx
    refine ⟨rfl, fun y hy => ?_, by decide, fun y hy => ?_⟩
    all_goals simp only [parts, List.mem_cons, List.not_mem_nil, or_false] at hy
    all_goals rcases hy with rfl | rfl | rfl
    all_goals first | rfl | (refine ⟨fun z hz => ?_, by decide⟩; simp only [parts, List.mem_cons, List.not_mem_nil, or_false] at hz)
  refine (lines_sheet_ok 2 (.inl rfl) hf rfl rfl fun x hx => ?_).trans rfl
  simp only [parts, List.mem_cons, List.not_mem_nil, or_false] at hx
  subst hx
  rfl
theorem ne_pair (w : Str) (hw : PyData.strOk w = true) (i : Int) : neS (.tuple [.str w, .int i]) (.tuple [.str w, .int i]) = some (.bool false) := by
  have s : SeqAt.shaped (.tuple [.str w, .int i]) = true := by
    show ((PyData.strOk w && (true && true)) && decide (max 0 (max 0 0) + 1 ≤ 64)) = true
    rw [hw]
    rfl
  have e : PyData.eqv (.tuple [.str w, .int i]) (.tuple [.str w, .int i]) = true := by
    show ((w == w) && ((i == i) && true)) = true
    simp
  show neP _ _ = _
  unfold neP
  rw [if_pos ⟨s, s⟩, e]
  rfl
theorem ne_words (w : Str) (hw : PyData.strOk w = true) : neS (.tuple [.str w, .str w]) (.tuple [.str w, .str w]) = some (.bool false) := by
  have s : SeqAt.shaped (.tuple [.str w, .str w]) = true := by
    show ((PyData.strOk w && (PyData.strOk w && true)) && decide (max 0 (max 0 0) + 1 ≤ 64)) = true
    rw [hw]
    rfl
  have e : PyData.eqv (.tuple [.str w, .str w]) (.tuple [.str w, .str w]) = true := by
    show ((w == w) && ((w == w) && true)) = true
    simp
  show neP _ _ = _
  unfold neP
  rw [if_pos ⟨s, s⟩, e]
  rfl
theorem math (ns : List Int) (h1 : ns.length ≤ 63) (h2 : ∀ z ∈ ns, Builtin.Int.intBits z ≤ 1048576) : denQ 15 (den_law F_lines_sheet F__law_box F__law_due F__law_take F__law_pick F__law_thing F_need_table F_need_size) [scrD ns] = some (.bool true) := by
  have ez : denQ 15 (den_law F_lines_sheet F__law_box F__law_due F__law_take F__law_pick F__law_thing F_need_table F_need_size) [scrD ns] = (den_law F_lines_sheet F__law_box F__law_due F__law_take F__law_pick F__law_thing F_need_table F_need_size [.fro (scrD ns), .no, .no, .no, .no, .no, .no, .no, .no, .no, .no, .no, .no, .no, .no]).bind outQ := rfl
  rw [ez]
  unfold den_law
  refine step (R := fun r => r.bind outQ = some (.bool true)) (ρ1 := [.fro (scrD ns), .no, .no, .no, .no, .no, .no, .no, .no, .no, .no, .no, .no, .no, .no]) ?_ ?_
  · have e := first_ok
    have en : neS (.tuple [.tuple [.int 3, .int 4], .int 0, .tuple [.int 3, .int 4], .int 1]) (.tuple [.tuple [.int 3, .int 4], .int 0, .tuple [.int 3, .int 4], .int 1]) = some (.bool false) := rfl
    simp [e, en, ifS, boolM, opM, callE, consM, nilM, conM, listM, lstM, tupM, bnd, bndS, nextS]
  refine step (R := fun r => r.bind outQ = some (.bool true)) (ρ1 := [.fro (scrD ns), .no, .no, .no, .no, .no, .no, .no, .no, .no, .no, .no, .no, .no, .no]) ?_ ?_
  · have e := second_ok
    have en : neS (.tuple [.str "refused", .int 2]) (.tuple [.str "refused", .int 2]) = some (.bool false) := ne_pair "refused" (by decide +kernel) 2
    have eh : hs__law_told 2 (.int 2) = some (.tuple [.str "refused", .int 2]) := rfl
    simp [e, en, eh, ifS, boolM, opM, callE, toldM, consM, nilM, conM, listM, lstM, tupM, bnd, bndS, nextS]
  have F := fun body h => for3 (a := .fro (scrD ns)) (body := body) h .no .no .no .no .no .no .no .no .no .no .no .no .no .no
  rw [seq_nx (F _ ?_).choose_spec]
  · rfl
  intro k hk0 hk1 s2 s3 s4 s5 s6 s7 s8 s9 s10 s11 s12 s13 s14
  obtain ⟨bd0, eb, B0⟩ := box_ok ns k hk0 (by omega)
  refine step (R := Kept _ _) (ρ1 := [.fro (scrD ns), .fro (.int k), .own false bd0, s3, s4, s5, s6, s7, s8, s9, s10, s11, s12, s13, s14]) ?_ ?_
  · simp [eb, asgO, callN, consM, nilM, varM, bnd, bndS]
  obtain ⟨z, bd1, et1, B1, z0, z1⟩ := take_ok B0 (by decide) (many := 2) (by decide) (by decide)
  refine step (R := Kept _ _) (ρ1 := [.fro (scrD ns), .fro (.int k), .own false bd1, .fro (.int (2 + z)), s4, s5, s6, s7, s8, s9, s10, s11, s12, s13, s14]) ?_ ?_
  · simp [et1, asgS, callB, opM, consM, nilM, conM, addP, bnd, bndS]
  obtain ⟨n, hn, en⟩ : ∃ n : Nat, (n = 2 ∨ n = 3) ∧ (2 + z : Int) = (n : Nat) := by
    rcases (by omega : z = 0 ∨ z = 1) with rfl | rfl
    · exact ⟨2, .inl rfl, rfl⟩
    · exact ⟨3, .inr rfl, rfl⟩
  rw [en]
  refine step (R := Kept _ _) (ρ1 := [.fro (scrD ns), .fro (.int k), .own false bd1, .fro (.int n), .fro (.list (headsL n)), s5, s6, s7, s8, s9, s10, s11, s12, s13, s14]) ?_ ?_
  · rcases hn with rfl | rfl <;> rfl
  refine step (R := Kept _ _) (ρ1 := [.fro (scrD ns), .fro (.int k), .own false bd1, .fro (.int n), .fro (.list (headsL n)), .own false [], s6, s7, s8, s9, s10, s11, s12, s13, s14]) ?_ ?_
  · rfl
  obtain ⟨zl, bd2, et2, B2, zl0, zl1⟩ := take_ok B1 (by decide) (many := 6) (by decide) (by decide)
  obtain ⟨q, rfl⟩ := Int.eq_ofNat_of_zero_le zl0
  obtain ⟨bd3, ls, s6', s7', B3, g3, l3, e3⟩ := lines_turns hn (.fro (scrD ns)) (.fro (.int k)) s8 s9 s10 s11 s12 s13 s14 (rangeD 0 (1 + q)) _ bd2 [] s6 s7 B2 (by simp [rangeD]; omega) (by simp [rangeD]; omega) (fun x hx => by cases hx)
  have lr : (rangeD 0 (1 + q)).length = 1 + q := by simp [rangeD]
  rw [lr] at B3 l3
  refine step (R := Kept _ _) (ρ1 := [.fro (scrD ns), .fro (.int k), .own false bd3, .fro (.int n), .fro (.list (headsL n)), .own false ls, s6', s7', s8, s9, s10, s11, s12, s13, s14]) ?_ ?_
  · have er : rng1M (consM (opM addP (conM (.int 1)) (callB 1 2 F__law_take (consM (conM (.int 6)) nilM))) nilM) [.fro (scrD ns), .fro (.int k), .own false bd1, .fro (.int n), .fro (.list (headsL n)), .own false [], s6, s7, s8, s9, s10, s11, s12, s13, s14] = some (.ok (rangeD 0 (1 + q)) [.fro (scrD ns), .fro (.int k), .own false bd2, .fro (.int n), .fro (.list (headsL n)), .own false [], s6, s7, s8, s9, s10, s11, s12, s13, s14]) := by
      have e1 : callB 1 2 F__law_take (consM (conM (.int 6)) nilM) [.fro (scrD ns), .fro (.int k), .own false bd1, .fro (.int n), .fro (.list (headsL n)), .own false [], s6, s7, s8, s9, s10, s11, s12, s13, s14] = some (.ok (.int q) [.fro (scrD ns), .fro (.int k), .own false bd2, .fro (.int n), .fro (.list (headsL n)), .own false [], s6, s7, s8, s9, s10, s11, s12, s13, s14]) := by simp [callB, consM, conM, nilM, bnd, et2]
      have e2 : (1 + (q : Int)) = ((1 + q : Nat) : Int) := by omega
      have e4 : ((1 + q : Nat) : Int).toNat = 1 + q := rfl
      have e5 : (-1000000 < ((1 + q : Nat) : Int) ∧ ((1 + q : Nat) : Int) < 1000000) := by omega
      simp only [rng1M, consM, opM, conM, nilM, bnd, e1, addP, e2, Option.map_some]
      rw [if_pos e5, e4]
    rw [for_enum er]
    exact e3
  have lls : 1 ≤ ls.length ∧ ls.length ≤ 6 := by simp only [List.length_nil] at l3; omega
  obtain ⟨bd4, ls2, m4, B4, hm4, g4, l4, l4', e4⟩ := head_step (by omega) B3 ls (by omega) g3 (.fro (scrD ns)) (.fro (.int k)) (.fro (.int n)) (.fro (.list (headsL n))) s6' s7' s8 s9 s10 s11 s12 s13 s14
  refine step (R := Kept _ _) (ρ1 := [.fro (scrD ns), .fro (.int k), .own false bd4, .fro (.int n), .fro (.list (headsL n)), .own false ls2, s6', s7', s8, s9, s10, s11, s12, s13, s14]) e4 ?_
  have gl : ∀ x ∈ parts (.list ls2), Ln1 n x := fun x hx => (g4 x hx).a
  have ed := due_eq n hn (.list ls2) rfl (show ls2.length ≤ 1000 by omega) gl
  have ed' : F__law_due [.int n, .list ls2] = some (dueVal (sheetR n ls2)) := ed
  refine step (R := Kept _ _) (ρ1 := [.fro (scrD ns), .fro (.int k), .own false bd4, .fro (.int n), .fro (.list (headsL n)), .fro (.list ls2), s6', s7', .fro (dueVal (sheetR n ls2)), s9, s10, s11, s12, s13, s14]) ?_ ?_
  · simp [asgS, callM, letM, consM, nilM, varM, bnd, bndS, ed']
  have hnd : noDict (PyData.tuple ls2) = true := rfl
  have esh : F_lines_sheet [.int n, .tuple ls2] = some (sheetR n ls2) := by
    have := lines_sheet_ok n hn (d := .tuple ls2) ⟨rfl, fun x hx => (g4 x hx).f⟩ rfl (all_good (fun x hx => (g4 x hx).a.l)) (fun x hx => (g4 x hx).a.l)
    exact this
  obtain ⟨sr, esr⟩ := repr_due n hn ls2 fun x hx => (g4 x hx).a
  refine step (R := Kept _ _) (ρ1 := [.fro (scrD ns), .fro (.int k), .own false bd4, .fro (.int n), .fro (.list (headsL n)), .fro (.list ls2), s6', s7', .fro (dueVal (sheetR n ls2)), s9, s10, s11, s12, s13, s14]) ?_ ?_
  · have et : toldM hs__law_told (kwE 2 [1, 0] 2 F_lines_sheet (consM (tupOM 5) (consM (varM 3) nilM))) [.fro (scrD ns), .fro (.int k), .own false bd4, .fro (.int n), .fro (.list (headsL n)), .fro (.list ls2), s6', s7', .fro (dueVal (sheetR n ls2)), s9, s10, s11, s12, s13, s14] = some (.ok (dueVal (sheetR n ls2)) [.fro (scrD ns), .fro (.int k), .own false bd4, .fro (.int n), .fro (.list (headsL n)), .fro (.list ls2), s6', s7', .fro (dueVal (sheetR n ls2)), s9, s10, s11, s12, s13, s14]) := by
      refine told_sheet ?_ (sheet_told n ls2)
      simp [kwE, consM, tupOM, varM, nilM, bnd, sel, esh]
      cases sheetR n ls2 <;> rfl
    have es : neS (.str sr) (.str sr) = some (.bool false) := by simp [neS]
    simp [ifS, boolM, opM, caM, consM, nilM, varM, bnd, bndS, et, esr, es, nextS]
  obtain ⟨at_, bd5, e5, B5, at0, at1⟩ := take_ok B4 (by omega) (many := ls2.length + 1) (by omega) (by omega)
  obtain ⟨k9, rfl⟩ := Int.eq_ofNat_of_zero_le at0
  have hk9 : k9 ≤ ls2.length := by omega
  refine step (R := Kept _ _) (ρ1 := [.fro (scrD ns), .fro (.int k), .own false bd5, .fro (.int n), .fro (.list (headsL n)), .fro (.list ls2), s6', s7', .fro (dueVal (sheetR n ls2)), .fro (.int k9), s10, s11, s12, s13, s14]) ?_ ?_
  · simp [asgS, callB, opM, lenOM, consM, nilM, conM, addP, bnd, bndS, e5]
  obtain ⟨b, bd6, e6, B6, hb⟩ := pick_ok B5 (by omega) (badL n) (by show 0 < 10; decide) (by show 10 < 1000000; decide)
  refine step (R := Kept _ _) (ρ1 := [.fro (scrD ns), .fro (.int k), .own false bd6, .fro (.int n), .fro (.list (headsL n)), .fro (.list ls2), s6', s7', .fro (dueVal (sheetR n ls2)), .fro (.int k9), .fro b, s11, s12, s13, s14]) ?_ ?_
  · have e6' := e6
    unfold badL at e6'
    simp [asgS, callB, listM, lstM, tupM, unM, negP, varM, consM, nilM, conM, bnd, bndS, e6']
  refine step (R := Kept _ _) (ρ1 := [.fro (scrD ns), .fro (.int k), .own false bd6, .fro (.int n), .fro (.list (headsL n)), .fro (.list ls2), s6', s7', .fro (dueVal (sheetR n ls2)), .fro (.int k9), .fro b, s11, s12, s13, s14]) ?_ ?_
  · have em := mid_er n hn ls2 g4 k9 hk9 b hb
    have el1 : (ls2.take k9).length + 1 ≤ 100000 := by rw [List.length_take]; omega
    have el2 : (ls2.take k9 ++ [b]).length + (ls2.drop k9).length ≤ 100000 := by simp only [List.length_append, List.length_take, List.length_drop, List.length_cons, List.length_nil]; omega
    have en := ne_pair "lines" (by decide +kernel) k9
    have eh : hs__law_told 1 (.int k9) = some (.tuple [.str "lines", .int k9]) := rfl
    have c1 : slP (.list ls2) none (some (k9 : Int)) = some (.list (ls2.take k9)) := by
      show some (PyData.list (cutD ls2 none (some (k9 : Int)))) = _
      rw [cut_to ls2 k9 hk9]
    have c2 : slP (.list ls2) (some (k9 : Int)) none = some (.list (ls2.drop k9)) := by
      show some (PyData.list (cutD ls2 (some (k9 : Int)) none)) = _
      rw [cut_from ls2 k9 hk9]
    have a1 : addP (.list (ls2.take k9)) (.list [b]) = some (.list (ls2.take k9 ++ [b])) := if_pos el1
    have a2 : addP (.list (ls2.take k9 ++ [b])) (.list (ls2.drop k9)) = some (.list ((ls2.take k9 ++ [b]) ++ ls2.drop k9)) := if_pos el2
    clear el1 el2
    generalize (ls2.take k9 ++ [b]) ++ ls2.drop k9 = E at em a2
    generalize ls2.take k9 ++ [b] = D at a1 a2
    generalize ls2.take k9 = A at c1 a1
    generalize ls2.drop k9 = C at c2 a2
    simp [ifS, boolM, opM, toldM, callE, slM, letM, noM, partM, varM, listM, lstM, tupM, conM, consM, nilM, bnd, bndS, c1, c2, a1, a2, em, eh, en, nextS]
  obtain ⟨w, bd7, e7, B7, hw⟩ := pick_ok B6 (by omega) [.none, .int 5, .str "ab"] (by show 0 < 3; decide) (by show 3 < 1000000; decide)
  refine step (R := Kept _ _) (ρ1 := [.fro (scrD ns), .fro (.int k), .own false bd7, .fro (.int n), .fro (.list (headsL n)), .fro (.list ls2), s6', s7', .fro (dueVal (sheetR n ls2)), .fro (.int k9), .fro b, s11, s12, s13, s14]) ?_ ?_
  · have em := none_er n hn w hw
    have en := ne_pair "lines" (by decide +kernel) (-1)
    have eh : hs__law_told 1 (.int (-1)) = some (.tuple [.str "lines", .int (-1)]) := rfl
    simp [ifS, boolM, opM, toldM, callE, callB, unM, negP, varM, listM, lstM, tupM, conM, consM, nilM, bnd, bndS, e7, em, eh, en, nextS]
  have lr2 : (rangeD 0 (n * n)).length = n * n := by simp [rangeD]
  have n9 : n * n ≤ 9 := by rcases hn with rfl | rfl <;> decide
  obtain ⟨bd8, ts, B8, l8, g8, e8⟩ := table_turns hn (.fro (scrD ns)) (.fro (.int k)) (.fro (.list (headsL n))) (.fro (.list ls2)) s6' s7' (.fro (dueVal (sheetR n ls2))) (.fro (.int k9)) (.fro b) s11 s13 s14 (rangeD 0 (n * n)) _ bd7 [] B7 (by omega) (by rw [lr2]; show 0 + n * n ≤ 1000; omega) (fun x hx => by cases hx)
  have l8' : ts.length = n * n := by rw [l8, lr2]; exact Nat.zero_add _
  refine step (R := Kept _ _) (ρ1 := [.fro (scrD ns), .fro (.int k), .own false bd8, .fro (.int n), .fro (.list (headsL n)), .fro (.list ls2), s6', s7', .fro (dueVal (sheetR n ls2)), .fro (.int k9), .fro b, .fro (.list ts), .no, s13, s14]) ?_ ?_
  · have er : rng1M (consM (opM mulP (varM 3) (varM 3)) nilM) [.fro (scrD ns), .fro (.int k), .own false bd7, .fro (.int n), .fro (.list (headsL n)), .fro (.list ls2), s6', s7', .fro (dueVal (sheetR n ls2)), .fro (.int k9), .fro b, s11, s12, s13, s14] = some (.ok (rangeD 0 (n * n)) [.fro (scrD ns), .fro (.int k), .own false bd7, .fro (.int n), .fro (.list (headsL n)), .fro (.list ls2), s6', s7', .fro (dueVal (sheetR n ls2)), .fro (.int k9), .fro b, s11, s12, s13, s14]) := by
      rcases hn with rfl | rfl <;> rfl
    have el : lcM (rng1M (consM (opM mulP (varM 3) (varM 3)) nilM)) (nameG 12) yesB (callB 1 2 F__law_take (consM (varM 3) nilM)) [12] [.fro (scrD ns), .fro (.int k), .own false bd7, .fro (.int n), .fro (.list (headsL n)), .fro (.list ls2), s6', s7', .fro (dueVal (sheetR n ls2)), .fro (.int k9), .fro b, s11, s12, s13, s14] = some (.ok ts [.fro (scrD ns), .fro (.int k), .own false bd8, .fro (.int n), .fro (.list (headsL n)), .fro (.list ls2), s6', s7', .fro (dueVal (sheetR n ls2)), .fro (.int k9), .fro b, s11, .no, s13, s14]) := by
      unfold lcM
      rw [er]
      show (lcF (rangeD 0 (n * n)) [] [.fro (scrD ns), .fro (.int k), .own false bd7, .fro (.int n), .fro (.list (headsL n)), .fro (.list ls2), s6', s7', .fro (dueVal (sheetR n ls2)), .fro (.int k9), .fro b, s11, .no, s13, s14]).map _ = _
      rw [e8]
      rfl
    simp [asgS, listM, bnd, bndS, el]
  have hsz : isSize (.int (n : Int)) = true := by rcases hn with rfl | rfl <;> rfl
  have ensz : F_need_size [.int (n : Int)] = some (.ok (.int n)) := by
    rw [need_size_eq rfl]
    unfold needSize
    rw [if_pos hsz]
  refine step (R := Kept _ _) (ρ1 := [.fro (scrD ns), .fro (.int k), .own false bd8, .fro (.int n), .fro (.list (headsL n)), .fro (.list ls2), s6', s7', .fro (dueVal (sheetR n ls2)), .fro (.int k9), .fro b, .fro (.list ts), .no, s13, s14]) ?_ ?_
  · have eg := table_good hn ts l8' g8
    have en := ne_bels ts g8
    have en2 : neS (.int (n : Int)) (.int n) = some (.bool false) := by rcases hn with rfl | rfl <;> rfl
    have et : tupleP [.list ts] = some (.tuple ts) := rfl
    simp [ifS, orB, boolM, opM, kwE, caM, varM, consM, nilM, bnd, bndS, sel, eg, en, en2, et, ensz, nextS]
  have mn : mulP (.int (n : Int)) (.int n) = some (.int ((n * n : Nat) : Int)) := by rcases hn with rfl | rfl <;> rfl
  obtain ⟨at2, bd9, e9, B9, at20, at21⟩ := take_ok B8 (by rw [lr2]; omega) (many := ((n * n : Nat) : Int)) (by rcases hn with rfl | rfl <;> decide) (by omega)
  obtain ⟨j9, rfl⟩ := Int.eq_ofNat_of_zero_le at20
  have hj9 : j9 < n * n := by omega
  refine step (R := Kept _ _) (ρ1 := [.fro (scrD ns), .fro (.int k), .own false bd9, .fro (.int n), .fro (.list (headsL n)), .fro (.list ls2), s6', s7', .fro (dueVal (sheetR n ls2)), .fro (.int j9), .fro b, .fro (.list ts), .no, s13, s14]) ?_ ?_
  · generalize ((n * n : Nat) : Int) = nn at e9 mn
    simp [asgS, callB, opM, varM, consM, nilM, bnd, bndS, mn, e9]
  obtain ⟨b2, bd10, e10, B10, hb2⟩ := pick_ok B9 (by rw [lr2]; omega) (oddL n) (by show 0 < 5; decide) (by show 5 < 1000000; decide)
  have emo := table_odd hn ts l8' g8 j9 hj9 b2 hb2
  refine step (R := Kept _ _) (ρ1 := [.fro (scrD ns), .fro (.int k), .own false bd10, .fro (.int n), .fro (.list (headsL n)), .fro (.list ls2), s6', s7', .fro (dueVal (sheetR n ls2)), .fro (.int j9), .fro b, .fro (.list ts), .no, .fro (.list ((ts.take j9 ++ [b2]) ++ ts.drop (j9 + 1))), s14]) ?_ ?_
  · have el1 : (ts.take j9).length + 1 ≤ 100000 := by rw [List.length_take]; omega
    have el2 : (ts.take j9 ++ [b2]).length + (ts.drop (j9 + 1)).length ≤ 100000 := by simp only [List.length_append, List.length_take, List.length_drop, List.length_cons, List.length_nil]; omega
    have c1 : slP (.list ts) none (some (j9 : Int)) = some (.list (ts.take j9)) := by
      show some (PyData.list (cutD ts none (some (j9 : Int)))) = _
      rw [cut_to ts j9 (by omega)]
    have c2 : slP (.list ts) (some ((j9 : Int) + 1)) none = some (.list (ts.drop (j9 + 1))) := by
      show some (PyData.list (cutD ts (some ((j9 + 1 : Nat) : Int)) none)) = _
      rw [cut_from ts (j9 + 1) (by omega)]
    have a1 : addP (.list (ts.take j9)) (.list [b2]) = some (.list (ts.take j9 ++ [b2])) := if_pos el1
    have a2 : addP (.list (ts.take j9 ++ [b2])) (.list (ts.drop (j9 + 1))) = some (.list ((ts.take j9 ++ [b2]) ++ ts.drop (j9 + 1))) := if_pos el2
    have a3 : addP (.int (j9 : Int)) (.int 1) = some (.int ((j9 : Int) + 1)) := rfl
    have e10' := e10
    unfold oddL at e10'
    clear el1 el2 emo e10
    generalize (ts.take j9 ++ [b2]) ++ ts.drop (j9 + 1) = E at a2 ⊢
    generalize ts.take j9 ++ [b2] = D at a1 a2
    generalize ts.take j9 = A at c1 a1
    generalize ts.drop (j9 + 1) = C at c2 a2
    generalize (j9 : Int) + 1 = j10 at a3 c2
    simp [asgS, boolM, opM, callB, slM, noM, partM, unM, negP, varM, listM, lstM, tupM, conM, consM, nilM, bnd, bndS, c1, c2, a1, a2, a3, e10']
  refine step (R := Kept _ _) (ρ1 := [.fro (scrD ns), .fro (.int k), .own false bd10, .fro (.int n), .fro (.list (headsL n)), .fro (.list ls2), s6', s7', .fro (dueVal (sheetR n ls2)), .fro (.int j9), .fro b, .fro (.list ts), .no, .fro (.list ((ts.take j9 ++ [b2]) ++ ts.drop (j9 + 1))), s14]) ?_ ?_
  · have en := ne_pair "table" (by decide +kernel) j9
    have eh : hs__law_told 0 (.int j9) = some (.tuple [.str "table", .int j9]) := rfl
    generalize (ts.take j9 ++ [b2]) ++ ts.drop (j9 + 1) = E at emo ⊢
    simp [ifS, boolM, opM, toldM, callE, callB, slM, noM, partM, unM, negP, varM, listM, lstM, tupM, conM, consM, nilM, bnd, bndS, nextS, emo, en, eh]
  obtain ⟨w3, bd11, e11, B11, hw3⟩ := pick_ok B10 (by rw [lr2]; omega) [.none, .list (ts.drop 1), .int 3] (by show 0 < 3; decide) (by show 3 < 1000000; decide)
  generalize (ts.take j9 ++ [b2]) ++ ts.drop (j9 + 1) = E
  refine step (R := Kept _ _) (ρ1 := [.fro (scrD ns), .fro (.int k), .own false bd11, .fro (.int n), .fro (.list (headsL n)), .fro (.list ls2), s6', s7', .fro (dueVal (sheetR n ls2)), .fro (.int j9), .fro b, .fro (.list ts), .no, .fro (.list E), s14]) ?_ ?_
  · have em := table_wrong hn ts l8' g8 w3 hw3
    have en := ne_pair "table" (by decide +kernel) (-1)
    have eh : hs__law_told 0 (.int (-1)) = some (.tuple [.str "table", .int (-1)]) := rfl
    have c1 : slP (.list ts) (some 1) none = some (.list (ts.drop 1)) := by
      show some (PyData.list (cutD ts (some ((1 : Nat) : Int)) none)) = _
      rw [cut_from ts 1 (by rcases hn with rfl | rfl <;> omega)]
    clear hw3
    generalize ts.drop 1 = C at c1 e11
    simp [ifS, boolM, opM, toldM, callE, callB, slM, noM, partM, unM, negP, varM, listM, lstM, tupM, conM, consM, nilM, bnd, bndS, nextS, e11, c1, em, en, eh]
  obtain ⟨w4, bd12, e12, B12, hw4⟩ := pick_ok B11 (by rw [lr2]; omega) [.none, .int 1, .int 4, .bool true, .str "2"] (by show 0 < 5; decide) (by show 5 < 1000000; decide)
  have hw : noDict w4 = true ∧ isSize w4 = false := by
    simp only [List.mem_cons, List.not_mem_nil, or_false] at hw4
    rcases hw4 with rfl | rfl | rfl | rfl | rfl <;> exact ⟨rfl, rfl⟩
  have en := ne_words "size" (by decide +kernel)
  have eh : hs__law_told 3 (.str "size") = some (.tuple [.str "size", .str "size"]) := rfl
  refine step (R := Kept _ _) (ρ1 := [.fro (scrD ns), .fro (.int k), .own false bd12, .fro (.int n), .fro (.list (headsL n)), .fro (.list ls2), s6', s7', .fro (dueVal (sheetR n ls2)), .fro (.int j9), .fro b, .fro (.list ts), .no, .fro (.list E), .fro w4]) ?_ ?_
  · simp [asgS, ifS, boolM, opM, toldM, callE, callB, slM, noM, partM, unM, negP, varM, listM, lstM, tupM, conM, consM, nilM, bnd, bndS, nextS, e12]
  have z1 : F_need_size [w4] = some (.er 3 (.str "size")) := by
    rw [need_size_eq hw.1]
    unfold needSize
    rw [if_neg (by rw [hw.2]; decide)]
  have z2 := lines_sheet_sz (d := .none) hw.1 hw.2
  have z3 := table_sz (d := .none) hw.1 hw.2
  refine step (R := Kept _ _) (ρ1 := [.fro (scrD ns), .fro (.int k), .own false bd12, .fro (.int n), .fro (.list (headsL n)), .fro (.list ls2), s6', s7', .fro (dueVal (sheetR n ls2)), .fro (.int j9), .fro b, .fro (.list ts), .no, .fro (.list E), .fro w4]) ?_ ?_
  · simp [ifS, boolM, opM, toldM, callE, callB, slM, noM, partM, unM, negP, varM, listM, lstM, tupM, conM, consM, nilM, bnd, bndS, nextS, z1, en, eh]
  refine step (R := Kept _ _) (ρ1 := [.fro (scrD ns), .fro (.int k), .own false bd12, .fro (.int n), .fro (.list (headsL n)), .fro (.list ls2), s6', s7', .fro (dueVal (sheetR n ls2)), .fro (.int j9), .fro b, .fro (.list ts), .no, .fro (.list E), .fro w4]) ?_ ?_
  · simp [ifS, boolM, opM, toldM, callE, callB, slM, noM, partM, unM, negP, varM, listM, lstM, tupM, conM, consM, nilM, bnd, bndS, nextS, z2, en, eh]
  refine ⟨.own false bd12, .fro (.int n), .fro (.list (headsL n)), .fro (.list ls2), s6', s7', .fro (dueVal (sheetR n ls2)), .fro (.int j9), .fro b, .fro (.list ts), .no, .fro (.list E), .fro w4, ?_⟩
  simp [ifS, boolM, opM, toldM, callE, callB, slM, noM, partM, unM, negP, varM, listM, lstM, tupM, conM, consM, nilM, bnd, bndS, nextS, z3, en, eh]
end K01

namespace K01
open PySem L2 Evl Pd
theorem nd_ix {N : List Addr} (hN : N.Nodup) {i j : Nat} {x : Addr} (a : N[i]? = some x) (b : N[j]? = some x) : i = j := by
  obtain ⟨h1, e1⟩ := List.getElem?_eq_some_iff.mp a
  obtain ⟨h2, e2⟩ := List.getElem?_eq_some_iff.mp b
  exact (List.getElem_inj hN).mp (e1.trans e2.symm)
theorem all_mk {l : PySem.W.OpenLaw} {w : World} {K0 : PySem.W.Frag} {h : Heap} {mg : Str → Option Value} {fa Pt : Addr} (X : K0.In h) (G : h.Ns mainGlobals mg) (hfa : mg "law" = some (.ref fa)) (hTab : ∀ P, P ∈ [Pt] → h.get? P = some (PySem.W.tabObj #[])) {cB cL c0 g0 c1 g1 c2 g2 c3 g3 f0 f1 f2 f3 f4 f5 f6 f7 f8 f9 f10 f11 f12 f13 f14 f15 f16 f17 f18 f19 f20 : Addr}
    {nm0 q0 : Str} {N0 : Addr} {bs0 : List Value} {sn0 : List Str} {sub0 : List Value} {ab0 : Bool} {col0 : Option Bool} {dd0 : Option Addr} {m00 m10 m20 m30 m50 : Option Value} {oc0 dc0 pm0 cd0 ct0 : Value} {od0 an0 : Option Addr} {sl0 : Array (Option Value)}
    {nm1 q1 : Str} {N1 : Addr} {bs1 : List Value} {sn1 : List Str} {sub1 : List Value} {ab1 : Bool} {col1 : Option Bool} {dd1 : Option Addr} {m01 m11 m21 m31 m51 : Option Value} {oc1 dc1 pm1 cd1 ct1 : Value} {od1 an1 : Option Addr} {sl1 : Array (Option Value)}
    {nm2 q2 : Str} {N2 : Addr} {bs2 : List Value} {sn2 : List Str} {sub2 : List Value} {ab2 : Bool} {col2 : Option Bool} {dd2 : Option Addr} {m02 m12 m22 m32 m52 : Option Value} {oc2 dc2 pm2 cd2 ct2 : Value} {od2 an2 : Option Addr} {sl2 : Array (Option Value)}
    {nm3 q3 : Str} {N3 : Addr} {bs3 : List Value} {sn3 : List Str} {sub3 : List Value} {ab3 : Bool} {col3 : Option Bool} {dd3 : Option Addr} {m03 m13 m23 m33 m53 : Option Value} {oc3 dc3 pm3 cd3 ct3 : Value} {od3 an3 : Option Addr} {sl3 : Array (Option Value)}
    {ocf0 kVf0 dcf0 pmf0 cdf0 ctf0 : Value} {odf0 anf0 : Option Addr} {slf0 : Array (Option Value)}
    {ocf1 kVf1 dcf1 pmf1 cdf1 ctf1 : Value} {odf1 anf1 : Option Addr} {slf1 : Array (Option Value)}
    {ocf2 kVf2 dcf2 pmf2 cdf2 ctf2 : Value} {odf2 anf2 : Option Addr} {slf2 : Array (Option Value)}
    {ocf3 kVf3 dcf3 pmf3 cdf3 ctf3 : Value} {odf3 anf3 : Option Addr} {slf3 : Array (Option Value)}
    {ocf4 kVf4 dcf4 pmf4 cdf4 ctf4 : Value} {odf4 anf4 : Option Addr} {slf4 : Array (Option Value)}
    {ocf5 kVf5 dcf5 pmf5 cdf5 ctf5 : Value} {odf5 anf5 : Option Addr} {slf5 : Array (Option Value)}
    {ocf6 kVf6 dcf6 pmf6 cdf6 ctf6 : Value} {odf6 anf6 : Option Addr} {slf6 : Array (Option Value)}
    {ocf7 kVf7 dcf7 pmf7 cdf7 ctf7 : Value} {odf7 anf7 : Option Addr} {slf7 : Array (Option Value)}
    {ocf8 kVf8 dcf8 pmf8 cdf8 ctf8 : Value} {odf8 anf8 : Option Addr} {slf8 : Array (Option Value)}
    {ocf9 kVf9 dcf9 pmf9 cdf9 ctf9 : Value} {odf9 anf9 : Option Addr} {slf9 : Array (Option Value)}
    {ocf10 kVf10 dcf10 pmf10 cdf10 ctf10 : Value} {odf10 anf10 : Option Addr} {slf10 : Array (Option Value)}
    {ocf11 kVf11 dcf11 pmf11 cdf11 ctf11 : Value} {odf11 anf11 : Option Addr} {slf11 : Array (Option Value)}
    {ocf12 kVf12 dcf12 pmf12 cdf12 ctf12 : Value} {odf12 anf12 : Option Addr} {slf12 : Array (Option Value)}
    {ocf13 kVf13 dcf13 pmf13 cdf13 ctf13 : Value} {odf13 anf13 : Option Addr} {slf13 : Array (Option Value)}
    {ocf14 kVf14 dcf14 pmf14 cdf14 ctf14 : Value} {odf14 anf14 : Option Addr} {slf14 : Array (Option Value)}
    {ocf15 kVf15 dcf15 pmf15 cdf15 ctf15 : Value} {odf15 anf15 : Option Addr} {slf15 : Array (Option Value)}
    {ocf16 kVf16 dcf16 pmf16 cdf16 ctf16 : Value} {odf16 anf16 : Option Addr} {slf16 : Array (Option Value)}
    {ocf17 kVf17 dcf17 pmf17 cdf17 ctf17 : Value} {odf17 anf17 : Option Addr} {slf17 : Array (Option Value)}
    {ocf18 kVf18 dcf18 pmf18 cdf18 ctf18 : Value} {odf18 anf18 : Option Addr} {slf18 : Array (Option Value)}
    {ocf19 kVf19 dcf19 pmf19 cdf19 ctf19 : Value} {odf19 anf19 : Option Addr} {slf19 : Array (Option Value)}
    {ocf20 kVf20 dcf20 pmf20 ctf20 : Value} {odf20 anf20 : Option Addr} {slf20 : Array (Option Value)}
    {dcL : Option Addr} {vsL : Array Value} {slL : Array (Option Value)} {fileL : Str} {tfL tgL ttL : Tok} {flagsL textL : Int} {inFL : Bool}
    (aB : PySem.W.nsIn K0 mainGlobals "PromiseError" = some (some (.ref cB)))
    (eB : PySem.W.subIn K0 (.ref cB) (.type "BaseException") = some true)
    (iB : PySem.W.isClsIn K0 cB = true)
    (tB : PySem.W.typeIn K0 (.ref cB) = some (.type "type"))
    (a0 : PySem.W.nsIn K0 mainGlobals "InvalidTable" = some (some (.ref c0)))
    (x0 : K0.lookup c0 = some (excClassObj nm0 q0 c0 N0 bs0 [.ref cB, .type "Exception", .type "BaseException", .type "object"] true sn0 sub0 ab0 col0 dd0 m00 m10 m20 m30 m50 "Exception.__new__"))
    (s0 : PySem.W.findIn K0 (.ref c0) "__setattr__" = some (some (.builtin "object.__setattr__")))
    (ga0 : PySem.W.findIn K0 (.ref c0) "__getattribute__" = some (some (.builtin "BaseException.__getattribute__")))
    (gg0 : PySem.W.findIn K0 (.ref c0) "__getattr__" = some none)
    (k0 : PySem.W.keepIn K0 (.ref c0) = true)
    (e0 : PySem.W.subIn K0 (.ref c0) (.type "BaseException") = some true)
    (t0 : PySem.W.typeIn K0 (.ref c0) = some (.type "type"))
    (h0 : PySem.W.hasDictIn K0 c0 = true)
    (nf0 : PySem.W.findIn K0 (.ref c0) "at" = some none)
    (i0 : PySem.W.findIn K0 (.ref c0) "__init__" = some (some (.ref g0)))
    (ti0 : PySem.W.typeIn K0 (.ref g0) = some (.type "function"))
    (l0 : K0.lookup g0 = some ⟨oc0, od0, .func (PySem.W.fnOf "__init__" "InvalidTable.__init__" (PySem.PErrA.args ⟨6, 17, 6, 21⟩ ⟨6, 23, 6, 25⟩) (PySem.PErrA.body ⟨7, 8, 7, 12⟩ ⟨7, 8, 7, 15⟩ ⟨7, 18, 7, 20⟩ ⟨7, 8, 7, 20⟩) PySem.PErrA.scop .none .none dc0 pm0 an0 cd0 ct0), sl0⟩)
    (ci0 : PySem.W.codeIn K0 cd0 "InvalidTable.__init__" = true)
    (a1 : PySem.W.nsIn K0 mainGlobals "InvalidLines" = some (some (.ref c1)))
    (x1 : K0.lookup c1 = some (excClassObj nm1 q1 c1 N1 bs1 [.ref cB, .type "Exception", .type "BaseException", .type "object"] true sn1 sub1 ab1 col1 dd1 m01 m11 m21 m31 m51 "Exception.__new__"))
    (s1 : PySem.W.findIn K0 (.ref c1) "__setattr__" = some (some (.builtin "object.__setattr__")))
    (ga1 : PySem.W.findIn K0 (.ref c1) "__getattribute__" = some (some (.builtin "BaseException.__getattribute__")))
    (gg1 : PySem.W.findIn K0 (.ref c1) "__getattr__" = some none)
    (k1 : PySem.W.keepIn K0 (.ref c1) = true)
    (e1 : PySem.W.subIn K0 (.ref c1) (.type "BaseException") = some true)
    (t1 : PySem.W.typeIn K0 (.ref c1) = some (.type "type"))
    (h1 : PySem.W.hasDictIn K0 c1 = true)
    (nf1 : PySem.W.findIn K0 (.ref c1) "at" = some none)
    (i1 : PySem.W.findIn K0 (.ref c1) "__init__" = some (some (.ref g1)))
    (ti1 : PySem.W.typeIn K0 (.ref g1) = some (.type "function"))
    (l1 : K0.lookup g1 = some ⟨oc1, od1, .func (PySem.W.fnOf "__init__" "InvalidLines.__init__" (PySem.PErrA.args ⟨10, 17, 10, 21⟩ ⟨10, 23, 10, 25⟩) (PySem.PErrA.body ⟨11, 8, 11, 12⟩ ⟨11, 8, 11, 15⟩ ⟨11, 18, 11, 20⟩ ⟨11, 8, 11, 20⟩) PySem.PErrA.scop .none .none dc1 pm1 an1 cd1 ct1), sl1⟩)
    (ci1 : PySem.W.codeIn K0 cd1 "InvalidLines.__init__" = true)
    (a2 : PySem.W.nsIn K0 mainGlobals "Refused" = some (some (.ref c2)))
    (x2 : K0.lookup c2 = some (excClassObj nm2 q2 c2 N2 bs2 [.ref cB, .type "Exception", .type "BaseException", .type "object"] true sn2 sub2 ab2 col2 dd2 m02 m12 m22 m32 m52 "Exception.__new__"))
    (s2 : PySem.W.findIn K0 (.ref c2) "__setattr__" = some (some (.builtin "object.__setattr__")))
    (ga2 : PySem.W.findIn K0 (.ref c2) "__getattribute__" = some (some (.builtin "BaseException.__getattribute__")))
    (gg2 : PySem.W.findIn K0 (.ref c2) "__getattr__" = some none)
    (k2 : PySem.W.keepIn K0 (.ref c2) = true)
    (e2 : PySem.W.subIn K0 (.ref c2) (.type "BaseException") = some true)
    (t2 : PySem.W.typeIn K0 (.ref c2) = some (.type "type"))
    (h2 : PySem.W.hasDictIn K0 c2 = true)
    (nf2 : PySem.W.findIn K0 (.ref c2) "at" = some none)
    (i2 : PySem.W.findIn K0 (.ref c2) "__init__" = some (some (.ref g2)))
    (ti2 : PySem.W.typeIn K0 (.ref g2) = some (.type "function"))
    (l2 : K0.lookup g2 = some ⟨oc2, od2, .func (PySem.W.fnOf "__init__" "Refused.__init__" (PySem.PErrA.args ⟨14, 17, 14, 21⟩ ⟨14, 23, 14, 25⟩) (PySem.PErrA.body ⟨15, 8, 15, 12⟩ ⟨15, 8, 15, 15⟩ ⟨15, 18, 15, 20⟩ ⟨15, 8, 15, 20⟩) PySem.PErrA.scop .none .none dc2 pm2 an2 cd2 ct2), sl2⟩)
    (ci2 : PySem.W.codeIn K0 cd2 "Refused.__init__" = true)
    (a3 : PySem.W.nsIn K0 mainGlobals "InvalidSize" = some (some (.ref c3)))
    (x3 : K0.lookup c3 = some (excClassObj nm3 q3 c3 N3 bs3 [.ref cB, .type "Exception", .type "BaseException", .type "object"] true sn3 sub3 ab3 col3 dd3 m03 m13 m23 m33 m53 "Exception.__new__"))
    (s3 : PySem.W.findIn K0 (.ref c3) "__setattr__" = some (some (.builtin "object.__setattr__")))
    (ga3 : PySem.W.findIn K0 (.ref c3) "__getattribute__" = some (some (.builtin "BaseException.__getattribute__")))
    (gg3 : PySem.W.findIn K0 (.ref c3) "__getattr__" = some none)
    (k3 : PySem.W.keepIn K0 (.ref c3) = true)
    (e3 : PySem.W.subIn K0 (.ref c3) (.type "BaseException") = some true)
    (t3 : PySem.W.typeIn K0 (.ref c3) = some (.type "type"))
    (h3 : PySem.W.hasDictIn K0 c3 = true)
    (nf3 : PySem.W.findIn K0 (.ref c3) "word" = some none)
    (i3 : PySem.W.findIn K0 (.ref c3) "__init__" = some (some (.ref g3)))
    (ti3 : PySem.W.typeIn K0 (.ref g3) = some (.type "function"))
    (l3 : K0.lookup g3 = some ⟨oc3, od3, .func (PySem.W.fnOf "__init__" "InvalidSize.__init__" (PySem.PErrW.args ⟨18, 17, 18, 21⟩ ⟨18, 23, 18, 27⟩) (PySem.PErrW.body ⟨19, 8, 19, 12⟩ ⟨19, 8, 19, 17⟩ ⟨19, 20, 19, 24⟩ ⟨19, 8, 19, 24⟩) PySem.PErrW.scop .none .none dc3 pm3 an3 cd3 ct3), sl3⟩)
    (ci3 : PySem.W.codeIn K0 cd3 "InvalidSize.__init__" = true)
    (af0 : PySem.W.nsIn K0 mainGlobals "is_integer" = some (some (.ref f0)))
    (lf0 : K0.lookup f0 = some ⟨ocf0, odf0, .func (PySem.W.fnOf "is_integer" "is_integer" (defArgs s_is_integer) (defBody s_is_integer) (defScope s_is_integer) .none kVf0 dcf0 pmf0 anf0 cdf0 ctf0), slf0⟩)
    (cf0 : PySem.W.codeIn K0 cdf0 "is_integer" = true)
    (kf0 : PySem.W.keepIn K0 (.ref f0) = true)
    (af1 : PySem.W.nsIn K0 mainGlobals "is_number" = some (some (.ref f1)))
    (lf1 : K0.lookup f1 = some ⟨ocf1, odf1, .func (PySem.W.fnOf "is_number" "is_number" (defArgs s_is_number) (defBody s_is_number) (defScope s_is_number) .none kVf1 dcf1 pmf1 anf1 cdf1 ctf1), slf1⟩)
    (cf1 : PySem.W.codeIn K0 cdf1 "is_number" = true)
    (kf1 : PySem.W.keepIn K0 (.ref f1) = true)
    (af2 : PySem.W.nsIn K0 mainGlobals "is_below" = some (some (.ref f2)))
    (lf2 : K0.lookup f2 = some ⟨ocf2, odf2, .func (PySem.W.fnOf "is_below" "is_below" (defArgs s_is_below) (defBody s_is_below) (defScope s_is_below) .none kVf2 dcf2 pmf2 anf2 cdf2 ctf2), slf2⟩)
    (cf2 : PySem.W.codeIn K0 cdf2 "is_below" = true)
    (kf2 : PySem.W.keepIn K0 (.ref f2) = true)
    (af3 : PySem.W.nsIn K0 mainGlobals "is_sequence" = some (some (.ref f3)))
    (lf3 : K0.lookup f3 = some ⟨ocf3, odf3, .func (PySem.W.fnOf "is_sequence" "is_sequence" (defArgs s_is_sequence) (defBody s_is_sequence) (defScope s_is_sequence) .none kVf3 dcf3 pmf3 anf3 cdf3 ctf3), slf3⟩)
    (cf3 : PySem.W.codeIn K0 cdf3 "is_sequence" = true)
    (kf3 : PySem.W.keepIn K0 (.ref f3) = true)
    (af4 : PySem.W.nsIn K0 mainGlobals "is_size" = some (some (.ref f4)))
    (lf4 : K0.lookup f4 = some ⟨ocf4, odf4, .func (PySem.W.fnOf "is_size" "is_size" (defArgs s_is_size) (defBody s_is_size) (defScope s_is_size) .none kVf4 dcf4 pmf4 anf4 cdf4 ctf4), slf4⟩)
    (cf4 : PySem.W.codeIn K0 cdf4 "is_size" = true)
    (kf4 : PySem.W.keepIn K0 (.ref f4) = true)
    (af5 : PySem.W.nsIn K0 mainGlobals "need_size" = some (some (.ref f5)))
    (lf5 : K0.lookup f5 = some ⟨ocf5, odf5, .func (PySem.W.fnOf "need_size" "need_size" (defArgs s_need_size) (defBody s_need_size) (defScope s_need_size) .none kVf5 dcf5 pmf5 anf5 cdf5 ctf5), slf5⟩)
    (cf5 : PySem.W.codeIn K0 cdf5 "need_size" = true)
    (kf5 : PySem.W.keepIn K0 (.ref f5) = true)
    (af6 : PySem.W.nsIn K0 mainGlobals "need_table" = some (some (.ref f6)))
    (lf6 : K0.lookup f6 = some ⟨ocf6, odf6, .func (PySem.W.fnOf "need_table" "need_table" (defArgs s_need_table) (defBody s_need_table) (defScope s_need_table) .none kVf6 dcf6 pmf6 anf6 cdf6 ctf6), slf6⟩)
    (cf6 : PySem.W.codeIn K0 cdf6 "need_table" = true)
    (kf6 : PySem.W.keepIn K0 (.ref f6) = true)
    (af7 : PySem.W.nsIn K0 mainGlobals "lines_sheet" = some (some (.ref f7)))
    (lf7 : K0.lookup f7 = some ⟨ocf7, odf7, .func (PySem.W.fnOf "lines_sheet" "lines_sheet" (defArgs s_lines_sheet) (defBody s_lines_sheet) (defScope s_lines_sheet) .none kVf7 dcf7 pmf7 anf7 cdf7 ctf7), slf7⟩)
    (cf7 : PySem.W.codeIn K0 cdf7 "lines_sheet" = true)
    (kf7 : PySem.W.keepIn K0 (.ref f7) = true)
    (af8 : PySem.W.nsIn K0 mainGlobals "need_lines" = some (some (.ref f8)))
    (lf8 : K0.lookup f8 = some ⟨ocf8, odf8, .func (PySem.W.fnOf "need_lines" "need_lines" (defArgs s_need_lines) (defBody s_need_lines) (defScope s_need_lines) .none kVf8 dcf8 pmf8 anf8 cdf8 ctf8), slf8⟩)
    (cf8 : PySem.W.codeIn K0 cdf8 "need_lines" = true)
    (kf8 : PySem.W.keepIn K0 (.ref f8) = true)
    (af9 : PySem.W.nsIn K0 mainGlobals "is_line" = some (some (.ref f9)))
    (lf9 : K0.lookup f9 = some ⟨ocf9, odf9, .func (PySem.W.fnOf "is_line" "is_line" (defArgs s_is_line) (defBody s_is_line) (defScope s_is_line) .none kVf9 dcf9 pmf9 anf9 cdf9 ctf9), slf9⟩)
    (cf9 : PySem.W.codeIn K0 cdf9 "is_line" = true)
    (kf9 : PySem.W.keepIn K0 (.ref f9) = true)
    (af10 : PySem.W.nsIn K0 mainGlobals "is_place" = some (some (.ref f10)))
    (lf10 : K0.lookup f10 = some ⟨ocf10, odf10, .func (PySem.W.fnOf "is_place" "is_place" (defArgs s_is_place) (defBody s_is_place) (defScope s_is_place) .none kVf10 dcf10 pmf10 anf10 cdf10 ctf10), slf10⟩)
    (cf10 : PySem.W.codeIn K0 cdf10 "is_place" = true)
    (kf10 : PySem.W.keepIn K0 (.ref f10) = true)
    (af11 : PySem.W.nsIn K0 mainGlobals "is_thing" = some (some (.ref f11)))
    (lf11 : K0.lookup f11 = some ⟨ocf11, odf11, .func (PySem.W.fnOf "is_thing" "is_thing" (defArgs s_is_thing) (defBody s_is_thing) (defScope s_is_thing) .none kVf11 dcf11 pmf11 anf11 cdf11 ctf11), slf11⟩)
    (cf11 : PySem.W.codeIn K0 cdf11 "is_thing" = true)
    (kf11 : PySem.W.keepIn K0 (.ref f11) = true)
    (af12 : PySem.W.nsIn K0 mainGlobals "told_thing" = some (some (.ref f12)))
    (lf12 : K0.lookup f12 = some ⟨ocf12, odf12, .func (PySem.W.fnOf "told_thing" "told_thing" (defArgs s_told_thing) (defBody s_told_thing) (defScope s_told_thing) .none kVf12 dcf12 pmf12 anf12 cdf12 ctf12), slf12⟩)
    (cf12 : PySem.W.codeIn K0 cdf12 "told_thing" = true)
    (kf12 : PySem.W.keepIn K0 (.ref f12) = true)
    (af13 : PySem.W.nsIn K0 mainGlobals "met_cells" = some (some (.ref f13)))
    (lf13 : K0.lookup f13 = some ⟨ocf13, odf13, .func (PySem.W.fnOf "met_cells" "met_cells" (defArgs s_met_cells) (defBody s_met_cells) (defScope s_met_cells) .none kVf13 dcf13 pmf13 anf13 cdf13 ctf13), slf13⟩)
    (cf13 : PySem.W.codeIn K0 cdf13 "met_cells" = true)
    (kf13 : PySem.W.keepIn K0 (.ref f13) = true)
    (af14 : PySem.W.nsIn K0 mainGlobals "_law_box" = some (some (.ref f14)))
    (lf14 : K0.lookup f14 = some ⟨ocf14, odf14, .func (PySem.W.fnOf "_law_box" "_law_box" (defArgs s__law_box) (defBody s__law_box) (defScope s__law_box) .none kVf14 dcf14 pmf14 anf14 cdf14 ctf14), slf14⟩)
    (cf14 : PySem.W.codeIn K0 cdf14 "_law_box" = true)
    (kf14 : PySem.W.keepIn K0 (.ref f14) = true)
    (af15 : PySem.W.nsIn K0 mainGlobals "_law_take" = some (some (.ref f15)))
    (lf15 : K0.lookup f15 = some ⟨ocf15, odf15, .func (PySem.W.fnOf "_law_take" "_law_take" (defArgs s__law_take) (defBody s__law_take) (defScope s__law_take) .none kVf15 dcf15 pmf15 anf15 cdf15 ctf15), slf15⟩)
    (cf15 : PySem.W.codeIn K0 cdf15 "_law_take" = true)
    (kf15 : PySem.W.keepIn K0 (.ref f15) = true)
    (af16 : PySem.W.nsIn K0 mainGlobals "_law_pick" = some (some (.ref f16)))
    (lf16 : K0.lookup f16 = some ⟨ocf16, odf16, .func (PySem.W.fnOf "_law_pick" "_law_pick" (defArgs s__law_pick) (defBody s__law_pick) (defScope s__law_pick) .none kVf16 dcf16 pmf16 anf16 cdf16 ctf16), slf16⟩)
    (cf16 : PySem.W.codeIn K0 cdf16 "_law_pick" = true)
    (kf16 : PySem.W.keepIn K0 (.ref f16) = true)
    (af17 : PySem.W.nsIn K0 mainGlobals "_law_thing" = some (some (.ref f17)))
    (lf17 : K0.lookup f17 = some ⟨ocf17, odf17, .func (PySem.W.fnOf "_law_thing" "_law_thing" (defArgs s__law_thing) (defBody s__law_thing) (defScope s__law_thing) .none kVf17 dcf17 pmf17 anf17 cdf17 ctf17), slf17⟩)
    (cf17 : PySem.W.codeIn K0 cdf17 "_law_thing" = true)
    (kf17 : PySem.W.keepIn K0 (.ref f17) = true)
    (af18 : PySem.W.nsIn K0 mainGlobals "_law_due" = some (some (.ref f18)))
    (lf18 : K0.lookup f18 = some ⟨ocf18, odf18, .func (PySem.W.fnOf "_law_due" "_law_due" (defArgs s__law_due) (defBody s__law_due) (defScope s__law_due) .none kVf18 dcf18 pmf18 anf18 cdf18 ctf18), slf18⟩)
    (cf18 : PySem.W.codeIn K0 cdf18 "_law_due" = true)
    (kf18 : PySem.W.keepIn K0 (.ref f18) = true)
    (af19 : PySem.W.nsIn K0 mainGlobals "_law_told" = some (some (.ref f19)))
    (lf19 : K0.lookup f19 = some ⟨ocf19, odf19, .func (PySem.W.fnOf "_law_told" "_law_told" (defArgs s__law_told) (defBody s__law_told) (defScope s__law_told) .none kVf19 dcf19 pmf19 anf19 cdf19 ctf19), slf19⟩)
    (cf19 : PySem.W.codeIn K0 cdf19 "_law_told" = true)
    (kf19 : PySem.W.keepIn K0 (.ref f19) = true)
    (af20 : PySem.W.nsIn K0 mainGlobals "law" = some (some (.ref f20)))
    (lf20 : K0.lookup f20 = some ⟨ocf20, odf20, .func (PySem.W.fnOf "law" "law" (defArgs s_law) (defBody s_law) (defScope s_law) .none kVf20 dcf20 pmf20 anf20 (.ref cL) ctf20), slf20⟩)
    (cf20 : PySem.W.codeIn K0 (.ref cL) "law" = true)
    (kf20 : PySem.W.keepIn K0 (.ref f20) = true)
    (zabs : PySem.W.nsIn K0 mainGlobals "abs" = some none)
    (zall : PySem.W.nsIn K0 mainGlobals "all" = some none)
    (zbool : PySem.W.nsIn K0 mainGlobals "bool" = some none)
    (zenumerate : PySem.W.nsIn K0 mainGlobals "enumerate" = some none)
    (zint : PySem.W.nsIn K0 mainGlobals "int" = some none)
    (zisinstance : PySem.W.nsIn K0 mainGlobals "isinstance" = some none)
    (zlen : PySem.W.nsIn K0 mainGlobals "len" = some none)
    (zlist : PySem.W.nsIn K0 mainGlobals "list" = some none)
    (zrange : PySem.W.nsIn K0 mainGlobals "range" = some none)
    (zrepr : PySem.W.nsIn K0 mainGlobals "repr" = some none)
    (ztuple : PySem.W.nsIn K0 mainGlobals "tuple" = some none)
    (nd : ([c0, c1, c2, c3] : List Addr).Nodup ∧ cB ∉ ([c0, c1, c2, c3] : List Addr))
    (lc : K0.lookup cL = some ⟨.type "code", dcL, .fields vsL, slL⟩)
    (v11 : vsL[11]? = some (.ref Pt) ∧ vsL.getD 11 Value.none = .ref Pt)
    (v18 : vsL.getD 18 Value.none = .str fileL tfL)
    (v7 : vsL.getD 7 Value.none = .int flagsL tgL)
    (v9 : vsL.getD 9 Value.none = .bool inFL)
    (v10 : vsL.getD 10 Value.none = .int textL ttL)
    (vne : cL ≠ Pt)
    (vP : K0.lookup Pt = none) :
    LawAtG l w K0 CX0 11 63 "script" mg fa h := by
  have e := hfa.symm.trans (PySem.W.mg_of X G af20)
  cases e
  have Y0 : PySem.PErr.Cl K0 mg "InvalidTable" c0 cB := ⟨PySem.W.mg_of X G a0, ⟨_, _, _, _, _, _, _, _, _, _, _, _, _, _, x0⟩, s0, ga0, gg0, k0, e0, t0, h0⟩
  have Y1 : PySem.PErr.Cl K0 mg "InvalidLines" c1 cB := ⟨PySem.W.mg_of X G a1, ⟨_, _, _, _, _, _, _, _, _, _, _, _, _, _, x1⟩, s1, ga1, gg1, k1, e1, t1, h1⟩
  have Y2 : PySem.PErr.Cl K0 mg "Refused" c2 cB := ⟨PySem.W.mg_of X G a2, ⟨_, _, _, _, _, _, _, _, _, _, _, _, _, _, x2⟩, s2, ga2, gg2, k2, e2, t2, h2⟩
  have Y3 : PySem.PErr.Cl K0 mg "InvalidSize" c3 cB := ⟨PySem.W.mg_of X G a3, ⟨_, _, _, _, _, _, _, _, _, _, _, _, _, _, x3⟩, s3, ga3, gg3, k3, e3, t3, h3⟩
  obtain ⟨nd1, nd2⟩ := nd
  have T : Txt ⟨K0, [(Pt, ("law.<locals>.<lambda>" : Str))]⟩ mg (fun i => ([c0, c1, c2, c3] : List Addr).getD i 0) cB (fun i => ([g0, g1, g2, g3] : List Addr).getD i 0) := by
    refine {
      b_abs := PySem.W.mg_none_of X G zabs,
      b_all := PySem.W.mg_none_of X G zall,
      b_bool := PySem.W.mg_none_of X G zbool,
      b_enumerate := PySem.W.mg_none_of X G zenumerate,
      b_int := PySem.W.mg_none_of X G zint,
      b_isinstance := PySem.W.mg_none_of X G zisinstance,
      b_len := PySem.W.mg_none_of X G zlen,
      b_list := PySem.W.mg_none_of X G zlist,
      b_range := PySem.W.mg_none_of X G zrange,
      b_repr := PySem.W.mg_none_of X G zrepr,
      b_tuple := PySem.W.mg_none_of X G ztuple,
      x_InvalidTable := ⟨Y0, nf0, i0, ti0, ⟨_, _, _, _, _, _, _, _, _, _, _, _, _, _, l0, ci0⟩⟩,
      x_InvalidLines := ⟨Y1, nf1, i1, ti1, ⟨_, _, _, _, _, _, _, _, _, _, _, _, _, _, l1, ci1⟩⟩,
      x_Refused := ⟨Y2, nf2, i2, ti2, ⟨_, _, _, _, _, _, _, _, _, _, _, _, _, _, l2, ci2⟩⟩,
      x_InvalidSize := ⟨Y3, nf3, i3, ti3, ⟨_, _, _, _, _, _, _, _, _, _, _, _, _, _, l3, ci3⟩⟩,
      exm := ?_ }
    have all : ∀ i, i < 4 → ∃ x, PySem.PErr.Cl K0 mg x (([c0, c1, c2, c3] : List Addr).getD i 0) cB := by
      intro i hi
      have cs : i = 0 ∨ i = 1 ∨ i = 2 ∨ i = 3 := by omega
      rcases cs with rfl | rfl | rfl | rfl
      · exact ⟨_, Y0⟩
      · exact ⟨_, Y1⟩
      · exact ⟨_, Y2⟩
      · exact ⟨_, Y3⟩
    intro i j hi hj
    obtain ⟨x, Yi⟩ := all i hi
    obtain ⟨y, Yj⟩ := all j hj
    have mem : ∀ i, i < 4 → ([c0, c1, c2, c3] : List Addr)[i]? = some (([c0, c1, c2, c3] : List Addr).getD i 0) := fun i hi => by
      rw [List.getD_eq_getElem?_getD, List.getElem?_eq_getElem (by simpa using hi)] <;> rfl
    rw [PySem.PErr.exm_cl Yi Yj (fun z => nd2 (by rw [z]; exact List.mem_of_getElem? (mem j hj)))]
    congr 1
    by_cases hij : i = j
    · subst hij
      rw [decide_eq_true rfl, decide_eq_true rfl]
    · rw [decide_eq_false hij, decide_eq_false (fun z => hij (nd_ix nd1 (mem i hi) (by rw [z]; exact mem j hj)))]
  have F0 := fun_mk (st := s_is_integer) lf0 cf0 kf0
  have b0 := F0.binds (ps := ["value"]) fun _ _ _ _ _ _ us hl => match us, hl with | [_], _ => rfl
  have F1 := fun_mk (st := s_is_number) lf1 cf1 kf1
  have b1 := F1.binds (ps := ["value"]) fun _ _ _ _ _ _ us hl => match us, hl with | [_], _ => rfl
  have F2 := fun_mk (st := s_is_below) lf2 cf2 kf2
  have b2 := F2.binds (ps := ["value", "many"]) fun _ _ _ _ _ _ us hl => match us, hl with | [_, _], _ => rfl
  have F3 := fun_mk (st := s_is_sequence) lf3 cf3 kf3
  have b3 := F3.binds (ps := ["value"]) fun _ _ _ _ _ _ us hl => match us, hl with | [_], _ => rfl
  have F4 := fun_mk (st := s_is_size) lf4 cf4 kf4
  have b4 := F4.binds (ps := ["value"]) fun _ _ _ _ _ _ us hl => match us, hl with | [_], _ => rfl
  have F5 := fun_mk (st := s_need_size) lf5 cf5 kf5
  have b5 := F5.binds (ps := ["value"]) fun _ _ _ _ _ _ us hl => match us, hl with | [_], _ => rfl
  have F6 := fun_mk (st := s_need_table) lf6 cf6 kf6
  have b6 := F6.binds (ps := ["size", "value"]) fun _ _ _ _ _ _ us hl => match us, hl with | [_, _], _ => rfl
  have F7 := fun_mk (st := s_lines_sheet) lf7 cf7 kf7
  have b7 := F7.binds (ps := ["size", "lines"]) fun _ _ _ _ _ _ us hl => match us, hl with | [_, _], _ => rfl
  have F8 := fun_mk (st := s_need_lines) lf8 cf8 kf8
  have b8 := F8.binds (ps := ["size", "lines"]) fun _ _ _ _ _ _ us hl => match us, hl with | [_, _], _ => rfl
  have F9 := fun_mk (st := s_is_line) lf9 cf9 kf9
  have b9 := F9.binds (ps := ["size", "line"]) fun _ _ _ _ _ _ us hl => match us, hl with | [_, _], _ => rfl
  have F10 := fun_mk (st := s_is_place) lf10 cf10 kf10
  have b10 := F10.binds (ps := ["size", "value"]) fun _ _ _ _ _ _ us hl => match us, hl with | [_, _], _ => rfl
  have F11 := fun_mk (st := s_is_thing) lf11 cf11 kf11
  have b11 := F11.binds (ps := ["value"]) fun _ _ _ _ _ _ us hl => match us, hl with | [_], _ => rfl
  have F12 := fun_mk (st := s_told_thing) lf12 cf12 kf12
  have b12 := F12.binds (ps := ["thing"]) fun _ _ _ _ _ _ us hl => match us, hl with | [_], _ => rfl
  have F13 := fun_mk (st := s_met_cells) lf13 cf13 kf13
  have b13 := F13.binds (ps := ["size", "one", "other"]) fun _ _ _ _ _ _ us hl => match us, hl with | [_, _, _], _ => rfl
  have F14 := fun_mk (st := s__law_box) lf14 cf14 kf14
  have b14 := F14.binds (ps := ["script", "k"]) fun _ _ _ _ _ _ us hl => match us, hl with | [_, _], _ => rfl
  have F15 := fun_mk (st := s__law_take) lf15 cf15 kf15
  have b15 := F15.binds (ps := ["box", "many"]) fun _ _ _ _ _ _ us hl => match us, hl with | [_, _], _ => rfl
  have F16 := fun_mk (st := s__law_pick) lf16 cf16 kf16
  have b16 := F16.binds (ps := ["box", "some"]) fun _ _ _ _ _ _ us hl => match us, hl with | [_, _], _ => rfl
  have F17 := fun_mk (st := s__law_thing) lf17 cf17 kf17
  have b17 := F17.binds (ps := ["box"]) fun _ _ _ _ _ _ us hl => match us, hl with | [_], _ => rfl
  have F18 := fun_mk (st := s__law_due) lf18 cf18 kf18
  have b18 := F18.binds (ps := ["size", "lines"]) fun _ _ _ _ _ _ us hl => match us, hl with | [_, _], _ => rfl
  have F19 := fun_mk (st := s__law_told) lf19 cf19 kf19
  have b19 := F19.binds (ps := ["work"]) fun _ _ _ _ _ _ us hl => match us, hl with | [_], _ => rfl
  refine ⟨PySem.W.fnOf "law" "law" (defArgs s_law) (defBody s_law) (defScope s_law) .none kVf20 dcf20 pmf20 anf20 (.ref cL) ctf20, [(cL, Pt)], spQ ⟨K0, [(Pt, ("law.<locals>.<lambda>" : Str))]⟩ 1 (denQ 15 (den_law F_lines_sheet F__law_box F__law_due F__law_take F__law_pick F__law_thing F_need_table F_need_size)), fun p hp => ?_, fun p hp => ?_, fun p hp => ?_, fun s v => .of_eq rfl, fun H a ns h1 h2 h3 h4 => ?_, fun base _ _ TBs => ?_⟩
  · cases List.mem_singleton.mp hp
    exact hTab Pt (List.mem_singleton.mpr rfl)
  · cases List.mem_singleton.mp hp
    exact vP
  · cases List.mem_singleton.mp hp
    exact ⟨_, vsL, fileL, tfL, flagsL, tgL, inFL, textL, ttL, X _ _ lc, rfl, rfl, v11.1, v11.2, v18, v7, v9, v10, vne⟩
  · refine script_sp (K := ⟨K0, [(Pt, ("law.<locals>.<lambda>" : Str))]⟩) (fun p hp => ?_) h4 (math ns h1 h2)
    cases List.mem_singleton.mp hp
    exact ⟨#[], h3 (cL, Pt) (List.mem_singleton.mpr rfl), by first | trivial | (intro z hz; cases hz) | exact .nil | decide, fun pos cv z => by cases z⟩
  have E_is_integer : Dfn l.prog w K0 mg base CX0 1 "is_integer" ["value"] (spQ ⟨K0, [(Pt, ("law.<locals>.<lambda>" : Str))]⟩ 1 F_is_integer) f0 _ := ⟨ok_is_integer F0 T , PySem.W.mg_of X G af0, kf0, b0⟩
  have E_is_sequence : Dfn l.prog w K0 mg base CX0 1 "is_sequence" ["value"] (spQ ⟨K0, [(Pt, ("law.<locals>.<lambda>" : Str))]⟩ 1 F_is_sequence) f3 _ := ⟨ok_is_sequence F3 T , PySem.W.mg_of X G af3, kf3, b3⟩
  have E_met_cells : Dfn l.prog w K0 mg base CX0 1 "met_cells" ["size", "one", "other"] (spQ ⟨K0, [(Pt, ("law.<locals>.<lambda>" : Str))]⟩ 3 F_met_cells) f13 _ := ⟨ok_met_cells F13 T , PySem.W.mg_of X G af13, kf13, b13⟩
  have E__law_box : Dfn l.prog w K0 mg base CX0 1 "_law_box" ["script", "k"] (spN ⟨K0, [(Pt, ("law.<locals>.<lambda>" : Str))]⟩ 2 F__law_box) f14 _ := ⟨ok__law_box F14 T , PySem.W.mg_of X G af14, kf14, b14⟩
  have E__law_take : Dfn l.prog w K0 mg base CX0 1 "_law_take" ["box", "many"] (spB ⟨K0, [(Pt, ("law.<locals>.<lambda>" : Str))]⟩ 1 F__law_take) f15 _ := ⟨ok__law_take F15 T , PySem.W.mg_of X G af15, kf15, b15⟩
  have E__law_due : Dfn l.prog w K0 mg base CX0 1 "_law_due" ["size", "lines"] (spQ ⟨K0, [(Pt, ("law.<locals>.<lambda>" : Str))]⟩ 2 F__law_due) f18 _ := ⟨ok__law_due F18 T , PySem.W.mg_of X G af18, kf18, b18⟩
  have E_is_number : Dfn l.prog w K0 mg base CX0 2 "is_number" ["value"] (spQ ⟨K0, [(Pt, ("law.<locals>.<lambda>" : Str))]⟩ 1 F_is_number) f1 _ := ⟨ok_is_number F1 T E_is_integer, PySem.W.mg_of X G af1, kf1, b1⟩
  have E_is_below : Dfn l.prog w K0 mg base CX0 2 "is_below" ["value", "many"] (spQ ⟨K0, [(Pt, ("law.<locals>.<lambda>" : Str))]⟩ 2 F_is_below) f2 _ := ⟨ok_is_below F2 T E_is_integer, PySem.W.mg_of X G af2, kf2, b2⟩
  have E_is_size : Dfn l.prog w K0 mg base CX0 2 "is_size" ["value"] (spQ ⟨K0, [(Pt, ("law.<locals>.<lambda>" : Str))]⟩ 1 F_is_size) f4 _ := ⟨ok_is_size F4 T E_is_integer, PySem.W.mg_of X G af4, kf4, b4⟩
  have E_told_thing : Dfn l.prog w K0 mg base CX0 2 "told_thing" ["thing"] (spQ ⟨K0, [(Pt, ("law.<locals>.<lambda>" : Str))]⟩ 1 F_told_thing) f12 _ := ⟨ok_told_thing F12 T E_is_sequence, PySem.W.mg_of X G af12, kf12, b12⟩
  have E__law_pick : Dfn l.prog w K0 mg base CX0 2 "_law_pick" ["box", "some"] (spB ⟨K0, [(Pt, ("law.<locals>.<lambda>" : Str))]⟩ 1 F__law_pick) f16 _ := ⟨ok__law_pick F16 T E__law_take, PySem.W.mg_of X G af16, kf16, b16⟩
  have E_is_place : Dfn l.prog w K0 mg base CX0 3 "is_place" ["size", "value"] (spQ ⟨K0, [(Pt, ("law.<locals>.<lambda>" : Str))]⟩ 2 F_is_place) f10 _ := ⟨ok_is_place F10 T E_is_below, PySem.W.mg_of X G af10, kf10, b10⟩
  have E_is_thing : Dfn l.prog w K0 mg base CX0 3 "is_thing" ["value"] (spQ ⟨K0, [(Pt, ("law.<locals>.<lambda>" : Str))]⟩ 1 F_is_thing) f11 _ := ⟨ok_is_thing F11 T E_is_number E_is_sequence, PySem.W.mg_of X G af11, kf11, b11⟩
  have E__law_thing : Dfn l.prog w K0 mg base CX0 3 "_law_thing" ["box"] (spB ⟨K0, [(Pt, ("law.<locals>.<lambda>" : Str))]⟩ 0 F__law_thing) f17 _ := ⟨ok__law_thing F17 T E__law_pick, PySem.W.mg_of X G af17, kf17, b17⟩
  have E_need_size : Dfn l.prog w K0 mg base (L2.CX l.prog w) 4 "need_size" ["value"] (spE ⟨K0, [(Pt, ("law.<locals>.<lambda>" : Str))]⟩ (ecOf (fun i => ([c0, c1, c2, c3] : List Addr).getD i 0) 3) 1 F_need_size) f5 _ := ⟨ok_need_size F5 T E_is_size, PySem.W.mg_of X G af5, kf5, b5⟩
  have E_is_line : Dfn l.prog w K0 mg base CX0 4 "is_line" ["size", "line"] (spQ ⟨K0, [(Pt, ("law.<locals>.<lambda>" : Str))]⟩ 2 F_is_line) f9 _ := ⟨ok_is_line F9 T E_is_place E_is_thing E_is_sequence, PySem.W.mg_of X G af9, kf9, b9⟩
  have E_need_table : Dfn l.prog w K0 mg base (L2.CX l.prog w) 6 "need_table" ["size", "value"] (spE ⟨K0, [(Pt, ("law.<locals>.<lambda>" : Str))]⟩ (ecOf (fun i => ([c0, c1, c2, c3] : List Addr).getD i 0) 3) 2 F_need_table) f6 _ := ⟨ok_need_table F6 T E_need_size E_is_sequence E_is_below, PySem.W.mg_of X G af6, kf6, b6⟩
  have E_need_lines : Dfn l.prog w K0 mg base (L2.CX l.prog w) 6 "need_lines" ["size", "lines"] (spE ⟨K0, [(Pt, ("law.<locals>.<lambda>" : Str))]⟩ (ecOf (fun i => ([c0, c1, c2, c3] : List Addr).getD i 0) 3) 2 F_need_lines) f8 _ := ⟨ok_need_lines F8 T E_is_sequence E_is_line, PySem.W.mg_of X G af8, kf8, b8⟩
  have E_lines_sheet : Dfn l.prog w K0 mg base (L2.CX l.prog w) 8 "lines_sheet" ["size", "lines"] (spE ⟨K0, [(Pt, ("law.<locals>.<lambda>" : Str))]⟩ (ecOf (fun i => ([c0, c1, c2, c3] : List Addr).getD i 0) 3) 2 F_lines_sheet) f7 _ := ⟨ok_lines_sheet F7 T E_need_size E_need_lines E_met_cells E_told_thing, PySem.W.mg_of X G af7, kf7, b7⟩
  exact ok_law lf20 cf20 rfl (TBs (cL, Pt) (List.mem_singleton.mpr rfl)) T E_lines_sheet E__law_box E__law_due E__law_take E__law_pick E__law_thing E_need_table E_need_size (F7.konly (ks := ["lines", "size"]) fun _ _ _ _ _ _ ws hl => match ws, hl with | [_, _], _ => rfl) (F6.konly (ks := ["value", "size"]) fun _ _ _ _ _ _ ws hl => match ws, hl with | [_, _], _ => rfl) (F5.konly (ks := ["value"]) fun _ _ _ _ _ _ ws hl => match ws, hl with | [_], _ => rfl) F19 (PySem.W.mg_of X G af19) b19
end K01

open PySem PySem.W PyProof.Rows in
set_option maxRecDepth 100000 in
set_option maxHeartbeats 0 in
theorem PySem.Challenge.cw_leastpromise_k01_whole_sheets_told_by_li_holds : PySem.Challenge.rw_leastpromise_k01_whole_sheets_told_by_li.Holds := by
  w_on; o_law; k_head; (case hw => w_witness2)
  k_fill
  refine L2.walk_ofG (l := PySem.Challenge.rw_leastpromise_k01_whole_sheets_told_by_li) (n := 63) (k := 11) (x := "script") (CX := fun _ => L2.CX0) rfl (by decide) rfl ⟨rfl, by decide, by decide⟩ (fun w h Y => PySem.W.km_in_of Y) ?F fun _ _ _ _ _ z => z
  case F =>
    intro w mg fa h Y KX G hmg
    have hTab := PySem.W.km_tabs_of Y
    refine' K01.all_mk KX G hmg hTab ?aB ?eB ?iB ?tB ?a0 ?x0 ?s0 ?ga0 ?gg0 ?k0 ?e0 ?t0 ?h0 ?nf0 ?i0 ?ti0 ?l0 ?ci0 ?a1 ?x1 ?s1 ?ga1 ?gg1 ?k1 ?e1 ?t1 ?h1 ?nf1 ?i1 ?ti1 ?l1 ?ci1 ?a2 ?x2 ?s2 ?ga2 ?gg2 ?k2 ?e2 ?t2 ?h2 ?nf2 ?i2 ?ti2 ?l2 ?ci2 ?a3 ?x3 ?s3 ?ga3 ?gg3 ?k3 ?e3 ?t3 ?h3 ?nf3 ?i3 ?ti3 ?l3 ?ci3 ?af0 ?lf0 ?cf0 ?kf0 ?af1 ?lf1 ?cf1 ?kf1 ?af2 ?lf2 ?cf2 ?kf2 ?af3 ?lf3 ?cf3 ?kf3 ?af4 ?lf4 ?cf4 ?kf4 ?af5 ?lf5 ?cf5 ?kf5 ?af6 ?lf6 ?cf6 ?kf6 ?af7 ?lf7 ?cf7 ?kf7 ?af8 ?lf8 ?cf8 ?kf8 ?af9 ?lf9 ?cf9 ?kf9 ?af10 ?lf10 ?cf10 ?kf10 ?af11 ?lf11 ?cf11 ?kf11 ?af12 ?lf12 ?cf12 ?kf12 ?af13 ?lf13 ?cf13 ?kf13 ?af14 ?lf14 ?cf14 ?kf14 ?af15 ?lf15 ?cf15 ?kf15 ?af16 ?lf16 ?cf16 ?kf16 ?af17 ?lf17 ?cf17 ?kf17 ?af18 ?lf18 ?cf18 ?kf18 ?af19 ?lf19 ?cf19 ?kf19 ?af20 ?lf20 ?cf20 ?kf20 ?zabs ?zall ?zbool ?zenumerate ?zint ?zisinstance ?zlen ?zlist ?zrange ?zrepr ?ztuple ?nd ?lc ?v11 ?v18 ?v7 ?v9 ?v10 ?vne ?vP
    (case aB => k_is)
    (case eB => k_is)
    (case iB => k_is)
    (case tB => k_is)
    (case a0 => k_is)
    (case x0 => k_is)
    (case s0 => k_is)
    (case ga0 => k_is)
    (case gg0 => k_is)
    (case k0 => k_is)
    (case e0 => k_is)
    (case t0 => k_is)
    (case h0 => k_is)
    (case nf0 => k_is)
    (case i0 => k_is)
    (case ti0 => k_is)
    (case l0 => k_is)
    (case ci0 => k_is)
    (case a1 => k_is)
    (case x1 => k_is)
    (case s1 => k_is)
    (case ga1 => k_is)
    (case gg1 => k_is)
    (case k1 => k_is)
    (case e1 => k_is)
    (case t1 => k_is)
    (case h1 => k_is)
    (case nf1 => k_is)
    (case i1 => k_is)
    (case ti1 => k_is)
    (case l1 => k_is)
    (case ci1 => k_is)
    (case a2 => k_is)
    (case x2 => k_is)
    (case s2 => k_is)
    (case ga2 => k_is)
    (case gg2 => k_is)
    (case k2 => k_is)
    (case e2 => k_is)
    (case t2 => k_is)
    (case h2 => k_is)
    (case nf2 => k_is)
    (case i2 => k_is)
    (case ti2 => k_is)
    (case l2 => k_is)
    (case ci2 => k_is)
    (case a3 => k_is)
    (case x3 => k_is)
    (case s3 => k_is)
    (case ga3 => k_is)
    (case gg3 => k_is)
    (case k3 => k_is)
    (case e3 => k_is)
    (case t3 => k_is)
    (case h3 => k_is)
    (case nf3 => k_is)
    (case i3 => k_is)
    (case ti3 => k_is)
    (case l3 => k_is)
    (case ci3 => k_is)
    (case af0 => k_is)
    (case lf0 => k_is)
    (case cf0 => k_is)
    (case kf0 => k_is)
    (case af1 => k_is)
    (case lf1 => k_is)
    (case cf1 => k_is)
    (case kf1 => k_is)
    (case af2 => k_is)
    (case lf2 => k_is)
    (case cf2 => k_is)
    (case kf2 => k_is)
    (case af3 => k_is)
    (case lf3 => k_is)
    (case cf3 => k_is)
    (case kf3 => k_is)
    (case af4 => k_is)
    (case lf4 => k_is)
    (case cf4 => k_is)
    (case kf4 => k_is)
    (case af5 => k_is)
    (case lf5 => k_is)
    (case cf5 => k_is)
    (case kf5 => k_is)
    (case af6 => k_is)
    (case lf6 => k_is)
    (case cf6 => k_is)
    (case kf6 => k_is)
    (case af7 => k_is)
    (case lf7 => k_is)
    (case cf7 => k_is)
    (case kf7 => k_is)
    (case af8 => k_is)
    (case lf8 => k_is)
    (case cf8 => k_is)
    (case kf8 => k_is)
    (case af9 => k_is)
    (case lf9 => k_is)
    (case cf9 => k_is)
    (case kf9 => k_is)
    (case af10 => k_is)
    (case lf10 => k_is)
    (case cf10 => k_is)
    (case kf10 => k_is)
    (case af11 => k_is)
    (case lf11 => k_is)
    (case cf11 => k_is)
    (case kf11 => k_is)
    (case af12 => k_is)
    (case lf12 => k_is)
    (case cf12 => k_is)
    (case kf12 => k_is)
    (case af13 => k_is)
    (case lf13 => k_is)
    (case cf13 => k_is)
    (case kf13 => k_is)
    (case af14 => k_is)
    (case lf14 => k_is)
    (case cf14 => k_is)
    (case kf14 => k_is)
    (case af15 => k_is)
    (case lf15 => k_is)
    (case cf15 => k_is)
    (case kf15 => k_is)
    (case af16 => k_is)
    (case lf16 => k_is)
    (case cf16 => k_is)
    (case kf16 => k_is)
    (case af17 => k_is)
    (case lf17 => k_is)
    (case cf17 => k_is)
    (case kf17 => k_is)
    (case af18 => k_is)
    (case lf18 => k_is)
    (case cf18 => k_is)
    (case kf18 => k_is)
    (case af19 => k_is)
    (case lf19 => k_is)
    (case cf19 => k_is)
    (case kf19 => k_is)
    (case af20 => k_is)
    (case lf20 => k_is)
    (case cf20 => k_is)
    (case kf20 => k_is)
    (case zabs => k_is)
    (case zall => k_is)
    (case zbool => k_is)
    (case zenumerate => k_is)
    (case zint => k_is)
    (case zisinstance => k_is)
    (case zlen => k_is)
    (case zlist => k_is)
    (case zrange => k_is)
    (case zrepr => k_is)
    (case ztuple => k_is)
    (case nd => first | decide | exact ⟨by decide, by decide⟩)
    (case lc => k_is)
    (case v11 => exact ⟨rfl, rfl⟩)
    (case v18 => exact rfl)
    (case v7 => exact rfl)
    (case v9 => exact rfl)
    (case v10 => exact rfl)
    (case vne => decide)
    (case vP => first | rfl | k_is | decide)
